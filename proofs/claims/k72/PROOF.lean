import PyProof.Rows.All
import Wide.All
import OpenK.AllK
import Wide.FinOn
import Lean
import PyProof.EqAt
import PyProof.EqKinds
import PyProof.TupleCall
import PySem.Challenge.RW_boardglue_k72_too_many_squares
abbrev aa:=@List.length_map
abbrev ae:=@List.getElem?_eq_getElem
abbrev af:=@List.getElem?_eq_some_iff
abbrev ag:=@Nat.le_refl
abbrev ah:=@List.length_append
abbrev ai:=@List.map_append
abbrev aj:=@List.getElem?_map
abbrev ak:=@List.mem_singleton
abbrev am:=@Int.mul_assoc
abbrev ao:=@Option.some.inj
abbrev aq:=@Int.mul_comm
abbrev ar:=@List.take_length
abbrev au:=@Option.map_eq_some_iff
abbrev av:=@List.mem_of_getElem?
abbrev ax:=@List.length_cons
abbrev ay:=@Int.mul_ne_zero
abbrev az:=@List.mem_cons_of_mem
abbrev aB:=@List.mem_append
abbrev aE:=@List.size_toArray
abbrev aG:=@Int.eq_of_mul_eq_mul_right
abbrev aH:=@List.append_assoc
abbrev aI:=@Nat.lt_of_lt_of_le
abbrev aJ:=@Bool.false_ne_true
abbrev aM:=@PySem.F.plainAttrs_list
abbrev aN:=@List.getElem?_append_right
abbrev aP:=@Nat.ne_of_lt
abbrev aQ:=@PySem.F.slot_list_append
abbrev aR:=@PySem.F.type_list_append
abbrev aT:=@List.getElem?_append_left
abbrev aU:=@List.mem_cons
abbrev aV:=@List.mem_cons_self
abbrev aW:=@List.map_cons
abbrev aX:=@Int.dvd_trans
abbrev aY:=@List.length_nil
abbrev aZ:=@List.length_take
abbrev a7:=@List.mem_append_right
abbrev a8:=@Nat.lt_of_le_of_lt
abbrev a9:=@Int.mul_pos
abbrev bf:=@Int.mul_left_comm
abbrev bg:=@List.take_succ
abbrev br:=@PySem.boot_len
abbrev bA:=@Nat.le_of_lt
abbrev bB:=@Int.gcd_eq_natAbs_gcd_natAbs
abbrev bC:=@Int.gcd_dvd_right
abbrev bF:=@Int.gcd_dvd_left
abbrev bG:=@List.append_nil
abbrev bH:=@List.mem_map_of_mem
abbrev bI:=@Int.mul_nonpos_of_nonneg_of_nonpos
abbrev bJ:=@Nat.zero_le
abbrev bL:=@Int.natAbs_dvd_natAbs
abbrev bM:=@List.length_pos_iff
abbrev bO:=@List.mem_map
abbrev bP:=@List.mem_append_left
abbrev bQ:=@List.length_range
abbrev bR:=@Nat.mod_lt
abbrev bS:=@Int.zero_mul
abbrev bT:=@Int.ediv_mul_cancel
abbrev bU:=@Int.dvd_mul_left
abbrev bV:=@List.mem_range
abbrev bW:=@Nat.le_trans
abbrev bZ:=@Ne.symm
abbrev b7:=@PyProof.Rows.callWith_type1
abbrev b8:=@PySem.W.kia_one
abbrev b9:=@List.replicate_succ
abbrev ce:=@Int.natAbs_mul
abbrev cf:=@Int.add_zero
abbrev cg:=@List.pairwise_lt_range
abbrev ck:=@Nat.le_add_right
abbrev cq:=@List.lookup_cons
abbrev cr:=@List.take_append_of_le_length
abbrev cz:=@PySem.W.Fast.te14364793385576792824
abbrev cB:=@Rat.divInt_eq_divInt_iff
abbrev cC:=@Bool.eq_iff_iff
abbrev cG:=@Int.natAbs_natCast
abbrev cH:=@Int.neg_mul
abbrev cI:=@Int.gcd_pos_of_ne_zero_left
abbrev cJ:=@List.mem_of_mem_take
abbrev cK:=@Bool.and_eq_true
abbrev cL:=@List.map_nil
abbrev cM:=@List.getElem_mem
abbrev cN:=@List.take_of_length_le
abbrev cP:=@Int.emod_nonneg
abbrev cQ:=@Int.mul_zero
abbrev cR:=@Int.neg_mul_neg
abbrev cS:=@Int.mul_fdiv_cancel_left
abbrev cT:=@Int.mul_ediv_cancel_left
abbrev cU:=@List.length_dropLast
abbrev cV:=@Int.gcd_comm
abbrev cW:=@List.mem_range'_1
abbrev cX:=@PySem.mem_of_lookup
abbrev cY:=@Nat.le_mul_of_pos_left
abbrev cZ:=@Int.mul_nonpos_of_nonpos_of_nonneg
abbrev c9:=@List.getD_eq_getElem?_getD
abbrev db:=@List.length_replicate
abbrev dc:=@Int.emod_lt_of_pos
abbrev de:=@Int.zero_sub
abbrev df:=@Int.mul_one
abbrev dg:=@Nat.eq_of_mul_eq_mul_left
abbrev dh:=@Int.mul_neg_of_pos_of_neg
abbrev dj:=@List.nodup_cons
abbrev dk:=@Option.isSome_iff_exists
abbrev dm:=@PyProof.Rows.slot_tuple_getitem
abbrev dn:=@List.foldl_append
abbrev dq:=@List.take_add_one
abbrev dr:=@Int.mul_eq_zero
abbrev du:=@Nat.lt_irrefl
abbrev dw:=@List.getElem?_range
abbrev dy:=@List.filter_cons
abbrev dz:=@List.find?_cons
abbrev dA:=@Option.map_some
abbrev dB:=@Int.dvd_refl
abbrev dC:=@Int.zero_add
abbrev dD:=@List.idxOf_lt_length_of_mem
abbrev dE:=@List.flatten_cons
abbrev dF:=@PySem.W.mg_of
abbrev dG:=@Int.fdiv_eq_ediv_of_nonneg
abbrev dH:=@List.getElem?_of_mem
abbrev dI:=@Int.mul_pos_of_neg_of_neg
abbrev dJ:=@Int.eq_of_mul_eq_mul_left
abbrev dL:=@List.all_eq_true
abbrev dM:=@List.getElem_map
abbrev dN:=@PySem.W.hideAll_get
abbrev dO:=@List.filterMap_cons
abbrev dP:=@Array.length_toList
abbrev dQ:=@Nat.le_succ
abbrev dR:=@Int.mul_sub
abbrev dS:=@List.getElem?_take_of_lt
abbrev dU:=@Nat.sub_self
abbrev dW:=@Int.mul_nonneg_of_nonpos_of_nonpos
abbrev d4:=@PySem.W.callWith_K
abbrev d5:=@List.any_cons
abbrev d7:=@Int.dvd_coe_gcd
abbrev d8:=@Int.natCast_mul
abbrev d9:=@Int.ofNat.inj
abbrev em:=@Int.add_sub_cancel
abbrev eB:=@Nat.add_sub_cancel_left
abbrev eC:=@List.length_range'
abbrev eE:=@Nat.le_mul_of_pos_right
abbrev eI:=@List.range_succ
abbrev eJ:=@List.map_replicate
abbrev eK:=@List.getElem?_set_self
abbrev eM:=@List.getElem?_inj
abbrev eP:=@List.range_eq_nil
abbrev eQ:=@List.take_append_drop
abbrev eR:=@List.getElem?_eq_none
abbrev eU:=@List.Nodup.length_le_of_subset
abbrev eV:=@Nat.add_zero
abbrev eW:=@Nat.lt_succ_self
abbrev eZ:=@Int.mul_le_mul_of_nonneg_left
abbrev fe:=@Int.lt_of_not_ge
abbrev fh:=@Int.gcd_mul_left
abbrev fi:=@List.getElem?_set_ne
abbrev fj:=@List.dropLast_concat_getLast
abbrev fk:=@Int.not_lt
abbrev fm:=@Sum.inl.inj
abbrev fq:=@List.mem_filter
abbrev fw:=@PySem.W.plainGet_of
abbrev fA:=@Int.gcd_sub_mul_right_right
abbrev fC:=@Int.fdiv_mul_cancel
abbrev fD:=@Nat.mul_one
abbrev fE:=@Nat.div_eq_iff_eq_mul_right
abbrev fF:=@PySem.F.attrBase_ValueError
abbrev fG:=@Rat.zero_divInt
abbrev fH:=@Nat.two_pow_pos
abbrev fI:=@List.getElem_range'
abbrev fJ:=@List.perm_ext_iff_of_nodup
abbrev fK:=@List.mem_filterMap
abbrev fM:=@Nat.lt_trans
abbrev fN:=@Int.add_comm
abbrev fR:=@Rat.num_divInt_den
abbrev fS:=@Rat.sub_eq_add_neg
abbrev fU:=@Int.mul_le_mul
abbrev fV:=@Int.mul_nonneg
abbrev fW:=@Int.lt_of_mul_lt_mul_left
abbrev f8:=@Int.gcd_add_mul_left_left
abbrev f9:=@Decidable.byContradiction
abbrev gc:=@Classical.byContradiction
abbrev gf:=@List.pairwise_iff_getElem
abbrev gi:=@PySem.F.args_tuple_add_2
abbrev gj:=@PyProof.noPylong_of_log2
abbrev gq:=@Nat.gcd_dvd_right
abbrev gs:=@Nat.lt_trichotomy
abbrev gu:=@List.Perm.eq_of_pairwise
abbrev gv:=@List.pairwise_map
abbrev gx:=@List.nodup_append
abbrev gy:=@PySem.F.slot_list_extend
abbrev gz:=@PySem.F.type_list_extend
abbrev gA:=@List.getElem?_replicate
abbrev gB:=@PySem.F.entry_tuple_add
abbrev gC:=@Int.mul_neg
abbrev gD:=@Rat.add_assoc
abbrev gE:=@Nat.add_assoc
abbrev gF:=@List.pairwise_lt_range'
abbrev gG:=@List.sum_cons
abbrev gH:=@List.pairwise_singleton
abbrev gI:=@Nat.one_mul
abbrev gJ:=@Int.neg_gcd
abbrev gL:=@Nat.gcd_dvd_left
abbrev gO:=@List.nodup_range
abbrev gP:=@List.take_append
abbrev gQ:=@List.ext_getElem
abbrev gR:=@List.not_mem_nil
abbrev gS:=@PySem.W.cellsFrom_some
abbrev gU:=@PySem.F.slot_tuple_add
abbrev gW:=@Nat.ne_of_gt
abbrev gY:=@PySem.W.methodCall_KW
abbrev gZ:=@List.of_mem_zip
abbrev g4:=@PySem.F.slot_dict_pop
abbrev g5:=@Int.lt_or_le
abbrev g6:=@Bool.beq_eq_decide_eq
abbrev g7:=@Rat.add_comm
abbrev g8:=@Rat.zero_add
abbrev hJ:=@Nat.sub_zero
abbrev hU:=@Int.sub_mul
abbrev hV:=@Nat.log2_lt
abbrev hW:=@Nat.mul_pos
abbrev hZ:=@Int.neg_add
abbrev h7:=@Int.dvd_sub
abbrev h8:=@Nat.div_pos
abbrev ia:=@Nat.add_mul
abbrev ib:=@Nat.le_of_dvd
abbrev ie:=@Int.le_of_dvd
abbrev ig:=@Nat.mul_assoc
abbrev ii:=@Int.emod_def
abbrev ij:=@Nat.mul_zero
abbrev ik:=@List.map_map
abbrev il:=@decide_eq_false
abbrev im:=@if_pos
abbrev io:=@if_neg
abbrev ip:=@PySem.wpAny_mono
abbrev iq:=@PySem.wpAny_truthy_bool
abbrev ir:=@PySem.wpAny_execs_nil
abbrev iu:=@PyProof.Rows.assignInOrder_cons
abbrev iw:=@PySem.wpAny_bind
abbrev iA:=@PySem.wpAny_pure
abbrev iB:=@PySem.wpAny_newObj_type
abbrev iC:=@PySem.wpAny_passesOwn
abbrev iD:=@PySem.wpAny_pyIter_list
abbrev iE:=@PySem.codeAny_mono
abbrev iF:=@PySem.wpAny_Call_Name_kw
abbrev iG:=@PySem.wpAny_holding
abbrev iH:=@PySem.wpAny_typeOf
abbrev iI:=@PySem.call_meets
abbrev iJ:=@decide_eq_true
abbrev iK:=@PySem.tupleKind_room_in1
abbrev iL:=PySem.W.Frag
set_option maxHeartbeats 4000000
set_option Elab.async false
set_option linter.all false
set_option maxRecDepth 100000
namespace L2
local macro_rules | `(!1)=>`(by simp)
open PySem PySem.Spec PyProof.Rows
abbrev Key:=Sum Int Str
def Cw:Key->Value->Bool
  | .inl k,v=>Value.isInt k v
  | .inr x,v=>Value.isStrOf x v
def keyH(w:World):Key->Int
  | .inl k=>hashInt k
  | .inr x=>hashStr w x
theorem keyIs_shape:∀ {k:Key} {v:Value},Cw k v=true->(∃ i t,k=Sum.inl i/\v=Value.int i t)\/(∃ x t,k=Sum.inr x/\v=Value.str x t)
  | .inl i,v,h=>by
    obtain ⟨t,e⟩:=Value.isInt_shape (k:=i) (v:=v) h;exact .inl ⟨i,t,rfl,e⟩
  | .inr x,v,h=>by
    obtain ⟨t,e⟩:=Value.isStrOf_shape (x:=x) (v:=v) h;exact .inr ⟨x,t,rfl,e⟩
theorem D7(i:Int)(t:Tok):Cw (.inl i) (.int i t)=true:=by simp [Cw,Value.isInt]
theorem DY(x:Str)(t:Tok):Cw (.inr x) (.str x t)=true:=by simp [Cw,Value.isStrOf]
theorem LW(a b:Int):decide ((Sum.inl a:Key)=Sum.inl b)=(a==b):=by
  by_cases e:a=b
  . subst e; simp
  . have h:¬ (Sum.inl a:Key)=Sum.inl b:=λq=>e (fm q);rw [il h];exact (beq_eq_false_iff_ne.mpr e).symm
theorem JI(a b:Str):decide ((Sum.inr a:Key)=Sum.inr b)=decide (a=b):=by
  by_cases e:a=b
  . subst e; simp
  . have h:¬ (Sum.inr a:Key)=Sum.inr b:=λq=>e (Sum.inr.inj q);rw [il h,il e]
theorem J2(a:Int)(b:Str):decide ((Sum.inl a:Key)=Sum.inr b)=false:=il (λq=>nomatch q)
theorem KB(a:Str)(b:Int):decide ((Sum.inr a:Key)=Sum.inl b)=false:=il (λq=>nomatch q)
def zR(prog:Program)(w:World):PySem.KeyKind prog w Key where
  is:=Cw
  hash:=keyH w
  inj:=λv a b ha hb=>by
    rcases keyIs_shape ha with ⟨i,t,rfl,rfl⟩|⟨x,t,rfl,rfl⟩
    . rcases keyIs_shape hb with ⟨j,u,rfl,e⟩ | ⟨y,u,rfl,e⟩
      . injection e with e1 _; rw [e1]
      . exact nomatch e
    . rcases keyIs_shape hb with ⟨j,u,rfl,e⟩ | ⟨y,u,rfl,e⟩
      . exact nomatch e
      . injection e with e1 _; rw [e1]
  byValue:=λk v h=>by
    rcases keyIs_shape h with ⟨i,t,rfl,rfl⟩|⟨x,t,rfl,rfl⟩ <;> rfl
  pyHash:=λhv h=>by
    rcases keyIs_shape hv with ⟨i,t,rfl,rfl⟩|⟨x,t,rfl,rfl⟩
    . exact wpAny_pyHash_int h
    . exact wpAny_pyHash_str h
  eqBool:=λhu hv h=>by
    rcases keyIs_shape hu with ⟨i,t,rfl,rfl⟩|⟨x,t,rfl,rfl⟩
    . rcases keyIs_shape hv with ⟨j,u,rfl,rfl⟩ | ⟨y,u,rfl,rfl⟩
      . rw [LW] at h; exact wpAny_eqBool_int h
      . rw [J2] at h; exact SeqAt.EqAt.int_str i t y u _ _ _ _ h
    . rcases keyIs_shape hv with ⟨j,u,rfl,rfl⟩ | ⟨y,u,rfl,rfl⟩
      . rw [KB] at h; exact SeqAt.EqAt.str_int x t j u _ _ _ _ h
      . rw [JI] at h; exact wpAny_eqBool_str h
  «strs»:=λk x t v h=>by
    rcases keyIs_shape h with ⟨i,u,rfl,e⟩|⟨y,u,rfl,e⟩
    . exact nomatch e
    . injection e with e1 _;subst e1;cases v <;> rfl
theorem Aq(prog:Program)(w:World)(i:Int)(t:Tok):(zR prog w).is (.inl i) (.int i t)=true:=D7 i t
theorem Bc(prog:Program)(w:World)(x:Str)(t:Tok):(zR prog w).is (.inr x) (.str x t)=true:=DY x t
inductive V where
  | non | bl (b:Bool) | int (i:Int) | str (x:Str) | byt (b:Array UInt8) | flt (b:UInt64) | ref (a:Addr) | ty (n:String)
  deriving DecidableEq
def RelV:V->Value->Prop
  | .non,u=>u=Value.none
  | .bl b,u=>u=Value.bool b
  | .int i,u=>∃ t,u=Value.int i t
  | .str x,u=>∃ t,u=Value.str x t
  | .byt b,u=>∃ t,u=Value.bytes b t
  | .flt b,u=>∃ t,u=Value.float b t
  | .ref a,u=>u=Value.ref a
  | .ty n,u=>u=Value.type n
abbrev Vals:List V->List Value->Prop:=Paired RelV
theorem Vals.length{xs:List V}{us:List Value}(r:Vals xs us):xs.length=us.length:=Paired.length r
theorem Vals.get:∀ {xs:List V} {us:List Value} {i:Nat} {x:V},Vals xs us->xs[i]?=some x->∃ u,us[i]?=some u/\RelV x u
  | _,_,_,_,.nil,e=>by simp at e
  | _,_,0,_,.cons r _,e=>by simp at e; subst e; exact ⟨_,rfl,r⟩
  | _,_,i+1,x,.cons _ t,e=>by
    obtain ⟨u,h1,h2⟩:=Vals.get (i:=i) (x:=x) t (by simpa using e);exact ⟨u,by simpa using h1,h2⟩
theorem Vals.append:∀ {xs ys:List V} {us ws:List Value},Vals xs us->Vals ys ws->Vals (xs++ys) (us++ws)
  | _,_,_,_,.nil,s=>s
  | _,_,_,_,.cons r t,s=>.cons r (Vals.append t s)
theorem Vals.take:∀ {xs:List V} {us:List Value} (n:Nat),Vals xs us->Vals (xs.take n) (us.take n)
  | _,_,0,_=>.nil
  | _,_,_+1,.nil=>.nil
  | _,_,n+1,.cons r t=>.cons r (Vals.take n t)
theorem Vals.drop:∀ {xs:List V} {us:List Value} (n:Nat),Vals xs us->Vals (xs.drop n) (us.drop n)
  | _,_,0,r=>r
  | _,_,_+1,.nil=>.nil
  | _,_,n+1,.cons _ t=>Vals.drop n t
def RelO:Option V->Option Value->Prop
  | some v,some u=>RelV v u
  | none,none=>True
  | _,_=>False
def KV{κ:Type}:List (κ×V)->List (κ×Value)->Prop:=Paired λ(p:κ×V) (q:κ×Value)=>p.1=q.1/\RelV p.2 q.2
def kV:Key->V
  | .inl i=>.int i
  | .inr x=>.str x
inductive HO where
  | lst (xs:List V)
  | tup (xs:List V)
  | dK (kvs:List (Key×V)) | dT (kvs:List (List Key×V))
  | set (S:Int->Bool) (n:Nat)
  | ins (C dx:Addr) (fs:List (Str×V))
  | own (x:Addr)
  | xd (fs:List (Str×V))
  | met (f x:Addr)
  | rng (lo hi:Int)
  | frz (o:Obj) (u:HO)
  | tbl (ps:Array Value)
  | ext (φ:Heap->Prop)
abbrev Hp:=Addr->Option HO
def upd(H:Hp)(a:Addr)(o:HO):Hp:=λb=>if b=a then some o else H b
theorem zk{H:Hp}{a:Addr}{o:HO}:upd H a o a=some o:=by unfold upd; rw [im rfl]
theorem zm{H:Hp}{a b:Addr}{o:HO}(h:b≠a):upd H a o b=H b:=by unfold upd; rw [io h]
theorem zW{H:Hp}{a b:Addr}{o u:HO}(h:H a=some o)(h':H b=some u)(d:o≠u):a≠b:=by
  intro e; subst e; rw [h] at h'; exact d (ao h')
theorem zc{H:Hp}{a b:Addr}{o:HO}(h:H a=some o)(h':H b=none):a≠b:=by
  intro e; subst e; rw [h] at h'; cases h'
section
variable (P:Program)(w:World)
def ObjOk(H:Hp)(h:Heap)(a:Addr):HO->Prop
  | .lst xs=>xs.length<=sizeLine/\∃ (its:List Value) (n:Nat),Vals xs its/\h.get? a=some { cls:=.type "list",data:=.seq its.toArray n }
  | .tup xs=>xs.length<=sizeLine/\∃ its:List Value,Vals xs its/\IsTup h a its.toArray
  | .dK kvs=>kvs.length<=sizeLine/\(a==sysModules)=false/\∃ vs,KV kvs vs/\h.DictOf (zR P w) a vs
  | .dT kvs=>kvs.length<=sizeLine/\(a==sysModules)=false/\∃ xs:List (List Key×Addr×Value),
      Paired (λ(p:List Key×V) (q:List Key×Addr×Value)=>p.1=q.1/\H q.2.1=some (.tup (p.1.map kV))/\RelV p.2 q.2.2) kvs xs /\
      ∃ o es ep,h.get? a=some o/\o.ExactDict/\o.data=.dict es ep/\es.toList=xs.map (entryOfKey (tupleKind (zR P w)))/\(xs.map (·.1)).Nodup
  | .set S n=>h.SetOf (intKind P w) a S n
  | .ins C dx fs=>H dx=some (.own a)/\fs.length<=1000/\dx≠a/\h.get? a=some (W.instObj C dx) /\
      ∃ mA,h.Ns1 dx mA/\(∀ f,RelO (fs.lookup f) (mA f))/\PySem.Within mA (fs.map (·.1))
  | .own _=>∃ o,h.get? a=some o
  | .xd fs=>∃ mA,h.Ns1 a mA/\∀ f,RelO (fs.lookup f) (mA f)
  | .rng lo hi=>∃ t u v,h.get? a=some { cls:=.type "range",data:=.fields #[.int lo t,.int hi u,.int 1 v] }
  | .frz o u=>h.get? a=some o/\ObjOk H h a u
  | .tbl ps=>h.get? a=some { cls:=.none,data:=.fields ps }
  | .met f x=>h.get? a=some (W.methodObj (.ref f) (.ref x))
  | .ext φ=>φ h/\(∃ o,h.get? a=some o)/\∀ h1 h2:Heap,φ h1->(∀ o,h1.get? a=some o->h2.get? a=some o)->φ h2
def HOk(H:Hp)(h:Heap):Prop:=∀ a o,H a=some o->ObjOk P w H h a o
end
variable {P:Program}{w:World}{H H':Hp}{h h':Heap}{a:Addr}{o:HO}
theorem ObjOk.lt(x:ObjOk P w H h a o):a<h.objs.size:=by
  cases o with
  | lst xs=>obtain ⟨_,_,_,_,e⟩:=x; exact Heap.lt_size e
  | tup xs=>obtain ⟨_,_,_,p⟩:=x; exact p.lt
  | dK kvs=>obtain ⟨_,_,_,_,o,_,_,e,_⟩:=x; exact Heap.lt_size e
  | dT kvs=>obtain ⟨_,_,_,_,o,_,_,e,_⟩:=x; exact Heap.lt_size e
  | set S n=>obtain ⟨o,_,_,_,e,_⟩:=x; exact Heap.lt_size e
  | ins C dx fs=>obtain ⟨_,_,_,e,_⟩:=x; exact Heap.lt_size e
  | own y=>obtain ⟨_,e⟩:=x; exact Heap.lt_size e
  | xd fs=>obtain ⟨_,⟨_,_,_,e,_⟩,_⟩:=x; exact Heap.lt_size e
  | rng lo hi=>obtain ⟨_,_,_,e⟩:=x; exact Heap.lt_size e
  | frz ob u=>obtain ⟨e,_⟩:=x; exact Heap.lt_size e
  | tbl ps=>exact Heap.lt_size (show h.get? a=some _ from x)
  | met f y=>exact Heap.lt_size (show h.get? a=some _ from x)
  | ext φ=>obtain ⟨_,⟨_,e⟩,_⟩:=x; exact Heap.lt_size e
theorem Paired.mapP{α β:Type}{F G:α->β->Prop}:∀ {l₁:List α} {l₂:List β},Paired F l₁ l₂->(∀ a b,F a b->G a b)->Paired G l₁ l₂
  | _,_,.nil,_=>.nil
  | _,_,.cons r t,f=>.cons (f _ _ r) (Paired.mapP t f)
theorem ObjOk.stay(x:ObjOk P w H h a o)(k:∀ b u,(b=a\/H b=some (.own a))->h.get? b=some u->h'.get? b=some u)(ho:∀ b,H b=some (.own a)->H' b=some (.own a))(ht:∀ b xs,H b=some (.tup xs)->H' b=some (.tup xs)):ObjOk P w H' h' a o:=by
  induction o with
  | lst xs=>obtain ⟨z,its,n,r,e⟩:=x; exact ⟨z,its,n,r,k _ _ (.inl rfl) e⟩
  | tup xs=>obtain ⟨z,its,r,ob,e,c⟩:=x; exact ⟨z,its,r,ob,k _ _ (.inl rfl) e,c⟩
  | dK kvs=>obtain ⟨z,y,vs,r,ob,es,ep,e,c⟩:=x; exact ⟨z,y,vs,r,ob,es,ep,k _ _ (.inl rfl) e,c⟩
  | dT kvs =>
    obtain ⟨z,y,xs,r,ob,es,ep,e,c⟩:=x;exact ⟨z,y,xs,Paired.mapP r λp q z=>⟨z.1,ht _ _ z.2.1,z.2.2⟩,ob,es,ep,k _ _ (.inl rfl) e,c⟩
  | set S n=>obtain ⟨ob,es,ep,t,e,c⟩:=x; exact ⟨ob,es,ep,t,k _ _ (.inl rfl) e,c⟩
  | ins C dx fs =>
    obtain ⟨d,z,ne,e,mA,⟨od,es,ep,e2,c⟩,r⟩:=x;exact ⟨ho _ d,z,ne,k _ _ (.inl rfl) e,mA,⟨od,es,ep,k _ _ (.inr d) e2,c⟩,r⟩
  | own y=>obtain ⟨ob,e⟩:=x; exact ⟨ob,k _ _ (.inl rfl) e⟩
  | xd fs=>obtain ⟨mA,⟨od,es,ep,e,c⟩,r⟩:=x; exact ⟨mA,⟨od,es,ep,k _ _ (.inl rfl) e,c⟩,r⟩
  | rng lo hi=>obtain ⟨t,u,v,e⟩:=x; exact ⟨t,u,v,k _ _ (.inl rfl) e⟩
  | frz ob u ih=>obtain ⟨e,q⟩:=x; exact ⟨k _ _ (.inl rfl) e,ih q⟩
  | tbl ps =>
    have e:h.get? a=some { cls:=.none,data:=.fields ps }:=x;show h'.get? a=some { cls:=.none,data:=.fields ps };exact k a _ (.inl rfl) e
  | met f y =>
    have e:h.get? a=some (W.methodObj (.ref f) (.ref y)):=x;show h'.get? a=some (W.methodObj (.ref f) (.ref y));exact k a _ (.inl rfl) e
  | ext φ=>obtain ⟨p,⟨o,e⟩,st⟩:=x; exact ⟨st _ _ p λo q=>k _ _ (.inl rfl) q,⟨o,k _ _ (.inl rfl) e⟩,st⟩
theorem HOk.lt(x:HOk P w H h)(e:H a=some o):a<h.objs.size:=(x a o e).lt
theorem HOk.fresh(x:HOk P w H h)(e:h.objs.size<=a):H a=none:=by
  cases q:H a with
  | none=>rfl
  | some u=>exact absurd (aI (x.lt q) e) (du _)
theorem HOk.kept(x:HOk P w H h)(k:∀ b u,h.get? b=some u->h'.get? b=some u):HOk P w H h':=λa o e =>
  (x a o e).stay (λb u _ q=>k b u q) (λ_ q=>q) λ_ _ q=>q
theorem HOk.laid(x:HOk P w H h)(k:∀ b u,h.get? b=some u->h'.get? b=some u)(hp:h.objs.size<=a)(new:ObjOk P w (upd H a o) h' a o):HOk P w (upd H a o) h':=λb u e=>by
  have hn:=x.fresh hp;by_cases hb:b=a
  . subst hb; rw [zk] at e; cases e; exact new
  . rw [zm hb] at e;exact (x b u e).stay (λc v _ q=>k c v q) (λc q=>by rw [zm (zc q hn)]; exact q) λc xs q=>by rw [zm (zc q hn)]; exact q
def Rd(H:Hp)(a:Addr)(u:HO):Prop:=H a=some u\/∃ o,H a=some (.frz o u)
theorem Rd.ok{u:HO}(r:Rd H a u)(x:HOk P w H h):ObjOk P w H h a u:=by
  rcases r with r|⟨o,r⟩
  . exact x a u r
  . obtain ⟨_,q⟩:=x a _ r;exact q
def Mut:Option HO->Prop
  | some (.lst _)=>True
  | some (.dK _)=>True
  | some (.dT _)=>True
  | some (.set _ _)=>True
  | some (.ins _ _ _)=>True
  | some (.ext _)=>True
  | _=>False
variable {x e:Addr}{o':HO}
theorem HOk.write(ok:HOk P w H h)(mu:Mut (H x))(he:e=x\/H e=some (.own x))(k:∀ b u,b≠e->h.get? b=some u->h'.get? b=some u)(heo:∃ u,h'.get? e=some u)(new:ObjOk P w (upd H x o') h' x o'):HOk P w (upd H x o') h':=λb u q=>by
  have nown:∀ c y,H c=some (.own y)->c≠x:=λc y r z=>by subst z; rw [r] at mu; exact mu
  have ntup:∀ c xs,H c=some (.tup xs)->c≠x:=λc xs r z=>by subst z; rw [r] at mu; exact mu
  by_cases hb:b=x
  . subst hb; rw [zk] at q; cases q; exact new
  . rw [zm hb] at q;by_cases hbe:b=e
    . have q':H b=some (.own x):=by
        rcases he with z|z
        . exact absurd (hbe.trans z) hb
        . rw [hbe]; exact z
      rw [q] at q'; cases q';obtain ⟨v,hv⟩:=heo;exact ⟨v,by rw [hbe]; exact hv⟩
    . refine (ok b u q).stay (λc v hc r=>k c v ?_ r) (λc r=>by rw [zm (nown c b r)]; exact r) λc xs r=>by rw [zm (ntup c xs r)]; exact r
      rcases hc with rfl|hc
      . exact hbe
      . rintro rfl;rcases he with z|z
        . exact nown c b hc z
        . rw [hc] at z; cases z; exact hb rfl
structure Un(fs ex:List Addr)(H H':Hp)(h h':Heap):Prop where
  keep:∀ b o,h.get? b=some o->H b=none->b∉fs->b∉ex->h'.get? b=some o
  slot:∀ b o,h.get? b=some o->H b=none->b∈fs->b∉ex->∃ sl,h'.get? b=some { o with slots:=sl }
  free:∀ b o,h.get? b=some o->H b=none->b∉ex->H' b=none
  there:∀ b o,h.get? b=some o->b∉ex->∃ o',h'.get? b=some o'
  tups:∀ b xs,H b=some (.tup xs)->H' b=some (.tup xs)
  frzs:∀ b o u,H b=some (.frz o u)->H' b=some (.frz o u)
  tbls:∀ b ps,H b=some (.tbl ps)->∃ more,H' b=some (.tbl (ps++more))
section
variable {fs fs' ex ex':List Addr}{H1 H2:Hp}{h1 h2:Heap}
theorem Un.any(u:Un fs ex H H1 h h1){b:Addr}{ob:Obj}(q:h.get? b=some ob)(n:H b=none)(hx:b∉ex):∃ sl,h1.get? b=some { ob with slots:=sl }:=by
  by_cases hb:b∈fs
  . exact u.slot b ob q n hb hx
  . exact ⟨ob.slots,u.keep b ob q n hb hx⟩
theorem Un.kept(k:∀ b u,h.get? b=some u->h'.get? b=some u):Un fs ex H H h h' :=
  ⟨λb ob q _ _ _=>k b ob q,λb ob q _ _ _=>⟨ob.slots,k b ob q⟩,λ_ _ _ n _=>n,λb ob q _=>⟨ob,k b ob q⟩,λ_ _ q=>q,λ_ _ _ q=>q,λ_ ps q=>⟨#[],by rw [q]; simp⟩⟩
theorem Un.refl:Un fs ex H H h h:=Un.kept λ_ _ q=>q
theorem Un.laid(k:∀ b u,h.get? b=some u->h'.get? b=some u)(hp:h.objs.size<=a)(hn:H a=none):Un fs ex H (upd H a o) h h' where
  keep:=λb u q _ _ _=>k b u q
  slot:=λb u q _ _ _=>⟨u.slots,k b u q⟩
  free:=λb u q n _=>by rw [zm (aP (aI (Heap.lt_size q) hp))]; exact n
  there:=λb u q _=>⟨u,k b u q⟩
  tups:=λb xs q=>by rw [zm (zc q hn)]; exact q
  frzs:=λb u xs q=>by rw [zm (zc q hn)]; exact q
  tbls:=λb ps q=>⟨#[],by rw [zm (zc q hn),q]; simp⟩
theorem Un.write(mu:Mut (H x))(he:e=x\/H e=some (.own x))(k:∀ b u,b≠e->h.get? b=some u->h'.get? b=some u)(heo:∃ u,h'.get? e=some u):Un fs ex H (upd H x o) h h':=by
  have hx:∀ b,H b=none->b≠x:=λb n z=>by subst z; rw [n] at mu; exact mu
  have hb:∀ b,H b=none->b≠e:=λb n z=>by
    subst z;rcases he with r|r
    . exact hx b n r
    . rw [n] at r; cases r
  have hm:∀ b u,H b=some u->¬ Mut (some u)->b≠x:=λb u q nm z=>by subst z; rw [q] at mu; exact nm mu
  refine ⟨λb u q n _ _=>k b u (hb b n) q,λb u q n _ _=>⟨u.slots,k b u (hb b n) q⟩,λb u q n _=>by rw [zm (hx b n)]; exact n,λb u q _=>?_,
    λb xs q=>by rw [zm (hm b _ q λz=>z)]; exact q,λb u xs q=>by rw [zm (hm b _ q λz=>z)]; exact q,λb ps q=>⟨#[],by rw [zm (hm b _ q λz=>z),q]; simp⟩⟩
  by_cases hbe:b=e
  . subst hbe; exact heo
  . exact ⟨u,k b u hbe q⟩
end
def trk(h:Heap)(H:Hp):List Addr:=(List.range h.objs.size).filter λa=>(H a).isSome
def hidT(h:Heap)(H:Hp):Heap:=W.hideAll h (trk h H)
theorem Dm(h:Heap)(H:Hp):(hidT h H).objs.size=h.objs.size:=W.hideAll_size _ _
theorem Gs{b:Addr}{o:Obj}(e:h.get? b=some o)(n:H b=none):(hidT h H).get? b=some o :=
  dN _ e λhm=>by
    have q:(H b).isSome=true:=(fq.mp hm).2;rw [n] at q; simp at q
theorem IZ{b:Addr}{o:Obj}(e:(hidT h H).get? b=some o):h.get? b=some o/\H b=none:=by
  have e':h.get? b=some o:=W.of_hideAll (trk h H) e;refine ⟨e',?_⟩;cases q:H b with
  | none=>rfl
  | some x =>
    have hm:b∈trk h H:=fq.mpr ⟨bV.mpr (Heap.lt_size e'),by simp [q]⟩;have z:(hidT h H).get? b=none:=W.hideAll_none (trk h H) hm;rw [z] at e; cases e
def Ih(g h:Heap)(L:Addr):List (Addr×Obj):=(List.range h.objs.size).filterMap λa=>if a=L\/(g.get? a).isSome=true then none else (h.get? a).map λo=>(a,o)
def rest(g h:Heap)(L d:Addr):List (Addr×Obj):=(Ih g h L).filter λp=>decide (p.1≠d)
structure Mod(K:iL)(mg:Str->Option Value)(base:Heap):Prop where
  kin:K.In base
  glob:base.Ns mainGlobals mg
  blt:∃ mb,base.Ns builtinsNs mb/\∀ x:Str,x≠"__name__"->mb x=bootBuiltins x
  nolimit:base.NoLimit
structure Cx where
  prog:Program
  w:World
  K:iL
  mg:Str->Option Value
  base:Heap
  A:Around
  N:List Str
  s₀:Shared
  H₀:Hp
  env:Env
  outer:List Env
  stack:List Env
  ex:List Addr
  fn:Str->Bool
  calm:Bool
  pn:List (Addr×Obj)
  xe:Value->Shared->Prop
def frs(l:List Env):List Addr:=l.filterMap (·.frame)
abbrev Cx.fs(X:Cx):List Addr:=frs X.outer
def Vis(sc:Scope)(x:Str):Prop:=sc.names.lookup x=some .local\/sc.names.lookup x=some .cell\/sc.names.lookup x=some .free
def Loc(sc:Scope)(x:Str):Prop:=sc.names.lookup x=some .local\/sc.names.lookup x=some .cell
def Look(env:Env)(h:Heap)(m:Str->Option Value)(x:Str)(u:Value):Prop :=
  (env.kindOf x=some .local/\m x=some u)\/((env.kindOf x=some .cell\/env.kindOf x=some .free)/\∃ c,env.cells.lookup x=some c/\h.IsCell c (some u))
structure Cx.Ok(X:Cx):Prop where
  mod:Mod X.K X.mg X.base
  kind:X.env.scope.kind=.function
  glob:X.env.globals=mainGlobals
  blt:X.env.builtins=builtinsNs
  above:X.s₀.heap.objs.size<=X.env.locals
  inj:∀ x y c,X.env.cells.lookup x=some c->X.env.cells.lookup y=some c->x=y
  has:∀ x,(X.env.kindOf x=some .cell\/X.env.kindOf x=some .free)->∃ c,X.env.cells.lookup x=some c
  cab:∀ x c,X.fn x=true->X.env.cells.lookup x=some c->X.s₀.heap.objs.size<=c
  hd:X.calm=true->X.A.handled=none
  frames:X.A.frames=some X.stack
  stk:X.stack=X.outer\/(X.stack=X.env::X.outer/\X.env.frame=some X.env.locals)
  exf:∀ b∈X.ex,b≠X.env.locals/\∀ x c,X.env.cells.lookup x=some c->c≠b
  bs:∀ b o,X.base.get? b=some o->X.s₀.heap.get? b=some o/\X.H₀ b=none
  bsz:X.base.objs.size<=X.s₀.heap.objs.size
  noex:∀ b o,X.base.get? b=some o->b∉X.ex
  exfs:∀ b∈X.ex,b∉X.fs
  funs:X.s₀.heap.FunFrames X.base X.outer
  frf:∀ b∈X.fs,X.H₀ b=none
structure Inv(X:Cx)(pins:List (Addr×Obj))(σ:List (Option V))(H:Hp)(s:Shared):Prop where
  ok:X.Ok
  os:s.os=X.s₀.os
  bare:AllBare s.gens
  base:Un X.fs X.ex X.H₀ H X.s₀.heap s.heap
  loc:∃ m,s.heap.Ns X.env.locals m/\∀ (i:Nat) (x:Str) (v:V),X.N[i]?=some x->σ[i]?=some (some v)->Vis X.env.scope x->∃ u,RelV v u/\Look X.env s.heap m x u
  cell:∀ x c,X.env.cells.lookup x=some c->∃ v,s.heap.IsCell c v
  free:H X.env.locals=none
  freeC:∀ x c,X.env.cells.lookup x=some c->H c=none
  pin:∀ p∈X.pn++pins,s.heap.get? p.1=some p.2/\H p.1=none/\p.1≠X.env.locals/\p.1∉X.fs/\∀ v,p.2.data≠.cell v
  hok:HOk X.prog X.w H s.heap
  len:σ.length=X.N.length
variable {it:Addr}{g':Array GenState}{d':Drawn}{ch:List Addr}{M:Model}{t':Nat}{E:Value->Shared->Prop}
section
variable {X:Cx}{pins:List (Addr×Obj)}{σ:List (Option V)}{s:Shared}
theorem Cx.Ok.nofr(ok:X.Ok){b:Addr}{o:Obj}(e:X.base.get? b=some o):b∉X.fs:=λhb=>by
  have:=(ok.funs.mem hb).1;rw [e] at this; cases this
theorem Inv.bs(I:Inv X pins σ H s):∀ b o,X.base.get? b=some o->s.heap.get? b=some o/\H b=none:=λb o e =>
  ⟨I.base.keep b o (I.ok.bs b o e).1 (I.ok.bs b o e).2 (I.ok.nofr e) (I.ok.noex b o e),I.base.free b o (I.ok.bs b o e).1 (I.ok.bs b o e).2 (I.ok.noex b o e)⟩
theorem Inv.bk(I:Inv X pins σ H s):∀ b o,X.base.get? b=some o->s.heap.get? b=some o:=λb o e=>(I.bs b o e).1
theorem Inv.mod(I:Inv X pins σ H s):Mod X.K X.mg X.base:=I.ok.mod
theorem Inv.kIn(I:Inv X pins σ H s):X.K.In s.heap:=I.ok.mod.kin.keeps I.bk
theorem Inv.lt(I:Inv X pins σ H s):X.env.locals<s.heap.objs.size:=let ⟨_,hn,_⟩:=I.loc; hn.lt
theorem Inv.sz(I:Inv X pins σ H s):X.s₀.heap.objs.size<=s.heap.objs.size:=bW I.ok.above (bA I.lt)
theorem Inv.nofs(I:Inv X pins σ H s)(h:s.heap.objs.size<=a):a∉X.fs:=λhb=>by
  obtain ⟨_,o,ho,_⟩:=I.ok.funs.mem hb;exact absurd (aI (Heap.lt_size ho) (bW I.sz h)) (du _)
theorem Inv.cne(I:Inv X pins σ H s):∀ x c,X.env.cells.lookup x=some c->c≠X.env.locals:=λx c e z=>by
  obtain ⟨v,o,ho,hd⟩:=I.cell x c e;obtain ⟨m,⟨o',es,ep,ho',hd',_⟩,_⟩:=I.loc;rw [z,ho'] at ho; cases ho; rw [hd'] at hd; cases hd
theorem Inv.funs(I:Inv X pins σ H s):s.heap.FunFrames X.base X.outer:=by
  have all:∀ (l:List Env),(∀ b∈frs l,b∈X.fs)->X.s₀.heap.FunFrames X.base l->s.heap.FunFrames X.base l:=by
    intro l;induction l with
    | nil=>intro _ _; trivial
    | cons env r ih =>
      intro hs hl;obtain ⟨hk,⟨L,o,hf,hn,ho,hd⟩,hr⟩:=hl;have hL:L∈X.fs:=hs L (by unfold frs; rw [dO,hf]; exact aV);obtain ⟨sl,e⟩:=I.base.slot L o ho (I.ok.frf L hL) hL λz=>I.ok.exfs L z hL;exact ⟨hk,⟨L,_,hf,hn,e,hd⟩,ih (λb hb=>hs b (by unfold frs; rw [dO,hf]; exact az _ hb)) hr⟩
  exact all X.outer (λ_ hb=>hb) I.ok.funs
theorem Inv.stack(I:Inv X pins σ H s):s.heap.FunFrames X.base X.stack:=by
  rcases I.ok.stk with e|⟨e,hf⟩
  . rw [e]; exact I.funs
  . rw [e];obtain ⟨m,hn,_⟩:=I.loc;refine .cons (by rw [I.ok.kind]; decide) hf hn ?_ I.funs;exact Heap.get?_none_of_le (bW I.ok.bsz I.ok.above)
theorem Inv.stkSub(I:Inv X pins σ H s):∀ b∈frs X.stack,b∈X.env.locals::X.fs:=λb hb=>by
  rcases I.ok.stk with e|⟨e,hf⟩
  . rw [e] at hb; exact az _ hb
  . rw [e] at hb;unfold frs at hb;rw [dO,hf] at hb;exact hb
theorem Inv.stkFree(I:Inv X pins σ H s):∀ b∈frs X.stack,H b=none:=λb hb=>by
  rcases aU.mp (I.stkSub b hb) with e|hb
  . rw [e]; exact I.free
  . obtain ⟨_,o,ho,_⟩:=I.ok.funs.mem hb;exact I.base.free b o ho (I.ok.frf b hb) λz=>I.ok.exfs b z hb
theorem Inv.step(I:Inv X pins σ H s)(hch:∀ b∈ch,(b∈X.ex\/X.s₀.heap.objs.size<=b)/\b≠X.env.locals/\(∀ x c,X.env.cells.lookup x=some c->c≠b)/\∀ p∈X.pn++pins,p.1≠b)(keep:∀ b o,b≠X.env.locals->b∉X.fs->b∉ch->s.heap.get? b=some o->H b=none->h'.get? b=some o)(slot:∀ b o,b≠X.env.locals->b∈X.fs->b∉ch->s.heap.get? b=some o->H b=none->∃ sl,h'.get? b=some { o with slots:=sl })(free:∀ b o,b∉ch->s.heap.get? b=some o->H b=none->H' b=none)(there:∀ b o,b∉ch->s.heap.get? b=some o->∃ o',h'.get? b=some o')(tups:∀ b xs,H b=some (.tup xs)->H' b=some (.tup xs))(frzs:∀ b o u,H b=some (.frz o u)->H' b=some (.frz o u))(tbls:∀ b ps,H b=some (.tbl ps)->∃ more,H' b=some (.tbl (ps++more)))(ns:∀ m,s.heap.Ns X.env.locals m->h'.Ns X.env.locals m)(hok:HOk X.prog X.w H' h')(hg:AllBare g') :
    Inv X pins σ H' { s with heap:=h',gens:=g',drawn:=d',toks:=t' }:=by
  have neL:∀ b o,X.s₀.heap.get? b=some o->b≠X.env.locals:=λb o e=>aP (aI (Heap.lt_size e) I.ok.above);have neC:∀ b o,X.s₀.heap.get? b=some o->b∉X.ex->b∉ch:=λb o e hx hb=>by
    rcases (hch b hb).1 with z|z
    . exact hx z
    . exact absurd (aI (Heap.lt_size e) z) (du _)
  have cellK:∀ x c,X.env.cells.lookup x=some c->∀ v,s.heap.IsCell c v->h'.IsCell c v:=λx c e v ⟨o,ho,hd⟩=>by
    have nch:c∉ch:=λz=>(hch c z).2.2.1 x c e rfl;by_cases hc:c∈X.fs
    . obtain ⟨sl,q⟩:=slot c o (I.cne x c e) hc nch ho (I.freeC x c e);exact ⟨_,q,hd⟩
    . exact ⟨o,keep c o (I.cne x c e) hc nch ho (I.freeC x c e),hd⟩
  refine ⟨I.ok,I.os,hg,⟨λb o e n hb hx=>?_,λb o e n hb hx=>?_,λb o e n hx=>?_,λb o e hx=>?_,λb xs e=>tups b xs (I.base.tups b xs e),λb o xs e=>frzs b o xs (I.base.frzs b o xs e),λb ps e=>?_⟩,?_,λx c e=>?_,?_,λx c e=>?_,λp hp=>?_,hok,I.len⟩
  . exact keep b o (neL b o e) hb (neC b o e hx) (I.base.keep b o e n hb hx) (I.base.free b o e n hx)
  . obtain ⟨sl,e1⟩:=I.base.slot b o e n hb hx;obtain ⟨sl',e2⟩:=slot b _ (neL b o e) hb (neC b o e hx) e1 (I.base.free b o e n hx);exact ⟨sl',e2⟩
  . obtain ⟨o',e1⟩:=I.base.there b o e hx;exact free b o' (neC b o e hx) e1 (I.base.free b o e n hx)
  . obtain ⟨o',e1⟩:=I.base.there b o e hx;exact there b o' (neC b o e hx) e1
  . obtain ⟨m1,e1⟩:=I.base.tbls b ps e;obtain ⟨m2,e2⟩:=tbls b _ e1;exact ⟨m1++m2,by rw [e2,Array.append_assoc]⟩
  . obtain ⟨m,hn,hl⟩:=I.loc;refine ⟨m,ns m hn,λi x v e1 e2 e3=>?_⟩;obtain ⟨u,r,l⟩:=hl i x v e1 e2 e3;refine ⟨u,r,?_⟩;rcases l with l|⟨k,c,e,z⟩
    . exact .inl l
    . exact .inr ⟨k,c,e,cellK x c e _ z⟩
  . obtain ⟨v,z⟩:=I.cell x c e;exact ⟨v,cellK x c e v z⟩
  . obtain ⟨m,⟨o,_,_,ho,_⟩,_⟩:=I.loc;exact free _ o (λz=>(hch _ z).2.1 rfl) ho I.free
  . obtain ⟨v,o,ho,hd⟩:=I.cell x c e;exact free c o (λz=>(hch c z).2.2.1 x c e rfl) ho (I.freeC x c e)
  . obtain ⟨e,n,ne,nf,d⟩:=I.pin p hp;have nch:p.1∉ch:=λz=>(hch p.1 z).2.2.2 p hp rfl;exact ⟨keep p.1 p.2 ne nf nch e n,free p.1 p.2 nch e n,ne,nf,d⟩
theorem Inv.un(I:Inv X pins σ H s)(u:Un X.fs [] H H' s.heap h')(hok:HOk X.prog X.w H' h'):Inv X pins σ H' { s with heap:=h',toks:=t' }:=by
  obtain ⟨m,⟨o,es,ep,ho,r⟩,_⟩:=id I.loc;obtain ⟨sl,hL⟩:=u.any ho I.free (!1);exact I.step (g':=s.gens) (d':=s.drawn) (ch:=[]) (λ_ z=>nomatch z) (λb o _ hb _ e n=>u.keep b o e n hb (!1)) (λb o _ hb _ e n=>u.slot b o e n hb (!1)) (λb o _ e n=>u.free b o e n (!1)) (λb o _ e=>u.there b o e (!1)) u.tups u.frzs u.tbls (λm' hm=>by
    obtain ⟨o',es',ep',ho',r'⟩:=hm;rw [ho] at ho'; cases ho';exact ⟨_,es',ep',hL,r'⟩) hok I.bare
theorem Inv.call(I:Inv X pins σ H s)(u:Un (frs X.stack) ch H H' s.heap h')(hok:HOk X.prog X.w H' h')(hg:AllBare g')(hch:∀ b∈ch,(b∈X.ex\/X.s₀.heap.objs.size<=b)/\b≠X.env.locals/\(∀ x c,X.env.cells.lookup x=some c->c≠b)/\∀ p∈X.pn++pins,p.1≠b) : Inv X pins σ H' { s with heap:=h',gens:=g',drawn:=d',toks:=t' }:=by
  obtain ⟨m,⟨o,es,ep,ho,r⟩,_⟩:=id I.loc;obtain ⟨sl,hL⟩:=u.any ho I.free λz=>(hch _ z).2.1 rfl;exact I.step (ch:=ch) hch (λb o hL hb hc e n=>u.keep b o e n (λz=>(aU.mp (I.stkSub b z)).elim hL hb) hc) (λb o _ _ hc e n=>u.any e n hc) (λb o hc e n=>u.free b o e n hc) (λb o hc e=>u.there b o e hc) u.tups u.frzs u.tbls (λm' hm=>by
    obtain ⟨o',es',ep',ho',r'⟩:=hm;rw [ho] at ho'; cases ho';exact ⟨_,es',ep',hL,r'⟩) hok hg
theorem Inv.turned(I:Inv X pins σ H s)(k:∀ b o,b≠it->s.heap.get? b=some o->h'.get? b=some o)(hn:H it=none)(hL:it≠X.env.locals)(h1:it∈X.ex\/X.s₀.heap.objs.size<=it)(h2:∀ x c,X.env.cells.lookup x=some c->c≠it)(h3:∀ p∈X.pn++pins,p.1≠it):Inv X pins σ H { s with heap:=h',toks:=t' }:=by
  have nit:∀ b u,H b=some u->b≠it:=λb u e z=>by rw [z,hn] at e; cases e
  refine I.step (g':=s.gens) (d':=s.drawn) (ch:=[it]) (λb hb=>?_) (λb o _ _ hc e _=>k b o (λz=>hc (by simp [z])) e) (λb o _ _ hc e _=>⟨o.slots,k b o (λz=>hc (by simp [z])) e⟩) (λ_ _ _ _ n=>n)
    (λb o hc e=>⟨o,k b o (λz=>hc (by simp [z])) e⟩) (λ_ _ e=>e) (λ_ _ _ e=>e) (λb ps e=>⟨#[],by rw [e]; simp⟩) (λm hm=>?_) (λb u e=>?_) I.bare
  . have e:b=it:=by simpa using hb
    subst e;exact ⟨h1,hL,h2,h3⟩
  . obtain ⟨o,es,ep,ho,r⟩:=hm;exact ⟨o,es,ep,k _ o (bZ hL) ho,r⟩
  . refine (I.hok b u e).stay (λc v hc q=>k c v ?_ q) (λ_ q=>q) λ_ _ q=>q;rcases hc with z|z
    . rw [z]; exact nit b u e
    . exact nit c _ z
theorem Inv.tok(I:Inv X pins σ H s)(t:Nat):Inv X pins σ H { s with toks:=t }:=I.un (h':=s.heap) (t':=t) Un.refl I.hok
theorem Inv.kept{t':Nat}(I:Inv X pins σ H s)(k:∀ b u,s.heap.get? b=some u->h'.get? b=some u):Inv X pins σ H { s with heap:=h',toks:=t' }:=I.un (Un.kept k) (I.hok.kept k)
theorem Inv.laid{a:Addr}{o:HO}{t':Nat}(I:Inv X pins σ H s)(k:∀ b u,s.heap.get? b=some u->h'.get? b=some u)(hp:s.heap.objs.size<=a)(new:ObjOk X.prog X.w (upd H a o) h' a o) : Inv X pins σ (upd H a o) { s with heap:=h',toks:=t' }:=I.un (Un.laid k hp (I.hok.fresh hp)) (I.hok.laid k hp new)
theorem Inv.write{x e:Addr}{o:HO}{t':Nat}(I:Inv X pins σ H s)(mu:Mut (H x))(he:e=x\/H e=some (.own x))(k:∀ b u,b≠e->s.heap.get? b=some u->h'.get? b=some u)(heo:∃ u,h'.get? e=some u) (new:ObjOk X.prog X.w (upd H x o) h' x o):Inv X pins σ (upd H x o) { s with heap:=h',toks:=t' }:=I.un (Un.write mu he k heo) (I.hok.write mu he k heo new)
theorem Inv.pins_of{pins':List (Addr×Obj)}(I:Inv X pins σ H s)(h:∀ p∈pins',s.heap.get? p.1=some p.2/\H p.1=none/\p.1≠X.env.locals/\p.1∉X.fs/\∀ v,p.2.data≠.cell v):Inv X pins' σ H s :=
  ⟨I.ok,I.os,I.bare,I.base,I.loc,I.cell,I.free,I.freeC,λp hp=>(aB.mp hp).elim (λz=>I.pin p (bP _ z)) (h p),I.hok,I.len⟩
variable {x:Str}
theorem uG{N:List Str}(hN:N.Nodup){i j:Nat}(a:N[i]?=some x)(b:N[j]?=some x):i=j:=by
  obtain ⟨h1,e1⟩:=af.mp a;obtain ⟨h2,e2⟩:=af.mp b;exact (List.getElem_inj hN).mp (e1.trans e2.symm)
theorem Du{A:Around}{i:Nat}{v:V}{u:Value}{Q:Unit->Shared->Prop}(I:Inv X pins σ H s)(hN:X.N.Nodup)(hi:X.N[i]?=some x)(hx:Loc X.env.scope x)(r:RelV v u)(h:∀ s',Inv X pins (σ.set i (some v)) H s'->(∃ a,Heap.SameBut a s.heap s'.heap/\(a=X.env.locals\/X.env.cells.lookup x=some a))->Q () s')(hf:X.fn x=true\/X.env.scope.names.lookup x=some .local:=by first | exact .inl rfl | exact .inr rfl | assumption):wpAny M A (storeName X.env x u) Q E s:=by
  obtain ⟨m,hn,hl⟩:=id I.loc;have hcls:(X.env.scope.kind==.class || (X.env.scope.kind==.module && X.env.locals != X.env.globals))=false:=by rw [I.ok.kind]; rfl
  have hiσ:i<σ.length:=by rw [I.len]; exact (af.mp hi).1
  have cne:=I.cne;have tracked:∀ {a:Addr} {h':Heap},(∃ o,s.heap.get? a=some o/\H a=none)->Heap.SameBut a s.heap h'->HOk X.prog X.w H h':=λ{a h'} ha hs b ob e=>by
    obtain ⟨_,_,hfree⟩:=ha;refine (I.hok b ob e).stay (λc w' hc q=>(hs.2 c ?_).trans q) (λ_ q=>q) λ_ _ q=>q;rintro rfl;rcases hc with rfl|hc
    . rw [hfree] at e; cases e
    . rw [hfree] at hc; cases hc
  rcases hx with hk|hk
  . refine wpAny_storeName_local hk hn (λh' hn' hs=>?_) hcls;obtain ⟨oL,_,_,hoL,_⟩:=id hn;refine h _ ⟨I.ok,I.os,I.bare,⟨λb o e n hb hx=>?_,λb o e n hb hx=>?_,I.base.free,λb o e hx=>?_,I.base.tups,I.base.frzs,I.base.tbls⟩,⟨_,hn',λj y v' e1 e2 e3=>?_⟩,λy c e=>?_,I.free,I.freeC,λp hp=>?_,tracked ⟨oL,hoL,I.free⟩ hs,by simpa using I.len⟩ ⟨_,hs,.inl rfl⟩
    . exact (hs.2 b (aP (aI (Heap.lt_size e) I.ok.above))).trans (I.base.keep b o e n hb hx)
    . obtain ⟨sl,e1⟩:=I.base.slot b o e n hb hx;exact ⟨sl,(hs.2 b (aP (aI (Heap.lt_size e) I.ok.above))).trans e1⟩
    . obtain ⟨o',e1⟩:=I.base.there b o e hx;exact ⟨o',(hs.2 b (aP (aI (Heap.lt_size e) I.ok.above))).trans e1⟩
    . by_cases hj:j=i
      . subst hj;rw [hi] at e1; cases e1;rw [eK hiσ] at e2;cases e2
        exact ⟨u,r,.inl ⟨hk,by simp⟩⟩
      . rw [fi (bZ hj)] at e2;obtain ⟨u',r',q⟩:=hl j y v' e1 e2 e3;refine ⟨u',r',?_⟩;rcases q with ⟨k,e⟩|⟨k,c,e,z⟩
        . refine .inl ⟨k,?_⟩;have:y≠x:=λe=>hj (uG hN e1 (e ▸ hi));simp [this,e]
        . exact .inr ⟨k,c,e,z.sameBut hs (cne y c e)⟩
    . obtain ⟨w',z⟩:=I.cell y c e;exact ⟨w',z.sameBut hs (cne y c e)⟩
    . obtain ⟨e,n,ne,nf,d⟩:=I.pin p hp;exact ⟨(hs.2 p.1 ne).trans e,n,ne,nf,d⟩
  . have hfn:X.fn x=true:=by
      rcases hf with z|z
      . exact z
      . rw [z] at hk; cases hk
    obtain ⟨c,hc⟩:=I.ok.has x (.inl hk);obtain ⟨w',z⟩:=I.cell x c hc;refine wpAny_storeName_cell I.ok.kind hk hc z (λh' hc' hs=>?_);obtain ⟨oc,hoc,hocd⟩:=id z;refine h { s with heap:=h' } ⟨I.ok,I.os,I.bare,⟨λb o e n hb hx=>?_,λb o e n hb hx=>?_,I.base.free,λb o e hx=>?_,I.base.tups,I.base.frzs,I.base.tbls⟩,⟨m,hn.sameBut hs (bZ (cne x c hc)),λj y v' e1 e2 e3=>?_⟩,λy c' e=>?_,I.free,I.freeC,λp hp=>?_,tracked ⟨oc,hoc,I.freeC x c hc⟩ hs,by simpa using I.len⟩ ⟨c,hs,.inr hc⟩
    . exact (hs.2 b (aP (aI (Heap.lt_size e) (I.ok.cab x c hfn hc)))).trans (I.base.keep b o e n hb hx)
    . obtain ⟨sl,e1⟩:=I.base.slot b o e n hb hx;exact ⟨sl,(hs.2 b (aP (aI (Heap.lt_size e) (I.ok.cab x c hfn hc)))).trans e1⟩
    . obtain ⟨o',e1⟩:=I.base.there b o e hx;exact ⟨o',(hs.2 b (aP (aI (Heap.lt_size e) (I.ok.cab x c hfn hc)))).trans e1⟩
    . by_cases hj:j=i
      . subst hj;rw [hi] at e1; cases e1;rw [eK hiσ] at e2;cases e2
        exact ⟨u,r,.inr ⟨.inl hk,c,hc,hc'⟩⟩
      . rw [fi (bZ hj)] at e2;obtain ⟨u',r',q⟩:=hl j y v' e1 e2 e3;refine ⟨u',r',?_⟩;rcases q with q|⟨k,c',e,z'⟩
        . exact .inl q
        . refine .inr ⟨k,c',e,z'.sameBut hs ?_⟩;rintro rfl;exact hj (uG hN e1 (I.ok.inj _ _ _ e hc ▸ hi))
    . by_cases hcc:c'=c
      . subst hcc; exact ⟨_,hc'⟩
      . obtain ⟨w2,z2⟩:=I.cell y c' e;exact ⟨w2,z2.sameBut hs hcc⟩
    . obtain ⟨e,n,ne,nf,d⟩:=I.pin p hp;refine ⟨(hs.2 p.1 ?_).trans e,n,ne,nf,d⟩;intro q;rw [q,hoc] at e;have q':oc=p.2:=ao e;exact d w' (by rw [<-q']; exact hocd)
theorem xH{A:Around}{i:Nat}{v:V}{u:Value}{Q:Unit->Shared->Prop}(I:Inv X pins σ H s)(hN:X.N.Nodup)(hi:X.N[i]?=some x)(hx:Loc X.env.scope x)(r:RelV v u)(h:∀ s',Inv X pins (σ.set i (some v)) H s'->Q () s')(hf:X.fn x=true\/X.env.scope.names.lookup x=some .local:=by first | exact .inl rfl | exact .inr rfl | assumption):wpAny M A (storeName X.env x u) Q E s :=
  Du I hN hi hx r (λs' I' _=>h s' I') hf
theorem Inv.call'{s':Shared}(I:Inv X pins σ H s)(ho:s'.os=s.os)(u:Un (frs X.stack) ch H H' s.heap s'.heap)(hok:HOk X.prog X.w H' s'.heap)(hg:AllBare s'.gens)(hch:∀ b∈ch,(b∈X.ex\/X.s₀.heap.objs.size<=b)/\b≠X.env.locals/\(∀ x c,X.env.cells.lookup x=some c->c≠b)/\∀ p∈X.pn++pins,p.1≠b):Inv X pins σ H' s':=by
  obtain ⟨h',g',d',t',o'⟩:=s';have e:o'=s.os:=ho;subst e;exact I.call (g':=g') (t':=t') (d':=d') u hok hg hch
end
abbrev XK:=Value->Option Addr->Hp->Prop
abbrev St:=List (Option V)
abbrev VK:=V->Hp->Prop
abbrev TE:=St->Hp->VK->Prop
abbrev TT:=St->Hp->(Bool->Hp->Prop)->Prop
abbrev TA:=St->Hp->(List V->Hp->Prop)->Prop
structure Ends where
  nx:St->Hp->Prop
  rt:VK
  bk:St->Hp->Prop:=λ_ _=>False
  ct:St->Hp->Prop:=λ_ _=>False
abbrev TS:=Ends->St->Hp->Prop
def EP(X:Cx)(pins:List (Addr×Obj))(σ:St)(Q:VK)(u:Value)(s':Shared):Prop:=∃ v H',Inv X pins σ H' s'/\RelV v u/\Q v H'
def TP(X:Cx)(pins:List (Addr×Obj))(σ:St)(Q:Bool->Hp->Prop)(b:Bool)(s':Shared):Prop:=∃ H',Inv X pins σ H' s'/\Q b H'
def AP(X:Cx)(pins:List (Addr×Obj))(σ:St)(Q:List V->Hp->Prop)(us:List Value)(s':Shared):Prop:=∃ vs H',Inv X pins σ H' s'/\Vals vs us/\Q vs H'
def SP(X:Cx)(pins:List (Addr×Obj))(D:Ends)(f:Flow)(s':Shared):Prop :=
  match f with
  | .next=>∃ σ' H',Inv X pins σ' H' s'/\D.nx σ' H'
  | .brk=>∃ σ' H',Inv X pins σ' H' s'/\D.bk σ' H'
  | .cont=>∃ σ' H',Inv X pins σ' H' s'/\D.ct σ' H'
  | .ret u=>∃ v σ' H',Inv X pins σ' H' s'/\RelV v u/\D.rt v H'
def PE(X:Cx)(e:Expr)(t:TE):Prop :=
  ∀ (pins:List (Addr×Obj)) (s:Shared) (σ:St) (H:Hp) (Q:VK),Inv X pins σ H s->t σ H Q->wpAny (model X.prog X.w) X.A (eval e X.env) (EP X pins σ Q) X.xe s
def PT(X:Cx)(e:Expr)(t:TT):Prop :=
  ∀ (pins:List (Addr×Obj)) (s:Shared) (σ:St) (H:Hp) (Q:Bool->Hp->Prop),Inv X pins σ H s->t σ H Q->wpAny (model X.prog X.w) X.A (isTrue e X.env (eval e X.env)) (TP X pins σ Q) X.xe s
def PW(X:Cx)(e:Expr)(t:TT):Prop :=
  ∀ (whole:Sem Value) (pins:List (Addr×Obj)) (s:Shared) (σ:St) (H:Hp) (Q:Bool->Hp->Prop),Inv X pins σ H s->t σ H Q->wpAny (model X.prog X.w) X.A (isTrue e X.env whole) (TP X pins σ Q) X.xe s
theorem PW.pt{X:Cx}{e:Expr}{t:TT}(h:PW X e t):PT X e t:=h _
def PA(X:Cx)(es:List Expr)(t:TA):Prop :=
  ∀ (pos:Pos) (pins:List (Addr×Obj)) (s:Shared) (σ:St) (H:Hp) (Q:List V->Hp->Prop),Inv X pins σ H s->t σ H Q->wpAny (model X.prog X.w) X.A (spliced (backTo pos (starEach es X.env))) (AP X pins σ Q) X.xe s
def PS(X:Cx)(st:Stmt)(t:TS):Prop :=
  ∀ (pins:List (Addr×Obj)) (s:Shared) (σ:St) (H:Hp) (D:Ends),Inv X pins σ H s->t D σ H->wpAny (model X.prog X.w) X.A (exec st X.env) (SP X pins D) X.xe s
def PSs(X:Cx)(st:List Stmt)(t:TS):Prop :=
  ∀ (pins:List (Addr×Obj)) (s:Shared) (σ:St) (H:Hp) (D:Ends),Inv X pins σ H s->t D σ H->wpAny (model X.prog X.w) X.A (execs st X.env) (SP X pins D) X.xe s
theorem thn{α:Type}{t:Sem α}{Q Q':α->Shared->Prop}{A:Around}{s:Shared}(h:wpAny M A t Q E s)(hQ:∀ a s,Q a s->Q' a s):wpAny M A t Q' E s:=ip h hQ λ_ _ x=>x
variable {op:CmpOp}{c:Expr}{pins:List (Addr×Obj)}{t:TE}
section
variable {X:Cx}
def tVar(i:Nat):TE:=λσ H Q=>∃ v,σ[i]?=some (some v)/\Q v H
def tC(v:V):TE:=λ_ H Q=>Q v H
variable {x:Str}
theorem LE{i:Nat}{pos:Pos}(hN:X.N[i]?=some x)(hv:Vis X.env.scope x)(hd:(x==("__debug__":Str))=false:=by decide)(hcd:(x==("__classdict__":Str))=false:=by decide):PE X (.Name x pos) (tVar i):=by
  intro pins s σ H Q I h;obtain ⟨v,e,h⟩:=h;obtain ⟨m,hn,hl⟩:=I.loc;obtain ⟨u,r,l⟩:=hl i x v hN e hv;have fin:EP X pins σ Q u s:=⟨v,H,I,r,h⟩
  rcases l with ⟨hk,hm⟩|⟨hk,c,hc,hcell⟩
  . exact wpAny_Name (wpAny_loadName_local I.ok.kind hk hn hm fin) hd
  . rcases hk with hk | hk
    . exact wpAny_Name (wpAny_loadName_cell I.ok.kind hk hc hcell fin) hd
    . exact wpAny_Name (wpAny_loadName_free I.ok.kind hk hc hcell fin hcd) hd
theorem ze{i j pos}:PE X (.Constant (.int i) j pos) (tC (.int i)):=λ_ _ _ H _ I h=>wpAny_Constant_int ⟨.int i,H,I.tok _,⟨_,rfl⟩,h⟩
theorem yY{b j pos}:PE X (.Constant (.bool b) j pos) (tC (.bl b)):=λ_ _ _ H _ I h=>Constant_bool ⟨.bl b,H,I,rfl,h⟩
theorem vq{j pos}:PE X (.Constant .none j pos) (tC .non):=λ_ _ _ H _ I h=>Constant_none ⟨.non,H,I,rfl,h⟩
theorem zG{x j pos}:PE X (.Constant (.str x) j pos) (tC (.str x)):=λ_ _ _ H _ I h=>Calls.Constant_str ⟨.str x,H,I.tok _,⟨_,rfl⟩,h⟩
def Gl(X:Cx)(x:Str):Prop:=X.env.kindOf x=some .globalImplicit
theorem wo{s:Shared}{σ:St}{u:Value}{pos:Pos}{Q:Value->Shared->Prop}(I:Inv X pins σ H s)(hg:Gl X x)(hm:X.mg x=some u)(h:Q u s)(hd:(x==("__debug__":Str))=false:=by decide):wpAny (model X.prog X.w) X.A (eval (.Name x pos) X.env) Q E s :=
  Calls.Name_function_global I.ok.kind hg (Calls.loadGlobal_global (by rw [I.ok.glob]; exact I.mod.glob.keeps I.bk) hm h) hd
theorem wB{s:Shared}{σ:St}{u:Value}{pos:Pos}{Q:Value->Shared->Prop}(I:Inv X pins σ H s)(hg:Gl X x)(hm:X.mg x=none)(hv:bootBuiltins x=some u)(h:Q u s)(hn:x≠"__name__":=by decide)(hd:(x==("__debug__":Str))=false:=by decide):wpAny (model X.prog X.w) X.A (eval (.Name x pos) X.env) Q E s:=by
  obtain ⟨mb,h1,h2⟩:=I.mod.blt;exact Calls.Name_function_global I.ok.kind hg (Calls.loadGlobal_builtin (by rw [I.ok.glob]; exact I.mod.glob.keeps I.bk) hm (by rw [I.ok.blt]; exact h1.keeps I.bk) ((h2 x hn).trans hv) h) hd
theorem zA{v:V}{u:Value}{pos:Pos}(hg:Gl X x)(hm:X.mg x=some u)(r:RelV v u)(hd:(x==("__debug__":Str))=false:=by decide):PE X (.Name x pos) (tC v) :=
  λ_ _ _ H _ I h=>wo I hg hm ⟨v,H,I,r,h⟩ hd
theorem xR{v:V}{u:Value}{pos:Pos}(hg:Gl X x)(hm:X.mg x=none)(hv:bootBuiltins x=some u)(r:RelV v u)(hn:x≠"__name__":=by decide)(hd:(x==("__debug__":Str))=false:=by decide):PE X (.Name x pos) (tC v) :=
  λ_ _ _ H _ I h=>wB I hg hm hv ⟨v,H,I,r,h⟩ hn hd
variable {a b:Expr}{ta tb:TE}{pos:Pos}
def PC(X:Cx)(op:CmpOp)(a b:Expr)(t:TE):Prop :=
  ∀ (pins:List (Addr×Obj)) (s:Shared) (σ:St) (H:Hp) (Q:VK),Inv X pins σ H s->t σ H Q ->
    wpAny (model X.prog X.w) X.A (eval a X.env) (λv s₁=>wpAny (model X.prog X.w) X.A (eval b X.env) (λu s₂=>wpAny (model X.prog X.w) X.A (compareOp op v u) (EP X pins σ Q) X.xe s₂) X.xe s₁) X.xe s
def tB(t:TE):TT:=λσ H Q=>t σ H λx H1=>∃ c,x=.bl c/\Q c H1
theorem L7(h:PC X op a b t)(h1:behindInMarks op b=false:=by first | exact nobehind _ (by decide) (by decide) | rfl):PT X (.Compare a [op] [b] pos) (tB t):=by
  intro pins s σ H Q I hw;refine wpAny_isTrue_Compare1 (thn (h pins s σ H _ I hw) λv s1 h1=>thn h1 λu s2 h2=>thn h2 λc s3 ⟨x,H1,I1,r1,q1⟩=>?_) h1;obtain ⟨d,rfl,q⟩:=q1;cases r1
  exact iq ⟨H1,I1,q⟩
theorem yb{e:Expr}(h:PE X e t)(he:∀ whole,isTrue e X.env whole=(do let v <-whole; standAt e.pos; holding [v] (truthy v)):=by intro _; rfl):PT X e (tB t):=by
  intro pins s σ H Q I hw;refine isTrue_plain (thn (h pins s σ H _ I hw) λv s1 ⟨x,H1,I1,r1,q1⟩=>?_) (he _);obtain ⟨d,rfl,q⟩:=q1;cases r1
  exact iq ⟨H1,I1,q⟩
variable {tA tB':TT}{rest:List Expr}
def tAnd(t u:TT):TT:=λσ H Q=>t σ H λc H1=>if c=true then u σ H1 Q else Q false H1
def tOr(t u:TT):TT:=λσ H Q=>t σ H λc H1=>if c=true then Q true H1 else u σ H1 Q
def tNot(t:TT):TT:=λσ H Q=>t σ H λc H1=>Q (!c) H1
theorem yg(ha:PT X a tA):PW X (.BoolOp .And [a] pos) tA:=by
  intro wh pins s σ H Q I h;refine isTrue_and (thn (ha pins s σ H Q I h) λc s1 e=>?_);cases c with
  | true=>exact isTrue_and_nil e
  | false=>exact e
theorem v9(ha:PT X a tA):PW X (.BoolOp .Or [a] pos) tA:=by
  intro wh pins s σ H Q I h;refine isTrue_or (thn (ha pins s σ H Q I h) λc s1 e=>?_);cases c with
  | false=>exact isTrue_or_nil e
  | true=>exact e
theorem yD(ha:PT X a tA)(hb:PW X (.BoolOp .And (b::rest) pos) tB'):PW X (.BoolOp .And (a::b::rest) pos) (tAnd tA tB'):=by
  intro wh pins s σ H Q I h;refine isTrue_and (thn (ha pins s σ H _ I h) λc s1 ⟨H1,I1,q1⟩=>?_);cases c with
  | true=>exact hb wh pins s1 σ H1 Q I1 q1
  | false=>exact ⟨H1,I1,q1⟩
theorem AC(ha:PT X a tA)(hb:PW X (.BoolOp .Or (b::rest) pos) tB'):PW X (.BoolOp .Or (a::b::rest) pos) (tOr tA tB'):=by
  intro wh pins s σ H Q I h;refine isTrue_or (thn (ha pins s σ H _ I h) λc s1 ⟨H1,I1,q1⟩=>?_);cases c with
  | true=>exact ⟨H1,I1,q1⟩
  | false=>exact hb wh pins s1 σ H1 Q I1 q1
theorem y4(ha:PT X a tA):PT X (.UnaryOp .Not a pos) (tNot tA):=by
  intro pins s σ H Q I h;exact isTrue_not (ha pins s σ H (λc H1=>Q (!c) H1) I h)
def LG(ta tb:TE):TE:=λσ H Q=>ta σ H λx H1=>∃ c,x=.bl c/\if c=true then tb σ H1 Q else Q (.bl false) H1
def tOrV(ta tb:TE):TE:=λσ H Q=>ta σ H λx H1=>∃ c,x=.bl c/\if c=true then Q (.bl true) H1 else tb σ H1 Q
def JB(ta:TE):TE:=λσ H Q=>ta σ H λx H1=>∃ c,x=.bl c/\Q (.bl (!c)) H1
theorem BU{op}(h:PE X a t):PE X (.BoolOp op [a] pos) t:=λpins s σ H Q I hw=>BoolOp_one (h pins s σ H Q I hw)
theorem Dh(ha:PE X a ta)(hb:PE X (.BoolOp .And (b::rest) pos) tb):PE X (.BoolOp .And (a::b::rest) pos) (LG ta tb):=by
  intro pins s σ H Q I h;refine BoolOp_and (thn (ha pins s σ H _ I h) λv s1 ⟨x,H1,I1,r1,q1⟩=>?_);obtain ⟨c,rfl,q1⟩:=q1;cases r1
  refine iq ?_;cases c with
  | true=>exact hb pins s1 σ H1 Q I1 q1
  | false=>exact ⟨.bl false,H1,I1,rfl,q1⟩
theorem Mi(ha:PE X a ta)(hb:PE X (.BoolOp .Or (b::rest) pos) tb):PE X (.BoolOp .Or (a::b::rest) pos) (tOrV ta tb):=by
  intro pins s σ H Q I h;refine BoolOp_or (thn (ha pins s σ H _ I h) λv s1 ⟨x,H1,I1,r1,q1⟩=>?_);obtain ⟨c,rfl,q1⟩:=q1;cases r1
  refine iq ?_;cases c with
  | false=>exact hb pins s1 σ H1 Q I1 q1
  | true=>exact ⟨.bl true,H1,I1,rfl,q1⟩
theorem Ll(ha:PE X a ta):PE X (.UnaryOp .Not a pos) (JB ta):=by
  intro pins s σ H Q I h;refine UnaryOp_ (thn (ha pins s σ H _ I h) λv s1 ⟨x,H1,I1,r1,q1⟩=>?_);obtain ⟨c,rfl,q1⟩:=q1;cases r1
  exact not_of (iq ⟨.bl (!c),H1,I1,rfl,q1⟩)
def tIf(t:TT)(ta tb:TE):TE:=λσ H Q=>t σ H λc H1=>if c=true then ta σ H1 Q else tb σ H1 Q
theorem uy(hc:PT X c tA)(ha:PE X a ta)(hb:PE X b tb):PE X (.IfExp c a b pos) (tIf tA ta tb):=by
  intro pins s σ H Q I h;refine wpAny_IfExp (thn (hc pins s σ H _ I h) λd s1 ⟨H1,I1,q1⟩=>?_);cases d with
  | true=>exact ha pins s1 σ H1 Q I1 q1
  | false=>exact hb pins s1 σ H1 Q I1 q1
end
def SqL(K:iL)(H:Hp)(a:Addr)(xs:List V):Prop :=
  Rd H a (.lst xs) \/
    ∃ (o:Obj) (its:Array Value) (n:Nat),K.lookup a=some o/\o.cls=.type "list"/\o.dict=none/\o.data=.seq its n/\its.size<=sizeLine/\Vals xs its.toList
def SqT(K:iL)(H:Hp)(a:Addr)(xs:List V):Prop :=
  Rd H a (.tup xs) \/
    ∃ (o:Obj) (its:Array Value) (n:Nat),K.lookup a=some o/\o.cls=.type "tuple"/\o.data=.seq its n/\its.size<=sizeLine/\Vals xs its.toList
def absV:Value->Option V
  | .none=>some .non
  | .bool b=>some (.bl b)
  | .int i _=>some (.int i)
  | .str x _=>some (.str x)
  | .bytes b _=>some (.byt b)
  | .float b _=>some (.flt b)
  | .ref a=>some (.ref a)
  | .type n=>some (.ty n)
  | _=>none
theorem RelV.abs{x:V}{u:Value}(r:RelV x u):absV u=some x:=by
  cases x with
  | non=>cases r; rfl
  | bl _=>cases r; rfl
  | int _=>obtain ⟨t,rfl⟩:=r; rfl
  | str _=>obtain ⟨t,rfl⟩:=r; rfl
  | byt _=>obtain ⟨t,rfl⟩:=r; rfl
  | flt _=>obtain ⟨t,rfl⟩:=r; rfl
  | ref _=>cases r; rfl
  | ty _=>cases r; rfl
theorem RelV.inj{x y:V}{u:Value}(r:RelV x u)(q:RelV y u):x=y:=ao (r.abs.symm.trans q.abs)
theorem Vals.inj:∀ {xs ys:List V} {us:List Value},Vals xs us->Vals ys us->xs=ys
  | _,_,_,.nil,.nil=>rfl
  | _,_,_,.cons r t,.cons r' t'=>by rw [r.inj r',Vals.inj t t']
section
variable {X:Cx}{pins:List (Addr×Obj)}{σ:St}{s:Shared}{xs ys:List V}
theorem SqL.of{K:iL}(h:H a=some (.lst xs)):SqL K H a xs:=.inl (.inl h)
theorem SqT.of{K:iL}(h:H a=some (.tup xs)):SqT K H a xs:=.inl (.inl h)
theorem Inv.list(I:Inv X pins σ H s)(h:SqL X.K H a xs):∃ its:List Value,Vals xs its/\PlainL s.heap a its.toArray/\xs.length<=sizeLine:=by
  rcases h with h|⟨o,its,n,hk,hc,hd,hs,hz,r⟩
  . obtain ⟨z,its,n,r,e⟩:=h.ok I.hok;exact ⟨its,r,⟨_,n,e,rfl,rfl,rfl⟩,z⟩
  . refine ⟨its.toList,r,⟨o,n,I.kIn a o hk,hc,hd,by simpa using hs⟩,?_⟩;have e:=r.length;simp only [dP] at e;omega
theorem Inv.tuple(I:Inv X pins σ H s)(h:SqT X.K H a xs):∃ its:List Value,Vals xs its/\IsTup s.heap a its.toArray/\xs.length<=sizeLine:=by
  rcases h with h|⟨o,its,n,hk,hc,hs,hz,r⟩
  . obtain ⟨z,its,r,p⟩:=h.ok I.hok;exact ⟨its,r,p,z⟩
  . refine ⟨its.toList,r,⟨o,I.kIn a o hk,hc,n,by simpa using hs⟩,?_⟩;have e:=r.length;simp only [dP] at e;omega
theorem Inv.list_inj(I:Inv X pins σ H s)(h:SqL X.K H a xs)(h':SqL X.K H a ys):xs=ys:=by
  obtain ⟨its,r,⟨o,n,e,_,_,d⟩,_⟩:=I.list h;obtain ⟨its',r',⟨o',n',e',_,_,d'⟩,_⟩:=I.list h';rw [e] at e'; cases e';rw [d] at d';injection d' with d1 _;have:its=its':=by simpa using congrArg Array.toList d1
  subst this;exact r.inj r'
theorem Inv.tuple_inj(I:Inv X pins σ H s)(h:SqT X.K H a xs)(h':SqT X.K H a ys):xs=ys:=by
  obtain ⟨its,r,⟨o,e,_,n,d⟩,_⟩:=I.tuple h;obtain ⟨its',r',⟨o',e',_,n',d'⟩,_⟩:=I.tuple h';rw [e] at e'; cases e';rw [d] at d';injection d' with d1 _;have:its=its':=by simpa using congrArg Array.toList d1
  subst this;exact r.inj r'
end
abbrev Cx.wish(X:Cx)(E:Value->Shared->Prop):Cx:={ X with xe:=E }
abbrev Cx.nox(X:Cx):Cx:=X.wish λ_ _=>False
theorem Cx.Ok.wish{X:Cx}(ok:X.Ok)(E:Value->Shared->Prop):(X.wish E).Ok :=
  ⟨ok.mod,ok.kind,ok.glob,ok.blt,ok.above,ok.inj,ok.has,ok.cab,ok.hd,ok.frames,ok.stk,ok.exf,ok.bs,ok.bsz,ok.noex,ok.exfs,ok.funs,ok.frf⟩
theorem Cx.Ok.unwish{X:Cx}(ok:(X.wish E).Ok):X.Ok :=
  ⟨ok.mod,ok.kind,ok.glob,ok.blt,ok.above,ok.inj,ok.has,ok.cab,ok.hd,ok.frames,ok.stk,ok.exf,ok.bs,ok.bsz,ok.noex,ok.exfs,ok.funs,ok.frf⟩
section
variable {X:Cx}{pins:List (Addr×Obj)}{σ:St}{s:Shared}{E:Value->Shared->Prop}
theorem Inv.wish(I:Inv X pins σ H s)(E:Value->Shared->Prop):Inv (X.wish E) pins σ H s:=⟨I.ok.wish E,I.os,I.bare,I.base,I.loc,I.cell,I.free,I.freeC,I.pin,I.hok,I.len⟩
theorem Inv.unwish(I:Inv (X.wish E) pins σ H s):Inv X pins σ H s:=⟨I.ok.unwish,I.os,I.bare,I.base,I.loc,I.cell,I.free,I.freeC,I.pin,I.hok,I.len⟩
theorem SP.unwish{D:Ends}{f:Flow}{s':Shared}(h:SP (X.wish E) pins D f s'):SP X pins D f s':=by
  cases f with
  | next=>obtain ⟨σ',H',I,q⟩:=h; exact ⟨σ',H',I.unwish,q⟩
  | brk=>obtain ⟨σ',H',I,q⟩:=h; exact ⟨σ',H',I.unwish,q⟩
  | cont=>obtain ⟨σ',H',I,q⟩:=h; exact ⟨σ',H',I.unwish,q⟩
  | ret u=>obtain ⟨v,σ',H',I,r,q⟩:=h; exact ⟨v,σ',H',I.unwish,r,q⟩
theorem PSs.nox{st:List Stmt}{t:TS}(h:PSs X.nox st t):PSs X st t:=λpins s σ H D I hw =>
  ip (h pins s σ H D (I.wish _) hw) (λ_ _ q=>q.unwish) λ_ _ z=>False.elim z
end
variable {tc:TT}
section
variable {X:Cx}{st:Stmt}{rest:List Stmt}{t u:TS}{e:Expr}{te:TE}{pos:Pos}
def Kv:TS:=λD σ H=>D.nx σ H
def tSeq(t u:TS):TS:=λD σ H=>t { D with nx:=u D } σ H
theorem zn:PSs X [] Kv:=λ_ _ σ H _ I h=>ir ⟨σ,H,I,h⟩
theorem za(h1:PS X st t)(h2:PSs X rest u):PSs X (st::rest) (tSeq t u):=by
  intro pins s σ H D I h;refine wpAny_execs_cons (thn (h1 pins s σ H { D with nx:=u D } I h) λf s1 q=>?_);cases f with
  | next =>
    obtain ⟨σ',H',I',q⟩:=q;exact h2 pins s1 σ' H' D I' q
  | ret v=>exact q
  | brk=>exact q
  | cont=>exact q
theorem zd(h1:PS X st t):PSs X [st] t:=by
  intro pins s σ H D I h;refine wpAny_execs_cons (thn (h1 pins s σ H D I h) λf s1 q=>?_);cases f with
  | next=>exact ir q
  | ret v=>exact q
  | brk=>exact q
  | cont=>exact q
theorem Inv.quiet{σ:St}{s:Shared}(I:Inv X pins σ H s):interactive X.env=false:=by simp [interactive,I.ok.kind]
def JQ(te:TE):TS:=λD σ H=>te σ H λ_ H1=>D.nx σ H1
theorem zH(he:PE X e te)(hs:swapsWith e none pos.line X.env=pure false:=by rfl):PS X (.Expr e pos) (JQ te):=by
  intro pins s σ H D I h;exact wpAny_Expr_any (thn (he pins s σ H _ I h) λv s1 ⟨x,H1,I1,r1,q1⟩=>⟨σ,H1,I1,q1⟩) I.quiet hs
def tRet(te:TE):TS:=λD σ H=>te σ H D.rt
theorem zi(he:PE X e te):PS X (.Return (some e) pos) (tRet te):=by
  intro pins s σ H D I h;exact wpAny_Return_some (thn (he pins s σ H _ I h) λv s1 ⟨x,H1,I1,r1,q1⟩=>⟨x,σ,H1,I1,r1,q1⟩)
def tIfS(c:TT)(t u:TS):TS:=λD σ H=>c σ H λb H1=>if b=true then t D σ H1 else u D σ H1
theorem zu{a b:List Stmt}(hc:PT X c tc)(ha:PSs X a t)(hb:PSs X b u):PS X (.If c a b pos) (tIfS tc t u):=by
  intro pins s σ H D I h;refine wpAny_If (thn (hc pins s σ H _ I h) λd s1 ⟨H1,I1,q1⟩=>?_);cases d with
  | true=>exact ha pins s1 σ H1 D I1 q1
  | false=>exact hb pins s1 σ H1 D I1 q1
def HF:TS:=λ_ _ _=>False
theorem yv:PS X st HF:=λ_ _ _ _ _ _ h=>h.elim
theorem FA{sts:List Stmt}:PSs X sts HF:=λ_ _ _ _ _ _ h=>h.elim
end
abbrev TG:=V->St->Hp->(St->Hp->Prop)->Prop
abbrev TGs:=List V->St->Hp->(St->Hp->Prop)->Prop
def PG(X:Cx)(target:Expr)(t:TG):Prop :=
  ∀ (pins:List (Addr×Obj)) (s:Shared) (σ:St) (H:Hp) (v:V) (u:Value) (Q:St->Hp->Prop),Inv X pins σ H s->RelV v u->t v σ H Q ->
    wpAny (model X.prog X.w) X.A (assign target X.env u) (λ_ s'=>∃ σ' H',Inv X pins σ' H' s'/\Q σ' H') X.xe s
def PGs(X:Cx)(ts:List Expr)(t:TGs):Prop :=
  ∀ (pins:List (Addr×Obj)) (s:Shared) (σ:St) (H:Hp) (vs:List V) (us:List Value) (Q:St->Hp->Prop),Inv X pins σ H s->Vals vs us->t vs σ H Q ->
    wpAny (model X.prog X.w) X.A (assignInOrder ((assignEach ts X.env).map (·.2)) us) (λ_ s'=>∃ σ' H',Inv X pins σ' H' s'/\Q σ' H') X.xe s
variable {es:List Expr}{ta:TA}
section
variable {X:Cx}{pos:Pos}
def Di(i:Nat):TG:=λv σ H Q=>Q (σ.set i (some v)) H
variable {x:Str}
theorem Jm{i:Nat}(hN:X.N.Nodup)(hi:X.N[i]?=some x)(hx:Loc X.env.scope x)(hf:X.fn x=true\/X.env.scope.names.lookup x=some .local:=by first | exact .inl rfl | exact .inr rfl | assumption):PG X (.Name x pos) (Di i):=by
  intro pins s σ H v u Q I r h;exact wpAny_assign_Name (xH I hN hi hx r (λs' I'=>⟨_,H,I',h⟩) hf)
def gNil:TGs:=λvs σ H Q=>vs=[]/\Q σ H
def Kc(t:TG)(u:TGs):TGs:=λvs σ H Q=>∃ v r,vs=v::r/\t v σ H λσ' H'=>u r σ' H' Q
theorem xQ:PGs X [] gNil:=by
  intro pins s σ H vs us Q I r h;obtain ⟨e,h⟩:=h;subst e;cases r
  exact assignInOrder_nil ⟨σ,H,I,h⟩
variable {e:Expr}
theorem zU{t:TG}{u:TGs}(h1:PG X e t)(h2:PGs X es u)(hs:(assignEach (e::es) X.env).map (·.2)=assign e X.env::(assignEach es X.env).map (·.2):=by rfl):PGs X (e::es) (Kc t u):=by
  intro pins s σ H vs us Q I r h;obtain ⟨v,vr,e1,h⟩:=h;subst e1;cases r with
  | cons r rr =>
    rw [hs];refine iu (thn (h1 pins s σ H _ _ _ I r h) λ_ s1 ⟨σ1,H1,I1,q1⟩=>?_);exact h2 pins s1 σ1 H1 _ _ Q I1 rr q1
def gTup(K:iL)(n:Nat)(t:TGs):TG:=λv σ H Q=>∃ a xs,v=.ref a/\SqT K H a xs/\xs.length=n/\t xs σ H Q
theorem vY{k:Nat}{t:TGs}{n:Nat}(hc:X.calm=true)(h:PGs X es t)(hn:(assignEach es X.env).length=n:=by rfl)(hst:(assignEach es X.env).findIdx? (·.1)=none:=by rfl):PG X (.Tuple es k pos) (gTup X.K n t):=by
  intro pins s σ H v u Q I r hw;obtain ⟨a,xs,e1,hq,hl,hw⟩:=hw;subst e1;cases r
  obtain ⟨its,rv,ht,hz⟩:=I.tuple hq;refine assign_Tuple_tuple (I.ok.hd hc) ht (by simp [hn,<-hl,rv.length]) hst λh' hx=>?_;have I1:Inv X pins σ H { s with heap:=h' }:=I.kept (t':=s.toks) λb o e=>hx b o (aP (Heap.lt_size e)) e;exact h pins _ σ H xs _ Q I1 (by simpa using rv) hw
def tAsg(te:TE)(g:TG):TS:=λD σ H=>te σ H λx H1=>g x σ H1 D.nx
theorem Lk{i:Nat}{te:TE}{pos':Pos}(hN:X.N.Nodup)(hi:X.N[i]?=some x)(hx:Loc X.env.scope x)(he:PE X e te)(hs:swapsWith e (some (.Name x pos')) pos.line X.env=pure false:=by rfl)(hf:X.fn x=true\/X.env.scope.names.lookup x=some .local:=by first | exact .inl rfl | exact .inr rfl | assumption) :
    PS X (.Assign [.Name x pos'] e pos) (tAsg te (Di i)):=by
  intro pins s σ H D I h;refine wpAny_Assign_Name (thn (he pins s σ H _ I h) λv s1 ⟨y,H1,I1,r1,q1⟩=>?_) hs;exact xH I1 hN hi hx r1 (λs2 I2=>⟨_,H1,I2,q1⟩) hf
def tPar(i j:Nat)(ta:TA):TS:=λD σ H=>ta σ H λvs H1=>∃ v w,vs=[v,w]/\D.nx ((σ.set i (some v)).set j (some w)) H1
theorem KR{i j:Nat}{y:Str}{a b:Expr}{px py pt:Pos}{kt k2 pt2}(hc:X.calm=true)(hN:X.N.Nodup)(hi:X.N[i]?=some x)(hj:X.N[j]?=some y)(hij:i≠j)(hx:X.env.scope.names.lookup x=some .local)(hy:X.env.scope.names.lookup y=some .local)(ha:PA X [a,b] ta)(hw:swappedStores [.Tuple [.Name x px,.Name y py] kt pt] (.Tuple [a,b] k2 pt2) X.env=pure (some [x,y]))(hs:swapsWithSole [.Tuple [.Name x px,.Name y py] kt pt] (.Tuple [a,b] k2 pt2) pos.line X.env=pure false:=by rfl) :
    PS X (.Assign [.Tuple [.Name x px,.Name y py] kt pt] (.Tuple [a,b] k2 pt2) pos) (tPar i j ta):=by
  intro pins s σ H D I h;rw [exec_Assign_arm];refine iw (wpAny_standAt ?_);rw [hs];refine iw (iA ?_);rw [io (by decide)];refine iw (Tuple_ (thn (ha _ pins s σ H _ I h) λus s1 ⟨vs,H1,I1,r1,q1⟩=>?_));obtain ⟨v,w,e1,q1⟩:=q1;subst e1;obtain ⟨u1,u2,rfl,rv,rw'⟩:∃ u1 u2,us=[u1,u2]/\RelV v u1/\RelV w u2:=by
    cases r1 with
    | cons p q =>
      cases q with
      | cons p' q' =>
        cases q'
        exact ⟨_,_,rfl,p,p'⟩
  refine iB ?_ (by show 2<=sizeLine; decide);have I2:Inv X pins σ H1 { s1 with heap:=s1.heap.push { cls:=.type "tuple",data:=.seq [u1,u2].toArray } }:=I1.kept (t':=s1.toks) λb o e=>Heap.get?_push_of_some _ e;rw [hw];refine iw (iA ?_);show wpAny (model X.prog X.w) X.A (do rule "assign.swapped-stores"; let items <-unpackItems (.ref s1.heap.objs.size) 2 none; assignInOrder [λv=>bindName X.env y v,λv=>bindName X.env x v] items.reverse; pure Flow.next) _ _ _;refine iw (wpAny_rule (iw (unpackItems_tuple (items:=#[u1,u2]) (I.ok.hd hc) (IsTup.new s1.heap _) λh' hx'=>?_)));have I3:=I2.kept (h':=h') (t':=s1.toks) λb o e=>hx' b o (aP (Heap.lt_size e)) e;show wpAny _ _ (assignInOrder [λv=>bindName X.env y v,λv=>bindName X.env x v] [u2,u1] >>= λ_=>pure Flow.next) _ _ _;refine iw (iu (wpAny_bindName (xH I3 hN hj (.inl hy) rw' (λs2 I4=>?_) (.inr hy))));refine iu (wpAny_bindName (xH I4 hN hi (.inl hx) rv (λs3 I5=>assignInOrder_nil (iA ?_)) (.inr hx)));rw [List.set_comm _ _ (bZ hij)] at I5;exact ⟨_,H1,I5,q1⟩
end
variable {body:List Stmt}
section
variable {X:Cx}{pos:Pos}
def B2(c:TT)(tb:TS):TS:=λD σ H=>∃ W:Nat->St->Hp->Prop,(∃ m,W m σ H)/\∀ m σ H,W m σ H ->
  c σ H λb H1=>if b=true then ∃ N:St->Hp->Prop,(∀ σ' H',N σ' H'->∃ m',m'<m/\W m' σ' H')/\tb { D with nx:=N,ct:=N,bk:=D.nx } σ H1 else D.nx σ H1
theorem xK{tb:TS}(hp:PassesOwn (model X.prog X.w) X.A X.env X.xe)(hc:PT X c tc)(hb:PSs X body tb):PS X (.While c body [] pos) (B2 tc tb):=by
  intro pins s σ H D I h;obtain ⟨W,⟨m0,w0⟩,turn⟩:=h;refine wpAny_While (codeAny_whileLoop (λn s'=>∃ σ' H',Inv X pins σ' H' s'/\W n σ' H') ?_ m0 ⟨σ,H,I,w0⟩);rintro n s1 ⟨σ1,H1,I1,w1⟩;refine iC hp (thn (hc pins s1 σ1 H1 _ I1 (turn n σ1 H1 w1)) λb s2 ⟨H2,I2,q2⟩=>?_);cases b with
  | true =>
    obtain ⟨N,hN,q2⟩:=q2;rw [im rfl];refine iC hp (thn (hb pins s2 σ1 H2 _ I2 q2) λf s3 q3=>?_);cases f with
    | next =>
      obtain ⟨σ3,H3,I3,n3⟩:=q3;obtain ⟨m',hm,w3⟩:=hN σ3 H3 n3;exact ⟨m',hm,σ3,H3,I3,w3⟩
    | cont =>
      obtain ⟨σ3,H3,I3,n3⟩:=q3;obtain ⟨m',hm,w3⟩:=hN σ3 H3 n3;exact ⟨m',hm,σ3,H3,I3,w3⟩
    | brk=>exact q3
    | ret v=>exact q3
  | false =>
    rw [io aJ];exact ir ⟨σ1,H2,I2,q2⟩
end
structure It where
  go:Nat->Hp->Prop
  yld:Nat->Hp->V->Hp->Prop
  stop:Nat->Hp->Prop
def FpOk(X:Cx)(pins:List (Addr×Obj))(H:Hp)(b:Addr):Prop :=
  H b=none/\b≠X.env.locals/\b∉X.fs/\(b∈X.ex\/X.s₀.heap.objs.size<=b)/\(∀ x c,X.env.cells.lookup x=some c->c≠b)/\∀ p∈X.pn++pins,p.1≠b
theorem Inv.fpOk{X:Cx}{σ:St}{s:Shared}{b:Addr}(I:Inv X pins σ H s)(hb:s.heap.objs.size<=b)(hn:H' b=none):FpOk X pins H' b:=by
  refine ⟨hn,gW (aI I.lt hb),I.nofs hb,.inr (bW I.sz hb),λx c e z=>?_,λp hp z=>?_⟩
  . obtain ⟨v,q⟩:=I.cell x c e;exact absurd (aI q.lt (by rw [z]; exact hb)) (du _)
  . exact absurd (aI (Heap.lt_size (I.pin p hp).1) (by rw [z]; exact hb)) (du _)
structure Turn(P:Program)(w:World)(K:iL)(tg:Expr)(J:It)(fp:List Addr)(it:Addr)(tn:Nat->Heap->Prop):Prop where
  mem:it∈fp
  obj:∀ i h,tn i h->∀ b∈fp,∃ o,h.get? b=some o/\∀ v,o.data≠.cell v
  keep:∀ i h h',tn i h->(∀ b∈fp,∀ o,h.get? b=some o->h'.get? b=some o)->tn i h'
  item:∀ (X:Cx),X.prog=P->X.w=w->X.K=K->X.calm=true->∀ (i:Nat) (pins:List (Addr×Obj)) (s:Shared) (σ:St) (H:Hp) (E:Value->Shared->Prop),Inv X pins σ H s->(∀ b∈fp,FpOk X pins H b)->tn i s.heap->J.go i H ->
    wpAny (model P w) X.A (pyNext (.ref it)) (λr s1=>∃ u,r=some u /\
      wpAny (model P w) X.A (letOwnedTupleGo tg (.ref it) u) (λ_ s2=>∃ x H',Inv X pins σ H' s2/\RelV x u/\J.yld i H x H'/\tn (i+1) s2.heap/\∀ b∈fp,H' b=none) E s1) E s
  done:∀ (X:Cx),X.prog=P->X.w=w->X.K=K->X.calm=true->∀ (i:Nat) (pins:List (Addr×Obj)) (s:Shared) (σ:St) (H:Hp) (E:Value->Shared->Prop),Inv X pins σ H s->(∀ b∈fp,FpOk X pins H b)->tn i s.heap->J.stop i H ->
    wpAny (model P w) X.A (pyNext (.ref it)) (λr s1=>r=none/\Inv X pins σ H s1) E s
  self:∀ (A:Around) (i:Nat) (s:Shared) (Q:Value->Shared->Prop) (E:Value->Shared->Prop),tn i s.heap->Q (.ref it) s->wpAny (model P w) A (pyIter (.ref it)) Q E s
abbrev TI:=St->Hp->(It->Hp->Prop)->Prop
def PIE(X:Cx)(pins:List (Addr×Obj))(σ:St)(tg:Expr)(R:It->Hp->Prop)(itv:Value)(s2:Shared):Prop :=
  ∃ (it:Addr) (fp:List Addr) (tn:Nat->Heap->Prop) (J:It) (H':Hp),itv=.ref it/\Inv X pins σ H' s2/\Turn X.prog X.w X.K tg J fp it tn/\tn 0 s2.heap/\(∀ b∈fp,FpOk X pins H' b)/\R J H'
def PI(X:Cx)(tg iter:Expr)(wi:TI):Prop :=
  ∀ (pins:List (Addr×Obj)) (s:Shared) (σ:St) (H:Hp) (R:It->Hp->Prop),Inv X pins σ H s->wi σ H R ->
    wpAny (model X.prog X.w) X.A (eval iter X.env) (λv s1=>wpAny (model X.prog X.w) X.A (pyIter v) (PIE X pins σ tg R) X.xe s1) X.xe s
theorem Fz{A:Around}{s:Shared}{tg:Expr}{u:Value}{o:Obj}{n:String}{vs:Array Value}{Q:Unit->Shared->Prop}(ho:s.heap.get? it=some o)(hc:o.cls=.type n)(hd:o.data=.fields vs)(hn:["enumerate","zip","dict_itemiterator","dict_reverseitemiterator","odict_iterator","itertools.zip_longest","itertools.pairwise"].contains n=false)(hQ:Q () s):wpAny M A (letOwnedTupleGo tg (.ref it) u) Q E s:=by
  unfold letOwnedTupleGo;cases tg <;> first
    | exact iA hQ
    | (cases u <;> first
        | exact iA hQ
        | (refine iw (wpAny_load ho ?_)
           rw [hc,hd];show wpAny M A (if (["enumerate","zip","dict_itemiterator","dict_reverseitemiterator","odict_iterator","itertools.zip_longest","itertools.pairwise"].contains n && vs[0]?==some (rawInt _))=true then _ else _) Q E s;rw [io (by intro h; rw [hn,Bool.false_and] at h; cases h)];exact iA hQ))
def Itl(K:iL)(a:Addr):It :=
  ⟨λi H=>∃ xs x,SqL K H a xs/\xs[i]?=some x,λi H x H'=>H'=H/\∀ xs,SqL K H a xs->xs[i]?=some x,λi H=>∃ xs,SqL K H a xs/\xs.length<=i⟩
def Itt(K:iL)(a:Addr):It :=
  ⟨λi H=>∃ xs x,SqT K H a xs/\xs[i]?=some x,λi H x H'=>H'=H/\∀ xs,SqT K H a xs->xs[i]?=some x,λi H=>∃ xs,SqT K H a xs/\xs.length<=i⟩
def Itr(lo:Int)(n:Nat):It:=⟨λi _=>i<n,λi H x H'=>H'=H/\x=.int (lo+i),λi _=>n<=i⟩
theorem Ek{K:iL}{tg:Expr}(a it:Addr):Turn P w K tg (Itl K a) [it] it (λi h=>h.IsListIter it a i) where
  mem:=by simp
  obj:=λi h st b hb=>by
    have e:b=it:=by simpa using hb
    subst e;obtain ⟨o,e,c,d⟩:=st;exact ⟨o,e,λv z=>by rw [d] at z; cases z⟩
  keep:=λi h h' st k=>st.at λo e=>k it (!1) o e
  item:=by
    intro X hP hw hK hc i pins s σ H E I hf st hg;subst hP hw hK;obtain ⟨xs,x,hq,hx⟩:=hg;obtain ⟨its,rv,p,hz⟩:=I.list hq;obtain ⟨u,hu,ru⟩:=rv.get hx;obtain ⟨f0,f1,f2,f3,f4,f5⟩:=hf it (!1);refine wpAny_pyNext_list_item st p.isList (x:=u) (by simpa using hu) λh' st' sb=>?_;have I1:Inv X pins σ H { s with heap:=h' }:=I.turned (t':=s.toks) (λb o hb e=>(sb.2 b hb).trans e) f0 f1 f3 f4 f5;obtain ⟨o,e,c,d⟩:=id st';exact ⟨u,rfl,Fz (s:={ s with heap:=h' }) e c d (by decide) ⟨x,H,I1,ru,⟨rfl,λys hy=>by rw [I.list_inj hy hq]; exact hx⟩,st',λb hb=>(hf b hb).1⟩⟩
  done:=by
    intro X hP hw hK hc i pins s σ H E I hf st hg;subst hP hw hK;obtain ⟨xs,hq,hx⟩:=hg;obtain ⟨its,rv,p,hz⟩:=I.list hq;obtain ⟨f0,f1,f2,f3,f4,f5⟩:=hf it (!1);have hl:=rv.length;exact wpAny_pyNext_list_end (I.ok.hd hc) st p.isList (by simp; omega) λh' eb=>⟨rfl,I.turned (t':=s.toks) (λb o hb e=>eb b o hb e) f0 f1 f3 f4 f5⟩
  self:=λ_ _ _ _ _ st h=>wpAny_pyIter_listiter st h
theorem Ct{K:iL}{tg:Expr}(a it:Addr):Turn P w K tg (Itt K a) [it] it (λi h=>h.IsTupleIter it a i) where
  mem:=by simp
  obj:=λi h st b hb=>by
    have e:b=it:=by simpa using hb
    subst e;obtain ⟨o,e,c,d⟩:=st;exact ⟨o,e,λv z=>by rw [d] at z; cases z⟩
  keep:=λi h h' st k=>st.at λo e=>k it (!1) o e
  item:=by
    intro X hP hw hK hc i pins s σ H E I hf st hg;subst hP hw hK;obtain ⟨xs,x,hq,hx⟩:=hg;obtain ⟨its,rv,p,hz⟩:=I.tuple hq;obtain ⟨u,hu,ru⟩:=rv.get hx;obtain ⟨f0,f1,f2,f3,f4,f5⟩:=hf it (!1);refine wpAny_pyNext_tuple_item st (show s.heap.IsTuple a its.toArray from p) (x:=u) (by simpa using hu) λh' st' sb=>?_;have I1:Inv X pins σ H { s with heap:=h' }:=I.turned (t':=s.toks) (λb o hb e=>(sb.2 b hb).trans e) f0 f1 f3 f4 f5;obtain ⟨o,e,c,d⟩:=id st';exact ⟨u,rfl,Fz (s:={ s with heap:=h' }) e c d (by decide) ⟨x,H,I1,ru,⟨rfl,λys hy=>by rw [I.tuple_inj hy hq]; exact hx⟩,st',λb hb=>(hf b hb).1⟩⟩
  done:=by
    intro X hP hw hK hc i pins s σ H E I hf st hg;subst hP hw hK;obtain ⟨xs,hq,hx⟩:=hg;obtain ⟨its,rv,p,hz⟩:=I.tuple hq;obtain ⟨f0,f1,f2,f3,f4,f5⟩:=hf it (!1);have hl:=rv.length;exact wpAny_pyNext_tuple_end (I.ok.hd hc) st (show s.heap.IsTuple a its.toArray from p) (by simp; omega) λh' eb=>⟨rfl,I.turned (t':=s.toks) (λb o hb e=>eb b o hb e) f0 f1 f3 f4 f5⟩
  self:=λ_ _ _ _ _ st h=>wpAny_pyIter_tupleiter st h
theorem CF{K:iL}{tg:Expr}(it:Addr)(lo:Int)(n:Nat):Turn P w K tg (Itr lo n) [it] it (λi h=>IsRangeIter h it (lo+(i:Nat)*1) ((n:Int) - (i:Nat)) 1) where
  mem:=by simp
  obj:=λi h st b hb=>by
    have e:b=it:=by simpa using hb
    subst e;exact ⟨_,st,λv z=>by
      have z':Data.fields _=Data.cell v:=z;cases z'⟩
  keep:=λi h h' st k=>k it (!1) _ st
  item:=by
    intro X hP hw hK hc i pins s σ H E I hf st hg;subst hP hw hK;obtain ⟨f0,f1,f2,f3,f4,f5⟩:=hf it (!1);have W:=Walks.range (prog:=X.prog) (w:=X.w) (I.ok.hd hc) it lo 1 n;refine W.item i s _ _ hg st λv h' tk hv st' kk=>?_;obtain ⟨t,rfl⟩:=hv;have I1:Inv X pins σ H { s with heap:=h',toks:=tk }:=I.turned (λb o hb e=>kk b o (by simpa using hb) e) f0 f1 f3 f4 f5;refine ⟨_,rfl,Fz (s:={ s with heap:=h',toks:=tk }) (n:="range_iterator") st' rfl rfl (by decide) ⟨.int (lo+i),H,I1,⟨t,?_⟩,⟨rfl,rfl⟩,st',λb hb=>(hf b hb).1⟩⟩;rw [df]
  done:=by
    intro X hP hw hK hc i pins s σ H E I hf st hg;subst hP hw hK;obtain ⟨f0,f1,f2,f3,f4,f5⟩:=hf it (!1);exact wpAny_pyNext_range_end (I.ok.hd hc) st (by have:n<=i:=hg; omega) λh' eb=>⟨rfl,I.turned (t':=s.toks) (λb o hb e=>eb b o hb e) f0 f1 f3 f4 f5⟩
  self:=λ_ _ _ _ _ st h=>wpAny_pyIter_rangeiter st h
variable {X:Cx}{tg:Expr}
def IQ(K:iL)(tl:TE):TI:=λσ H R=>tl σ H λx H1=>∃ a,x=.ref a/\(∃ xs,SqL K H1 a xs)/\R (Itl K a) H1
def iTup(K:iL)(tl:TE):TI:=λσ H R=>tl σ H λx H1=>∃ a,x=.ref a/\(∃ xs,SqT K H1 a xs)/\R (Itt K a) H1
variable {l:Expr}{tl:TE}
theorem zJ(hl:PE X l tl):PI X tg l (IQ X.K tl):=by
  intro pins s σ H R I h;refine thn (hl pins s σ H _ I h) λv s1 ⟨x,H1,I1,r1,q1⟩=>?_;obtain ⟨a,e,⟨xs,hq⟩,q⟩:=q1;subst e;cases r1
  obtain ⟨its,rv,p,hz⟩:=I1.list hq;refine iD p.isList ?_;refine ⟨s1.heap.objs.size,[s1.heap.objs.size],_,_,H1,rfl,I1.kept (t':=s1.toks) λb o e=>Heap.get?_push_of_some _ e,Ek a _,⟨_,Heap.get?_push_size _ rfl,rfl,rfl⟩,λb hb=>?_,q⟩;have e:b=s1.heap.objs.size:=by simpa using hb
  subst e;exact I1.fpOk (ag _) (I1.hok.fresh (ag _))
theorem Hr(hl:PE X l tl):PI X tg l (iTup X.K tl):=by
  intro pins s σ H R I h;refine thn (hl pins s σ H _ I h) λv s1 ⟨x,H1,I1,r1,q1⟩=>?_;obtain ⟨a,e,⟨xs,hq⟩,q⟩:=q1;subst e;cases r1
  obtain ⟨its,rv,p,hz⟩:=I1.tuple hq;refine wpAny_pyIter_tuple (show s1.heap.IsTuple a its.toArray from p) ?_;refine ⟨s1.heap.objs.size,[s1.heap.objs.size],_,_,H1,rfl,I1.kept (t':=s1.toks) λb o e=>Heap.get?_push_of_some _ e,Ct a _,⟨_,Heap.get?_push_size _ rfl,rfl,rfl⟩,λb hb=>?_,q⟩;have e:b=s1.heap.objs.size:=by simpa using hb
  subst e;exact I1.fpOk (ag _) (I1.hok.fresh (ag _))
variable {lo:Int}
theorem BX{σ:St}{s:Shared}{R:It->Hp->Prop}{hi:Int}{t u v:Tok}{tk:Nat}(I:Inv X pins σ H s)(h1:-(2 ^ 62)<=lo)(h2:lo<2 ^ 62)(h3:-(2 ^ 62)<=hi)(h4:hi<2 ^ 62)(q:R (Itr lo (hi - lo).toNat) H):wpAny (model X.prog X.w) X.A (pyIter (.ref s.heap.objs.size)) (PIE X pins σ tg R) E { s with heap:=s.heap.push { cls:=.type "range",data:=.fields #[.int lo t,.int hi u,.int 1 v] },toks:=tk }:=by
  refine wpAny_pyIter_range (IsRange.new ..) (small_one h1 h2 h3 h4) ?_;have I1:Inv X pins σ H { s with heap:=s.heap.push { cls:=.type "range",data:=.fields #[.int lo t,.int hi u,.int 1 v] },toks:=tk }:=I.kept λb o e=>Heap.get?_push_of_some _ e;refine ⟨(s.heap.push { cls:=.type "range",data:=.fields #[.int lo t,.int hi u,.int 1 v] }).objs.size,[(s.heap.push { cls:=.type "range",data:=.fields #[.int lo t,.int hi u,.int 1 v] }).objs.size],_,_,H,rfl,
    I1.kept (t':=tk) λb o e=>Heap.get?_push_of_some _ e,CF _ lo (hi - lo).toNat,?_,λb hb=>?_,q⟩
  . have e1:lo+((0:Nat):Int)*1=lo:=by simp
    have e2:(((hi - lo).toNat:Nat):Int) - ((0:Nat):Int)=Builtin.Range.rangeSize lo hi 1:=by rw [rangeSize_one]; split <;> omega
    show IsRangeIter _ _ (lo+((0:Nat):Int)*1) ((((hi - lo).toNat:Nat):Int) - ((0:Nat):Int)) 1;rw [e1,e2];exact Heap.get?_push_size _ rfl
  . have e:b=(s.heap.push { cls:=.type "range",data:=.fields #[.int lo t,.int hi u,.int 1 v] }).objs.size:=by simpa using hb
    subst e;exact I1.fpOk (ag _) (I1.hok.fresh (ag _))
def Il(ta:TA):TI:=λσ H R=>ta σ H λvs H1=>∃ j:Int,vs=[.int j]/\-(2 ^ 62)<=j/\j<2 ^ 62/\R (Itr 0 j.toNat) H1
def Iz(ta:TA):TI:=λσ H R=>ta σ H λvs H1=>∃ i j:Int,vs=[.int i,.int j]/\(-(2 ^ 62)<=i/\i<2 ^ 62/\-(2 ^ 62)<=j/\j<2 ^ 62)/\R (Itr i (j - i).toNat) H1
theorem xa{a:Expr}{p pos:Pos}(hg:Gl X "range")(hm:X.mg "range"=none)(ha:PA X [a] ta)(hs:starEach [a] X.env=[(false,eval a X.env)]:=by rfl):PI X tg (.Call (.Name "range" p) [a] [] pos) (Il ta):=by
  intro pins s σ H R I h;refine Call_ (wB I hg hm boot_range (b7 (thn (ha pos pins s σ H _ I h) λus s1 ⟨vs,H1,I1,r1,q1⟩=>?_) hs rfl));obtain ⟨j,e,q1,q2,q⟩:=q1;subst e;cases r1 with
  | cons r rr =>
    cases rr
    obtain ⟨t,rfl⟩:=r;exact call_range_1 (BX I1 (by omega) (by omega) q1 q2 (by simpa using q))
theorem xN{a b:Expr}{p pos:Pos}(hg:Gl X "range")(hm:X.mg "range"=none)(ha:PA X [a,b] ta)(hs:starEach [a,b] X.env=[(false,eval a X.env),(false,eval b X.env)]:=by rfl)(hs2:starEach [b] X.env=[(false,eval b X.env)]:=by rfl) :
    PI X tg (.Call (.Name "range" p) [a,b] [] pos) (Iz ta):=by
  intro pins s σ H R I h;refine Call_ (wB I hg hm boot_range (b7 (thn (ha pos pins s σ H _ I h) λus s1 ⟨vs,H1,I1,r1,q1⟩=>?_) (by rw [hs,hs2]) (by rw [hs2]; rfl)));obtain ⟨i,j,e,⟨q1,q2,q3,q4⟩,q⟩:=q1;subst e;cases r1 with
  | cons r rr =>
    cases rr with
    | cons r' rr =>
      cases rr
      obtain ⟨t,rfl⟩:=r;obtain ⟨t',rfl⟩:=r';exact call_range_2 (BX I1 q1 q2 q3 q4 q)
def tFor(wi:TI)(g:TG)(tb:TS):TS:=λD σ H=>wi σ H λJ H1=>∃ W:Nat->Nat->St->Hp->Prop,(∃ m,W 0 m σ H1)/\∀ i m σ H,W i m σ H ->
  (J.stop i H/\D.nx σ H)\/(J.go i H/\∃ N:St->Hp->Prop,(∀ σ' H',N σ' H'->∃ m',m'<m/\W (i+1) m' σ' H')/\∀ x H',J.yld i H x H'->g x σ H' λσ2 H2=>tb { D with nx:=N,ct:=N,bk:=D.nx } σ2 H2)
def Ai(fp:List Addr)(h:Heap):List (Addr×Obj):=fp.filterMap λb=>(h.get? b).map λo=>(b,o)
variable {fp:List Addr}
theorem xl{b:Addr}{o:Obj}(hb:b∈fp)(e:h.get? b=some o):(b,o)∈Ai fp h:=fK.mpr ⟨b,hb,by rw [e]; rfl⟩
theorem DN{p:Addr×Obj}(hp:p∈Ai fp h):p.1∈fp/\h.get? p.1=some p.2:=by
  obtain ⟨b,hb,e⟩:=fK.mp hp;cases q:h.get? b with
  | none=>rw [q] at e; cases e
  | some o =>
    rw [q] at e;have e':(b,o)=p:=ao e;subst e';exact ⟨hb,q⟩
theorem Inv.pinned{σ:St}{s:Shared}(I:Inv X pins σ H s)(hf:∀ b∈fp,FpOk X pins H b)(ho:∀ b∈fp,∃ o,s.heap.get? b=some o/\∀ v,o.data≠.cell v):Inv X (pins++Ai fp s.heap) σ H s :=
  I.pins_of λp hp=>(aB.mp hp).elim (λz=>I.pin p (a7 _ z)) λz=>by
    obtain ⟨hb,e⟩:=DN z;obtain ⟨f0,f1,f2,_⟩:=hf p.1 hb;obtain ⟨o,e',d⟩:=ho p.1 hb;rw [e] at e'; cases e';exact ⟨e,f0,f1,f2,d⟩
theorem Inv.unpinned{pl:List (Addr×Obj)}{σ:St}{s:Shared}(I:Inv X (pins++pl) σ H s):Inv X pins σ H s:=I.pins_of λp hp=>I.pin p (a7 _ (bP _ hp))
variable {g:TG}
theorem zQ{iter:Expr}{wi:TI}{tb:TS}{pos:Pos}(hp:PassesOwn (model X.prog X.w) X.A X.env X.xe)(hc:X.calm=true)(hi:PI X tg iter wi)(hg:PG X tg g)(hb:PSs X body tb)(hs:∀ x,foldedSetIterable iter X.env x=pure x:=by intro _; rfl):PS X (.For tg iter body [] pos) (tFor wi g tb):=by
  intro pins s σ H D I h;refine wpAny_For (thn (hi pins s σ H _ I h) λv s1 h1=>thn h1 λitv s2 h2=>?_) hs;obtain ⟨it,fp,tn,J,H2,e,I2,T,st2,f2,W,⟨m0,w0⟩,turn⟩:=h2;subst e;have stat:∀ {H':Hp},(∀ b∈fp,H' b=none)->∀ b∈fp,FpOk X pins H' b:=λhn b hb=>⟨hn b hb,(f2 b hb).2⟩
  refine codeAny_forLoop_any (λn s'=>∃ i σ' H',Inv X pins σ' H' s'/\tn i s'.heap/\(∀ b∈fp,H' b=none)/\W i n σ' H') ?_ m0 ⟨0,σ,H2,I2,st2,λb hb=>(f2 b hb).1,w0⟩;rintro n s3 ⟨i,σ3,H3,I3,st3,fr3,w3⟩;rcases turn i n σ3 H3 w3 with ⟨stop,qn⟩|⟨go,N,hN,step⟩
  . refine iC hp (thn (T.done X rfl rfl rfl hc i pins s3 σ3 H3 X.xe I3 (stat fr3) st3 stop) λr s4 ⟨hr,I4⟩=>?_);subst hr;exact ir ⟨σ3,H3,I4,qn⟩
  . refine iC hp (thn (T.item X rfl rfl rfl hc i pins s3 σ3 H3 X.xe I3 (stat fr3) st3 go) λr s4 ⟨u,hr,h4⟩=>?_);subst hr;refine iC hp (thn h4 λ_ s5 ⟨x,H5,I5,r5,y5,st5,fr5⟩=>?_);have I5':=I5.pinned (stat fr5) (T.obj _ _ st5);refine iC hp (thn (hg _ s5 σ3 H5 x u _ I5' r5 (step x H5 y5)) λ_ s6 ⟨σ6,H6,I6,q6⟩=>?_);refine iC hp (thn (hb _ s6 σ6 H6 _ I6 q6) λf s7 q7=>?_);have again:∀ {σ7:St} {H7:Hp},Inv X (pins++Ai fp s5.heap) σ7 H7 s7->N σ7 H7->∃ m,m<n/\∃ i σ' H',Inv X pins σ' H' s7/\tn i s7.heap/\(∀ b∈fp,H' b=none)/\W i m σ' H':=λ{σ7 H7} I7 n7=>by
      obtain ⟨m',hm,w7⟩:=hN σ7 H7 n7;refine ⟨m',hm,i+1,σ7,H7,I7.unpinned,T.keep _ _ _ st5 λb hb o e=>(I7.pin (b,o) (a7 _ (a7 _ (xl hb e)))).1,λb hb=>?_,w7⟩;obtain ⟨o,e,d⟩:=T.obj _ _ st5 b hb;exact (I7.pin (b,o) (a7 _ (a7 _ (xl hb e)))).2.1
    cases f with
    | next=>obtain ⟨σ7,H7,I7,n7⟩:=q7; exact again I7 n7
    | cont=>obtain ⟨σ7,H7,I7,n7⟩:=q7; exact again I7 n7
    | brk=>obtain ⟨σ7,H7,I7,q7⟩:=q7; exact ⟨σ7,H7,I7.unpinned,q7⟩
    | ret v=>obtain ⟨x7,σ7,H7,I7,r7,q7⟩:=q7; exact ⟨x7,σ7,H7,I7.unpinned,r7,q7⟩
variable {D:Ends}
theorem zS{K:iL}{xs:List V}{tb:TS}{σ:St}(Pv:Nat->St->Hp->Prop)(h0:Pv 0 σ H)(hl:∀ i σ H,i<=xs.length->Pv i σ H->SqL K H a xs)(hs:∀ i x σ H,xs[i]?=some x->Pv i σ H->g x σ H λσ2 H2=>tb { D with nx:=Pv (i+1),ct:=Pv (i+1),bk:=D.nx } σ2 H2)(hd:∀ σ H,Pv xs.length σ H->D.nx σ H) :
    ∃ W:Nat->Nat->St->Hp->Prop,(∃ m,W 0 m σ H)/\∀ i m σ H,W i m σ H ->
      ((Itl K a).stop i H/\D.nx σ H)\/((Itl K a).go i H/\∃ N:St->Hp->Prop,(∀ σ' H',N σ' H'->∃ m',m'<m/\W (i+1) m' σ' H')/\∀ x H',(Itl K a).yld i H x H'->g x σ H' λσ2 H2=>tb { D with nx:=N,ct:=N,bk:=D.nx } σ2 H2):=by
  refine ⟨λi m σ H=>m=xs.length - i/\i<=xs.length/\Pv i σ H,⟨xs.length,by simp,bJ _,h0⟩,?_⟩;rintro i m σ H ⟨rfl,hi,p⟩;have q:=hl i σ H hi p;by_cases hlt:i<xs.length
  . refine .inr ⟨⟨xs,xs[i],q,by simp [hlt]⟩,Pv (i+1),λσ' H' p'=>⟨xs.length - (i+1),by omega,rfl,hlt,p'⟩,λx H' y=>?_⟩;obtain ⟨e,y⟩:=y;subst e;exact hs i x σ _ (y xs q) p
  . have e:i=xs.length:=by omega
    subst e;exact .inl ⟨⟨xs,q,ag _⟩,hd σ H p⟩
theorem xb{n:Nat}{tb:TS}{σ:St}(Pv:Nat->St->Hp->Prop)(h0:Pv 0 σ H)(hs:∀ i σ H,i<n->Pv i σ H->g (.int (lo+i)) σ H λσ2 H2=>tb { D with nx:=Pv (i+1),ct:=Pv (i+1),bk:=D.nx } σ2 H2)(hd:∀ σ H,Pv n σ H->D.nx σ H) :
    ∃ W:Nat->Nat->St->Hp->Prop,(∃ m,W 0 m σ H)/\∀ i m σ H,W i m σ H ->
      ((Itr lo n).stop i H/\D.nx σ H)\/((Itr lo n).go i H/\∃ N:St->Hp->Prop,(∀ σ' H',N σ' H'->∃ m',m'<m/\W (i+1) m' σ' H')/\∀ x H',(Itr lo n).yld i H x H'->g x σ H' λσ2 H2=>tb { D with nx:=N,ct:=N,bk:=D.nx } σ2 H2):=by
  refine ⟨λi m σ H=>m=n - i/\i<=n/\Pv i σ H,⟨n,by simp,bJ _,h0⟩,?_⟩;rintro i m σ H ⟨rfl,hi,p⟩;by_cases hlt:i<n
  . refine .inr ⟨hlt,Pv (i+1),λσ' H' p'=>⟨n - (i+1),by omega,rfl,hlt,p'⟩,λx H' y=>?_⟩;obtain ⟨e,y⟩:=y;subst e y;exact hs i σ _ hlt p
  . have e:i=n:=by omega
    subst e;exact .inl ⟨ag _,hd σ H p⟩
theorem Gq{c:TT}{tb:TS}{σ:St}(Pv:St->Hp->Prop)(μ:St->Hp->Nat)(h0:Pv σ H)(hs:∀ σ H,Pv σ H->c σ H λb H1=>if b=true then tb { D with nx:=λσ' H'=>Pv σ' H'/\μ σ' H'<μ σ H,ct:=λσ' H'=>Pv σ' H'/\μ σ' H'<μ σ H,bk:=D.nx } σ H1 else D.nx σ H1)(mono:∀ σ H Q Q',(∀ b H1,Q b H1->Q' b H1)->c σ H Q->c σ H Q'):B2 c tb D σ H:=by
  refine ⟨λm σ H=>m=μ σ H/\Pv σ H,⟨_,rfl,h0⟩,?_⟩;rintro m σ H ⟨rfl,p⟩;refine mono σ H _ _ (λb H1 q=>?_) (hs σ H p);cases b with
  | true=>exact ⟨_,λσ' H' ⟨p',l⟩=>⟨_,l,rfl,p'⟩,q⟩
  | false=>exact q
abbrev R2:=V->V->Hp->VK->Prop
def OpR(X:Cx)(f:Value->Value->Sem Value)(r:R2):Prop :=
  ∀ (pins:List (Addr×Obj)) (s:Shared) (σ:St) (H:Hp) (x y:V) (v u:Value) (Q:VK),Inv X pins σ H s->RelV x v->RelV y u->r x y H Q ->
    wpAny (model X.prog X.w) X.A (f v u) (EP X pins σ Q) X.xe s
def UnR(X:Cx)(f:Value->Sem Value)(r:V->Hp->VK->Prop):Prop :=
  ∀ (pins:List (Addr×Obj)) (s:Shared) (σ:St) (H:Hp) (x:V) (v:Value) (Q:VK),Inv X pins σ H s->RelV x v->r x H Q ->
    wpAny (model X.prog X.w) X.A (f v) (EP X pins σ Q) X.xe s
def yx(X:Cx)(f:Value)(r:List V->Hp->VK->Prop):Prop :=
  ∀ (pins:List (Addr×Obj)) (s:Shared) (σ:St) (H:Hp) (xs:List V) (us:List Value) (Q:VK),Inv X pins σ H s->Vals xs us->r xs H Q ->
    wpAny (model X.prog X.w) X.A (call f us) (EP X pins σ Q) X.xe s
def tOp(r:R2)(ta tb:TE):TE:=λσ H Q=>ta σ H λx H1=>tb σ H1 λy H2=>r x y H2 Q
def tUn(r:V->Hp->VK->Prop)(ta:TE):TE:=λσ H Q=>ta σ H λx H1=>r x H1 Q
def rI(C:Int->Int->Prop)(g:Int->Int->V):R2:=λx y H Q=>∃ i j,x=.int i/\y=.int j/\C i j/\Q (g i j) H
def rI0(g:Int->Int->V):R2:=λx y H Q=>∃ i j,x=.int i/\y=.int j/\Q (g i j) H
def rU(g:Int->V):V->Hp->VK->Prop:=λx H Q=>∃ i,x=.int i/\Q (g i) H
variable {r:R2}{f:Value->Value->Sem Value}
section
variable {a b c:Expr}{ta tb tc:TE}{pos:Pos}
theorem binT(ha:PE X a ta)(hb:PE X b tb){s:Shared}{σ:St}{R:V->V->Hp->Prop}(I:Inv X pins σ H s)(h:ta σ H λx H1=>tb σ H1 λy H2=>R x y H2){Q:Value->Shared->Prop}(hf:∀ v u s2 x y H2,Inv X pins σ H2 s2->RelV x v->RelV y u->R x y H2->wpAny (model X.prog X.w) X.A (f v u) Q X.xe s2) : wpAny (model X.prog X.w) X.A (eval a X.env) (λv s₁=>wpAny (model X.prog X.w) X.A (eval b X.env) (λu s₂=>wpAny (model X.prog X.w) X.A (f v u) Q X.xe s₂) X.xe s₁) X.xe s:=by
  refine thn (ha pins s σ H _ I h) λv s1 ⟨x,H1,I1,r1,q1⟩=>?_;refine thn (hb pins s1 σ H1 _ I1 q1) λu s2 ⟨y,H2,I2,r2,q2⟩=>?_;exact hf v u s2 x y H2 I2 r1 r2 q2
theorem zg{op:Operator}(ho:OpR X (binaryOp op) r)(ha:PE X a ta)(hb:PE X b tb):PE X (.BinOp a op b pos) (tOp r ta tb):=by
  intro pins s σ H Q I h;exact wpAny_BinOp (binT ha hb I h λv u s2 x y H2 I2 rx ry q=>ho pins s2 σ H2 x y v u Q I2 rx ry q)
theorem Ac{op:UnaryOp}{r:V->Hp->VK->Prop}(ho:UnR X (unaryOp op) r)(ha:PE X a ta):PE X (.UnaryOp op a pos) (tUn r ta):=by
  intro pins s σ H Q I h;exact UnaryOp_ (thn (ha pins s σ H _ I h) λv s1 ⟨x,H1,I1,r1,q1⟩=>ho pins s1 σ H1 x v Q I1 r1 q1)
theorem opI{C:Int->Int->Prop}{g:Int->Int->Int}(rule:∀ (i j:Int) (t u:Tok) (s:Shared) (Q:Value->Shared->Prop) (E:Value->Shared->Prop),C i j->Q (.int (g i j) s.toks) { s with toks:=s.toks+1 }->wpAny (model X.prog X.w) X.A (f (.int i t) (.int j u)) Q E s) :
    OpR X f (rI C λi j=>.int (g i j)):=by
  intro pins s σ H x y v u Q I rx ry h;obtain ⟨i,j,rfl,rfl,hc,q⟩:=h;obtain ⟨t,rfl⟩:=rx;obtain ⟨t',rfl⟩:=ry;exact rule i j t t' s _ _ hc ⟨.int (g i j),H,I.tok _,⟨_,rfl⟩,q⟩
theorem opI0{g:Int->Int->Int}(rule:∀ (i j:Int) (t u:Tok) (s:Shared) (Q:Value->Shared->Prop) (E:Value->Shared->Prop),Q (.int (g i j) s.toks) { s with toks:=s.toks+1 }->wpAny (model X.prog X.w) X.A (f (.int i t) (.int j u)) Q E s) :
    OpR X f (rI0 λi j=>.int (g i j)):=by
  intro pins s σ H x y v u Q I rx ry h;obtain ⟨i,j,rfl,rfl,q⟩:=h;obtain ⟨t,rfl⟩:=rx;obtain ⟨t',rfl⟩:=ry;exact rule i j t t' s _ _ ⟨.int (g i j),H,I.tok _,⟨_,rfl⟩,q⟩
theorem opB0{g:Int->Int->Bool}(rule:∀ (i j:Int) (t u:Tok) (s:Shared) (Q:Value->Shared->Prop) (E:Value->Shared->Prop),Q (.bool (g i j)) s->wpAny (model X.prog X.w) X.A (f (.int i t) (.int j u)) Q E s) : OpR X f (rI0 λi j=>.bl (g i j)):=by
  intro pins s σ H x y v u Q I rx ry h;obtain ⟨i,j,rfl,rfl,q⟩:=h;obtain ⟨t,rfl⟩:=rx;obtain ⟨t',rfl⟩:=ry;exact rule i j t t' s _ _ ⟨.bl (g i j),H,I,rfl,q⟩
theorem zK:OpR X (binaryOp .Add) (rI0 λi j=>.int (i+j)):=opI0 λ_ _ _ _ _ _ _ q=>add_int q
theorem yC:OpR X (binaryOp .Sub) (rI0 λi j=>.int (i - j)):=opI0 λ_ _ _ _ _ _ _ q=>sub_int q
theorem zX:OpR X (binaryOp .Mod) (rI (λ_ j=>0<j) λi j=>.int (i % j)):=opI λi j _ _ _ _ _ hc q=>by
  have h1:(0:Int)<j:=hc;exact mod_int' (by omega) (by rw [Int.fmod_eq_emod_of_nonneg i (by omega)]; exact q)
theorem IJ:OpR X (binaryOp .Mod) (rI (λ_ j=>j≠0) λi j=>.int (i.fmod j)):=opI λ_ _ _ _ _ _ _ hc q=>mod_int' hc q
theorem unI{f:Value->Sem Value}{g:Int->Int}(rule:∀ (i:Int) (t:Tok) (s:Shared) (Q:Value->Shared->Prop) (E:Value->Shared->Prop),Q (.int (g i) s.toks) { s with toks:=s.toks+1 }->wpAny (model X.prog X.w) X.A (f (.int i t)) Q E s) :
    UnR X f (rU λi=>.int (g i)):=by
  intro pins s σ H x v Q I rx h;obtain ⟨i,rfl,q⟩:=h;obtain ⟨t,rfl⟩:=rx;exact rule i t s _ _ ⟨.int (g i),H,I.tok _,⟨_,rfl⟩,q⟩
theorem wp:UnR X (unaryOp .USub) (rU λi=>.int (-i)):=unI λ_ _ _ _ _ q=>neg_int q
end
def scal:V->V->Bool
  | .non,.non=>true | .non,.int _=>true | .int _,.non=>true | .non,.bl _=>true | .bl _,.non=>true | .non,.str _=>true | .str _,.non=>true
  | .int _,.int _=>true | .bl _,.bl _=>true | .str _,.str _=>true | .byt _,.byt _=>true
  | .int _,.str _=>true | .str _,.int _=>true | .bl _,.str _=>true | .str _,.bl _=>true
  | _,_=>false
def rEq:R2:=λx y H Q=>scal x y=true/\Q (.bl (decide (x=y))) H
def rNe:R2:=λx y H Q=>scal x y=true/\Q (.bl (!decide (x=y))) H
theorem uC{i j:Int}:decide (V.int i=V.int j)=(i==j):=by
  rw [cC];simp
theorem dec_bl{i j:Bool}:decide (V.bl i=V.bl j)=(i==j):=by
  rw [cC];simp
theorem Et{i j:Str}:decide (V.str i=V.str j)=(i==j):=by
  rw [cC];simp
theorem FG{i j:Array UInt8}:decide (V.byt i=V.byt j)=(i.toList==j.toList):=by
  rw [cC];cases i
  cases j
  simp
variable {us:List Value}{y:V}
section
variable {a b c:Expr}{ta tb tc:TE}{pos:Pos}
theorem fin_bl{σ:St}{s:Shared}{Q:VK}{k k':Bool}(I:Inv X pins σ H s)(q:Q (.bl k) H)(e:k=k'):EP X pins σ Q (.bool k') s:=by
  subst e;exact ⟨.bl k,H,I,rfl,q⟩
theorem z8:OpR X (compareOp .Eq) rEq:=by
  intro pins s σ H x y v u Q I rx ry h;obtain ⟨hs,q⟩:=h;cases x with
  | non =>
    cases rx
    cases y with
    | non=>cases ry; exact PySem.EqNone.eq_none_none (fin_bl I q (!1))
    | bl j=>cases ry; exact PySem.EqNone.eq_none_bool (fin_bl I q (!1))
    | int j=>obtain ⟨t',rfl⟩:=ry; exact PySem.EqNone.eq_none_int (fin_bl I q (!1))
    | str j=>obtain ⟨t',rfl⟩:=ry; exact PySem.EqNone.eq_none_str (fin_bl I q (!1))
    | _=>exact absurd (show false=true from hs) aJ
  | bl i =>
    cases rx
    cases y with
    | non=>cases ry; exact PySem.EqNone.eq_bool_none (fin_bl I q (!1))
    | bl j=>cases ry; exact eq_bool (fin_bl I q dec_bl)
    | str j=>obtain ⟨t',rfl⟩:=ry; exact PySem.EqMixed.eq_bool_str (fin_bl I q (!1))
    | _=>exact absurd (show false=true from hs) aJ
  | int i =>
    obtain ⟨t,rfl⟩:=rx;cases y with
    | non=>cases ry; exact PySem.EqNone.eq_int_none (fin_bl I q (!1))
    | int j=>obtain ⟨t',rfl⟩:=ry; exact eq_int (fin_bl I q uC)
    | str j=>obtain ⟨t',rfl⟩:=ry; exact PySem.EqMixed.eq_int_str (fin_bl I q (!1))
    | _=>exact absurd (show false=true from hs) aJ
  | str i =>
    obtain ⟨t,rfl⟩:=rx;cases y with
    | non=>cases ry; exact PySem.EqNone.eq_str_none (fin_bl I q (!1))
    | bl j=>cases ry; exact PySem.EqMixed.eq_str_bool (fin_bl I q (!1))
    | int j=>obtain ⟨t',rfl⟩:=ry; exact PySem.EqMixed.eq_str_int (fin_bl I q (!1))
    | str j=>obtain ⟨t',rfl⟩:=ry; exact eq_str (fin_bl I q Et)
    | _=>exact absurd (show false=true from hs) aJ
  | byt i =>
    obtain ⟨t,rfl⟩:=rx;cases y with
    | byt j=>obtain ⟨t',rfl⟩:=ry; exact W.eq_bytes (fin_bl I q FG)
    | _=>exact absurd (show false=true from hs) aJ
  | _=>cases y <;> exact absurd (show false=true from hs) aJ
theorem Ea:OpR X (compareOp .NotEq) rNe:=by
  intro pins s σ H x y v u Q I rx ry h;obtain ⟨hs,q⟩:=h;cases x with
  | non =>
    cases rx
    cases y with
    | non=>cases ry; exact PySem.EqNone.ne_none_none (fin_bl I q (!1))
    | bl j=>cases ry; exact PySem.EqNone.ne_none_bool (fin_bl I q (!1))
    | int j=>obtain ⟨t',rfl⟩:=ry; exact PySem.EqNone.ne_none_int (fin_bl I q (!1))
    | str j=>obtain ⟨t',rfl⟩:=ry; exact PySem.EqNone.ne_none_str (fin_bl I q (!1))
    | _=>exact absurd (show false=true from hs) aJ
  | bl i =>
    cases rx
    cases y with
    | non=>cases ry; exact PySem.EqNone.ne_bool_none (fin_bl I q (!1))
    | bl j=>cases ry; exact ne_bool (fin_bl I q (congrArg not dec_bl))
    | str j=>obtain ⟨t',rfl⟩:=ry; exact PySem.EqMixed.ne_bool_str (fin_bl I q (!1))
    | _=>exact absurd (show false=true from hs) aJ
  | int i =>
    obtain ⟨t,rfl⟩:=rx;cases y with
    | non=>cases ry; exact PySem.EqNone.ne_int_none (fin_bl I q (!1))
    | int j=>obtain ⟨t',rfl⟩:=ry; exact ne_int (fin_bl I q (congrArg not uC))
    | str j=>obtain ⟨t',rfl⟩:=ry; exact PySem.EqMixed.ne_int_str (fin_bl I q (!1))
    | _=>exact absurd (show false=true from hs) aJ
  | str i =>
    obtain ⟨t,rfl⟩:=rx;cases y with
    | non=>cases ry; exact PySem.EqNone.ne_str_none (fin_bl I q (!1))
    | bl j=>cases ry; exact PySem.EqMixed.ne_str_bool (fin_bl I q (!1))
    | int j=>obtain ⟨t',rfl⟩:=ry; exact PySem.EqMixed.ne_str_int (fin_bl I q (!1))
    | str j=>obtain ⟨t',rfl⟩:=ry; exact ne_str (fin_bl I q (congrArg not Et))
    | _=>exact absurd (show false=true from hs) aJ
  | byt i =>
    obtain ⟨t,rfl⟩:=rx;cases y with
    | byt j=>obtain ⟨t',rfl⟩:=ry; exact W.ne_bytes (fin_bl I q (congrArg not FG))
    | _=>exact absurd (show false=true from hs) aJ
  | _=>cases y <;> exact absurd (show false=true from hs) aJ
theorem vF:OpR X (compareOp .Lt) (rI0 λi j=>.bl (decide (i<j))):=opB0 λ_ _ _ _ _ _ _ q=>lt_int q
theorem GC:OpR X (compareOp .LtE) (rI0 λi j=>.bl (decide (i<=j))):=opB0 λ_ _ _ _ _ _ _ q=>le_int q
theorem xw:OpR X (compareOp .Gt) (rI0 λi j=>.bl (decide (j<i))):=opB0 λ_ _ _ _ _ _ _ q=>gt_int q
theorem Do:OpR X (compareOp .GtE) (rI0 λi j=>.bl (decide (j<=i))):=opB0 λ_ _ _ _ _ _ _ q=>ge_int q
theorem LT:OpR X (compareOp .Is) (λx y H Q=>y=.non/\Q (.bl (decide (x=.non))) H):=by
  intro pins s σ H x y v u Q I rx ry h;obtain ⟨rfl,q⟩:=h;cases ry
  refine is_none_gen (fin_bl I q ?_);cases x <;> first
    | (cases rx; rfl)
    | (obtain ⟨t,rfl⟩:=rx; rfl)
theorem Jk:OpR X (compareOp .IsNot) (λx y H Q=>y=.non/\Q (.bl (!decide (x=.non))) H):=by
  intro pins s σ H x y v u Q I rx ry h;obtain ⟨rfl,q⟩:=h;cases ry
  refine isnot_none_gen (fin_bl I q ?_);cases x <;> first
    | (cases rx; rfl)
    | (obtain ⟨t,rfl⟩:=rx; rfl)
theorem zp(b:Expr)(h:op≠.In:=by decide)(h2:op≠.NotIn:=by decide):behindInMarks op b=false:=by
  have e1:(op==CmpOp.In)=false:=by cases op <;> first | rfl | exact absurd rfl h
  have e2:(op==CmpOp.NotIn)=false:=by cases op <;> first | rfl | exact absurd rfl h2
  cases b <;> simp [behindInMarks,e1,e2]
theorem yh(ho:OpR X (compareOp op) r)(ha:PE X a ta)(hb:PE X b tb)(hm:behindInMarks op b=false):PE X (.Compare a [op] [b] pos) (tOp r ta tb):=by
  intro pins s σ H Q I h;exact wpAny_Compare1 (binT ha hb I h λv u s2 x y H2 I2 rx ry q=>ho pins s2 σ H2 x y v u Q I2 rx ry q) hm
def LP(t:TE):TT:=λσ H Q=>t σ H λx H'=>∃ k,x=.bl k/\Q k H'
theorem zj(ho:OpR X (compareOp op) r)(ha:PE X a ta)(hb:PE X b tb)(hm:behindInMarks op b=false):PT X (.Compare a [op] [b] pos) (LP (tOp r ta tb)):=by
  intro pins s σ H Q I h;refine wpAny_isTrue_Compare1 (thn (ha pins s σ H _ I h) λv s1 ⟨x,H1,I1,r1,q1⟩=>thn (hb pins s1 σ H1 _ I1 q1) λu s2 ⟨y,H2,I2,r2,q2⟩ =>
    thn (ho pins s2 σ H2 x y v u _ I2 r1 r2 q2) λc s3 ⟨z,H3,I3,r3,k,e,q3⟩=>?_) hm
  subst e;cases r3
  exact iq ⟨H3,I3,q3⟩
theorem BC:(sizeLine:Nat)<2 ^ 63:=by rw [sizeLine_eq]; decide
variable {x:V}
theorem CD(r:Vals [x] us):∃ u,us=[u]/\RelV x u:=by
  cases r with
  | cons r1 r2=>cases r2; exact ⟨_,rfl,r1⟩
theorem JM(r:Vals [x,y] us):∃ u w',us=[u,w']/\RelV x u/\RelV y w':=by
  cases r with
  | cons r1 r2 =>
    cases r2 with
    | cons r3 r4=>cases r4; exact ⟨_,_,rfl,r1,r3⟩
theorem GI:yx X (.builtin "abs") (λxs H Q=>∃ i,xs=[.int i]/\Q (.int (if i<0 then -i else i)) H):=by
  intro pins s σ H xs us Q I r h;obtain ⟨i,rfl,q⟩:=h;obtain ⟨u,rfl,t,rfl⟩:=CD r;exact call_abs_int λu tk=>⟨.int (if i<0 then -i else i),H,I.tok _,⟨_,rfl⟩,q⟩
theorem Ei(hc:X.calm=true):yx X (.builtin "min") (λxs H Q=>∃ i j,xs=[.int i,.int j]/\Q (.int (if j<i then j else i)) H):=by
  intro pins s σ H xs us Q I r h;obtain ⟨i,j,rfl,q⟩:=h;obtain ⟨u,w',rfl,⟨t,rfl⟩,⟨t',rfl⟩⟩:=JM r;refine min_two_ints (I.ok.hd hc) λh' tk k=>⟨_,H,I.kept k,?_,q⟩
  by_cases hj:j<i
  . rw [im hj,im hj]; exact ⟨_,rfl⟩
  . rw [io hj,io hj]; exact ⟨_,rfl⟩
theorem CU:yx X (.type "int") (λxs H Q=>(∃ i,xs=[.int i]/\Q (.int i) H)\/∃ k,xs=[.bl k]/\Q (.int (if k then 1 else 0)) H):=by
  intro pins s σ H xs us Q I r h;rcases h with ⟨i,rfl,q⟩|⟨k,rfl,q⟩
  . obtain ⟨u,rfl,t,rfl⟩:=CD r;exact call_int_int ⟨.int i,H,I,⟨_,rfl⟩,q⟩
  . obtain ⟨u,rfl,r1⟩:=CD r;cases r1
    exact call_int_bool ⟨.int (if k then 1 else 0),H,I.tok _,⟨_,rfl⟩,q⟩
end
structure ObjM(h:Heap)(x dx C:Addr)(mA:Str->Option Value):Prop where
  obj:h.get? x=some (W.instObj C dx)
  ns:h.Ns1 dx mA
  ne:dx≠x
variable {dx:Addr}{mA:Str->Option Value}
theorem EU(n:h.Ns1 dx mA):∃ od,h.get? dx=some od/\∀ name,W.lookIn name od=some (mA name):=by
  obtain ⟨o,es,ep,ho,hd,hk,_,hm⟩:=n;refine ⟨o,ho,λname=>?_⟩;have e:=hm name;unfold nsFind findBy at e;rw [<-Array.find?_toList] at e;unfold W.lookIn;rw [hd];dsimp only;split
  . rename_i y q;rw [q] at e;exact congrArg some e
  . rename_i q;rw [q] at e;have a:es.toList.any (·.refKey)=false:=by
      rw [List.any_eq_false];intro y hy;obtain ⟨z,t,hkey⟩:=hk y (Array.mem_toList_iff.mp hy);simp [DictEntry.refKey,hkey]
    have a':¬ es.toList.any (·.refKey)=true:=by rw [a]; exact aJ
    rw [io a'];exact congrArg some e
variable {C:Addr}
theorem ObjM.look(I:ObjM h x dx C mA):∃ od,PySem.W.InstAt h x (W.instObj C dx) C (some od)/\∀ name,W.lookIn name od=some (mA name) :=
  let ⟨od,ho,hl⟩:=EU I.ns
  ⟨od,⟨I.obj,rfl,rfl,ho⟩,hl⟩
variable {kw:List (Str×Value)}{pl:Sem Bool}
section
variable {prog:Program}{A:Around}{E:Value->Shared->Prop}{s:Shared}{K:iL}{dx C f:Addr}{mA:Str->Option Value}{name:Str}{v:Value}
theorem Ia{expr:Bool}{Q:Value->Shared->Prop}(X:K.In s.heap)(I:ObjM s.heap x dx C mA)(hg:W.plainGet K C name=true)(hh:W.hasDictIn K C=true)(ha:W.findIn K (.ref C) name=some none)(hv:mA name=some v)(hv':W.handedIn v=true)(h:Q v { s with toks:=s.toks+1 }) :
    wpAny (model prog w) A (getAttr (.ref x) name expr) Q E s:=by
  obtain ⟨od,J,hl⟩:=I.look;exact W.get_value X J (fw hg).1 (W.findObj_own hh ha rfl (by rw [hl,hv])) hv' h
theorem GQ{Q:Value×List Value->Shared->Prop}(X:K.In s.heap)(I:ObjM s.heap x dx C mA)(hg:W.plainGet K C name=true)(hf:W.findIn K (.ref C) name=some (some (.ref f)))(ht:W.isFn K (.ref f)=true)(hv:mA name=none)(h:Q (.ref f,[.ref x]) s) : wpAny (model prog w) A (getMethod (.ref x) name pl) Q E s:=by
  obtain ⟨od,J,hl⟩:=I.look;exact W.method_fn X J (fw hg).1 (fw hg).2 hf (beq_iff_eq.mp ht) (by show (W.lookIn name od).map (·.isSome)=some false; rw [hl,hv]; rfl) h
theorem IB{ns:List Str}{Q:Unit->Shared->Prop}(X:K.In s.heap)(I:ObjM s.heap x dx C mA)(hs:W.findIn K (.ref C) "__setattr__"=some (some (.builtin "object.__setattr__")))(hp:W.plainOver K C=true)(ht:W.takerIn K C name=some none)(hh:W.hasDictIn K C=true)(hw:PySem.Within mA ns)(hsz:ns.length<=sizeLine)(h:∀ h',ObjM h' x dx C (λy=>if y=name then some v else mA y)->Heap.SameBut dx s.heap h'->Q () { s with heap:=h',toks:=s.toks+2 }) :
    wpAny (model prog w) A (setAttr (.ref x) name v) Q E s:=by
  obtain ⟨od,J,hl⟩:=I.look;refine W.set_plain X J hs (W.osa_open (s:={ s with toks:=s.toks+1 }) (r:=none) X J hp ht λb=>?_);obtain ⟨cd,hc,hd'⟩:=W.any_some hh;have hx:s.heap.get? x=some ⟨.ref C,some dx,.plain,#[]⟩:=I.obj;refine iw (iA (iw (iw (wpAny_loadPart hx (iw (PySem.W.Looks.here (s:={ s with toks:=s.toks+1 }) (W.looks_clsIn X hc) ?_))))));rw [hd'];refine iA (a:=some dx) (iw (iA (iw ?_)));refine wpAny_nsSet1 (s:={ s with toks:=s.toks+1 }) I.ns λh' hn2 hs2=>?_;obtain ⟨oD,esD,epD,hoD,hdD,hcD⟩:=hn2.count (PySem.Within.cons name v hw);refine iw (wpAny_lookBehind hoD (by rw [hdD]; exact pastItsLine_dict (bW hcD (by rw [ax]; omega))) ?_);exact iA (h _ ⟨(hs2.2 _ (bZ I.ne)).trans I.obj,hn2,I.ne⟩ hs2)
theorem F7{R:Result->Shared->Prop}{vs:List Value}(X:K.In s.heap)(hm:W.makesIn K C=true)(hi:W.findIn K (.ref C) "__init__"=some (some (.ref f)))(hf:W.typeIn K (.ref f)=some (.type "function"))(h:codeAny (model prog w) (A.under (.builtin "type.__call__" ⟨.ref C::vs,kw⟩)) (.call (.ref f) ⟨.ref (s.heap.objs.size+1)::vs,kw⟩) (PySem.W.InitBack (s.heap.objs.size+1) R)
      { s with heap:=(s.heap.push W.emptyDict).push (W.instObj C s.heap.objs.size) }) :
    codeAny (model prog w) A (.call (.ref C) ⟨vs,kw⟩) R s:=by
  obtain ⟨hh,g,d,t,os⟩:=s;exact W.make_core (W.makes_of X hm) (W.looks_findIn X hi) (λself=>W.bind_fn X self hf) (.inl rfl) h
end
def putF(f:Str)(v:V):List (Str×V)->List (Str×V)
  | []=>[(f,v)]
  | (g,x)::r=>if g=f then (g,v)::r else (g,x)::putF f v r
theorem vg(f g:Str)(v:V):∀ fs:List (Str×V),(putF f v fs).lookup g=if g=f then some v else fs.lookup g
  | []=>by
    show List.lookup g [(f,v)]=_;by_cases h:g=f
    . have hb:(g==f)=true:=beq_iff_eq.mpr h;simp only [List.lookup,hb,im h]
    . have hb:(g==f)=false:=beq_eq_false_iff_ne.mpr h;simp only [List.lookup,hb,io h]
  | (k,x)::r=>by
    have ih:=vg f g v r;rw [show putF f v ((k,x)::r)=(if k=f then (k,v)::r else (k,x)::putF f v r) from rfl];by_cases hk:k=f
    . rw [im hk];by_cases h:g=k
      . have hb:(g==k)=true:=beq_iff_eq.mpr h;simp only [List.lookup,hb,im (h.trans hk)]
      . have hb:(g==k)=false:=beq_eq_false_iff_ne.mpr h;simp only [List.lookup,hb,io (λe:g=f=>h (e.trans hk.symm))]
    . rw [io hk];by_cases h:g=k
      . have hb:(g==k)=true:=beq_iff_eq.mpr h;simp only [List.lookup,hb,io (λe:g=f=>hk (h.symm.trans e))]
      . have hb:(g==k)=false:=beq_eq_false_iff_ne.mpr h;simp only [List.lookup,hb];exact ih
theorem wY(f:Str)(v:V):∀ fs:List (Str×V),f∈(putF f v fs).map (·.1)/\∀ g,g∈fs.map (·.1)->g∈(putF f v fs).map (·.1)
  | []=>⟨by simp [putF],λg h=>by simp at h⟩
  | (k,x)::r=>by
    obtain ⟨i1,i2⟩:=wY f v r;rw [show putF f v ((k,x)::r)=(if k=f then (k,v)::r else (k,x)::putF f v r) from rfl];by_cases hk:k=f
    . rw [im hk];subst hk;exact ⟨by simp,λg h=>by simpa using h⟩
    . rw [io hk];refine ⟨?_,λg h=>?_⟩
      . rw [aW];exact az _ i1
      . rw [aW] at h ⊢;rcases aU.mp h with e|e
        . exact aU.mpr (.inl e)
        . exact az _ (i2 g e)
theorem xB(f:Str)(v:V):∀ fs:List (Str×V),(putF f v fs).length<=fs.length+1
  | []=>by simp [putF]
  | (k,x)::r=>by
    have ih:=xB f v r;rw [show putF f v ((k,x)::r)=(if k=f then (k,v)::r else (k,x)::putF f v r) from rfl];by_cases hk:k=f
    . rw [im hk,ax,ax]; omega
    . rw [io hk,ax,ax]; omega
theorem RelO.some_of{v:V}{o:Option Value}(r:RelO (some v) o):∃ u,o=some u/\RelV v u:=by
  cases o with
  | none=>exact (show False from r).elim
  | some u=>exact ⟨u,rfl,r⟩
theorem RelO.none_of{o:Option Value}(r:RelO none o):o=none:=by
  cases o with
  | none=>rfl
  | some u=>exact (show False from r).elim
theorem Fd{v:V}{u:Value}(r:RelV v u):W.handedIn u=true:=by
  cases v with
  | non=>cases (show u=Value.none from r); rfl
  | bl b=>cases (show u=Value.bool b from r); rfl
  | int i=>obtain ⟨t,e⟩:=(show ∃ t,u=Value.int i t from r); cases e; rfl
  | str x=>obtain ⟨t,e⟩:=(show ∃ t,u=Value.str x t from r); cases e; rfl
  | byt b=>obtain ⟨t,e⟩:=(show ∃ t,u=Value.bytes b t from r); cases e; rfl
  | flt b=>obtain ⟨t,e⟩:=(show ∃ t,u=Value.float b t from r); cases e; rfl
  | ref a=>cases (show u=Value.ref a from r); rfl
  | ty n=>cases (show u=Value.type n from r); rfl
section
variable {C dx:Addr}{fs fs':List (Str×V)}
theorem ud(hok:HOk P w H h)(e:H a=some (.ins C dx fs)):∃ mA,ObjM h a dx C mA/\(∀ f,RelO (fs.lookup f) (mA f))/\PySem.Within mA (fs.map (·.1))/\fs.length<=1000/\H dx=some (.own a):=by
  obtain ⟨d,z,ne,ob,mA,n,r,q⟩:=(show ObjOk P w H h a (.ins C dx fs) from hok a _ e)
  exact ⟨mA,⟨ob,n,ne⟩,r,q,z,d⟩
end
structure Cls(K:iL)(C:Addr):Prop where
  pg:W.plainGet K C Str.empty=true
  hd:W.hasDictIn K C=true
  po:W.plainOver K C=true
  sa:W.findIn K (.ref C) "__setattr__"=some (some (.builtin "object.__setattr__"))
theorem Cls.get{K:iL}(c:Cls K C)(f:Str):W.plainGet K C f=true:=c.pg
def NoAttr(K:iL)(C:Addr)(f:Str):Prop:=W.findIn K (.ref C) f=some none
theorem NoAttr.taker{K:iL}{f:Str}(n:NoAttr K C f):W.takerIn K C f=some none:=by
  unfold W.takerIn;rw [show W.findIn K (.ref C) f=some none from n];rfl
structure Meth(K:iL)(C:Addr)(m:Str)(f:Addr):Prop where
  at_:W.findIn K (.ref C) m=some (some (.ref f))
  fn:W.isFn K (.ref f)=true
  kp:W.keepIn K (.ref f)=true
section
variable {pins:List (Addr×Obj)}{σ:St}{s:Shared}{C dx:Addr}{fs:List (Str×V)}{f:Str}{v:V}{A:Around}{E:Value->Shared->Prop}
theorem CB{b:Bool}{Q:Value->Shared->Prop}(I:Inv X pins σ H s)(e:H a=some (.ins C dx fs))(c:Cls X.K C)(n:NoAttr X.K C f)(l:fs.lookup f=some v)(h:∀ u s',Inv X pins σ H s'->RelV v u->Q u s'):wpAny (model X.prog X.w) A (getAttr (.ref a) f b) Q E s:=by
  obtain ⟨mA,O,r,_,_,_⟩:=ud I.hok e;obtain ⟨u,hu,ru⟩:=RelO.some_of (v:=v) (o:=mA f) (by rw [<-l]; exact r f);exact Ia I.kIn O (c.get f) c.hd n hu (Fd ru) (h u _ (I.tok _) ru)
theorem vU{m:Str}{g:Addr}{Q:Value×List Value->Shared->Prop}(I:Inv X pins σ H s)(e:H a=some (.ins C dx fs))(c:Cls X.K C)(k:Meth X.K C m g)(l:fs.lookup m=none)(h:Q (.ref g,[.ref a]) s):wpAny (model X.prog X.w) A (getMethod (.ref a) m pl) Q E s:=by
  obtain ⟨mA,O,r,_,_,_⟩:=ud I.hok e;have hn:mA m=none:=RelO.none_of (by rw [<-l]; exact r m);exact GQ I.kIn O (c.get m) k.at_ k.fn hn h
theorem CC{u:Value}{Q:Unit->Shared->Prop}(I:Inv X pins σ H s)(e:H a=some (.ins C dx fs))(c:Cls X.K C)(n:NoAttr X.K C f)(hl:fs.length<1000)(ry:RelV y u)(h:∀ s',Inv X pins σ (upd H a (.ins C dx (putF f y fs))) s'->Q () s'):wpAny (model X.prog X.w) A (setAttr (.ref a) f u) Q E s:=by
  obtain ⟨mA,O,r,wi,_,ho⟩:=ud I.hok e;have hz:(fs.map (·.1)).length<=sizeLine:=by rw [aa,sizeLine_eq]; omega
  refine IB I.kIn O c.sa c.po n.taker c.hd wi hz λh' O' sb=>h _ ?_;have hd:∃ o,h'.get? dx=some o:=let ⟨o,_,_,e',_⟩:=O'.ns; ⟨o,e'⟩
  refine I.write (x:=a) (e:=dx) (by rw [e]; exact True.intro) (.inr ho) (λb q hb z=>(sb.2 b hb).trans z) hd ?_;refine ⟨by rw [zm O.ne]; exact ho,?_,O.ne,O'.obj,_,O'.ns,λg=>?_,λg hg=>?_⟩
  . have:=xB f y fs; omega
  . show RelO ((putF f y fs).lookup g) (if g=f then some u else mA g);rw [vg];by_cases q:g=f
    . rw [im q,im q]; exact ry
    . rw [io q,io q]; exact r g
  . by_cases q:g=f
    . rw [q]; exact (wY f y fs).1
    . refine (wY f y fs).2 g (wi g λz=>hg ?_);show (if g=f then some u else mA g)=none;rw [io q]; exact z
theorem Inv.made(I:Inv X pins σ H s):Inv X pins σ (upd (upd H s.heap.objs.size (.own (s.heap.objs.size+1))) (s.heap.objs.size+1) (.ins C s.heap.objs.size [])) { s with heap:=(s.heap.push W.emptyDict).push (W.instObj C s.heap.objs.size) }:=by
  have e1:(s.heap.push W.emptyDict).get? s.heap.objs.size=some W.emptyDict:=Heap.get?_push_size s.heap rfl;have e2:((s.heap.push W.emptyDict).push (W.instObj C s.heap.objs.size)).get? (s.heap.objs.size+1)=some (W.instObj C s.heap.objs.size):=by
    have:=Heap.get?_push_size (s.heap.push W.emptyDict) (o:=W.instObj C s.heap.objs.size) rfl
    rwa [Heap.size_push] at this
  have e3:(s.heap.push W.emptyDict).Ns s.heap.objs.size (λ_=>none):=⟨W.emptyDict,#[],_,e1,rfl,(λe he=>absurd he (!1)),λ_=>rfl⟩
  have I1:=I.laid (a:=s.heap.objs.size) (o:=.own (s.heap.objs.size+1)) (h':=s.heap.push W.emptyDict) (t':=s.toks) (λb u q=>Heap.get?_push_of_some _ q) (ag _) ⟨_,e1⟩;refine I1.laid (a:=s.heap.objs.size+1) (o:=.ins C s.heap.objs.size []) (t':=s.toks) (λb u q=>Heap.get?_push_of_some _ q) (Nat.le_of_eq (Heap.size_push _ _)) ?_;have ne:s.heap.objs.size≠s.heap.objs.size+1:=aP (eW _);refine ⟨by rw [zm ne,zk],bJ _,ne,e2,λ_=>none,(Heap.Ns1.of_empty e3).at λo q=>Heap.get?_push_of_some _ q,λ_=>True.intro,λy hy=>absurd rfl hy⟩
theorem IN{prog:Program}{env:Env}{e:Expr}{pos:Pos}{s:Shared}{Q:Value->Shared->Prop}(hb:attributeBase e f env (eval e env)=eval e env)(h:wpAny (model prog w) A (eval e env) (λo s₁=>wpAny (model prog w) A (getAttr o f true) Q E s₁) E s):wpAny (model prog w) A (eval (.Attribute e f pos) env) Q E s :=
  Attribute_any_ h (by rw [arm_eval_Attribute,hb])
end
def tFld(K:iL)(ta:TE)(f:Str):TE:=λσ H Q=>ta σ H λx H1=>∃ a C dx fs v,x=.ref a/\H1 a=some (.ins C dx fs)/\Cls K C/\NoAttr K C f/\fs.lookup f=some v/\Q v H1
def sFld(K:iL)(ta tv:TE)(f:Str):TS:=λD σ H=>tv σ H λy H1=>ta σ H1 λx H2=>∃ a C dx fs,x=.ref a/\H2 a=some (.ins C dx fs)/\Cls K C/\NoAttr K C f/\fs.length<1000 /\
  D.nx σ (upd H2 a (.ins C dx (putF f y fs)))
section
variable {o e value:Expr}{f:Str}{pos pos' tpos:Pos}{ta tv:TE}
theorem KE(he:PE X e ta)(hb:attributeBase e f X.env (eval e X.env)=eval e X.env):PE X (.Attribute e f pos) (tFld X.K ta f):=by
  intro pins s σ H Q I h;refine IN hb (thn (he pins s σ H _ I h) λu s1 ⟨x,H1,I1,rx,a,C,dx,fs,v,ex,ea,c,n,l,q⟩=>?_);subst ex;obtain rfl:u=Value.ref a:=rx;exact CB I1 ea c n l λu' s2 I2 ru=>⟨v,H1,I2,ru,q⟩
theorem Ap(ha:PE X o ta)(hv:PE X value tv)(hs:swapsWith value (some (.Attribute o f pos')) pos.line X.env=pure false):PS X (.Assign [.Attribute o f pos'] value pos) (sFld X.K ta tv f):=by
  intro pins s σ H D I h;refine plainObj_wpAny_Assign_Attribute (thn (hv pins s σ H _ I h) λu s1 ⟨y,H1,I1,ry,q⟩=>thn (ha pins s1 σ H1 _ I1 q) λov s2 ⟨x,H2,I2,rx,a,C,dx,fs,ex,ea,c,n,l,q2⟩=>?_) hs;subst ex;obtain rfl:ov=Value.ref a:=rx;exact CC I2 ea c n l ry λs3 I3=>⟨σ,_,I3,q2⟩
end
section
variable {pins:List (Addr×Obj)}{σ:St}{s:Shared}{A:Around}{E:Value->Shared->Prop}{Q:Value->Shared->Prop}{c:Value}{b:Bool}
inductive TyOf(K:iL)(H:Hp):V->Value->Prop where
  | non:TyOf K H .non (.type "NoneType")
  | bl (x:Bool):TyOf K H (.bl x) (.type "bool")
  | int (i:Int):TyOf K H (.int i) (.type "int")
  | str (x:Str):TyOf K H (.str x) (.type "str")
  | flt (x:UInt64):TyOf K H (.flt x) (.type "float")
  | lst {a:Addr} {xs:List V} (e:H a=some (.lst xs)):TyOf K H (.ref a) (.type "list")
  | frz {a:Addr} {o:Obj} {xs:List V} (e:H a=some (.frz o (.lst xs))):TyOf K H (.ref a) (.type "list")
  | tup {a:Addr} {xs:List V} (e:H a=some (.tup xs)):TyOf K H (.ref a) (.type "tuple")
  | dK {a:Addr} {kvs:List (Key×V)} (e:H a=some (.dK kvs)):TyOf K H (.ref a) (.type "dict")
  | dT {a:Addr} {kvs:List (List Key×V)} (e:H a=some (.dT kvs)):TyOf K H (.ref a) (.type "dict")
  | ins {a C dx:Addr} {fs:List (Str×V)} (e:H a=some (.ins C dx fs)) (cl:Cls K C) (ha:W.findIn K (.ref C) "__class__"=some (some (.builtin "object.__class__")))
      (hn:W.specialIn K (.builtin "object.__class__") "__get__"=some (some (.builtin "getset_descriptor.__get__"))) (htk:W.takesIn K (.builtin "object.__class__")=some true)
      (hm:W.mroIn K C (.type "object")=some true):TyOf K H (.ref a) (.ref C)
theorem ET{x:V}{u t:Value}(I:Inv X pins σ H s)(rx:RelV x u)(ty:TyOf X.K H x t)(e:W.kitOne X.K t c=some b)(h:∀ tk,Q (.bool b) { s with toks:=tk }) :
    wpAny (model X.prog X.w) A (call (.builtin "isinstance") [u,c]) Q E s:=by
  cases ty with
  | non=>cases (show u=Value.none from rx); exact b8 W.kitx_none I.kIn True.intro e (λz=>nomatch z) h
  | bl y=>cases (show u=Value.bool y from rx); exact b8 W.kitx_bool I.kIn True.intro e (λz=>nomatch z) h
  | int i=>obtain ⟨t,q⟩:=(show ∃ t,u=Value.int i t from rx); cases q; exact b8 W.kitx_int I.kIn True.intro e (λz=>nomatch z) h
  | str y=>obtain ⟨t,q⟩:=(show ∃ t,u=Value.str y t from rx); cases q; exact b8 W.kitx_str I.kIn True.intro e (λz=>nomatch z) h
  | flt y=>obtain ⟨t,q⟩:=(show ∃ t,u=Value.float y t from rx); cases q; exact b8 W.kitx_float I.kIn True.intro e (λz=>nomatch z) h
  | @lst a xs ea =>
    cases (show u=Value.ref a from rx)
    obtain ⟨_,_,n,_,h1⟩:=(show ObjOk X.prog X.w H s.heap a (.lst xs) from I.hok a _ ea)
    exact b8 W.kitx_list I.kIn ⟨_,h1,rfl⟩ e (λz=>nomatch z) h
  | @frz a ob xs ea =>
    cases (show u=Value.ref a from rx)
    obtain ⟨_,_,_,n,_,h1⟩:=(show ObjOk X.prog X.w H s.heap a (.frz ob (.lst xs)) from I.hok a _ ea)
    exact b8 W.kitx_list I.kIn ⟨_,h1,rfl⟩ e (λz=>nomatch z) h
  | @tup a xs ea =>
    cases (show u=Value.ref a from rx)
    obtain ⟨_,_,_,p⟩:=(show ObjOk X.prog X.w H s.heap a (.tup xs) from I.hok a _ ea)
    obtain ⟨o,h1,h2,_⟩:=p;exact b8 W.kitx_tuple I.kIn ⟨o,h1,h2⟩ e (λz=>nomatch z) h
  | @dK a kvs ea =>
    cases (show u=Value.ref a from rx)
    obtain ⟨_,_,vs,_,p⟩:=(show ObjOk X.prog X.w H s.heap a (.dK kvs) from I.hok a _ ea)
    obtain ⟨o,es,ep,h1,h2,_⟩:=p;exact b8 W.kitx_dict I.kIn ⟨o,h1,h2.1⟩ e (λz=>nomatch z) h
  | @dT a kvs ea =>
    cases (show u=Value.ref a from rx)
    obtain ⟨_,_,xs,_,o,es,ep,h1,h2,_⟩:=(show ObjOk X.prog X.w H s.heap a (.dT kvs) from I.hok a _ ea)
    exact b8 W.kitx_dict I.kIn ⟨o,h1,h2.1⟩ e (λz=>nomatch z) h
  | @ins a C dx fs ea cl ha hn htk hm =>
    cases (show u=Value.ref a from rx)
    obtain ⟨mA,O,_⟩:=ud I.hok ea;obtain ⟨od,J,_⟩:=O.look;exact b8 (W.kitx_own (cl.get _) cl.hd ha hn htk hm) I.kIn J e (λz=>nomatch z) h
end
structure Room(k:Nat)(A:Around):Prop where
  hd:A.handled=none
  dp:A.depth+3*k+5<recursionLimit
  un:A.units+16*k+200<cLine
theorem Room.mono{j k:Nat}{A:Around}(r:Room k A)(h:j<=k):Room j A:=⟨r.hd,by have:=r.dp; omega,by have:=r.un; omega⟩
theorem Room.deeper{k:Nat}{A:Around}(r:Room (k+1) A)(env:Env):Room k (A.deeper env) :=
  ⟨r.hd,by have:=r.dp; show A.depth+1+3*k+5<_; omega,by have:=r.un; show A.units+3+16*k+200<_; omega⟩
theorem CK{A:Around}:(A.under (.builtin "type.__call__" ⟨.ref C::us,kw⟩)).depth=A.depth+1:=by
  first | rfl | simp [Around.under,Code.weight,Code.isCreation,Code.isGuard,Code.isCaller,Code.frames,Code.isFrame,guardIds]
theorem Cv{A:Around}:(A.under (.builtin "type.__call__" ⟨.ref C::us,kw⟩)).units=A.units+1:=by
  first | rfl | simp [Around.under,Code.cUnits,Code.frames,Code.isFrame]
theorem Room.make{k:Nat}{A:Around}(r:Room (k+1) A)(C:Addr)(us:List Value)(kw:List (Str×Value)):Room k (A.under (.builtin "type.__call__" ⟨.ref C::us,kw⟩)) :=
  ⟨r.hd,by have:=r.dp; rw [CK]; omega,by have:=r.un; rw [Cv]; omega⟩
theorem Room.depth{k:Nat}{A:Around}(r:Room k A):A.depth<recursionLimit:=by have:=r.dp; omega
theorem Room.units{k:Nat}{A:Around}(r:Room k A):A.units+64<cLine:=by have:=r.un; omega
def tNil:TA:=λ_ H Q=>Q [] H
def uI(ta:TE)(tr:TA):TA:=λσ H Q=>ta σ H λx H1=>tr σ H1 λxs H2=>Q (x::xs) H2
section
variable {e:Expr}{es:List Expr}{te:TE}{t:TA}{pos:Pos}
theorem z5:PA X [] tNil:=λ_ _ _ _ H Q I h=>Calls.spliced_nil ⟨[],H,I,.nil,h⟩
theorem zv(ha:PE X e te)(hr:PA X es t)(hs:starEach (e::es) X.env=(false,eval e X.env)::starEach es X.env:=by rfl):PA X (e::es) (uI te t):=by
  intro pos pins s σ H Q I h;rw [hs];show wpAny _ _ (spliced ((false,eval e X.env)::backTo pos (starEach es X.env))) _ _ s;refine Calls.spliced_cons (thn (ha pins s σ H _ I h) λu s1 ⟨x,H1,I1,r1,q1⟩=>?_);exact thn (hr pos pins s1 σ H1 _ I1 q1) λus s2 ⟨xs,H2,I2,r2,q2⟩=>⟨x::xs,H2,I2,.cons r1 r2,q2⟩
def tTup(t:TA):TE:=λσ H Q=>t σ H λxs H1=>xs.length<=sizeLine/\∀ p,H1 p=none->Q (.ref p) (upd H1 p (.tup xs))
def tLst(t:TA):TE:=λσ H Q=>t σ H λxs H1=>xs.length<=sizeLine/\∀ p,H1 p=none->Q (.ref p) (upd H1 p (.lst xs))
theorem zo{x1}(h:PA X es t):PE X (.Tuple es x1 pos) (tTup t):=by
  intro pins s σ H Q I hq;refine wpAny_Tuple_spliced (thn (h pos pins s σ H _ I hq) λus s1 ⟨xs,H1,I1,r,z,q⟩=>⟨by rw [<-r.length]; exact z,?_⟩);have hf:H1 s1.heap.objs.size=none:=I1.hok.fresh (ag _);refine ⟨.ref s1.heap.objs.size,upd H1 s1.heap.objs.size (.tup xs),I1.laid (t':=s1.toks) (λb u e=>Heap.get?_push_of_some _ e) (ag _) ?_,rfl,q _ hf⟩;exact ⟨z,us,r,⟨_,Heap.get?_push_size _ rfl,rfl,_,rfl⟩⟩
theorem zx(h:PA X es t):PE X (.List es pos) (tLst t):=by
  intro pins s σ H Q I hq;refine wpAny_List_spliced (thn (h pos pins s σ H _ I hq) λus s1 ⟨xs,H1,I1,r,z,q⟩=>⟨by rw [<-r.length]; exact z,?_⟩);have hf:H1 s1.heap.objs.size=none:=I1.hok.fresh (ag _);refine ⟨.ref s1.heap.objs.size,upd H1 s1.heap.objs.size (.lst xs),I1.laid (t':=s1.toks) (λb u e=>Heap.get?_push_of_some _ e) (ag _) ?_,rfl,q _ hf⟩;exact ⟨z,us,0,r,Heap.get?_push_size _ rfl⟩
end
abbrev Sp:=List V->Hp->VK->XK->Prop
abbrev CXT:=List Env->Hp->Shared->XK->Value->Shared->Prop
structure Env0(P:Program)(w:World)(K:iL)(mg:Str->Option Value)(base:Heap)(A:Around)(outer:List Env)(s:Shared)(H:Hp):Prop where
  frames:A.frames=some outer
  mod:Mod K mg base
  bs:∀ b o,base.get? b=some o->s.heap.get? b=some o/\H b=none
  bsz:base.objs.size<=s.heap.objs.size
  funs:s.heap.FunFrames base outer
  frf:∀ b∈frs outer,H b=none
  hok:HOk P w H s.heap
  bare:AllBare s.gens
def CE(outer:List Env)(P:Program)(w:World)(H:Hp)(s:Shared)(Q:VK)(u:Value)(s':Shared):Prop :=
  ∃ v H',s'.os=s.os/\AllBare s'.gens/\Un (frs outer) [] H H' s.heap s'.heap/\HOk P w H' s'.heap/\RelV v u/\Q v H'
def CR(CX:CXT)(outer:List Env)(P:Program)(w:World)(H:Hp)(s:Shared)(Q:VK)(E:XK)(r:Result)(s':Shared):Prop :=
  match r with
  | .ok (.ret u)=>CE outer P w H s Q u s'
  | .ok _=>False
  | .error e=>CX outer H s E e s'
structure FnOk(P:Program)(w:World)(K:iL)(mg:Str->Option Value)(base:Heap)(CX:CXT)(k:Nat)(f:Addr)(fd:FuncData)(ps:List Str)(sp:Sp):Prop where
  len:∀ vs H Q E,sp vs H Q E->vs.length=ps.length
  run:∀ (A:Around) (outer:List Env) (s:Shared) (H:Hp) (args:Args) (us:List Value) (vs:List V) (Q:VK) (E:XK),Room k A->Env0 P w K mg base A outer s H->BindsTo s fd args (ps.zip us)->Vals vs us->sp vs H Q E ->
    codeAny (model P w) A (.call (.ref f) args) (CR CX outer P w H s Q E) s
variable {base:Heap}{outer:List Env}{mg:Str->Option Value}
theorem Env0.make{K:iL}{A:Around}{s:Shared}(e:Env0 P w K mg base A outer s H)(C:Addr)(us:List Value)(kw:List (Str×Value)) : Env0 P w K mg base (A.under (.builtin "type.__call__" ⟨.ref C::us,kw⟩)) outer s H:=⟨by first | exact e.frames | (simpa [Around.under,Code.envs,Code.isFrame,pushEnvs] using e.frames),e.mod,e.bs,e.bsz,e.funs,e.frf,e.hok,e.bare⟩
section
variable {pins:List (Addr×Obj)}{σ:St}{s s':Shared}
theorem Inv.env0(I:Inv X pins σ H s):Env0 X.prog X.w X.K X.mg X.base X.A X.stack s H :=
  ⟨I.ok.frames,I.ok.mod,I.bs,bW I.ok.bsz I.sz,I.stack,I.stkFree,I.hok,I.bare⟩
theorem Inv.after{Q:VK}{u:Value}(I:Inv X pins σ H s)(h:CE X.stack X.prog X.w H s Q u s'):EP X pins σ Q u s':=by
  obtain ⟨v,H',os,bare,un,hok,r,q⟩:=h;obtain ⟨hh,g,d,t,os'⟩:=s';obtain rfl:os'=s.os:=os;exact ⟨v,H',I.call (h':=hh) (g':=g) (d':=d) (t':=t) (ch:=[]) un hok bare (λb z=>absurd z (!1)),r,q⟩
end
def Dz(sp:Sp)(dvs:List V)(E:XK)(t:TA):TE:=λσ H Q=>t σ H λvs H1=>sp (vs++dvs) H1 Q E
def De(C:Addr)(m:Str)(sp:Sp)(dvs:List V)(E:XK)(ta:TE)(t:TA):TE:=λσ H Q=>ta σ H λx H1=>∃ a dx fs,x=.ref a/\H1 a=some (.ins C dx fs)/\fs.lookup m=none /\
  t σ H1 λvs H2=>sp (x::(vs++dvs)) H2 Q E
def Ix(C:Addr)(sp:Sp)(dvs:List V)(E:XK)(t:TA):TE:=λσ H Q=>t σ H λvs H1=>∀ x dx,H1 x=none->H1 dx=none->dx≠x ->
  sp (.ref x::(vs++dvs)) (upd (upd H1 dx (.own x)) x (.ins C dx [])) (λv H2=>v=.non/\Q (.ref x) H2) E
def Binds(K:iL)(fd:FuncData)(ps:List Str)(ds:List Value):Prop :=
  ∀ (s:Shared) (us:List Value),K.In s.heap->(us++ds).length=ps.length->BindsTo s fd ⟨us,[]⟩ (ps.zip (us++ds))
variable {ps:List Str}
theorem Binds.all{K:iL}{fd:FuncData}(h:∀ us:List Value,us.length=ps.length->bindArgs fd ⟨us,[]⟩=pure (ps.zip us)):Binds K fd ps []:=λs us _ hl=>by
  rw [bG] at hl ⊢;exact .of_eq (h us hl)
def yT(CX:CXT)(X:Cx)(E:XK):Prop:=∀ (pins:List (Addr×Obj)) (σ:St) (H:Hp) (s:Shared) (e:Value) (s':Shared),Inv X pins σ H s->CX X.stack H s E e s'->X.xe e s'
variable {vs:List V}
section
variable {CX:CXT}{k:Nat}{f C:Addr}{fd:FuncData}{ps:List Str}{sp:Sp}{dvs:List V}{ds:List Value}{E:XK}{x m:Str}{p pos apos:Pos}{e o:Expr}{es:List Expr}{ta:TE}{t:TA}
theorem Eg{σ:St}{s:Shared}{Q:VK}(F:FnOk X.prog X.w X.K X.mg X.base CX k f fd ps sp)(hr:Room k X.A)(hb:Binds X.K fd ps ds)(hd:Vals dvs ds)(hx:yT CX X E)(I:Inv X pins σ H s)(r:Vals vs us)(h:sp (vs++dvs) H Q E):wpAny (model X.prog X.w) X.A (call (.ref f) us) (EP X pins σ Q) X.xe s:=by
  have r2:Vals (vs++dvs) (us++ds):=r.append hd;have hl:(us++ds).length=ps.length:=by rw [<-r2.length]; exact F.len _ _ _ _ h
  refine wpAny_call (iE (F.run X.A X.stack s H ⟨us,[]⟩ (us++ds) (vs++dvs) Q E hr I.env0 (hb s us I.kIn hl) r2 h) λr s' hq=>?_);cases r with
  | error e=>exact hx pins σ H s e s' I hq
  | ok fl =>
    cases fl with
    | ret u=>exact I.after hq
    | next=>exact False.elim hq
    | brk=>exact False.elim hq
    | cont=>exact False.elim hq
theorem AS(F:FnOk X.prog X.w X.K X.mg X.base CX k f fd ps sp)(hr:Room k X.A)(hg:Gl X x)(hm:X.mg x=some (.ref f))(hk:W.keepIn X.K (.ref f)=true)(hb:Binds X.K fd ps ds)(hd:Vals dvs ds)(hx:yT CX X E)(ha:PA X (e::es) t)(hdb:(x==("__debug__":Str))=false:=by decide)(he:starEach (e::es) X.env=(false,eval e X.env)::starEach es X.env:=by rfl)(hpl:(backTo pos (starEach es X.env)).any (·.1)=false:=by rfl) :
    PE X (.Call (.Name x p) (e::es) [] pos) (Dz sp dvs E t):=by
  intro pins s σ H Q I h;refine iF (wo I hg hm ?_ hdb);refine d4 (h₀:=X.base) I.ok.mod.kin hk (thn (ha pos pins s σ H _ I h) λus s1 ⟨vs,H1,I1,r,q⟩=>⟨I1.kIn,?_⟩) he hpl;exact Eg F hr hb hd hx I1 r q
theorem Ji(he:PE X o ta)(c:Cls X.K C)(hm:Meth X.K C m f)(F:FnOk X.prog X.w X.K X.mg X.base CX k f fd ps sp)(hr:Room k X.A)(hb:Binds X.K fd ps ds)(hd:Vals dvs ds)(hx:yT CX X E)(ha:PA X (e::es) t)(hst:starEach (e::es) X.env=(false,eval e X.env)::starEach es X.env:=by rfl)(hpl:(backTo pos (starEach es X.env)).any (·.1)=false:=by rfl)(ht:eval (.Call (.Attribute o m apos) (e::es) [] pos) X.env=(do
      let ov <-eval o X.env
      standAt apos.atName
      let (f,first) <-holding [ov] (getMethod ov m pl)
      callWith pos f first (backTo pos (starEach (e::es) X.env)) (backToKw pos (keywordEach [] X.env))):=by rfl) :
    PE X (.Call (.Attribute o m apos) (e::es) [] pos) (De C m sp dvs E ta t):=by
  intro pins s σ H Q I h;refine gY (pl:=pl) (thn (he pins s σ H _ I h) λu s1 ⟨x,H1,I1,rx,a,dx,fs,ex,ea,l,q⟩=>?_) ht;subst ex;obtain rfl:u=Value.ref a:=rx;refine vU I1 ea c hm l ?_;refine d4 (first:=[.ref a]) (h₀:=X.base) I.ok.mod.kin hm.kp (thn (ha pos pins s1 σ H1 _ I1 q) λus s2 ⟨vs,H2,I2,r,q2⟩=>⟨I2.kIn,?_⟩) hst hpl;exact Eg (us:=.ref a::us) (vs:=.ref a::vs) F hr hb hd hx I2 (.cons rfl r) q2
theorem Gd(he:PE X o ta)(c:Cls X.K C)(hm:Meth X.K C m f)(F:FnOk X.prog X.w X.K X.mg X.base CX k f fd ps sp)(hr:Room k X.A)(hb:Binds X.K fd ps ds)(hd:Vals dvs ds)(hx:yT CX X E)(ht:eval (.Call (.Attribute o m apos) [] [] pos) X.env=(do
      let ov <-eval o X.env
      standAt apos.atName
      let (f,first) <-holding [ov] (getMethod ov m pl)
      callWith pos f first (backTo pos (starEach [] X.env)) (backToKw pos (keywordEach [] X.env))):=by rfl) :
    PE X (.Call (.Attribute o m apos) [] [] pos) (De C m sp dvs E ta tNil):=by
  intro pins s σ H Q I h;refine gY (pl:=pl) (thn (he pins s σ H _ I h) λu s1 ⟨x,H1,I1,rx,a,dx,fs,ex,ea,l,q⟩=>?_) ht;subst ex;obtain rfl:u=Value.ref a:=rx;refine vU I1 ea c hm l ?_;exact W.callWith_K0 (first:=[.ref a]) I1.kIn hm.kp (Eg (us:=[.ref a]) (vs:=[.ref a]) F hr hb hd hx I1 (.cons rfl .nil) q)
structure Mk(K:iL)(C f:Addr):Prop where
  makes:W.makesIn K C=true
  init:W.findIn K (.ref C) "__init__"=some (some (.ref f))
  fn:W.isFn K (.ref f)=true
  kp:W.keepIn K (.ref C)=true
theorem GM{σ:St}{s:Shared}{Q:VK}(M:Mk X.K C f)(F:FnOk X.prog X.w X.K X.mg X.base CX k f fd ps sp)(hr:Room (k+1) X.A)(hb:Binds X.K fd ps ds)(hd:Vals dvs ds)(hx:yT CX X E)(I:Inv X pins σ H s)(r:Vals vs us)(h:∀ x dx,H x=none->H dx=none->dx≠x->sp (.ref x::(vs++dvs)) (upd (upd H dx (.own x)) x (.ins C dx [])) (λv H2=>v=.non/\Q (.ref x) H2) E) : wpAny (model X.prog X.w) X.A (call (.ref C) us) (EP X pins σ Q) X.xe s:=by
  have hq:=h (s.heap.objs.size+1) s.heap.objs.size (I.hok.fresh (dQ _)) (I.hok.fresh (ag _)) (aP (eW _));have I2:=Inv.made (C:=C) I;have r2:Vals (V.ref (s.heap.objs.size+1)::(vs++dvs)) (Value.ref (s.heap.objs.size+1)::(us++ds)):=.cons rfl (r.append hd);have hl:(Value.ref (s.heap.objs.size+1)::us++ds).length=ps.length:=by
    have e:=r2.length;rw [F.len _ _ _ _ hq] at e;exact e.symm
  refine wpAny_call (F7 (f:=f) I.kIn M.makes M.init (beq_iff_eq.mp M.fn) (iE (F.run _ X.stack _ _ ⟨Value.ref (s.heap.objs.size+1)::us,[]⟩ (Value.ref (s.heap.objs.size+1)::(us++ds)) _ _ E (hr.make C us [])
    (I2.env0.make C us []) (hb _ (Value.ref (s.heap.objs.size+1)::us) I2.kIn hl) r2 hq) λr s' hq'=>?_))
  cases r with
  | error e=>exact hx pins σ _ _ e s' I2 hq'
  | ok fl =>
    cases fl with
    | ret u =>
      obtain ⟨v,H',I3,rv,ev,q3⟩:=I2.after hq';subst ev;exact ⟨rv,⟨V.ref (s.heap.objs.size+1),H',I3,rfl,q3⟩⟩
    | next=>exact False.elim hq'
    | brk=>exact False.elim hq'
    | cont=>exact False.elim hq'
theorem IM(M:Mk X.K C f)(F:FnOk X.prog X.w X.K X.mg X.base CX k f fd ps sp)(hr:Room (k+1) X.A)(hg:Gl X x)(hm:X.mg x=some (.ref C))(hb:Binds X.K fd ps ds)(hd:Vals dvs ds)(hx:yT CX X E)(ha:PA X (e::es) t)(hdb:(x==("__debug__":Str))=false:=by decide)(he:starEach (e::es) X.env=(false,eval e X.env)::starEach es X.env:=by rfl)(hpl:(backTo pos (starEach es X.env)).any (·.1)=false:=by rfl) :
    PE X (.Call (.Name x p) (e::es) [] pos) (Ix C sp dvs E t):=by
  intro pins s σ H Q I h;refine iF (wo I hg hm ?_ hdb);refine d4 (h₀:=X.base) I.ok.mod.kin M.kp (thn (ha pos pins s σ H _ I h) λus s1 ⟨vs,H1,I1,r,q⟩=>⟨I1.kIn,?_⟩) he hpl;exact GM M F hr hb hd hx I1 r q
end
section
variable {CX:CXT}{k:Nat}{f C:Addr}{fd:FuncData}{ps ks:List Str}{sp:Sp}{E:XK}{x m:Str}{p pos apos kpos:Pos}{e o:Expr}{es:List Expr}{kws:List Keyword}{te ta:TE}{t tk:TA}{nm:Option Str}
variable {g:List Value->List Value->List Value}{gV:List V->List V->List V}
end
structure FnScope(N P:List Str)(sc:Scope):Prop where
  kind:sc.kind=.function
  co:sc.isCoroutine=false
  gen:sc.isGenerator=false
  nd:N.Nodup
  pre:N.take P.length=P
  par:∀ x∈P,sc.names.lookup x=some .local\/sc.names.lookup x=some .cell
  nofree:∀ y∈sc.names,y.2≠.free
theorem tj{kindOf:Str->Option NameKind}{x:Str}:∀ {binds:List (Str×Value)} {m:Str->Option Value},(∀ v,(x,v)∉binds)->bindL kindOf binds m x=m x
  | [],_,_=>rfl
  | (n,v)::r,m,h=>by
    unfold bindL;rw [tj λw hw=>h w (az _ hw)];split
    . have:x≠n:=by rintro rfl; exact h v aV
      simp [this]
    . rfl
theorem tz{kindOf:Str->Option NameKind}{x:Str}:∀ {binds:List (Str×Value)} {m:Str->Option Value},(∀ v,(x,v)∉binds)->bindC kindOf binds m x=m x
  | [],_,_=>rfl
  | (n,v)::r,m,h=>by
    unfold bindC;rw [tz λw hw=>h w (az _ hw)];split
    . rfl
    . have:x≠n:=by rintro rfl; exact h v aV
      simp [this]
theorem tP{kindOf:Str->Option NameKind}{x:Str}{v:Value}:∀ {P:List Str} {vs:List Value} {i:Nat} {m:Str->Option Value},P.Nodup->P[i]?=some x->vs[i]?=some v->kindOf x=some .local -> bindL kindOf (P.zip vs) m x=some v
  | [],_,_,_,_,h,_,_=>by simp at h
  | _::_,[],_,_,_,_,h,_=>by simp at h
  | p::P,w::vs,0,m,nd,h1,h2,hk=>by
    simp at h1 h2; subst h1; subst h2;show bindL kindOf ((p,w)::P.zip vs) m p=_;unfold bindL;rw [tj λv hv=>(dj.mp nd).1 (gZ hv).1,im hk];simp
  | p::P,w::vs,i+1,m,nd,h1,h2,hk=>by
    show bindL kindOf ((p,w)::P.zip vs) m x=_;unfold bindL;exact tP (i:=i) (dj.mp nd).2 (by simpa using h1) (by simpa using h2) hk
theorem Ag{kindOf:Str->Option NameKind}{x:Str}{v:Value}:∀ {P:List Str} {vs:List Value} {i:Nat} {m:Str->Option Value},P.Nodup->P[i]?=some x->vs[i]?=some v->kindOf x≠some .local -> bindC kindOf (P.zip vs) m x=some v
  | [],_,_,_,_,h,_,_=>by simp at h
  | _::_,[],_,_,_,_,h,_=>by simp at h
  | p::P,w::vs,0,m,nd,h1,h2,hk=>by
    simp at h1 h2; subst h1; subst h2;show bindC kindOf ((p,w)::P.zip vs) m p=_;unfold bindC;rw [tz λv hv=>(dj.mp nd).1 (gZ hv).1,io hk];simp
  | p::P,w::vs,i+1,m,nd,h1,h2,hk=>by
    show bindC kindOf ((p,w)::P.zip vs) m x=_;unfold bindC;exact Ag (i:=i) (dj.mp nd).2 (by simpa using h1) (by simpa using h2) hk
def start(N:List Str)(vs:List V):St:=vs.map some++List.replicate (N.length - vs.length) none
def cxOf(CX:CXT)(P:Program)(w:World)(K:iL)(mg:Str->Option Value)(base:Heap)(N:List Str)(qual:Str)(scope:Scope)(f:Addr)(cd:Value)(A:Around)(outer:List Env)(s:Shared)(H:Hp)(E:XK):Cx where
  prog:=P
  w:=w
  K:=K
  mg:=mg
  base:=base
  A:=A.deeper (envOfC qual scope s.heap.objs.size f cd)
  N:=N
  s₀:=s
  H₀:=H
  env:=envOfC qual scope s.heap.objs.size f cd
  outer:=outer
  stack:=envOfC qual scope s.heap.objs.size f cd::outer
  ex:=[]
  calm:=true
  fn:=λ_=>true
  pn:=[]
  xe:=λe s'=>wpAny (model P w) (A.deeper (envOfC qual scope s.heap.objs.size f cd)) (leaving (envOfC qual scope s.heap.objs.size f cd) e) (λ_ s''=>CX outer H s E e s'') (λe' s''=>CX outer H s E e' s'') s'
theorem BP{sc:Scope}{n:Nat}{x:Str}(h:sc.names.lookup x=some .cell):∃ c,(cellsFrom n sc.names []).lookup x=some c:=by
  have q:=gS sc.names n [] (.inl h);exact dk.mp q
variable {CX:CXT}{scope:Scope}{qual:Str}
theorem DC{K:iL}{N:List Str}{f:Addr}{cd:Value}{A:Around}{s s1:Shared}{E:XK}(S:FnScope N ps scope)(hd:A.handled=none)(e0:Env0 P w K mg base A outer s H)(hl:vs.length=ps.length)(r:Vals vs us)(x:InCallC s s.heap.objs.size (bindL (envOfC qual scope s.heap.objs.size f cd).kindOf (ps.zip us) λ_=>none) (cellsFrom (s.heap.objs.size+1) scope.names []) (bindC (envOfC qual scope s.heap.objs.size f cd).kindOf (ps.zip us) λ_=>none) s1) : Inv (cxOf CX P w K mg base N qual scope f cd A outer s H E) [] (start N vs) H s1:=by
  have hpl:ps.length<=N.length:=by have:=congrArg List.length S.pre; rw [aZ] at this; omega
  obtain ⟨h1,tk,rfl,hk⟩:=x.done;have noA:∀ b:Addr,b∉(cxOf CX P w K mg base N qual scope f cd A outer s H E).ex:=λb z=>absurd (show b∈([]:List Addr) from z) (!1);refine ⟨⟨e0.mod,S.kind,rfl,rfl,ag _,λy z c h1 h2=>?_,λy hy=>?_,λy c _ h=>?_,λ_=>hd,Around.frames_deeper e0.frames,.inr ⟨rfl,rfl⟩,λb z=>absurd z (noA b),e0.bs,e0.bsz,λb _ _=>noA b,λb z=>absurd z (noA b),e0.funs,e0.frf⟩,
    rfl,e0.bare,Un.kept hk,⟨_,x.toInCall.ns,λi y v h1 h2 h3=>?_⟩,λy c h=>⟨_,x.cell y c h⟩,e0.hok.fresh (ag _),λy c h=>?_,λp hp=>absurd (show p∈([]:List (Addr×Obj)) from hp) (!1),e0.hok.kept hk,?_⟩
  . exact name_of_addr x.apart (cX h1) (cX h2)
  . have hy:scope.names.lookup y=some .cell\/scope.names.lookup y=some .free:=hy;rcases hy with hy|hy
    . exact BP hy
    . exact absurd rfl (S.nofree _ (cX hy))
  . exact bA (x.above y c (cX h))
  . have hi:i<vs.length:=by
      unfold start at h2;by_cases hi:i<vs.length
      . exact hi
      . rw [aN (by simpa using hi)] at h2;rw [gA] at h2;split at h2 <;> cases h2
    have ha:vs[i]?=some v:=by
      unfold start at h2;rw [aT (by simpa using hi),aj] at h2;cases e:vs[i]? with
      | none=>rw [e] at h2; cases h2
      | some a=>rw [e] at h2; cases h2; rfl
    obtain ⟨u,hu,rv⟩:=r.get ha;have hp:ps[i]?=some y:=by
      rw [<-S.pre,dS (by omega)]; exact h1
    have ndP:ps.Nodup:=by rw [<-S.pre]; exact S.nd.sublist (List.take_sublist _ _)
    refine ⟨u,rv,?_⟩;rcases S.par y (av hp) with k|k
    . exact .inl ⟨k,tP ndP hp hu k⟩
    . obtain ⟨c,e⟩:=BP (n:=s.heap.objs.size+1) k;refine .inr ⟨.inl k,c,e,?_⟩;have q:=x.cell y c e;rw [Ag ndP hp hu (by show scope.names.lookup y≠_; rw [k]; decide)] at q;exact q
  . exact e0.hok.fresh (bA (x.above y c (cX h)))
  . unfold start;show _=N.length;rw [ah,aa,db];omega
theorem Jg{K:iL}{k:Nat}{f:Addr}{name:Str}{params:Arguments}{dV kV doc pm cdv ct oc:Value}{an od:Option Addr}{osl:Array (Option Value)}{N:List Str}{sp:Sp}(lk:K.lookup f=some ⟨oc,od,.func (W.fnOf name qual params body scope dV kV doc pm an cdv ct),osl⟩)(hcd:W.codeIn K cdv qual=true)(S:FnScope N ps scope)(len:∀ vs H Q E,sp vs H Q E->vs.length=ps.length)(hbody:∀ (A:Around) (outer:List Env) (s:Shared) (H:Hp) (vs:List V) (Q:VK) (E:XK),Room k (A.deeper (envOfC qual scope s.heap.objs.size f cdv))->sp vs H Q E ->
      ∃ t,PSs (cxOf CX P w K mg base N qual scope f cdv A outer s H E) body t/\t { nx:=λ_ H'=>Q .non H',rt:=Q } (start N vs) H) :
    FnOk P w K mg base CX (k+1) f (W.fnOf name qual params body scope dV kV doc pm an cdv ct) ps sp:=by
  refine ⟨len,λA outer s H args us vs Q E hr e0 hb r hsp=>?_⟩;have hl:=len _ _ _ _ hsp;have KX:K.In s.heap:=e0.mod.kin.keeps λb o e=>(e0.bs b o e).1;have lim:s.heap.NoLimit:=e0.mod.nolimit.keeps λb o e=>(e0.bs b o e).1;have hkind:∀ y∈ps.zip us,scope.names.lookup y.1=some .local\/(scope.names.lookup y.1=some .cell/\((cellsFrom (s.heap.objs.size+1) scope.names []).lookup y.1).isSome=true):=λ⟨n,v⟩ hy=>by
    rcases S.par n (gZ hy).1 with q|q
    . exact .inl q
    . exact .inr ⟨q,gS _ _ _ (.inl q)⟩
  refine codeAny_call_function hr.depth (KX _ _ lk) rfl S.co S.gen rfl (W.codeRec_of KX hcd) (hb _ _ _ _ ?_);refine wpAny_newFunctionEnv_cells S.kind hkind λenv he s1 x=>?_;subst he;refine ⟨lim.keeps x.toInCall.keep,codeAny_func ?_⟩;obtain ⟨t,ht,hq⟩:=hbody A outer s H vs Q E (hr.deeper _) hsp;have I:Inv (cxOf CX P w K mg base N qual scope f cdv A outer s H E) [] (start N vs) H s1:=DC S hr.hd e0 hl r x;refine ip (ht [] s1 (start N vs) H _ I hq) (λfl s' hs=>?_) λe s' hs=>hs;have fin:∀ {σ':St} {H':Hp} {v:V} {u:Value},Inv (cxOf CX P w K mg base N qual scope f cdv A outer s H E) [] σ' H' s'->RelV v u->Q v H'->CE outer P w H s Q u s' :=
    λ{σ' H' v u} J rv q=>⟨v,H',J.os,J.bare,J.base,J.hok,rv,q⟩
  cases fl with
  | ret u =>
    obtain ⟨v,σ',H',J,rv,q⟩:=hs;exact fin J rv q
  | next =>
    obtain ⟨σ',H',J,q⟩:=hs;exact fin (v:=V.non) (u:=Value.none) J rfl q
  | brk =>
    obtain ⟨_,_,_,q⟩:=hs;exact False.elim q
  | cont =>
    obtain ⟨_,_,_,q⟩:=hs;exact False.elim q
section
variable {x:Str}{p pos:Pos}{e:Expr}{es:List Expr}{t:TA}{id T:String}{r:List V->Hp->VK->Prop}
def tCB(r:List V->Hp->VK->Prop)(t:TA):TE:=λσ H Q=>t σ H λvs H1=>r vs H1 Q
theorem zq(hc:yx X (.builtin id) r)(hg:Gl X x)(hm:X.mg x=none)(hv:bootBuiltins x=some (.builtin id))(ha:PA X (e::es) t)(hn:x≠"__name__":=by decide)(hdb:(x==("__debug__":Str))=false:=by decide)(he:starEach (e::es) X.env=(false,eval e X.env)::starEach es X.env:=by rfl)(hpl:(backTo pos (starEach es X.env)).any (·.1)=false:=by rfl):PE X (.Call (.Name x p) (e::es) [] pos) (tCB r t):=by
  intro pins s σ H Q I h;refine iF (wB I hg hm hv ?_ hn hdb);exact PyProof.Rows.callWith_builtin1 (thn (ha pos pins s σ H _ I h) λus s1 ⟨vs,H1,I1,r1,q1⟩=>hc pins s1 σ H1 vs us Q I1 r1 q1) he hpl
theorem yE(hc:yx X (.type T) r)(hg:Gl X x)(hm:X.mg x=none)(hv:bootBuiltins x=some (.type T))(ha:PA X (e::es) t)(hn:x≠"__name__":=by decide)(hdb:(x==("__debug__":Str))=false:=by decide)(he:starEach (e::es) X.env=(false,eval e X.env)::starEach es X.env:=by rfl)(hpl:(backTo pos (starEach es X.env)).any (·.1)=false:=by rfl):PE X (.Call (.Name x p) (e::es) [] pos) (tCB r t):=by
  intro pins s σ H Q I h;refine iF (wB I hg hm hv ?_ hn hdb);exact b7 (thn (ha pos pins s σ H _ I h) λus s1 ⟨vs,H1,I1,r1,q1⟩=>hc pins s1 σ H1 vs us Q I1 r1 q1) he hpl
end
end L2
namespace HT
open PySem PyProof.Rows
open PySem.SeqAt
open PySem.AutoSeq1 (wpAny_loadPart')
open PySem.MeetsSeq PySem.MeetsSeq2 PySem.MeetsSeq3
variable {sl t:Addr}{hi lo:Option Int}{vl vu:Value}
section
variable {prog:Program}{w:World}{A:Around}{E:Value->Shared->Prop}{s:Shared}
theorem cat_tup{b:Addr}{vs ws:List Value}{Q:Value->Shared->Prop}(ht:IsTup s.heap t vs.toArray)(hb:IsTup s.heap b ws.toArray)(hv:vs≠[])(h1:ws=[]->Q (.ref t) s)(h2:ws≠[]->Q (.ref s.heap.objs.size) { s with heap:=s.heap.push { cls:=.type "tuple",data:=.seq (vs++ws).toArray } })(hsz:vs.length+ws.length<=sizeLine):wpAny (model prog w) A (binaryOp .Add (.ref t) (.ref b)) Q E s:=by
  obtain ⟨⟨cls,dd,data,sl⟩,ho,hc,n,hd⟩:=id ht;obtain ⟨⟨cls2,dd2,data2,sl2⟩,ho2,hc2,n2,hd2⟩:=id hb;simp only at hc hd hc2 hd2;subst hc hd hc2 hd2;have e:vs.toArray++ws.toArray=(vs++ws).toArray:=by simp
  by_cases hw:ws=[]
  . exact concat_meets ⟨_,ho,rfl⟩ ⟨_,ho2,rfl⟩ noFill_tuple_add seq_tuple_add gU gB (gi _ _)
      (tuple_addW1 t b vs.toArray ws.toArray n n2 dd dd2 sl sl2 (by simpa using hv) (by simp [hw])) ⟨ho,ho2,h1 hw⟩
  . refine concat_meets ⟨_,ho,rfl⟩ ⟨_,ho2,rfl⟩ noFill_tuple_add seq_tuple_add gU gB (gi _ _)
      (tuple_addW2 t b vs.toArray ws.toArray n n2 dd dd2 sl sl2 (by simpa using hv) (by simpa using hw) (by rw [aE,aE]; exact hsz)) ⟨ho,ho2,?_⟩
    rw [e];exact h2 hw
def sIx(n d:Nat):Option Int->Nat
  | none=>d
  | some v=>if v<0 then (v+(n:Int)).toNat else min v.toNat n
theorem sIx_none(n d:Nat):sIx n d none=d:=rfl
theorem LA(n d:Nat)(hd:d<=n)(o:Option Int):sIx n d o<=n:=by
  cases o with
  | none=>exact hd
  | some v =>
    show (if v<0 then (v+(n:Int)).toNat else min v.toNat n)<=n;by_cases hv:v<0
    . rw [im hv]; omega
    . rw [io hv]; exact Nat.min_le_right _ _
theorem Dw(v:Int)(n d:Nat):(if v<0 then max (v+(n:Int)) 0 else min v (n:Int))=((sIx n d (some v):Nat):Int):=by
  show (if v<0 then max (v+(n:Int)) 0 else min v (n:Int))=(((if v<0 then (v+(n:Int)).toNat else min v.toNat n):Nat):Int)
  by_cases hv:v<0
  . simp only [im hv]; omega
  . simp only [io hv]; omega
theorem CT(lo hi:Option Int)(n:Nat):Builtin.Slice.sliceAdjust lo hi 1 (n:Int)=(((sIx n 0 lo:Nat):Int),((sIx n n hi:Nat):Int)):=by
  have h1:¬ ((1:Int)<0):=by omega
  unfold Builtin.Slice.sliceAdjust;simp only [h1,if_false];refine Prod.ext ?_ ?_
  . cases lo with
    | none=>rfl
    | some v=>exact Dw v n 0
  . cases hi with
    | none=>rfl
    | some v=>exact Dw v n n
theorem CL(i j:Nat):Builtin.Slice.slicePlaces (i:Int) (j:Int) 1=j - i:=by
  unfold Builtin.Slice.slicePlaces;have h1:(1:Int) > 0:=by omega
  simp only [h1,if_true,Int.ediv_one];split <;> omega
theorem vM{v:Value}{o:Option Int}{Q:Option Int->Shared->Prop}(p:IsPart v o)(h:Q o s):wpAny (model prog w) A (Builtin.Slice.slicePartIndex v) Q E s:=by
  cases p with
  | none=>exact slicePart_none h
  | int i t=>exact slicePart_int h
theorem wD{n:Nat}{Q:Int×Int×Nat->Shared->Prop}(hs:s.heap.IsSliceOf sl vl vu .none)(pl:IsPart vl lo)(pu:IsPart vu hi)(h:Q (((sIx n 0 lo:Nat):Int),1,sIx n n hi - sIx n 0 lo) s):wpAny (model prog w) A (Builtin.Slice.sliceApplied (.ref sl) (pure (n:Int))) Q E s:=by
  obtain ⟨os,hos,hcs,hds⟩:=id hs;unfold Builtin.Slice.sliceApplied Builtin.Slice.sliceFields;refine iw (iw (wpAny_field hos hds (x:=vl) rfl (iw (wpAny_field hos hds (x:=vu) rfl (iw (wpAny_field hos hds (x:=.none) rfl (iA ?_)))))));refine iw (slicePart_none ?_);show wpAny _ _ (if ((1:Int)==0)=true then _ else _) _ _ s;rw [io (by decide)];refine iw (vM pl (iw (vM pu (iw (iA ?_)))));show wpAny _ _ (match Builtin.Slice.sliceAdjust lo hi 1 (n:Int) with | (lo,hi)=>pure (lo,(1:Int),Builtin.Slice.slicePlaces lo hi 1)) _ _ s;rw [CT lo hi n];show wpAny _ _ (pure (((sIx n 0 lo:Nat):Int),(1:Int),Builtin.Slice.slicePlaces ((sIx n 0 lo:Nat):Int) ((sIx n n hi:Nat):Int) 1)) _ _ s;rw [CL];exact iA h
theorem Gp(xs:Array Value)(i k:Nat):((List.range k).filterMap λ(m:Nat)=>xs[((i:Int)+(m:Int)*1).toNat]?).toArray=((xs.toList.drop i).take k).toArray:=by
  have e:(λ(m:Nat)=>xs[((i:Int)+(m:Int)*1).toNat]?)=λm=>xs[i+m]?:=by
    funext m;have:((i:Int)+(m:Int)*1).toNat=i+m:=by omega
    rw [this]
  rw [e];have:=pick_run xs i k;rw [List.filterMap_map] at this;have e2:((λx=>xs[x]?) ∘ λx=>i+x)=λm=>xs[i+m]?:=rfl;rw [e2] at this;rw [this]
theorem getItem_tuple_cut{items:Array Value}{Q:Value->Shared->Prop}(ht:IsTup s.heap t items)(hs:s.heap.IsSliceOf sl vl vu .none)(pl:IsPart vl lo)(pu:IsPart vu hi)(hw:¬ (sIx items.size 0 lo=0/\sIx items.size items.size hi=items.size))(h:Q (.ref s.heap.objs.size) { s with heap:=s.heap.push { cls:=.type "tuple",data:=.seq ((items.toList.drop (sIx items.size 0 lo)).take (sIx items.size items.size hi - sIx items.size 0 lo)).toArray } })(hsz:items.size<=sizeLine):wpAny (model prog w) A (getItem (.ref t) (.ref sl)) Q E s:=by
  have htake:sizeOk (.seq ((items.toList.drop (sIx items.size 0 lo)).take (sIx items.size items.size hi - sIx items.size 0 lo)).toArray):=by
    show ((items.toList.drop (sIx items.size 0 lo)).take (sIx items.size items.size hi - sIx items.size 0 lo)).toArray.size<=sizeLine;rw [aE,aZ,List.length_drop,dP];omega
  have hj:sIx items.size items.size hi<=items.size:=LA _ _ (ag _) hi;obtain ⟨os,hos,hcs,hds⟩:=id hs;have hTs:s.TypeIs (.ref sl) "slice":=⟨os,hos,hcs⟩
  unfold getItem;try with_reducible refine iG ?_
  first | refine iw (iA ?_) | skip
  refine iw (wpAny_sequenceKey ht.typeIs (by decide) ?_);refine iw (wpAny_callSpecial?_slot (name:=Str.ofString "__getitem__") ht.typeIs dm
    (wpAny_call_entry dm ht.typeIs entry_tuple_getitem ?_ (args_tuple_getitem _ _)))
  show wpAny _ _ (Builtin.Tuple.tupleItemsOf (.ref t) >>= _) _ _ s;refine iw (tupleItemsOf_ ht ?_);refine iw (iH hTs ?_);rw [im (by decide)];refine iw (wD hs pl pu ?_);have hno:¬ ((((sIx items.size 0 lo:Nat):Int)==0 && (1:Int)==1 && (sIx items.size items.size hi - sIx items.size 0 lo)==items.size)=true):=by
    intro q;rw [cK,cK] at q;have q1:((sIx items.size 0 lo:Nat):Int)=0:=eq_of_beq q.1.1;have q2:sIx items.size items.size hi - sIx items.size 0 lo=items.size:=eq_of_beq q.2;exact hw ⟨by omega,by omega⟩
  show wpAny _ _ (if (((sIx items.size 0 lo:Nat):Int)==0 && (1:Int)==1 && (sIx items.size items.size hi - sIx items.size 0 lo)==items.size)=true then _ else _) _ _ s;rw [io hno,Gp];first
    | exact iw (m:=Builtin.Tuple.tupleExact _) (iB (iA ⟨_,rfl,iA h⟩) htake)
    | exact iw (m:=Builtin.Tuple.tupleExact _) (iB (iw (iA (iA ⟨_,rfl,iA h⟩))) htake)
    | exact iw (iw (m:=Builtin.Tuple.tupleExact _) (iB (iA (iA ⟨_,rfl,iA h⟩)) htake))
    | exact iw (iw (m:=Builtin.Tuple.tupleExact _) (iB (iA ⟨_,rfl,iA h⟩) htake))
end
end HT
namespace L2
open PySem PySem.Spec PyProof.Rows
abbrev TO:=St->Hp->(Option Int->Hp->Prop)->Prop
def PO(X:Cx)(e:Option Expr)(t:TO):Prop :=
  ∀ (pins:List (Addr×Obj)) (s:Shared) (σ:St) (H:Hp) (Q:Option Int->Hp->Prop),Inv X pins σ H s->t σ H Q ->
    wpAny (model X.prog X.w) X.A (evalPart e X.env) (λu s'=>∃ o H',Inv X pins σ H' s'/\IsPart u o/\Q o H') X.xe s
def EF:TO:=λ_ H Q=>Q none H
def JK(t:TE):TO:=λσ H Q=>t σ H λx H1=>∃ i,x=.int i/\Q (some i) H1
section
variable {X:Cx}{e:Expr}{te:TE}{lo hi:Option Expr}{tl th:TO}{pos p2:Pos}
theorem Dj:PO X none EF:=by
  intro pins s σ H Q I h;rw [evalPart_none];exact iA ⟨none,H,I,.none,h⟩
theorem Er(h:PE X e te):PO X (some e) (JK te):=by
  intro pins s σ H Q I hw;rw [evalPart_some];refine thn (h pins s σ H _ I hw) λu s1 ⟨x,H1,I1,r1,q1⟩=>?_;obtain ⟨i,rfl,q⟩:=q1;obtain ⟨t,rfl⟩:=r1;exact ⟨some i,H1,I1,.int i t,q⟩
def SlR(X:Cx)(r:V->Option Int->Option Int->Hp->VK->Prop):Prop :=
  ∀ (pins:List (Addr×Obj)) (s:Shared) (σ:St) (H:Hp) (x:V) (v vl vu:Value) (lo hi:Option Int) (sl:Addr) (Q:VK),Inv X pins σ H s->RelV x v->s.heap.IsSliceOf sl vl vu .none->IsPart vl lo->IsPart vu hi->r x lo hi H Q ->
    ∃ T id,typeLookup (.type T) "__getitem__"=pure (some (.builtin id))/\s.TypeIs v T/\wpAny (model X.prog X.w) X.A (getItem v (.ref sl)) (EP X pins σ Q) X.xe s
def tSl(r:V->Option Int->Option Int->Hp->VK->Prop)(te:TE)(tl th:TO):TE:=λσ H Q=>te σ H λx H1=>tl σ H1 λl H2=>th σ H2 λu H3=>r x l u H3 Q
theorem BZ{r:V->Option Int->Option Int->Hp->VK->Prop}(hr:SlR X r)(he:PE X e te)(hl:PO X lo tl)(hu:PO X hi th):PE X (.Subscript e (.Slice lo hi none p2) pos) (tSl r te tl th):=by
  intro pins s σ H Q I h;refine Subscript_ (thn (he pins s σ H _ I h) λv s1 ⟨x,H1,I1,r1,q1⟩=>?_);refine wpAny_Slice (thn (hl pins s1 σ H1 _ I1 q1) λvl s2 ⟨l,H2,I2,pl,q2⟩=>thn (hu pins s2 σ H2 _ I2 q2) λvu s3 ⟨u,H3,I3,pu,q3⟩=>?_);rw [evalPart_none];refine iA ?_;have I4:Inv X pins σ H3 { s3 with heap:=s3.heap.push { cls:=.type "slice",data:=.fields #[vl,vu,.none] } }:=I3.kept (t':=s3.toks) λb ob q=>Heap.get?_push_of_some _ q;obtain ⟨T,id,hT,ht,hg⟩:=hr pins { s3 with heap:=s3.heap.push { cls:=.type "slice",data:=.fields #[vl,vu,.none] } } σ H3 x v vl vu l u s3.heap.objs.size Q I4 r1 (Heap.IsSliceOf.new ..) pl pu q3;show wpAny (model X.prog X.w) X.A (subscriptTail e (.Slice lo hi none p2) v (.ref s3.heap.objs.size)) (EP X pins σ Q) X.xe { s3 with heap:=s3.heap.push { cls:=.type "slice",data:=.fields #[vl,vu,.none] } };exact tail_any (ops:=[.ref s3.heap.objs.size,v]) ht hT hg (by with_unfolding_all rfl)
def cutV(xs:List V)(lo hi:Option Int):List V:=(xs.drop (HT.sIx xs.length 0 lo)).take (HT.sIx xs.length xs.length hi - HT.sIx xs.length 0 lo)
theorem vk(xs:List V)(lo hi:Option Int):(cutV xs lo hi).length<=xs.length:=by
  unfold cutV;rw [aZ,List.length_drop];omega
def rSlT(K:iL):V->Option Int->Option Int->Hp->VK->Prop:=λx lo hi H Q=>∃ a xs,x=.ref a/\SqT K H a xs /\
  ¬ (HT.sIx xs.length 0 lo=0/\HT.sIx xs.length xs.length hi=xs.length)/\∀ p,H p=none->Q (.ref p) (upd H p (.tup (cutV xs lo hi)))
theorem Km:SlR X (rSlT X.K):=by
  intro pins s σ H x v vl vu lo hi sl Q I rx hs pl pu h;obtain ⟨a,xs,rfl,hx,hw,q⟩:=h;cases rx
  obtain ⟨its,r,ht,hz⟩:=I.tuple hx;have hlen:its.toArray.size=xs.length:=by rw [aE]; exact r.length.symm
  refine ⟨"tuple",_,dm.lookup,ht.typeIs,?_⟩;refine HT.getItem_tuple_cut ht hs pl pu (by rw [hlen]; exact hw) ?_ (by rw [hlen]; exact hz);rw [hlen];refine ⟨.ref s.heap.objs.size,_,I.laid (t':=s.toks) (o:=.tup (cutV xs lo hi)) (λb ob q=>Heap.get?_push_of_some _ q) (ag _) ?_,rfl,q _ (I.hok.fresh (ag _))⟩;exact ⟨bW (vk xs lo hi) hz,_,(r.drop (HT.sIx xs.length 0 lo)).take (HT.sIx xs.length xs.length hi - HT.sIx xs.length 0 lo),IsTup.new _ _⟩
def Lc(K:iL):R2:=λx y H Q=>∃ a b xs ys,x=.ref a/\y=.ref b/\SqT K H a xs/\SqT K H b ys/\xs≠[]/\xs.length+ys.length<=sizeLine /\
  (ys=[]->Q (.ref a) H)/\(ys≠[]->∀ p,H p=none->Q (.ref p) (upd H p (.tup (xs++ys))))
theorem Vals.nil_iff{xs:List V}{us:List Value}(r:Vals xs us):us=[]↔xs=[]:=by
  cases r with
  | nil=>simp
  | cons _ _=>simp
theorem IY:OpR X (binaryOp .Add) (Lc X.K):=by
  intro pins s σ H x y v u Q I rx ry h;obtain ⟨a,b,xs,ys,rfl,rfl,ha,hb,hx,hz,q1,q2⟩:=h;cases rx
  cases ry
  obtain ⟨its,r1,p1,_⟩:=I.tuple ha;obtain ⟨its2,r2,p2,_⟩:=I.tuple hb;refine HT.cat_tup p1 p2 (λz=>hx (r1.nil_iff.mp z)) (λz=>⟨.ref a,H,I,rfl,q1 (r2.nil_iff.mp z)⟩) (λz=>?_) (by rw [<-r1.length,<-r2.length]; exact hz);refine ⟨.ref s.heap.objs.size,_,I.laid (t':=s.toks) (o:=.tup (xs++ys)) (λb ob q=>Heap.get?_push_of_some _ q) (ag _) ?_,rfl,q2 (λw=>z (r2.nil_iff.mpr w)) _ (I.hok.fresh (ag _))⟩;exact ⟨by rw [ah]; exact hz,_,r1.append r2,IsTup.new _ _⟩
end
def ixN(n:Nat)(i:Int):Option Nat:=if 0<=i then (if i<n then some i.toNat else none) else if -(n:Int)<=i then some (i+n).toNat else none
def atI{α:Type}(xs:List α)(i:Int):Option α:=(ixN xs.length i).bind λj=>xs[j]?
theorem Jl{n:Nat}{i:Int}{j:Nat}(h:ixN n i=some j):seqIndex? i n=some j/\j<n/\-(n:Int)<=i/\i<n:=by
  unfold ixN at h;by_cases h0:0<=i
  . rw [im h0] at h;by_cases h1:i<n
    . rw [im h1] at h;have e:i.toNat=j:=ao h;exact ⟨by rw [seqIndex_of h0 h1,e],by omega,by omega,h1⟩
    . rw [io h1] at h; cases h
  . rw [io h0] at h;by_cases h1:-(n:Int)<=i
    . rw [im h1] at h;have e:(i+n).toNat=j:=ao h;exact ⟨by rw [seqIndex_neg (by omega) h1,e],by omega,h1,by omega⟩
    . rw [io h1] at h; cases h
theorem AM{α:Type}{xs:List α}{i:Int}{v:α}(h:atI xs i=some v):∃ j,seqIndex? i xs.length=some j/\xs[j]?=some v/\j<xs.length/\-(xs.length:Int)<=i/\i<xs.length:=by
  unfold atI at h;cases e:ixN xs.length i with
  | none=>rw [e] at h; cases h
  | some j =>
    rw [e] at h;obtain ⟨h1,h2,h3,h4⟩:=Jl e;exact ⟨j,h1,h,h2,h3,h4⟩
theorem xW{α:Type}{xs:List α}{j:Nat}{v:α}(h:xs[j]?=some v):atI xs (j:Int)=some v:=by
  have hj:j<xs.length:=(af.mp h).1;have e:ixN xs.length (j:Int)=some j:=by
    unfold ixN;rw [im (by omega),im (by omega)]; simp
  unfold atI; rw [e]; exact h
def uQ(b:Expr):Prop:=∀ o i,subscripted b false o i=operate [o,i] (getItem o i)
def IxR(X:Cx)(r:R2):Prop :=
  ∀ (value slice:Expr) (pins:List (Addr×Obj)) (s:Shared) (σ:St) (H:Hp) (x y:V) (v u:Value) (Q:VK),Inv X pins σ H s->RelV x v->RelV y u->r x y H Q ->
    subscripted slice false v u=operate [v,u] (getItem v u)->wpAny (model X.prog X.w) X.A (subscriptTail value slice v u) (EP X pins σ Q) X.xe s
def MtR(X:Cx)(id:String)(r:V->List V->Hp->VK->Prop):Prop :=
  ∀ (pins:List (Addr×Obj)) (s:Shared) (σ:St) (H:Hp) (x:V) (xs:List V) (v:Value) (us:List Value) (Q:VK),Inv X pins σ H s->RelV x v->Vals xs us->r x xs H Q ->
    wpAny (model X.prog X.w) X.A (call (.builtin id) (v::us)) (EP X pins σ Q) X.xe s
variable {x y:V}
section
variable {X:Cx}{a b:Expr}{ta tb:TE}{pos:Pos}
theorem IxR.or{r r':R2}(h:IxR X r)(h':IxR X r'):IxR X (λx y H Q=>r x y H Q\/r' x y H Q):=by
  intro value slice pins s σ H x y v u Q I rx ry q hs;rcases q with q|q
  . exact h value slice pins s σ H x y v u Q I rx ry q hs
  . exact h' value slice pins s σ H x y v u Q I rx ry q hs
theorem Ik{r:R2}(hr:IxR X r)(ha:PE X a ta)(hb:PE X b tb)(hs:uQ b):PE X (.Subscript a b pos) (tOp r ta tb):=by
  intro pins s σ H Q I h;exact Subscript_ (binT ha hb I h λv u s2 x y H2 I2 rx ry q=>hr a b pins s2 σ H2 x y v u Q I2 rx ry q (hs _ _))
def rIxL(K:iL):R2:=λx y H Q=>∃ p xs i v,x=.ref p/\y=.int i/\SqL K H p xs/\atI xs i=some v/\Q v H
def rIxT(K:iL):R2:=λx y H Q=>∃ p xs i v,x=.ref p/\y=.int i/\SqT K H p xs/\atI xs i=some v/\Q v H
def rIxS:R2:=λx y H Q=>∃ z i c,x=.str z/\y=.int i/\z.length<=sizeLine/\atI z.cps.toList i=some c/\Q (.str ⟨#[c]⟩) H
theorem ix_list:IxR X (rIxL X.K):=by
  intro value slice pins s σ H x y v u Q I rx ry h hs;obtain ⟨p,xs,i,z,rfl,rfl,hq,he,q⟩:=h;cases rx
  obtain ⟨t,rfl⟩:=ry;obtain ⟨its,r,pl,hz⟩:=I.list hq;obtain ⟨j,h1,h2,h3,h4,h5⟩:=AM he;obtain ⟨w,ew,rw'⟩:=r.get h2;have hl:=r.length;have hn:=BC;have fin:EP X pins σ Q w s:=⟨z,H,I,rw',q⟩
  by_cases h0:0<=i
  . have hj:i.toNat=j:=by
      rw [seqIndex_of h0 h5] at h1;exact ao h1
    exact item_listR pl.isList h0 (by omega) (by rw [hj]; simpa using ew) fin hs
  . have hj:(i+(its.toArray.size:Int)).toNat=j:=by
      rw [seqIndex_neg (by omega) h4] at h1;rw [aE,<-hl];exact ao h1
    exact subscriptTail_builtinR (x:=w) pl.isList.typeIs slot_list_getitem.lookup
      (wpAny_getItem_list_neg (Q:=λr s'=>r=w/\EP X pins σ Q r s') pl.isList (by omega) (by rw [aE] <;> omega) (by omega) (by rw [hj]; simpa using ew) ⟨rfl,fin⟩) hs
theorem ix_tup:IxR X (rIxT X.K):=by
  intro value slice pins s σ H x y v u Q I rx ry h hs;obtain ⟨p,xs,i,z,rfl,rfl,hq,he,q⟩:=h;cases rx
  obtain ⟨t,rfl⟩:=ry;obtain ⟨its,r,pl,hz⟩:=I.tuple hq;obtain ⟨j,h1,h2,h3,h4,h5⟩:=AM he;obtain ⟨w,ew,rw'⟩:=r.get h2;have hl:=r.length;have hn:=BC;have fin:EP X pins σ Q w s:=⟨z,H,I,rw',q⟩
  exact subscriptTail_builtinR (x:=w) pl.typeIs slot_tuple_getitem.lookup
    (getItem_tuple (j:=j) (Q:=λr s'=>r=w/\EP X pins σ Q r s') pl (by omega) (by omega) (by rw [aE,<-hl]; exact h1) (by simpa using ew) ⟨rfl,fin⟩) hs
theorem Lm:IxR X rIxS:=by
  intro value slice pins s σ H x y v u Q I rx ry h hs;obtain ⟨z,i,c,rfl,rfl,hz,he,q⟩:=h;obtain ⟨t,rfl⟩:=rx;obtain ⟨t',rfl⟩:=ry;obtain ⟨j,h1,h2,h3,h4,h5⟩:=AM he;have hl:z.cps.toList.length=z.length:=by simp [Str.length]
  rw [hl] at h1 h4 h5;have hn:=BC;exact tail_any (typeIs_str s z t) slot_str_getitem.lookup (getItem_str (c:=c) (by
    have e1:decide (i < -(2 ^ 63:Int))=false:=il (by omega);have e2:decide (i>=2 ^ 63)=false:=il (by omega);rw [e1,e2,Bool.or_false]) (by rw [h1]; simpa using h2) ⟨.str ⟨#[c]⟩,H,I.tok _,⟨_,rfl⟩,q⟩) hs
def rIx(K:iL):R2:=λx y H Q=>rIxL K x y H Q\/rIxT K x y H Q\/rIxS x y H Q
theorem Ku:IxR X (rIx X.K):=ix_list.or (ix_tup.or Lm)
theorem tW(lo hi:Option Int)(n:Nat):(sliceBounds lo hi none n).1=((HT.sIx n 0 lo:Nat):Int)/\(sliceBounds lo hi none n).2.1=((HT.sIx n n hi:Nat):Int)/\(sliceBounds lo hi none n).2.2=1:=by
  refine ⟨?_,?_,rfl⟩
  . cases lo with
    | none=>simp [sliceBounds,HT.sIx]
    | some i =>
      simp only [sliceBounds,HT.sIx,Option.getD_none,show (1:Int) > 0 by decide,if_true];by_cases h:i<0
      . simp only [h,if_true] <;> omega
      . simp only [h,if_false] <;> omega
  . cases hi with
    | none=>simp [sliceBounds,HT.sIx]
    | some i =>
      simp only [sliceBounds,HT.sIx,Option.getD_none,show (1:Int) > 0 by decide,if_true];by_cases h:i<0
      . simp only [h,if_true] <;> omega
      . simp only [h,if_false] <;> omega
theorem uu(its:List Value)(lo hi:Option Int):slicePick its.toArray lo hi none=((its.drop (HT.sIx its.length 0 lo)).take (HT.sIx its.length its.length hi - HT.sIx its.length 0 lo)).toArray:=by
  obtain ⟨h1,h2,h3⟩:=tW lo hi its.toArray.size;unfold slicePick;rw [h1,h2,h3];simp only [sliceRange_one,pick_run,aE] <;> rfl
def rSlL(K:iL):V->Option Int->Option Int->Hp->VK->Prop:=λx lo hi H Q=>∃ a xs,x=.ref a/\SqL K H a xs/\∀ p,H p=none->Q (.ref p) (upd H p (.lst (cutV xs lo hi)))
theorem Ib:SlR X (rSlL X.K):=by
  intro pins s σ H x v vl vu lo hi sl Q I rx hs pl pu h;obtain ⟨a,xs,rfl,hx,q⟩:=h;cases rx
  obtain ⟨its,r,ht,hz⟩:=I.list hx;have hlen:=r.length;refine ⟨"list",_,slot_list_getitem.lookup,ht.isList.typeIs,?_⟩;refine wpAny_getItem_list_slice ht.isList hs pl pu .none (by simp) ?_ (by rw [aE] <;> omega);rw [uu,<-hlen];refine ⟨.ref s.heap.objs.size,_,I.laid (t':=s.toks) (o:=.lst (cutV xs lo hi)) (λb ob q=>Heap.get?_push_of_some _ q) (ag _) ?_,rfl,q _ (I.hok.fresh (ag _))⟩;exact ⟨bW (vk xs lo hi) hz,_,0,(r.drop (HT.sIx xs.length 0 lo)).take (HT.sIx xs.length xs.length hi - HT.sIx xs.length 0 lo),Heap.get?_push_size _ rfl⟩
def vD:V->Bool
  | .non=>true
  | .bl _=>true
  | .int _=>true
  | .str _=>true
  | _=>false
def eqV:V->V->Bool
  | .non,.non=>true
  | .bl a,.bl b=>a==b
  | .bl a,.int b=>(if a then 1 else 0)==b
  | .int a,.bl b=>a==(if b then 1 else 0)
  | .int a,.int b=>a==b
  | .str a,.str b=>a==b
  | _,_=>false
theorem LF{A:Around}{s:Shared}{u v:Value}(ry:RelV y u)(rx:RelV x v)(fy:vD y=true)(fx:vD x=true):SeqAt.EqAt A s u v (eqV y x):=by
  cases y with
  | non =>
    cases ry
    cases x with
    | non=>cases rx; exact SeqAt.EqAt.same _
    | bl b=>cases rx; exact SeqAt.EqAt.none_bool b
    | int b=>obtain ⟨t,rfl⟩:=rx; exact SeqAt.EqAt.none_int b t
    | str b=>obtain ⟨t,rfl⟩:=rx; exact SeqAt.EqAt.none_str b t
    | _=>exact absurd (show false=true from fx) aJ
  | bl a =>
    cases ry
    cases x with
    | non=>cases rx; exact SeqAt.EqAt.bool_none a
    | bl b=>cases rx; exact SeqAt.EqAt.bool_bool a b
    | int b=>obtain ⟨t,rfl⟩:=rx; exact SeqAt.EqAt.bool_int a b t
    | str b=>obtain ⟨t,rfl⟩:=rx; exact SeqAt.EqAt.bool_str a b t
    | _=>exact absurd (show false=true from fx) aJ
  | int a =>
    obtain ⟨t',rfl⟩:=ry;cases x with
    | non=>cases rx; exact SeqAt.EqAt.int_none a t'
    | bl b=>cases rx; exact SeqAt.EqAt.int_bool a t' b
    | int b=>obtain ⟨t,rfl⟩:=rx; exact SeqAt.EqAt.int_int a t' b t
    | str b=>obtain ⟨t,rfl⟩:=rx; exact SeqAt.EqAt.int_str a t' b t
    | _=>exact absurd (show false=true from fx) aJ
  | str a =>
    obtain ⟨t',rfl⟩:=ry;cases x with
    | non=>cases rx; exact SeqAt.EqAt.str_none a t'
    | bl b=>cases rx; exact SeqAt.EqAt.str_bool a t' b
    | int b=>obtain ⟨t,rfl⟩:=rx; exact SeqAt.EqAt.str_int a t' b t
    | str b=>obtain ⟨t,rfl⟩:=rx; exact SeqAt.EqAt.str_str a t' b t
    | _=>exact absurd (show false=true from fx) aJ
  | _=>exact absurd (show false=true from fy) aJ
def eqU(x:V)(u:Value):Bool:=match u with
  | .none=>eqV .non x
  | .bool b=>eqV (.bl b) x
  | .int i _=>eqV (.int i) x
  | .str z _=>eqV (.str z) x
  | _=>false
theorem GU{u:Value}(r:RelV y u)(f:vD y=true):eqU x u=eqV y x:=by
  cases y with
  | non=>cases r; rfl
  | bl b=>cases r; rfl
  | int i=>obtain ⟨t,rfl⟩:=r; rfl
  | str z=>obtain ⟨t,rfl⟩:=r; rfl
  | _=>exact absurd (show false=true from f) aJ
theorem Az{x:V}:∀ {xs:List V} {us:List Value},Vals xs us->xs.all vD=true->us.any (eqU x)=xs.any λy=>eqV y x
  | _,_,.nil,_=>rfl
  | y::xs,u::us,.cons r t,f=>by
    rw [List.all_cons,cK] at f;rw [d5,d5,GU r f.1,Az t f.2]
theorem uT{A:Around}{s:Shared}{x:V}{v:Value}(rx:RelV x v)(fx:vD x=true):∀ {xs:List V} {us:List Value},Vals xs us->xs.all vD=true->∀ u∈us,SeqAt.EqAt A s u v (eqU x u)
  | _,_,.nil,_=>λu hu=>by cases hu
  | y::xs,u::us,.cons r t,f=>λu' hu=>by
    rw [List.all_cons,cK] at f;rcases aU.mp hu with rfl|hu
    . rw [GU r f.1]; exact LF r rx f.1 fx
    . exact uT rx fx t f.2 u' hu
def inV(x:V)(xs:List V):Bool:=xs.any λy=>eqV y x
def rIn(K:iL)(neg:Bool):R2:=λx y H Q=>∃ p xs,y=.ref p/\(SqL K H p xs\/SqT K H p xs)/\vD x=true/\xs.all vD=true/\Q (.bl (if neg then !inV x xs else inV x xs)) H
theorem yA:OpR X (compareOp .In) (rIn X.K false):=by
  intro pins s σ H x y v u Q I rx ry h;obtain ⟨p,xs,rfl,hq,fx,fs,q⟩:=h;cases ry
  rcases hq with hq|hq
  . obtain ⟨its,r,pl,hz⟩:=I.list hq;refine SeqAt.in_listAt (eqU x) pl.isList (λw hw=>uT rx fx r fs w (by simpa using hw)) ⟨.bl _,H,I,rfl,?_⟩;rw [show its.toArray.any (eqU x)=its.any (eqU x) by simp,Az r fs];exact q
  . obtain ⟨its,r,pl,hz⟩:=I.tuple hq;refine SeqAt.in_tupleAt (eqU x) pl (λw hw=>uT rx fx r fs w (by simpa using hw)) ⟨.bl _,H,I,rfl,?_⟩;rw [show its.toArray.any (eqU x)=its.any (eqU x) by simp,Az r fs];exact q
theorem tN:yx X (.builtin "len") (λxs H Q=>∃ p ys,xs=[.ref p]/\(SqL X.K H p ys\/SqT X.K H p ys)/\Q (.int ys.length) H):=by
  intro pins s σ H xs us Q I r h;obtain ⟨p,ys,rfl,hq,q⟩:=h;obtain ⟨u,rfl,rx⟩:=CD r;cases rx
  have hn:=BC;rcases hq with hq|hq
  . obtain ⟨its,r',pl,hz⟩:=I.list hq;have hlen:=r'.length;exact Calls.call_len_list pl.isList (by simp only [aE] <;> omega) ⟨.int ys.length,H,I.tok _,⟨s.toks+1,by rw [aE,hlen]⟩,q⟩
  . obtain ⟨its,r',pl,hz⟩:=I.tuple hq;have hlen:=r'.length;exact len_tuple pl (by simp only [aE] <;> omega) ⟨.int ys.length,H,I.tok _,⟨s.toks+1,by rw [aE,hlen]⟩,q⟩
theorem tH:yx X (.type "list") (λxs H Q=>∃ p ys,xs=[.ref p]/\(SqL X.K H p ys\/SqT X.K H p ys)/\∀ l,H l=none->Q (.ref l) (upd H l (.lst ys))):=by
  intro pins s σ H xs us Q I r h;obtain ⟨p,ys,rfl,hq,q⟩:=h;obtain ⟨u,rfl,rx⟩:=CD r;cases rx
  have fin:∀ (its:List Value),Vals ys its->ys.length<=sizeLine->∀ (h':Heap) (c':Nat),(∀ b o',s.heap.get? b=some o'->h'.get? b=some o') ->
      h'.get? s.heap.objs.size=some { cls:=.type "list",dict:=none,data:=.seq its.toArray c',slots:=#[] }->EP X pins σ Q (.ref s.heap.objs.size) { s with heap:=h' }:=λits r' hz h' c' kp e =>
    ⟨.ref s.heap.objs.size,_,I.laid (t':=s.toks) kp (ag _) (show ObjOk X.prog X.w _ h' _ (.lst ys) from ⟨hz,its,c',r',e⟩),rfl,q _ (I.hok.fresh (ag _))⟩
  rcases hq with hq|hq
  . obtain ⟨its,r',pl,hz⟩:=I.list hq;have hlen:=r'.length;obtain ⟨o,ho,hc,n,hd⟩:=pl.isList;exact call_list_seq p (.inl rfl) ho hc hd (λh' c' kp e=>fin its r' hz h' c' kp e) (by simp only [aE] <;> omega)
  . obtain ⟨its,r',pl,hz⟩:=I.tuple hq;have hlen:=r'.length;obtain ⟨o,ho,hc,n,hd⟩:=pl;exact call_list_seq p (.inr rfl) ho hc hd (λh' c' kp e=>fin its r' hz h' c' kp e) (by simp only [aE] <;> omega)
theorem uH:yx X (.type "tuple") (λxs H Q=>∃ p ys,xs=[.ref p]/\((SqL X.K H p ys/\∀ l,H l=none->Q (.ref l) (upd H l (.tup ys)))\/(SqT X.K H p ys/\Q (.ref p) H))):=by
  intro pins s σ H xs us Q I r h;obtain ⟨p,ys,rfl,h⟩:=h;obtain ⟨u,rfl,rx⟩:=CD r;cases rx
  rcases h with ⟨hq,q⟩|⟨hq,q⟩
  . obtain ⟨its,r',pl,hz⟩:=I.list hq;have hlen:=r'.length;refine call_tuple_list pl.isList (λh' kp=>?_) (by simp only [aE] <;> omega);have I1:Inv X pins σ H { s with heap:=h' }:=I.kept (t':=s.toks) kp;have I2:Inv X pins σ (upd H h'.objs.size (.tup ys)) { s with heap:=h'.push { cls:=.type "tuple",data:=.seq its.toArray } } :=
      I1.laid (t':=s.toks) (λb o e=>Heap.get?_push_of_some _ e) (ag _) (show ObjOk X.prog X.w _ _ _ (.tup ys) from ⟨hz,its,r',IsTup.new _ _⟩)
    exact ⟨.ref h'.objs.size,_,I2,rfl,q _ (I1.hok.fresh (ag _))⟩
  . obtain ⟨its,r',pl,hz⟩:=I.tuple hq;exact call_tuple_same pl ⟨.ref p,H,I,rfl,q⟩
def tyV(K:iL)(T:String)(x:V)(H:Hp):Prop:=match x with
  | .str _=>T="str"
  | .int _=>T="int"
  | .ref p=>(T="list"/\∃ xs,SqL K H p xs)\/(T="tuple"/\∃ o,K.lookup p=some o/\o.cls=.type "tuple"/\o.dict=none) \/
      (T="dict"/\((∃ kvs,H p=some (.dK kvs))\/∃ kvs,H p=some (.dT kvs)))\/(T="set"/\∃ S n,H p=some (.set S n))
  | _=>False
theorem GW{pins:List (Addr×Obj)}{σ:St}{H:Hp}{s:Shared}{T:String}{v:Value}(I:Inv X pins σ H s)(r:RelV x v)(ty:tyV X.K T x H) : s.TypeIs v T/\∀ a,v=.ref a->∃ ob,s.heap.get? a=some ob/\ob.dict=none:=by
  cases x with
  | str z =>
    obtain ⟨t,rfl⟩:=r;cases (show T="str" from ty)
    exact ⟨typeIs_str s z t,λ_ e=>nomatch e⟩
  | int i =>
    obtain ⟨t,rfl⟩:=r;cases (show T="int" from ty)
    exact ⟨typeIs_int s i t,λ_ e=>nomatch e⟩
  | ref p =>
    cases r
    rcases ty with ⟨rfl,xs,hq⟩|⟨rfl,o,hk,hc,hd⟩|⟨rfl,hk⟩|⟨rfl,S,n,hk⟩
    . obtain ⟨its,_,pl,_⟩:=I.list hq;refine ⟨pl.isList.typeIs,λa e=>?_⟩;cases e
      obtain ⟨o,n,e,c,hd,_⟩:=pl;exact ⟨o,e,hd⟩
    . refine ⟨⟨o,I.kIn p o hk,hc⟩,λa e=>?_⟩;cases e
      exact ⟨o,I.kIn _ o hk,hd⟩
    . have z:∃ o,s.heap.get? p=some o/\o.ExactDict:=by
        rcases hk with ⟨kvs,hk⟩|⟨kvs,hk⟩
        . obtain ⟨_,_,_,_,o,_,_,e,ex,_⟩:=I.hok p _ hk;exact ⟨o,e,ex⟩
        . obtain ⟨_,_,_,_,o,_,_,e,ex,_⟩:=I.hok p _ hk;exact ⟨o,e,ex⟩
      obtain ⟨o,e,ex⟩:=z;refine ⟨⟨o,e,ex.1⟩,λa e2=>?_⟩;cases e2
      exact ⟨o,e,ex.2.1⟩
    . obtain ⟨o,_,_,_,e,ex,_⟩:=I.hok p _ hk;refine ⟨⟨o,e,ex.1⟩,λa e2=>?_⟩;cases e2
      exact ⟨o,e,ex.2.1⟩
  | _=>exact False.elim ty
def tBM0(K:iL)(T:String)(r:V->List V->Hp->VK->Prop)(to:TE):TE:=λσ H Q=>to σ H λx H1=>tyV K T x H1/\r x [] H1 Q
def tBM(K:iL)(T:String)(r:V->List V->Hp->VK->Prop)(to:TE)(t:TA):TE:=λσ H Q=>to σ H λx H1=>tyV K T x H1/\t σ H1 λxs H2=>r x xs H2 Q
variable {o e:Expr}{es:List Expr}{to:TE}{t:TA}{name:Str}{apos cpos:Pos}{T id:String}{r:V->List V->Hp->VK->Prop}
theorem JR(pa:PlainAttrs T)(slot:Slot T name id)(hty:typeOf (.builtin id)=pure (.type "method_descriptor"))(hm:MtR X id r)(ho:PE X o to)(hbase:attributeBase o name X.env (eval o X.env)=eval o X.env:=by rfl)(hline:(apos.endLine==cpos.line)=true:=by rfl):PE X (.Call (.Attribute o name apos) [] [] cpos) (tBM0 X.K T r to):=by
  intro pins s σ H Q I h;refine wpAny_Call_method0_late hbase hline (thn (ho pins s σ H _ I h) λv s1 ⟨x,H1,I1,r1,ty,q1⟩=>?_);obtain ⟨h1,h2⟩:=GW I1 r1 ty;exact ⟨T,id,pa,slot,hty,h1,h2,Calls.callWith_builtin rfl (PySem.evalArgs_none (hm pins s1 σ H1 x [] v [] Q I1 r1 .nil q1))⟩
theorem yW(pa:PlainAttrs T)(slot:Slot T name id)(hty:typeOf (.builtin id)=pure (.type "method_descriptor"))(hm:MtR X id r)(ho:PE X o to)(ha:PA X (e::es) t)(hbase:attributeBase o name X.env (eval o X.env)=eval o X.env:=by rfl)(hfew:((backTo cpos (starEach (e::es) X.env)).all (λx=>!x.1) && (backToKw cpos (keywordEach [] X.env)).all (λx=>x.1.isSome)
      && decide ((e::es).length+([]:List Keyword).length+(if ([]:List Keyword).isEmpty then 0 else 1)<30))=true:=by rfl)(hline:(apos.endLine==cpos.line)=true:=by rfl)(hs:starEach (e::es) X.env=(false,eval e X.env)::starEach es X.env:=by rfl)(hplain:(backTo cpos (starEach es X.env)).any (·.1)=false:=by rfl) :
    PE X (.Call (.Attribute o name apos) (e::es) [] cpos) (tBM X.K T r to t):=by
  intro pins s σ H Q I h;refine wpAny_Call_method_late hbase hfew hline rfl (thn (ho pins s σ H _ I h) λv s1 ⟨x,H1,I1,r1,ty,q1⟩=>?_);obtain ⟨h1,h2⟩:=GW I1 r1 ty;refine ⟨T,id,pa,slot,hty,h1,h2,?_⟩;have hA:=ha cpos pins s1 σ H1 _ I1 q1;rw [hs] at hA ⊢;refine Calls.callWith_builtin (by show (false || (backTo cpos (starEach es X.env)).any (·.1))=false; rw [hplain] <;> rfl) (Calls.evalArgs_plain ?_);exact thn hA λus s2 ⟨vs,H2,I2,r2,q2⟩=>hm pins s2 σ H2 x vs v us Q I2 r1 r2 q2
end
def MtM(X:Cx)(id:String)(r:V->List V->Hp->VK->Prop):Prop :=
  ∀ (pins:List (Addr×Obj)) (s:Shared) (σ:St) (H:Hp) (x:V) (xs:List V) (v:Value) (us:List Value) (Q:VK),Inv X pins σ H s->RelV x v->Vals xs us->r x xs H Q ->
    wpAny (model X.prog X.w) X.A (call (.builtin id) (v::us)) (EP X pins σ Q) X.xe s
theorem Vals.one:∀ {x:V} {us:List Value},Vals [x] us->∃ u,us=[u]/\RelV x u
  | _,_,.cons r .nil=>⟨_,rfl,r⟩
theorem Vals.two:∀ {x y:V} {us:List Value},Vals [x,y] us->∃ u v,us=[u,v]/\RelV x u/\RelV y v
  | _,_,_,.cons r (.cons q .nil)=>⟨_,_,rfl,r,q⟩
theorem Vals.zero:∀ {us:List Value},Vals [] us->us=[]
  | _,.nil=>rfl
theorem Vals.rep{xs:List V}{us:List Value}(h:Vals xs us):∀ k:Nat,Vals (List.replicate k xs).flatten (List.replicate k us).flatten
  | 0=>.nil
  | k+1=>by
    rw [b9,b9,dE,dE];exact Vals.append h (Vals.rep h k)
theorem Ab(its:List Value):∀ (k:Nat) (acc:List Value), List.foldl (λx1 x2=>x1++x2) acc.toArray (List.replicate k its.toArray)=(acc++(List.replicate k its).flatten).toArray
  | 0,acc=>by simp
  | k+1,acc=>by
    have e:acc.toArray++its.toArray=(acc++its).toArray:=by simp
    have e2:(acc++its)++(List.replicate k its).flatten=acc++(List.replicate (k+1) its).flatten:=by
      rw [b9,dE,aH]
    rw [<-e2,<-Ab its k (acc++its),<-e,b9,List.foldl_cons]
variable {its:List Value}{t':Nat}
section
variable {X:Cx}{pins:List (Addr×Obj)}{σ:St}{H:Hp}{s:Shared}{l b:Addr}{xs ys zs:List V}
theorem Inv.lset{its':List Value}{n:Nat}{f:Array Value->Array Value}(I:Inv X pins σ H s)(hH:H l=some (.lst xs))(e:s.heap.get? l=some { cls:=.type "list",data:=.seq its.toArray n })(hf:f its.toArray=its'.toArray)(hv:Vals ys its')(hz:ys.length<=sizeLine) :
    Inv X pins σ (upd H l (.lst ys)) { s with heap:=s.heap.update l (Obj.mapSeq f),toks:=t' }:=by
  have q:=PySem.IsL.update e f;rw [hf] at q;refine I.write (x:=l) (e:=l) (by rw [hH]; exact trivial) (.inl rfl) (λb' u hb hu=>(Heap.get?_update_other s.heap (Obj.mapSeq f) (bZ hb)).trans hu) ⟨_,q⟩ ?_;exact ⟨hz,its',_,hv,q⟩
theorem Inv.lnew(I:Inv X pins σ H s)(hv:Vals ys its)(hz:ys.length<=sizeLine) : Inv X pins σ (upd H s.heap.objs.size (.lst ys)) { s with heap:=s.heap.push { cls:=.type "list",data:=.seq its.toArray },toks:=t' } :=
  I.laid (λ_ _ q=>Heap.get?_push_of_some _ q) (ag _) ⟨hz,its,0,hv,Heap.get?_push_size _ rfl⟩
theorem Inv.fresh(I:Inv X pins σ H s):H s.heap.objs.size=none:=I.hok.fresh (ag _)
theorem Inv.lstM(I:Inv X pins σ H s)(hH:H l=some (.lst xs)):xs.length<=sizeLine/\∃ (its:List Value) (n:Nat),Vals xs its/\xs.length=its.length/\s.heap.get? l=some { cls:=.type "list",data:=.seq its.toArray n }:=by
  obtain ⟨z,its,n,r,e⟩:=I.hok l _ hH;exact ⟨z,its,n,r,r.length,e⟩
theorem BM{n:Nat}(h:n<=sizeLine):Builtin.List.listTooLong n=false:=by
  unfold Builtin.List.listTooLong;exact il (by omega)
end
variable {X:Cx}
def zZ:V->List V->Hp->VK->Prop:=λx vs H Q=>∃ l xs y,x=.ref l/\vs=[y]/\H l=some (.lst xs)/\xs.length<sizeLine/\Q .non (upd H l (.lst (xs++[y])))
theorem zB:MtM X "list.append" zZ:=by
  intro pins s σ H x vs v us Q I rx rv h;obtain ⟨l,xs,y,rfl,rfl,hH,hz,q⟩:=h;cases rx
  obtain ⟨u,rfl,ru⟩:=rv.one;obtain ⟨z,its,n,r,hl,e⟩:=I.lstM hH;refine iI F.slot_list_append ⟨_,e,rfl⟩ F.entry_list_append (F.args_list_append_2 _ _) (PySem.list_append l its.toArray n u (by rw [aE]; omega)) ⟨e,?_⟩;refine ⟨.non,_,I.lset (its':=its++[u]) hH e (by simp) (r.append (.cons ru .nil)) ?_,rfl,q⟩;rw [ah,List.length_singleton];omega
def DW:V->List V->Hp->VK->Prop:=λx vs H Q=>∃ l b xs zs,x=.ref l/\vs=[.ref b]/\H l=some (.lst xs)/\H b=some (.lst zs)/\xs.length+zs.length<=sizeLine/\Q .non (upd H l (.lst (xs++zs)))
theorem Aj:MtM X "list.extend" DW:=by
  intro pins s σ H x vs v us Q I rx rv h;obtain ⟨l,b,xs,zs,rfl,rfl,hH,hB,hz,q⟩:=h;cases rx
  obtain ⟨u,rfl,ru⟩:=rv.one;cases ru
  obtain ⟨z,its,n,r,hl,e⟩:=I.lstM hH;obtain ⟨z2,its2,n2,r2,hl2,e2⟩:=I.lstM hB;have hsz:its.toArray.size+its2.toArray.size<=sizeLine:=by rw [aE,aE]; omega
  have hlong:¬ (!its.toArray.isEmpty && Builtin.List.listTooLong (its.toArray.size+its2.toArray.size))=true:=by
    rw [BM hsz,Bool.and_false];exact aJ
  refine iI F.slot_list_extend ⟨_,e,rfl⟩ F.entry_list_extend (F.args_list_extend_2 _ _)
    (AutoSeq1.list_extend_list_list_0 l its.toArray n b its2.toArray n2 hlong (by rw [aE]; omega) (by omega)) ⟨e,e2,?_⟩
  refine ⟨.non,_,I.lset (its':=its++its2) hH e (by simp) (r.append r2) ?_,rfl,q⟩;rw [ah];omega
def rCat:R2:=λx y H Q=>∃ l b xs zs,x=.ref l/\y=.ref b/\H l=some (.lst xs)/\H b=some (.lst zs)/\xs.length+zs.length<=sizeLine/\∀ p,H p=none->Q (.ref p) (upd H p (.lst (xs++zs)))
theorem Fa:OpR X (binaryOp .Add) rCat:=by
  intro pins s σ H x y v u Q I rx ry h;obtain ⟨l,b,xs,zs,rfl,rfl,hH,hB,hz,q⟩:=h;cases rx
  cases ry
  obtain ⟨z,its,n,r,hl,e⟩:=I.lstM hH;obtain ⟨z2,its2,n2,r2,hl2,e2⟩:=I.lstM hB;refine PySem.P.add_list e e2 ?_ (by rw [aE,aE]; omega);have ea:its.toArray++its2.toArray=(its++its2).toArray:=by simp
  rw [ea];exact ⟨.ref _,_,I.lnew (t':=s.toks) (r.append r2) (by rw [ah]; omega),rfl,q _ I.fresh⟩
def rRep:R2:=λx y H Q=>∃ l k xs,x=.ref l/\y=.int k/\H l=some (.lst xs)/\-(2 ^ 63)<=k/\k<2 ^ 63/\xs.length*k.toNat<=sizeLine /\
  ∀ p,H p=none->Q (.ref p) (upd H p (.lst (List.replicate k.toNat xs).flatten))
theorem Jj{α:Type}(xs:List α)(k:Nat):(List.replicate k xs).flatten.length=k*xs.length:=by
  induction k with
  | zero=>simp
  | succ k ih=>rw [b9,dE,ah,ih,Nat.succ_mul,Nat.add_comm]
theorem KL:OpR X (binaryOp .Mult) rRep:=by
  intro pins s σ H x y v u Q I rx ry h;obtain ⟨l,k,xs,rfl,rfl,hH,h1,h2,hz,q⟩:=h;cases rx
  obtain ⟨t,rfl⟩:=ry;obtain ⟨z,its,n,r,hl,e⟩:=I.lstM hH;have hlen:its.toArray.size*k.toNat<=sizeLine:=by rw [aE,<-hl]; exact hz
  have hcap:¬ its.toArray.size*k.toNat > (2 ^ 63 - 1) / 8:=by
    have:(sizeLine:Nat)<=(2 ^ 63 - 1) / 8:=by decide
    omega
  have hfit:¬ (!Builtin.List.listFitsIndex k)=true:=by
    rw [fitsIndex_both h1 h2];exact aJ
  have hlong:¬ Builtin.List.listTooLong (its.toArray.size*k.toNat)=true:=by
    rw [BM hlen];exact aJ
  have hnew:List.foldl (λx1 x2=>x1++x2) #[] (List.replicate (if its.toArray.isEmpty=true then 0 else k.toNat) its.toArray)=(List.replicate k.toNat its).flatten.toArray:=by
    have f0:∀ m:Nat,List.foldl (λx1 x2=>x1++x2) #[] (List.replicate m its.toArray)=(List.replicate m its).flatten.toArray:=λm=>by
      have:=Ab its m [];rw [List.nil_append] at this;exact this
    rw [f0];cases its with
    | nil=>simp
    | cons a r'=>rw [io (by simp)]
  refine wpAny_binaryOp_repeat_ref (T:="list") (U:="int") (by decide) ⟨_,e,rfl⟩ (λs'=>typeIs_int s' k t) noFill_list_mul F.fills_int_mul F.slot_int_rmul repeat_list F.slot_int_index.lookup
    (iI F.slot_int_rmul (typeIs_int s k t) F.entry_int_rmul (F.args_int_rmul_2 _ _) (int___rmul___int_list k t l its.toArray n)
      ⟨e,rfl,⟨_,e,rfl⟩,iI F.slot_list_mul ⟨_,e,rfl⟩ F.entry_list_mul (F.args_list_mul_2 _ _) (AutoListH.list___mul___list_int_3 l its.toArray n k t hfit hcap hlong) ⟨e,?_⟩⟩)
  rw [hnew];exact ⟨.ref _,_,I.lnew (t':=s.toks) (r.rep k.toNat) (by rw [Jj,Nat.mul_comm]; exact hz),rfl,q _ I.fresh⟩
section
variable {prog:Program}{w:World}{A:Around}{E:Value->Shared->Prop}{s:Shared}
end
end L2
namespace Att
open PySem PySem.W PySem.Calls PyProof.Rows
variable {h:Heap}{P:Params}
theorem w8:∀ (ns:List Int) (vs:List Value),WellAll P h vs (ns.map WData.int)->IntsAre vs ns:=by
  intro ns;induction ns with
  | nil =>
    intro vs w;rw [cL] at w;cases w
    exact .nil
  | cons n ns ih =>
    intro vs w;rw [aW] at w;cases w with
    | cons a b =>
      cases a
      exact .cons _ _ (ih _ b)
theorem EW{l:OpenLaw}{n:Nat}(hn:l.most=some n){args:List WData}{vals:List Value}(hpre:l.row.toRowW.claim.pre args=true)(hwl:WellAll P h vals args) : ∃ a vs ns,vals=[Value.ref a]/\args=[WData.list (ns.map WData.int)]/\h.get? a=some { cls:=.type "list",data:=.seq vs.toArray }/\IntsAre vs ns/\ns.length<=n:=by
  have hsh:WShape.hasAll [] args [.list .int]=true:=(pre_splitW hpre).1;have hc:l.pre.holds [] { args:=args }=true:=(pre_splitW hpre).2;obtain ⟨d,r,rfl,h1,h2⟩:=hasAllW_cons hsh;obtain rfl:=hasAllW_nil h2;obtain ⟨xs,rfl,h3⟩:=hasW_list h1;obtain ⟨ns,rfl⟩:=items_int h3;have hlen:ns.length<=n:=by
    unfold OpenLaw.pre at hc;have h4:(WTm.not (.lt (.lit (.int (n:Int))) (.len (.arg 0)))).holds [] { args:=[.list (ns.map .int)] }=true:=by
      have h4:=(holds_andW hc).1;rw [hn] at h4;exact h4
    have h5:=condW_of h4 (w_not (w_lt w_lit (w_len_list (w_arg rfl))));rw [aa] at h5;refine Nat.le_of_not_lt λq=>?_;have q':(n:Int)<((ns.length:Nat):Int):=by omega
    first
      | (rw [iJ q'] at h5; exact absurd h5 (by decide))
      | (simp at h5; omega)
  cases hwl with
  | cons w1 w2 =>
    cases w2
    cases w1 with
    | list ho hall=>exact ⟨_,_,ns,rfl,rfl,ho,w8 ns _ hall,hlen⟩
theorem Dx(l:OpenLaw)(args:List WData):l.row.toRowW.claim.post args (.bool true) args=true :=
  postW_of (r:=l.row.toRowW) (X:=(true==true))
    (show WShape.has [] (.bool true) .bool=true by first | rfl | decide | simp [WShape.has,WShape.arms,WShape.armsAll])
    (show (WTm.eq .res (.lit (.bool true))).value [] { args:=args,res:=some (.bool true),after:=args }=some (.bool (true==true)) from w_eq_bool (w_res rfl) w_lit) rfl
section
variable {prog:Program}{w:World}{A:Around}{E:Value->Shared->Prop}{s:Shared}{K:Frag}
end
end Att
namespace L2
open PySem PySem.Spec PyProof.Rows
theorem Ak:∀ {vs:List Value} {ns:List Int},IntsAre vs ns->Vals (ns.map V.int) vs
  | _,_,.nil=>.nil
  | _,_,.cons n t h=>.cons ⟨t,rfl⟩ (Ak h)
def Only(H:Hp):Prop:=∀ b,H b=none\/∃ o xs,H b=some (.frz o (.lst xs))
variable {a:Addr}{fd:FuncData}{sp:Sp}{x:Str}
theorem GL{P:Program}{w:World}{K:iL}{mg mb:Str->Option Value}{CX:CXT}{k:Nat}{fa:Addr}{s₁:Shared}{vs:List Value}{ns:List Int}(KX:K.In s₁.heap)(hns:s₁.heap.Ns mainGlobals mg)(hb:s₁.heap.Ns builtinsNs mb)(hbb:∀ x:Str,x≠"__name__"->mb x=bootBuiltins x)(hlim:s₁.heap.NoLimit)(hg:s₁.gens=#[])(ha:s₁.heap.get? a=some { cls:=.type "list",data:=.seq vs.toArray })(hi:IntsAre vs ns)(hl:ns.length<=sizeLine)(hr:Room k callerA)(F:∀ base:Heap,K.In base->base.Ns mainGlobals mg->FnOk P w K mg base CX k fa fd [x] sp)(hbind:∀ (s:Shared) (u:Value),BindsTo s fd ⟨[u],[]⟩ [(x,u)])(hsp:∀ H:Hp,Only H->SqL K H a (ns.map V.int)->sp [.ref a] H (λv _=>v=.bl true) λ_ _ _=>False)(hCX:∀ H e s',CX [] H s₁ (λ_ _ _=>False) e s'->False) :
    codeAny (model P w) callerA (.call (.ref fa) ⟨[.ref a],[]⟩) (λr s'=>r=.ok (.ret (.bool true))/\OldK s₁.heap s'.heap/\s'.os=s₁.os/\AllBare s'.gens) s₁:=by
  have rv:=Ak hi;have lenV:=hi.length;have core:∀ H:Hp,Only H->SqL K H a (ns.map V.int)->HOk P w H s₁.heap->(∀ b,H b≠none->b=a)->(H a≠none->K.lookup a=none) ->
      codeAny (model P w) callerA (.call (.ref fa) ⟨[.ref a],[]⟩) (λr s'=>r=.ok (.ret (.bool true))/\OldK s₁.heap s'.heap/\s'.os=s₁.os/\AllBare s'.gens) s₁:=by
    intro H hO hS hok hA hK;have base_of:∀ {b:Addr} {o:Obj},s₁.heap.get? b=some o->H b=none->(hidT s₁.heap H).get? b=some o:=λe n=>Gs e n;have noA:∀ {b:Addr} {o:Obj} {es:Array DictEntry} {ep:Nat},s₁.heap.get? b=some o->o.data=.dict es ep->H b=none:=λ{b o es ep} e d=>by
      cases q:H b with
      | none=>rfl
      | some u =>
        have e':b=a:=hA b (by rw [q]; simp);subst e';rw [ha] at e; cases e;have d':Data.seq vs.toArray _=Data.dict es ep:=d;cases d'
    have nsK:∀ {b:Addr} {m:Str->Option Value},s₁.heap.Ns b m->(hidT s₁.heap H).Ns b m:=λ{b m} ⟨o,es,ep,e,d,r⟩=>⟨o,es,ep,base_of e (noA e d),d,r⟩
    have hKb:K.In (hidT s₁.heap H):=λb o e=>base_of (KX b o e) (by
      cases q:H b with
      | none=>rfl
      | some u =>
        have e':b=a:=hA b (by rw [q]; simp);subst e';rw [hK (by rw [q]; simp)] at e; cases e)
    have hM:Mod K mg (hidT s₁.heap H):=⟨hKb,nsK hns,⟨mb,nsK hb,hbb⟩,let ⟨mc,h1,h2⟩:=hlim; ⟨mc,nsK h1,h2⟩⟩
    have e0:Env0 P w K mg (hidT s₁.heap H) callerA [] s₁ H:=⟨rfl,hM,λb o e=>IZ e,Nat.le_of_eq (Dm _ _),trivial,λb hb=>absurd (show b∈([]:List Addr) from hb) (by simp),hok,.of_eq hg⟩
    refine iE ((F _ hKb (nsK hns)).run callerA [] s₁ H ⟨[.ref a],[]⟩ [.ref a] [.ref a] _ _ hr e0 (hbind s₁ (.ref a)) (.cons rfl .nil) (hsp H hO hS)) λr s' h=>?_;cases r with
    | error e=>exact (hCX H e s' h).elim
    | ok fl =>
      cases fl with
      | next=>exact False.elim h
      | brk=>exact False.elim h
      | cont=>exact False.elim h
      | ret u =>
        obtain ⟨v,H',os,bare,un,hok',r',q⟩:=h;have q':v=.bl true:=q;subst q';obtain rfl:u=Value.bool true:=r';refine ⟨rfl,OldK.of_keep λb o e=>?_,os,bare⟩;cases q:H b with
        | none=>exact un.keep b o e q (by intro z; exact absurd (show b∈([]:List Addr) from z) (by simp)) (by simp)
        | some u =>
          rcases hO b with z|⟨ob,xs,z⟩
          . rw [q] at z; cases z
          . have z2:=un.frzs b ob _ z;obtain ⟨e1,_⟩:=hok b _ z;obtain ⟨e2,_⟩:=hok' b _ z2;rw [e] at e1; cases e1;exact e2
  cases hk:K.lookup a with
  | some o =>
    have e:=KX a o hk;rw [ha] at e;cases e
    refine core (λ_=>none) (λ_=>.inl rfl) (.inr ⟨_,vs.toArray,_,hk,rfl,rfl,rfl,by rw [aE,lenV]; exact hl,by simpa using rv⟩) (λb u z=>by have z':(none:Option HO)=some u:=z; cases z') (λb z=>absurd rfl z) λz=>absurd rfl z
  | none =>
    refine core (λb=>if b=a then some (.frz { cls:=.type "list",data:=.seq vs.toArray } (.lst (ns.map V.int))) else none) (λb=>?_) (.inl (.inr ⟨{ cls:=.type "list",data:=.seq vs.toArray },im rfl⟩)) (λb u z=>?_) (λb z=>?_) λ_=>hk
    . by_cases hb:b=a
      . exact .inr ⟨_,_,im hb⟩
      . exact .inl (io hb)
    . by_cases hb:b=a
      . have z':=(im hb).symm.trans z;cases z'
        subst hb;exact ⟨ha,by rw [aa]; exact hl,vs,_,rv,ha⟩
      . have z':=(io hb).symm.trans z;cases z'
    . by_cases hb:b=a
      . exact hb
      . exact absurd (io hb) z
def xV(s:Stmt)(j:Nat):Stmt:=match s with
  | .ClassDef _ _ _ body _ _ _ _ _ _ _=>body.getD j (.Pass ⟨0,0,0,0⟩)
  | _=>.Pass ⟨0,0,0,0⟩
def defArgs(s:Stmt):Arguments:=match s with
  | .FunctionDef _ a _ _ _ _ _ _ _ _=>a
  | _=>{ posonlyargs:=[],args:=[],vararg:=none,kwonlyargs:=[],kw_defaults:=[],kwarg:=none,defaults:=[] }
def defBody(s:Stmt):List Stmt:=match s with
  | .FunctionDef _ _ b _ _ _ _ _ _ _=>b
  | _=>[]
def defScope(s:Stmt):Scope:=match s with
  | .FunctionDef _ _ _ _ _ _ sc _ _ _=>sc
  | _=>{ kind:=.function,names:=[],isGenerator:=false,isCoroutine:=false }
abbrev CX0:CXT:=λ_ _ _ _ _ _=>False
abbrev E0:XK:=λ_ _ _=>False
theorem tK{X:Cx}:yT CX0 X E0:=λ_ _ _ _ _ _ _ h=>h.elim
structure Fun(K:iL)(x qual:Str)(st:Stmt)(f:Addr)(fd:FuncData):Prop where
  ex:∃ (oc:Value) (od:Option Addr) (kV doc pm:Value) (an:Option Addr) (cdv ct:Value) (osl:Array (Option Value)),
    fd=W.fnOf x qual (defArgs st) (defBody st) (defScope st) .none kV doc pm an cdv ct/\K.lookup f=some ⟨oc,od,.func fd,osl⟩/\W.codeIn K cdv qual=true
  kp:W.keepIn K (.ref f)=true
variable {f:Addr}{ps:List Str}{qual:Str}
section
variable {P:Program}{w:World}{K:iL}{mg:Str->Option Value}{base:Heap}
theorem Fun.ok{st:Stmt}{N:List Str}{k:Nat}(F:Fun K x qual st f fd)(S:FnScope N ps (defScope st))(len:∀ vs H Q E,sp vs H Q E->vs.length=ps.length)(hbody:∀ (cdv:Value) (A:Around) (outer:List Env) (s:Shared) (H:Hp) (vs:List V) (Q:VK) (E:XK),Room k (A.deeper (envOfC qual (defScope st) s.heap.objs.size f cdv))->sp vs H Q E ->
      ∃ t,PSs (cxOf CX0 P w K mg base N qual (defScope st) f cdv A outer s H E).nox (defBody st) t/\t { nx:=λ_ H'=>Q .non H',rt:=Q } (start N vs) H):FnOk P w K mg base CX0 (k+1) f fd ps sp:=by
  obtain ⟨oc,od,kV,doc,pm,an,cdv,ct,osl,rfl,lk,hcd⟩:=F.ex;refine Jg lk hcd S len λA outer s H vs Q E hr hsp=>?_;obtain ⟨t,h,q⟩:=hbody cdv A outer s H vs Q E hr hsp;exact ⟨t,h.nox,q⟩
theorem Fun.binds{st:Stmt}(F:Fun K x qual st f fd)(h:∀ (kV doc pm:Value) (an:Option Addr) (cdv ct:Value) (us:List Value),us.length=ps.length->bindArgs (W.fnOf x qual (defArgs st) (defBody st) (defScope st) .none kV doc pm an cdv ct) ⟨us,[]⟩=pure (ps.zip us)):Binds K fd ps []:=by
  obtain ⟨oc,od,kV,doc,pm,an,cdv,ct,osl,rfl,lk,hcd⟩:=F.ex;exact .all (h kV doc pm an cdv ct)
theorem Hi{st:Stmt}{oc:Value}{od an:Option Addr}{osl:Array (Option Value)}{kV doc pm cdv ct:Value}(l:K.lookup f=some ⟨oc,od,.func (W.fnOf x qual (defArgs st) (defBody st) (defScope st) .none kV doc pm an cdv ct),osl⟩)(c:W.codeIn K cdv qual=true)(k:W.keepIn K (.ref f)=true):Fun K x qual st f (W.fnOf x qual (defArgs st) (defBody st) (defScope st) .none kV doc pm an cdv ct):=⟨⟨oc,od,kV,doc,pm,an,cdv,ct,osl,rfl,l,c⟩,k⟩
end
theorem uc{A:Around}{k:Nat}(hr:Room k A):A.units+1<cLine:=a8 (Nat.add_le_add_left (by decide:1<=64) _) hr.units
theorem Ev{n:Nat}(h:n<=1000):n<sizeLine:=a8 h (by decide)
variable {X:Cx}
theorem pv(i:Nat){pos:Pos}(hN:X.N[i]?=some x:=by rfl)(hv:Vis X.env.scope x:=by first | exact Or.inl rfl | exact Or.inr (Or.inl rfl) | exact Or.inr (Or.inr rfl))(hd:(x==("__debug__":Str))=false:=by decide)(hcd:(x==("__classdict__":Str))=false:=by decide):PE X (.Name x pos) (tVar i):=LE hN hv hd hcd
def Same(H H':Hp):Prop:=∀ b o,H b=some o->H' b=some o
theorem Same.refl(H:Hp):Same H H:=λ_ _ h=>h
variable {H:Hp}
theorem Same.trans{H1 H2:Hp}(a:Same H H1)(b:Same H1 H2):Same H H2:=λc o h=>b c o (a c o h)
theorem Same.seq{K:iL}{H':Hp}{xs:List V}(e:Same H H')(h:SqL K H a xs):SqL K H' a xs:=by
  rcases h with (h|⟨o,h⟩)|h
  . exact .inl (.inl (e _ _ h))
  . exact .inl (.inr ⟨o,e _ _ h⟩)
  . exact .inr h
end L2
noncomputable section
set_option linter.all false
namespace Hd
open PySem PySem.W PySem.Calls PyProof.Rows
abbrev lf0:Life:=@PySem.Life.mk (@List.nil.{0} @Nat) (@List.nil.{0} @Nat) (@List.nil.{0} @Nat) (@OfNat.ofNat.{0} @Nat (nat_lit 0) (@instOfNatNat (nat_lit 0))) (@List.nil.{0} (@Prod.{0,0} @Nat @Nat)) (@List.nil.{0} @Nat) @Bool.false (@List.toArray.{0} @Nat (@List.nil.{0} @Nat)) (@List.nil.{0} @Nat) (@OfNat.ofNat.{0} @Nat (nat_lit 0) (@instOfNatNat (nat_lit 0))) @Bool.false @Bool.false @Bool.false (@OfNat.ofNat.{0} @Int (nat_lit 0) (@instOfNat (nat_lit 0))) (@List.cons.{0} @Int (@OfNat.ofNat.{0} @Int (nat_lit 2000) (@instOfNat (nat_lit 2000))) (@List.cons.{0} @Int (@OfNat.ofNat.{0} @Int (nat_lit 10) (@instOfNat (nat_lit 10))) (@List.cons.{0} @Int (@OfNat.ofNat.{0} @Int (nat_lit 10) (@instOfNat (nat_lit 10))) (@List.nil.{0} @Int)))) @Bool.false (@OfNat.ofNat.{0} @Nat (nat_lit 0) (@instOfNatNat (nat_lit 0))) @Bool.true (@List.nil.{0} @Nat) (@List.nil.{0} @Nat) (@OfNat.ofNat.{0} @Nat (nat_lit 0) (@instOfNatNat (nat_lit 0))) @Bool.false
abbrev dr1:Drawn:=@PySem.Drawn.mk (@OfNat.ofNat.{0} @Nat (nat_lit 0) (@instOfNatNat (nat_lit 0))) (@OfNat.ofNat.{0} @Nat (nat_lit 0) (@instOfNatNat (nat_lit 0))) (@OfNat.ofNat.{0} @Nat (nat_lit 0) (@instOfNatNat (nat_lit 0))) (@OfNat.ofNat.{0} @Nat (nat_lit 0) (@instOfNatNat (nat_lit 0)))
abbrev p:Program:=PySem.Challenge.pw_boardglue_k72_too_many_squares
def top(i:Nat):Stmt:=p.main.body.getD i (.Pass ⟨0,0,0,0⟩)
def sub(s:Stmt)(j:Nat):Stmt:=match s with | .ClassDef (body:=b) ..=>b.getD j (.Pass ⟨0,0,0,0⟩) | _=>s
def fn(x q:Str)(s:Stmt)(g:Addr)(cl:List (Str×Addr))(dV kV doc pm:Value)(an:Option Addr)(cd ct:Value)(bl:Addr):FuncData:={ name:=x,qualname:=q,params:=L2.defArgs s,body:=.stmts (L2.defBody s),scope:=L2.defScope s,globals:=g,closure:=cl,defaults:=dV,kwdefaults:=kV,doc:=doc,pyModule:=pm,annotations:=an,code:=cd,closureTuple:=ct,builtins:=bl }
def z0:Value:=.int 0 0
def cp (n:Tok):Value:=.str "/claim/cut.py" n
def co (a:Array Value):Obj:=⟨.type "code",none,.fields a,#[]⟩
def fo (f:FuncData):Obj:=⟨.type "function",none,.func f,#[]⟩
abbrev so(x:String):Str:=Str.ofString x
abbrev R(n:Addr):Value:=.ref n
abbrev N:=@BT.node
abbrev Z:BT:=.nil
abbrev L(o:Obj):BT:=.node o .nil .nil
def cO(x:String)(t:Tok)(y:String)(u v:Tok)(l a b c n:Int)(e:Value)(g:Bool)(k:Int)(m A B C D:Value)(i j:Int)(z:Tok):Obj:=co #[.str x t,.str y u,cp v,.int l 0,.int a 0,.int b 0,.int c 0,.int n 0,e,.bool g,.int k 0,m,A,B,C,D,.int i 0,.int j 0,cp z]
def f0(x q:Str)(s:Stmt):Obj:=⟨.none,none,.func (fn x q s 0 [] .none .none .none .none none .none .none 0),#[]⟩
def fO(x q:Str)(s:Stmt)(d m:Value)(c:Addr):Obj:=fo (fn x q s 3 [] d .none .none m none (.ref c) .none 0)
abbrev m0m:Value:=.str "__main__" 164
abbrev m1m:Value:=.str "boardglue.lengths" 374
abbrev m2m:Value:=.str "boardglue.bases" 529
abbrev m3m:Value:=.str "boardglue.normal" 584
abbrev m4m:Value:=.str "boardglue.boards" 624
abbrev m5m:Value:=.str "boardglue.yard" 632
abbrev m6m:Value:=.str "boardglue.plans" 779
abbrev m7m:Value:=.str "boardglue.tables" 835
abbrev m8m:Value:=.str "boardglue.likes" 925
abbrev m9m:Value:=.str "boardglue.squares" 943
abbrev m10m:Value:=.str "law_boardglue_k72_too_many_squares" 1034
def tu (a:Array Value):Obj:=⟨.type "tuple",none,.seq a 0,#[]⟩
def en(P:Params)(x:String)(t:Tok)(v:Value):DictEntry:=⟨PyData.keyHash P x,.str x t,v⟩
def env:Env:={ scope:=p.main.scope,locals:=mainNs,globals:=mainNs,cells:=[],code:=(.ref 13),frame:=some 14 }
abbrev b:List Stmt:=behindTheImports p
abbrev cE:Code:=.body b env
abbrev q:Pos:=⟨0,0,0,0⟩
abbrev B:List Frame:=[topFrame q]
abbrev m0:Nat:=nat_lit 11
abbrev ann:Option Value:=(some (.ref 6))
def o0:Obj:=tu #[]
def o1:Obj:=⟨.none,none,(.fields #[]),#[]⟩
def o2:Obj:=cO "<module>" 182 "<module>" 183 184 1 0 0 0 0 (R 11) false 181 (R 12) .none .none .none .none 185 1 186
def o3:Obj:=⟨(.type "frame"),none,.plain,#[(some (.ref 13)),(some (.ref 3)),(some (.ref 3)),none,(some (.str "__main__" 164)),none,(some (.ref 0))]⟩
def Ha(P:Params):Heap:=⟨⟨[boot_o_0 P,boot_o_1 P,boot_o_2 P,boot_o_3 P,boot_o_4 P,boot_o_5 P,boot_o_6 P,boot_o_7 P,boot_o_8 P,boot_o_9 P,boot_o_10 P,o0,o1,o2,o3]⟩,lf0⟩
def T0(P:Params):BT:=(N (boot_o_0 P) (N (boot_o_1 P) (N (boot_o_3 P) (L (boot_o_7 P)) (L o0)) (N (boot_o_5 P) (L (boot_o_9 P)) (L o2))) (N (boot_o_2 P) (N (boot_o_4 P) (L (boot_o_8 P)) (L o1)) (N (boot_o_6 P) (L (boot_o_10 P)) (L o3))))
theorem pre'(w:World):(λos=>PySem.W.Fast.tw15667345088766844465 PySem.W.Fast.tw14364793385576792824 p w m0 ann (nat_lit 12) (⟨boot_heap w.params,⟨[]⟩,boot_drawn,boot_toks,os⟩:Shared) (W.topStub p))=λos=>some ((⟨Ha w.params,⟨[]⟩,dr1,nat_lit 187,os⟩:Shared),Thread.mk (PySem.W.Fast.tw11892475500146522536 PySem.W.Fast.tw14364793385576792824 cE) cE ⟨0,0,0,0⟩ B):=by kernel_rfl
theorem pre(w:World)(os:OsState):topGo treeTable p w m0 ann (nat_lit 12) (⟨boot_heap w.params,⟨[]⟩,boot_drawn,boot_toks,os⟩:Shared) (topStub p)=some ((⟨Ha w.params,⟨[]⟩,dr1,nat_lit 187,os⟩:Shared),Thread.mk (denote treeTable cE) cE ⟨0,0,0,0⟩ B):=by
  rw [PySem.W.Fast.te15667345088766844465,cz,PySem.W.Fast.te11892475500146522536];exact congrFun (pre' w) os
theorem blk'(w:World):(λos=>PySem.W.Fast.tw14374325043358763698 PySem.W.Fast.tw14364793385576792824 p w m0 ann (nat_lit 1) (nat_lit 1) (⟨Ha w.params,⟨[]⟩,dr1,nat_lit 187,os⟩:Shared) (W.blockOf b env cE ⟨0,0,0,0⟩ B))=λos=>some (Flow.next,SharedT.abs (⟨T0 w.params,nat_lit 15,lf0,⟨[]⟩,dr1,nat_lit 187,os⟩:SharedT),cE,⟨0,0,0,0⟩):=by kernel_rfl
theorem blk(w:World)(os:OsState):segRun treeTable p w m0 ann (nat_lit 1) (nat_lit 1) (⟨Ha w.params,⟨[]⟩,dr1,nat_lit 187,os⟩:Shared) (blockOf b env cE ⟨0,0,0,0⟩ B)=some (Flow.next,SharedT.abs (⟨T0 w.params,nat_lit 15,lf0,⟨[]⟩,dr1,nat_lit 187,os⟩:SharedT),cE,⟨0,0,0,0⟩):=by
  rw [PySem.W.Fast.te14374325043358763698,cz];exact congrFun (blk' w) os
def nm:Stmt->Str | .FunctionDef (name:=n) ..=>n | _=>⟨#[]⟩
def ln:Stmt->Nat | .FunctionDef _ _ _ _ _ _ _ _ _ q=>q.line | _=>0
def vr(s:Stmt):List Str:=((L2.defScope s).names.filter λx=>match x.2 with | .local=>true | _=>false).map (·.1)
def sT:Tok->List Str->List Value
  | _,[]=>[]
  | n,x::r=>.str x n::sT (n+1) r
def tS(n:Tok)(l:List Str):Obj:=tu ⟨sT n l⟩
def cD(x y:Str)(s:Stmt)(e t i:Nat)(A B C:Value):Obj:=co #[.str x t,.str y (t+1),cp (t+2),.int (ln s) 0,.int (L2.defArgs s).args.length 0,z0,z0,.int 3 0,.ref e,.bool true,.int 181 0,.ref (e+1),.none,A,B,C,.int i 0,.int (ln s) 0,cp (i+1)]
def fP(x y:Str)(s:Stmt)(e t:Nat)(d m:Value):List Obj:=[o0,o1,tS (t+3) (vr s),o0,f0 x y s,cD x y s e t (t+3+(vr s).length) (R (e+2)) (R (e+3)) (R (e+4)),fO x y s d m (e+5)]
def fQ(x y:Str)(s:Stmt)(e t:Nat)(d m:Value):List Obj:=[o0,o1,f0 x y s,cD x y s e t (t+3) .none .none (R (e+2)),fO x y s d m (e+3)]
structure Op where
  e:Addr
  ks:List Nat
  os:Params->List Obj
  d:List (Str×Tok×Value)
  l:List Value
def ll(l:Int)(c:Addr):List Value:=[.int l 0,z0,.ref c]
def F(i e t:Nat)(m:Value):Op:=⟨e,[0,2,3,5,6],λ_=>fP (nm (top i)) (nm (top i)) (top i) e t .none m,[(nm (top i),t+5+(vr (top i)).length,.ref (e+6))],ll (ln (top i)) (e+5)⟩
def Q(i e t:Nat)(m:Value):Op:=⟨e,[0,3,4],λ_=>fQ (nm (top i)) (nm (top i)) (top i) e t .none m,[(nm (top i),t+5,.ref (e+4))],ll (ln (top i)) (e+3)⟩
def Dv(i e t:Nat)(m:Value)(v:List Value):Op:=⟨e - 1,[0,1,3,4,6,7],λ_=>tu ⟨v⟩::fP (nm (top i)) (nm (top i)) (top i) e t (.ref (e - 1)) m,[(nm (top i),t+5+(vr (top i)).length,.ref (e+6))],ll (ln (top i)) (e+5)⟩
def bm (x:String) (v:Value):Obj:=⟨.type "builtin_function_or_method",none,.fields #[.builtin x,v],#[]⟩
def di (l:List DictEntry) (n:Nat):Obj:=⟨.type "dict",none,.dict ⟨l⟩ n,#[]⟩
def me:Value:=.str "boardglue.errors" 194
def Kl (x:Str) (b t:Nat) (l:Int):Op:=⟨b,[0,7,8,9],λP=>[tu #[.ref 31],bm "type.__prepare__" (.type "type"),di [en P "__module__" (t+7) me,en P "__qualname__" (t+9) (.str x (t+8)),en P "__firstlineno__" (t+11) (.int l (t+10)),en P "__static_attributes__" (t+12) (.ref (b+7))] 4,o0,o1,co #[.str x (t+2),.str x (t+3),cp (t+4),.int l 0,z0,z0,z0,z0,.ref (b+3),.bool false,.int 181 0,.ref (b+4),.none,.none,.none,.none,.int (t+5:Nat) 0,.int l 0,cp (t+6)],⟨.type "frame",none,.plain,#[some (.ref (b+5)),some (.ref 3),some (.ref (b+2)),none,some me,none,some (.ref 0)]⟩,o0,di [en P "__module__" (t+7) me,en P "__firstlineno__" (t+11) (.int l (t+10)),en P "__static_attributes__" (t+12) (.ref (b+7)),en P "__doc__" (t+13) .none] 2,⟨.type "type",none,.cls ⟨x,[.ref 31],[.ref (b+9),.ref 31,.type "ValueError",.type "Exception",.type "BaseException",.type "object"],b+8,x,true,[],[],false,none,false⟩,#[some (.ref b),none,some (.str x t),some (.str x (t+8)),some (.builtin "ValueError.__new__"),some (.bool true)]⟩,⟨.type "super",none,.fields #[.ref (b+9),.ref (b+9),.ref (b+9)],#[]⟩,bm "object.__init_subclass__" (.ref (b+9))],[(x,t+15,.ref (b+9))],ll l (b+5)⟩
def ops:List Op:=[F 0 15 187 m0m,⟨22,[0,7,8,9,10],λP=>[tu #[(.type "ValueError")],⟨(.type "builtin_function_or_method"),none,(.fields #[(.builtin "type.__prepare__"),(.type "type")]),#[]⟩,⟨(.type "dict"),none,(.dict #[en P "__module__" 203 (.str "boardglue.errors" 194),en P "__qualname__" 205 (.str "YardError" 204),en P "__firstlineno__" 207 (.int (5) 206),en P "__static_attributes__" 208 (.ref 29)] 4),#[]⟩,o0,o1,cO "YardError" 198 "YardError" 199 200 5 0 0 0 0 (R 25) false 181 (R 26) .none .none .none .none 201 5 202,⟨(.type "frame"),none,.plain,#[(some (.ref 27)),(some (.ref 3)),(some (.ref 24)),none,(some (.str "boardglue.errors" 194)),none,(some (.ref 0))]⟩,o0,⟨(.type "dict"),none,(.dict #[en P "__module__" 203 (.str "boardglue.errors" 194),en P "__firstlineno__" 207 (.int (5) 206),en P "__static_attributes__" 208 (.ref 29),en P "__weakref__" 210 (.ref 32),en P "__doc__" 211 .none] 3),#[]⟩,⟨(.type "type"),none,(.cls ⟨"YardError",[(.type "ValueError")],[(.ref 31),(.type "ValueError"),(.type "Exception"),(.type "BaseException"),(.type "object")],30,"YardError",true,[],[(.ref 44),(.ref 56),(.ref 68),(.ref 80),(.ref 92),(.ref 104),(.ref 116),(.ref 128),(.ref 140),(.ref 152)],false,none,false⟩),#[(some (.ref 22)),none,(some (.str "YardError" 196)),(some (.str "YardError" 204)),(some (.builtin "ValueError.__new__")),(some (.bool true))]⟩,⟨(.type "getset_descriptor"),none,(.fields #[(.str "__weakref__" 209),(.ref 31),(.builtin "ExceptionGroup.__weakref__"),.none]),#[]⟩,⟨(.type "super"),none,(.fields #[(.ref 31),(.ref 31),(.ref 31)]),#[]⟩,⟨(.type "builtin_function_or_method"),none,(.fields #[(.builtin "object.__init_subclass__"),(.ref 31)]),#[]⟩],[("YardError",213,.ref 31)],ll 5 27⟩,Kl "NoLength" 35 214 7,Kl "NoBoard" 47 230 9,Kl "NoText" 59 246 11,Kl "NoDeed" 71 262 13,Kl "NoName" 83 278 15,Kl "Grain" 95 294 17,Kl "Unfit" 107 310 19,Kl "TooMany" 119 326 21,Kl "NoRow" 131 342 23,Kl "Apart" 143 358 25,⟨155,[0],λ_=>[tu #[(.int (0) 376),(.int (0) 377),(.int (1) 378)]],[("NOUGHT",379,.ref 155)],[]⟩,⟨0,[],λ_=>[],[("GREAT_BITS",381,(.int (8192) 380))],[]⟩,⟨0,[],λ_=>[],[("HEAD_BITS",383,(.int (64) 382))],[]⟩,F 17 156 384 m1m,F 18 163 391 m1m,F 19 170 401 m1m,F 20 177 411 m1m,F 21 184 424 m1m,Dv 22 192 434 m1m [(.int (0) 432),(.int (1) 433)],Dv 23 200 445 m1m [(.int (1) 444)],F 24 207 454 m1m,F 25 214 461 m1m,F 26 221 470 m1m,F 27 228 484 m1m,F 28 235 492 m1m,F 29 242 501 m1m,F 30 249 511 m1m,F 31 256 520 m1m,F 33 263 531 m2m,F 34 270 539 m2m,F 35 277 549 m2m,F 36 284 557 m2m,F 37 291 569 m2m,Q 38 298 578 m2m,F 40 303 586 m3m,F 41 310 595 m3m,F 42 317 612 m3m,Q 44 324 626 m4m,⟨329,[0],λ_=>[tS 634 ["across","along"]],[("CUTS",636,.ref 329)],[]⟩,⟨330,[0],λ_=>[tS 637 ["beside","atop"]],[("GLUINGS",639,.ref 330)],[]⟩,⟨331,[0],λ_=>[tS 640 ["stack","spread"]],[("SHIFTS",642,.ref 331)],[]⟩,⟨0,[],λ_=>[],[("TURN",644,(.str "turn" 643))],[]⟩,F 50 332 645 m5m,F 51 339 652 m5m,F 52 346 659 m5m,F 53 353 666 m5m,F 54 360 673 m5m,F 55 367 682 m5m,F 56 374 690 m5m,⟨381,[7,8,11,12,13,16,17,18,20,21,23,24,25,28,29,30,32,33,35,36,37,40,41,42,45,46,47,49,50,52,53,54,55,56,57,58],λP=>[o0,⟨(.type "builtin_function_or_method"),none,(.fields #[(.builtin "type.__prepare__"),(.type "type")]),#[]⟩,⟨(.type "dict"),none,(.dict #[en P "__module__" 707 (.str "boardglue.yard" 632),en P "__qualname__" 709 (.str "Yard" 708),en P "__firstlineno__" 711 (.int (209) 710),en P "__init__" 717 (.ref 393),en P "do" 723 (.ref 398),en P "check_names" 732 (.ref 405),en P "put_by" 738 (.ref 410),en P "board_ever" 746 (.ref 417),en P "boards" 752 (.ref 422),en P "heap" 758 (.ref 427),en P "log" 765 (.ref 434),en P "__static_attributes__" 771 (.ref 435)] 12),#[]⟩,o0,⟨.none,none,(.fields #[(.int (211) 0),(.int (4) 0),(.ref 392),(.int (218) 0),(.int (4) 0),(.ref 397),(.int (233) 0),(.int (4) 0),(.ref 404),(.int (240) 0),(.int (4) 0),(.ref 409),(.int (256) 0),(.int (4) 0),(.ref 416),(.int (259) 0),(.int (4) 0),(.ref 421),(.int (262) 0),(.int (4) 0),(.ref 426),(.int (265) 0),(.int (4) 0),(.ref 433)]),#[]⟩,cO "Yard" 702 "Yard" 703 704 209 0 0 0 0 (R 384) false 181 (R 385) .none .none .none .none 705 209 706,⟨(.type "frame"),none,.plain,#[(some (.ref 386)),(some (.ref 3)),(some (.ref 383)),none,(some (.str "boardglue.yard" 632)),none,(some (.ref 0))]⟩]++[tu #[(.bool false)]]++fQ "__init__" "Yard.__init__" (sub (top 57) 0) 389 712 (.ref 388) m5m++fQ "do" "Yard.do" (sub (top 57) 1) 394 718 .none m5m++fP "check_names" "Yard.check_names" (sub (top 57) 2) 399 724 .none m5m++fQ "put_by" "Yard.put_by" (sub (top 57) 3) 406 733 .none m5m++fP "board_ever" "Yard.board_ever" (sub (top 57) 4) 411 739 .none m5m++fQ "boards" "Yard.boards" (sub (top 57) 5) 418 747 .none m5m++fQ "heap" "Yard.heap" (sub (top 57) 6) 423 753 .none m5m++fP "log" "Yard.log" (sub (top 57) 7) 428 759 .none m5m++[tS 766 ["done","known","lying","root","turning"],⟨(.type "dict"),none,(.dict #[en P "__module__" 707 (.str "boardglue.yard" 632),en P "__firstlineno__" 711 (.int (209) 710),en P "__init__" 717 (.ref 393),en P "do" 723 (.ref 398),en P "check_names" 732 (.ref 405),en P "put_by" 738 (.ref 410),en P "board_ever" 746 (.ref 417),en P "boards" 752 (.ref 422),en P "heap" 758 (.ref 427),en P "log" 765 (.ref 434),en P "__static_attributes__" 771 (.ref 435),en P "__dict__" 773 (.ref 438),en P "__weakref__" 775 (.ref 439),en P "__doc__" 776 .none] 4),#[]⟩,⟨(.type "type"),none,(.cls ⟨"Yard",[(.type "object")],[(.ref 437),(.type "object")],436,"Yard",true,[],[],false,none,false⟩),#[none,none,(some (.str "Yard" 700)),(some (.str "Yard" 708)),(some (.builtin "object.__new__")),(some (.bool true))]⟩,⟨(.type "getset_descriptor"),none,(.fields #[(.str "__dict__" 772),(.ref 437),(.builtin "function.__dict__"),(.builtin "function.__dict__#set")]),#[]⟩,⟨(.type "getset_descriptor"),none,(.fields #[(.str "__weakref__" 774),(.ref 437),(.builtin "ExceptionGroup.__weakref__"),.none]),#[]⟩,⟨(.type "super"),none,(.fields #[(.ref 437),(.ref 437),(.ref 437)]),#[]⟩,⟨(.type "builtin_function_or_method"),none,(.fields #[(.builtin "object.__init_subclass__"),(.ref 437)]),#[]⟩],[("Yard",778,.ref 437)],ll 209 386⟩,F 59 442 781 m6m,F 60 449 793 m6m,Q 61 456 803 m6m,Q 62 461 809 m6m,Q 63 466 815 m6m,F 64 471 821 m6m,Q 65 478 829 m6m,⟨483,[0,1,2,3,4,5,6],λ_=>[tu #[(.int (0) 837),(.int (1) 838)],tu #[(.int (0) 839),(.int (1) 840)],tu #[(.ref 483),(.ref 484)],tu #[(.int (0) 841),(.int (1) 842)],tu #[(.int (0) 843),(.int (1) 844)],tu #[(.ref 486),(.ref 487)],tu #[(.ref 485),(.ref 488)]],[("EMPTY",845,.ref 489)],[]⟩,F 68 490 846 m7m,F 69 497 857 m7m,F 70 504 865 m7m,F 71 511 875 m7m,F 72 518 883 m7m,F 73 525 892 m7m,F 74 532 901 m7m,F 75 539 908 m7m,F 76 546 916 m7m,F 78 553 927 m8m,Q 79 560 937 m8m,⟨0,[],λ_=>[],[("MOST",946,(.int (400) 945))],[]⟩,⟨565,[0],λ_=>[tu #[(.int (0) 947),(.int (1) 948),(.int (1) 949)]],[("ROOT",950,.ref 565)],[]⟩,F 83 566 951 m9m,F 84 573 962 m9m,Q 85 580 976 m9m,F 86 585 982 m9m,F 87 592 997 m9m,F 88 599 1007 m9m,F 89 606 1020 m9m,F 91 613 1036 m10m,F 92 620 1044 m10m,F 93 627 1052 m10m,F 94 634 1060 m10m,F 95 641 1068 m10m,F 96 648 1079 m10m,F 97 655 1090 m10m,F 98 662 1101 m10m,F 99 669 1110 m10m,F 100 676 1120 m10m,F 101 683 1134 m10m,Q 102 690 1146 m10m,F 103 695 1152 m10m]
def o4 (P:Params):Obj:=⟨.type "dict",none,.dict ⟨[en P "__name__" 165 (.str "law_boardglue_k72_too_many_squares" 1034),en P "__doc__" 166 .none,en P "__package__" 167 .none,en P "__loader__" 168 (.builtin "__main__.__loader__#opaque"),en P "__spec__" 169 .none,en P "__annotations__" 170 (.ref 6),en P "__builtins__" 171 (.ref 4),en P "__file__" 173 (cp 172),en P "__cached__" 174 .none]++(ops.flatMap (·.d)).map λx=>⟨PyData.keyHash P x.1,.str x.1 x.2.1,x.2.2⟩⟩ 102,#[]⟩
def ob(P:Params):List Obj:=[(boot_o_0 P),(boot_o_1 P),(boot_o_2 P),o4 P,(boot_o_4 P),(boot_o_5 P),(boot_o_6 P),(boot_o_7 P),(boot_o_8 P),(boot_o_9 P),(boot_o_10 P),(o0),⟨.none,none,.fields ⟨ops.flatMap (·.l)⟩,#[]⟩,(o2),(o3)]++ops.flatMap (·.os P)
noncomputable def ev (l:List Obj):Bool->List Obj:=List.rec (λ_=>[]) (λx _ h b=>bif b then x::h false else h true) l
noncomputable def tr (n:Nat):List Obj->BT:=Nat.rec (λ_=>.nil) (λ_ h l=>match l with | []=>.nil | x::r=>.node x (h (ev r true)) (h (ev r false))) n
def T1(P:Params):BT:=tr 12 (ob P)
theorem pc0'(w:World):(λos=>PySem.W.Fast.tw10110043849684766642 PySem.W.Fast.tw14364793385576792824 p w m0 ann (nat_lit 1) (nat_lit 5188) (⟨T0 w.params,nat_lit 15,lf0,⟨[]⟩,dr1,nat_lit 187,os⟩:SharedT) (W.piecesOf ((b.drop 0).take 104) env cE ⟨0,0,0,0⟩ B))=λos=>some (Flow.next,(⟨T1 w.params,nat_lit 702,lf0,⟨[]⟩,dr1,nat_lit 1167,os⟩:SharedT),cE,⟨546,0,562,101⟩):=by kernel_rfl
theorem pc0(w:World)(os:OsState):segRun treeTable p w m0 ann (nat_lit 1) (nat_lit 5188) (SharedT.abs (⟨T0 w.params,nat_lit 15,lf0,⟨[]⟩,dr1,nat_lit 187,os⟩:SharedT)) (piecesOf ((b.drop 0).take 104) env cE ⟨0,0,0,0⟩ B)=some (Flow.next,SharedT.abs (⟨T1 w.params,nat_lit 702,lf0,⟨[]⟩,dr1,nat_lit 1167,os⟩:SharedT),cE,⟨546,0,562,101⟩):=by
  refine segRun_of ?_;rw [PySem.W.Fast.te10110043849684766642,cz];exact congrFun (pc0' w) os
def H1(P:Params):Heap:=⟨⟨ob P⟩,lf0⟩
theorem fin'(w:World):(λos=>PySem.W.Fast.tw14082659384304107361 PySem.W.Fast.tw14364793385576792824 p w m0 ann (nat_lit 2) (SharedT.abs (⟨T1 w.params,nat_lit 702,lf0,⟨[]⟩,dr1,nat_lit 1167,os⟩:SharedT)) (Thread.mk (W.doneF Flow.next) cE ⟨546,0,562,101⟩ B))=λos=>some (⟨H1 w.params,⟨[]⟩,dr1,nat_lit 1167,os⟩:Shared):=by kernel_rfl
theorem fin(w:World)(os:OsState):topRun treeTable p w m0 ann (nat_lit 2) (SharedT.abs (⟨T1 w.params,nat_lit 702,lf0,⟨[]⟩,dr1,nat_lit 1167,os⟩:SharedT)) (Thread.mk (doneF Flow.next) cE ⟨546,0,562,101⟩ B)=some (⟨H1 w.params,⟨[]⟩,dr1,nat_lit 1167,os⟩:Shared):=by
  rw [PySem.W.Fast.te14082659384304107361,cz];exact congrFun (fin' w) os
def as:List Addr:=[2,3]++ops.flatMap λx=>x.ks.map (x.e+·)
def K(P:Params):Frag:=[(2,boot_o_2 P),(3,o4 P)]++ops.flatMap λx=>x.ks.map λk=>(x.e+k,(x.os P).getD k o0)
theorem asK(P:Params):as=(K P).map (·.1):=by kernel_rfl
theorem at_{w:World}{n N:Nat}{s s' r:Shared}{i k:Nat}{pos p':Pos}(h:segRun treeTable p w m0 ann 1 n s (piecesOf ((b.drop i).take k) env cE pos B)=some (.next,s',cE,p'))(g:topRun treeTable p w m0 ann N s' (restOf (b.drop (i+k)) env cE p' B)=some r):topRun treeTable p w m0 ann (n+N) s (restOf (b.drop i) env cE pos B)=some r:=by
  have z:=piece_app h g
  rwa [<-List.drop_drop,eQ] at z
theorem bend:b.drop 104=[]:=by kernel_rfl
theorem run(w:World)(os:OsState):topRun treeTable p w m0 ann (12+(1+(5188+2))) (⟨boot_heap w.params,⟨[]⟩,boot_drawn,boot_toks,os⟩:Shared) (topStub p)=some (⟨H1 w.params,⟨[]⟩,dr1,nat_lit 1167,os⟩:Shared):=go_top (pre w os) (piece_block (blk w os) (show topRun treeTable p w m0 ann _ _ (restOf (b.drop 0) env cE _ B)=_ from (at_ (i:=0) (k:=104) (pc0 w os) (by rw [show b.drop 104=[] from bend]; exact piece_nil (fin w os)))))
theorem size (w:World):((boot_heap w.params).isNs mainGlobals && (⟨[]⟩:Array GenState).size==0,(boot_heap w.params).objs.size,(boot_heap w.params).nsMap mainGlobals "__annotations__")=(true,m0,ann):=by kernel_rfl
def qv:Program:=view p [103]
def loose:List Str:=((ops.flatMap (·.d)).map (·.1)).dropLast
def Xt(s:Shared):Bool:=xlAt qv [] s && recOk [] s
def Yf(s:Shared):List (Option Obj):=as.map s.heap.get?
def Ya(w:World):List (Option Obj):=(K w.params).map λp=>some p.2
theorem Li(w:World):(λos:OsState=>(staticsOk (importedModules p.main.body) (boot_heap w.params) (H1 w.params) && namesBound p (H1 w.params) && gensDone (⟨H1 w.params,⟨[]⟩,dr1,nat_lit 1167,os⟩:Shared) && laidKept (boot_heap w.params) (H1 w.params)))=λ_=>true:=by kernel_rfl
theorem Lw(w:World):(λos:OsState=>openSeen qv loose (importedModules p.main.body) Xt true (⟨H1 w.params,⟨[]⟩,dr1,nat_lit 1167,os⟩:Shared))=λ_=>openGood qv loose:=by kernel_rfl
theorem LY(w:World):(λos:OsState=>Yf (⟨H1 w.params,⟨[]⟩,dr1,nat_lit 1167,os⟩:Shared))=λ_=>Ya w:=by kernel_rfl
theorem left:LeftO p qv loose Xt Yf Ya 10500:=by
  refine LeftO.of_pieces (H₀:=boot_heap) (H₁:=H1) (gs₀:=⟨[]⟩) (gs₁:=⟨[]⟩) (d₀:=boot_drawn) (d₁:=dr1) (k₀:=boot_toks) (k₁:=nat_lit 1167) (m₀:=m0) (ann:=ann) (M:=(12+(1+(5188+2)))) (boot_open (by kernel_rfl) (by decide) (λs=>by kernel_rfl)) size run (by decide) (λw=>funext λos=>?_);exact looks_pair (congrFun (Li w) os) (looks_pair (congrFun (Lw w) os) (congrFun (LY w) os))
end Hd
end
local macro_rules | `(tactic| omega)=>`(tactic| first | lia | omega +splitNatSub)
namespace L2
open PySem PySem.Spec PyProof.Rows
variable {κ:Type}[DecidableEq κ]
def valV(kvs:List (κ×V))(k:κ):Option V:=(kvs.find? λkv=>decide (kv.1=k)).map (·.2)
def putK(kvs:List (κ×V))(k:κ)(v:V):List (κ×V) :=
  if (kvs.any λkv=>decide (kv.1=k))=true then kvs.map (λkv=>if kv.1=k then (kv.1,v) else kv) else kvs++[(k,v)]
def Am(kvs:List (κ×V))(k:κ):List (κ×V):=kvs.filter λkv=>decide (kv.1≠k)
theorem z6{p:κ×V}{r:List (κ×V)}{k:κ}(e:p.1=k):valV (p::r) k=some p.2:=by simp [valV,dz,e]
theorem zV{p:κ×V}{r:List (κ×V)}{k:κ}(e:¬ p.1=k):valV (p::r) k=valV r k:=by simp [valV,dz,e]
theorem xG(k:κ):∀ kvs:List (κ×V),(kvs.any λkv=>decide (kv.1=k))=(valV kvs k).isSome
  | []=>rfl
  | p::r=>by
    rw [d5];by_cases e:p.1=k
    . simp only [z6 e,iJ e,Bool.true_or,Option.isSome_some]
    . rw [zV e,il e,Bool.false_or]; exact xG k r
theorem B9(k j:κ)(y:V):∀ kvs:List (κ×V),valV (kvs.map λkv=>if kv.1=k then (kv.1,y) else kv) j=(valV kvs j).map λx=>if j=k then y else x
  | []=>rfl
  | p::r=>by
    have ih:=B9 k j y r;rw [aW];by_cases h:p.1=k
    . rw [im h];by_cases e:p.1=j
      . rw [z6 (p:=(p.1,y)) e,z6 e,dA,im (e.symm.trans h)]
      . rw [zV (p:=(p.1,y)) e,zV e,ih]
    . rw [io h];by_cases e:p.1=j
      . rw [z6 (p:=p) e,z6 e,dA,io (λz=>h (e.trans z))]
      . rw [zV (p:=p) e,zV e,ih]
theorem tE(k j:κ)(y:V):∀ kvs:List (κ×V),valV kvs k=none->valV (kvs++[(k,y)]) j=if j=k then some y else valV kvs j
  | [],_=>by
    by_cases e:k=j
    . rw [im e.symm]; exact z6 (p:=(k,y)) e
    . rw [io (λz=>e z.symm)]; exact zV (p:=(k,y)) e
  | p::r,hn=>by
    rw [List.cons_append];have hk:¬ p.1=k:=λz=>by rw [z6 z] at hn; cases hn
    rw [zV hk] at hn;have ih:=tE k j y r hn;by_cases e:p.1=j
    . rw [z6 e,z6 e,io (λz=>hk (e.trans z))]
    . rw [zV e,zV e,ih]
theorem xF(kvs:List (κ×V))(k j:κ)(y:V):valV (putK kvs k y) j=if j=k then some y else valV kvs j:=by
  unfold putK;by_cases a:(kvs.any λkv=>decide (kv.1=k))=true
  . rw [im a,B9];rw [xG] at a;by_cases e:j=k
    . obtain ⟨x,hx⟩:=dk.mp a;rw [im e,e,hx,dA,im rfl]
    . rw [io e];cases valV kvs j with
      | none=>rfl
      | some x=>rw [dA,io e]
  . rw [io a];refine tE k j y kvs ?_;rw [xG] at a;cases q:valV kvs k with
    | none=>rfl
    | some x=>rw [q] at a; exact (a rfl).elim
theorem yH(kvs:List (κ×V))(k:κ)(v:V):(putK kvs k v).length<=kvs.length+1:=by
  unfold putK;split
  . rw [aa]; omega
  . rw [ah,ax,aY]; omega
theorem BF{kvs:List (κ×V)}{k:κ}(v:V)(h:valV kvs k=none):putK kvs k v=kvs++[(k,v)]:=by
  unfold putK;rw [xG,h];exact io (by decide)
variable {o:Option V}
theorem RelO.isSome_eq{u:Option Value}(r:RelO o u):o.isSome=u.isSome:=by
  cases o with
  | none=>cases u with
    | none=>rfl
    | some _=>exact (show False from r).elim
  | some _=>cases u with
    | none=>exact (show False from r).elim
    | some _=>rfl
theorem KV.val{kvs:List (κ×V)}{vs:List (κ×Value)}(r:KV kvs vs)(k:κ):RelO (valV kvs k) (valueAt vs k):=by
  unfold KV at r;induction r with
  | nil=>exact True.intro
  | @cons p q ps qs h t ih =>
    obtain ⟨h1,h2⟩:=h;by_cases e:p.1=k
    . have e':q.1=k:=h1.symm.trans e;have b:valueAt (q::qs) k=some q.2:=by simp [valueAt,dz,e']
      rw [z6 e,b]; exact h2
    . have e':¬ q.1=k:=λz=>e (h1.trans z);have b:valueAt (q::qs) k=valueAt qs k:=by simp [valueAt,dz,e']
      rw [zV e,b]; exact ih
theorem KV.any{kvs:List (κ×V)}{vs:List (κ×Value)}(r:KV kvs vs)(k:κ):(kvs.any λkv=>decide (kv.1=k))=vs.any λkv=>decide (kv.1=k):=by
  unfold KV at r;induction r with
  | nil=>rfl
  | cons h t ih=>rw [d5,d5,ih,h.1]
variable {y:V}
theorem KV.repl{kvs:List (κ×V)}{vs:List (κ×Value)}(r:KV kvs vs)(k:κ){u:Value}(ry:RelV y u) : KV (kvs.map λkv=>if kv.1=k then (kv.1,y) else kv) (vs.map λkv=>if kv.1=k then (kv.1,u) else kv):=by
  unfold KV at r ⊢;induction r with
  | nil=>exact .nil
  | @cons p q ps qs h t ih =>
    rw [aW,aW];refine .cons ?_ ih;obtain ⟨h1,h2⟩:=h;by_cases e:p.1=k
    . rw [im e,im (h1.symm.trans e)]; exact ⟨h1,ry⟩
    . rw [io e,io (λz=>e (h1.trans z))]; exact ⟨h1,h2⟩
theorem KV.put{kvs:List (κ×V)}{vs:List (κ×Value)}(r:KV kvs vs)(k:κ){u:Value}(ry:RelV y u):KV (putK kvs k y) (stored vs k u):=by
  unfold putK stored;rw [r.any k];by_cases e:(vs.any λkv=>decide (kv.1=k))=true
  . rw [im e,im e]; exact r.repl k ry
  . rw [io e,io e]; exact Paired.snoc r ⟨rfl,ry⟩
theorem KV.drop{kvs:List (κ×V)}{vs:List (κ×Value)}(r:KV kvs vs)(k:κ):KV (Am kvs k) (without vs k):=by
  unfold KV at r ⊢;unfold Am without;induction r with
  | nil=>exact .nil
  | @cons p q ps qs h t ih =>
    obtain ⟨h1,h2⟩:=h;rw [dy,dy];by_cases e:p.1=k
    . have a:¬ decide (p.1≠k)=true:=by simp [e]
      have b:¬ decide (q.1≠k)=true:=by simp [h1.symm.trans e]
      rw [io a,io b]; exact ih
    . have e':¬ q.1=k:=λz=>e (h1.trans z);have a:decide (p.1≠k)=true:=by simp [e]
      have b:decide (q.1≠k)=true:=by simp [e']
      rw [im a,im b]; exact .cons ⟨h1,h2⟩ ih
theorem KV.keys{kvs:List (κ×V)}{vs:List (κ×Value)}(r:KV kvs vs):kvs.map (·.1)=vs.map (·.1):=by
  unfold KV at r;induction r with
  | nil=>rfl
  | cons h t ih=>rw [aW,aW,ih,h.1]
theorem KV.length{kvs:List (κ×V)}{vs:List (κ×Value)}(r:KV kvs vs):kvs.length=vs.length:=Paired.length r
theorem FK(kvs:List (κ×V))(k:κ):(Am kvs k).length<=kvs.length:=List.length_filter_le _ _
theorem CQ{P:Program}{w:World}{k:Key}{u:Value}(r:RelV (kV k) u):(zR P w).is k u=true:=by
  cases k with
  | inl i=>obtain ⟨t,e⟩:=(show ∃ t,u=Value.int i t from r); subst e; exact Aq P w i t
  | inr x=>obtain ⟨t,e⟩:=(show ∃ t,u=Value.str x t from r); subst e; exact Bc P w x t
theorem uY{P:Program}{w:World}:∀ {ks:List Key} {us:List Value},Vals (ks.map kV) us->ItemsAre (zR P w) ks us
  | [],_,r=>by rw [cL] at r; cases r; exact .nil
  | k::ks,_,r=>by
    rw [aW] at r;cases r with
    | cons h t=>exact .cons (CQ h) (uY t)
abbrev KT(H:Hp):List (List Key×V)->List (List Key×Addr×Value)->Prop:=Paired λp q=>p.1=q.1/\H q.2.1=some (.tup (p.1.map kV))/\RelV p.2 q.2.2
variable {kvs:List (List Key×V)}
theorem KT.val{H:Hp}{xs:List (List Key×Addr×Value)}(r:KT H kvs xs)(k:List Key):RelO (valV kvs k) ((atKey xs k).map (·.2)):=by
  induction r with
  | nil=>exact True.intro
  | @cons p q ps qs h t ih =>
    obtain ⟨h1,_,h2⟩:=h;by_cases e:p.1=k
    . have e':q.1=k:=h1.symm.trans e;have b:atKey (q::qs) k=some q.2:=by simp [atKey,dz,e']
      rw [z6 e,b]; exact h2
    . have e':¬ q.1=k:=λz=>e (h1.trans z);have b:atKey (q::qs) k=atKey qs k:=by simp [atKey,dz,e']
      rw [zV e,b]; exact ih
theorem KT.repl{H:Hp}{xs:List (List Key×Addr×Value)}(r:KT H kvs xs)(k:List Key){u:Value}(ry:RelV y u) : KT H (kvs.map λkv=>if kv.1=k then (kv.1,y) else kv) (xs.map (putAt k u)):=by
  induction r with
  | nil=>exact .nil
  | @cons p q ps qs h t ih =>
    rw [aW,aW];refine .cons ?_ ih;obtain ⟨h1,h2,h3⟩:=h;unfold putAt;by_cases e:p.1=k
    . rw [im e,im (h1.symm.trans e)]; exact ⟨h1,h2,ry⟩
    . rw [io e,io (λz=>e (h1.trans z))]; exact ⟨h1,h2,h3⟩
theorem KT.put{H:Hp}{xs:List (List Key×Addr×Value)}(r:KT H kvs xs)(k:List Key){b:Addr}{u:Value}(hb:H b=some (.tup (k.map kV)))(ry:RelV y u) : KT H (putK kvs k y) (storedH xs k b u):=by
  have e:(kvs.any λkv=>decide (kv.1=k))=(atKey xs k).isSome:=by
    rw [xG,(r.val k).isSome_eq,Option.isSome_map]
  unfold putK storedH;rw [e];by_cases q:(atKey xs k).isSome=true
  . rw [im q,im q]; exact r.repl k ry
  . rw [io q,io q]; exact Paired.snoc r ⟨rfl,hb,ry⟩
variable {H':Hp}
theorem KT.keeps{H:Hp}{xs:List (List Key×Addr×Value)}(r:KT H kvs xs)(ht:∀ b ys,H b=some (.tup ys)->H' b=some (.tup ys)):KT H' kvs xs :=
  Paired.mapP r λ_ _ z=>⟨z.1,ht _ _ z.2.1,z.2.2⟩
variable {P:Program}{w:World}{H:Hp}{h:Heap}{a:Addr}
theorem Ma{u:HO}(ok:HOk P w H h)(e:Rd H a u):ObjOk P w H h a u:=e.ok ok
theorem Ec{kvs:List (Key×V)}(ok:HOk P w H h)(e:Rd H a (.dK kvs)):kvs.length<=sizeLine/\(a==sysModules)=false/\∃ vs,KV kvs vs/\h.DictOf (zR P w) a vs :=
  show ObjOk P w H h a (.dK kvs) from Ma ok e
theorem LX{kvs:List (Key×V)}(ok:HOk P w H h)(e:H a=some (.dK kvs)):kvs.length<=sizeLine/\(a==sysModules)=false/\∃ vs,KV kvs vs/\h.DictOf (zR P w) a vs:=Ec ok (.inl e)
theorem Cp{ks:List Key}(ok:HOk P w H h)(e:H a=some (.tup (ks.map kV))):(tupleKind (zR P w)).is h ks a:=by
  obtain ⟨_,its,r,o,h1,h2,n,h3⟩:=(show ObjOk P w H h a (.tup (ks.map kV)) from ok a _ e)
  exact ⟨o,its.toArray,n,h1,h2,h3,by simpa using uY r⟩
theorem FC(ok:HOk P w H h)(e:Rd H a (.dT kvs)):kvs.length<=sizeLine/\(a==sysModules)=false /\ ∃ xs,KT H kvs xs/\h.DictOfH (tupleKind (zR P w)) a xs:=by
  obtain ⟨z,y,xs,r,o,es,ep,h1,h2,h3,h4,h5⟩:=(show ObjOk P w H h a (.dT kvs) from Ma ok e)
  refine ⟨z,y,xs,r,o,es,ep,h1,h2,h3,h4,λx hx=>?_,h5⟩;have all:∀ {l:List (List Key×V)} {m:List (List Key×Addr×Value)},KT H l m->∀ x∈m,(tupleKind (zR P w)).is h x.1 x.2.1:=by
    intro l m q;induction q with
    | nil=>intro x hx; exact nomatch hx
    | @cons p q ps qs hq t ih =>
      intro x hx;rcases aU.mp hx with e|hx
      . subst e;exact Cp ok (by rw [<-hq.1]; exact hq.2.1)
      . exact ih x hx
  exact all r x hx
theorem Mx(ok:HOk P w H h)(e:H a=some (.dT kvs)):kvs.length<=sizeLine/\(a==sysModules)=false /\ ∃ xs,KT H kvs xs/\h.DictOfH (tupleKind (zR P w)) a xs:=FC ok (.inl e)
def DGet(H:Hp)(a:Addr)(y:V)(r:Option V):Prop :=
  (∃ kvs k,Rd H a (.dK kvs)/\y=kV k/\r=valV kvs k)\/∃ kvs k b,Rd H a (.dT kvs)/\y=.ref b/\H b=some (.tup (k.map kV))/\r=valV kvs k
def DPut(H:Hp)(a:Addr)(y v:V)(H':Hp):Prop :=
  (∃ kvs k,H a=some (.dK kvs)/\y=kV k/\kvs.length<sizeLine/\H'=upd H a (.dK (putK kvs k v))) \/
  ∃ kvs k b,H a=some (.dT kvs)/\y=.ref b/\H b=some (.tup (k.map kV))/\kvs.length<sizeLine/\H'=upd H a (.dT (putK kvs k v))
theorem DGet.k{H:Hp}{a:Addr}{kvs:List (Key×V)}{k:Key}(e:H a=some (.dK kvs)):DGet H a (kV k) (valV kvs k):=.inl ⟨kvs,k,.inl e,rfl,rfl⟩
theorem DPut.k{H:Hp}{a:Addr}{kvs:List (Key×V)}{k:Key}{v:V}(e:H a=some (.dK kvs))(hl:kvs.length<sizeLine):DPut H a (kV k) v (upd H a (.dK (putK kvs k v))):=.inl ⟨kvs,k,e,rfl,hl,rfl⟩
variable {h':Heap}
section
variable {X:Cx}{pins:List (Addr×Obj)}{σ:St}{s:Shared}{y v:V}{u r:Value}{o:Option V}{A:Around}{E:Value->Shared->Prop}
theorem Inv.big(I:Inv X pins σ H s):sysModules<s.heap.objs.size:=by
  have h:mainGlobals<s.heap.objs.size:=(I.mod.glob.keeps I.bk).lt;exact fM (by decide) h
theorem DR{Q:Value->Shared->Prop}(hu:A.units+1<cLine)(I:Inv X pins σ H s)(g:DGet H a y (some v))(ry:RelV y u)(h:∀ w' s',Inv X pins σ H s'->RelV v w'->Q w' s') : wpAny (model X.prog X.w) A (getItem (.ref a) u) Q E s:=by
  rcases g with ⟨kvs,k,e,ey,l⟩|⟨kvs,k,b,e,ey,eb,l⟩
  . subst ey;obtain ⟨z,hd,vs,rel,dd⟩:=Ec I.hok e;obtain ⟨w',hw,rw'⟩:=RelO.some_of (v:=v) (o:=valueAt vs k) (by rw [l]; exact rel.val k);exact wpAny_getItem_of (CQ ry) dd.mapOf hw (h w' _ (I.tok _) rw')
  . subst ey;cases (show u=Value.ref b from ry)
    obtain ⟨z,hd,xs,rel,dd⟩:=FC I.hok e;obtain ⟨w',hw,rw'⟩:=RelO.some_of (v:=v) (o:=(atKey xs k).map (·.2)) (by rw [l]; exact rel.val k);obtain ⟨p,hp,hp2⟩:=au.mp hw;refine wpAny_getItem_heap (iK hu) (Cp I.hok eb) dd hp ?_;rw [hp2];exact h w' _ (I.tok _) rw'
theorem Io{Q:Value->Shared->Prop}(hu:A.units+1<cLine)(I:Inv X pins σ H s)(g:DGet H a y o)(ry:RelV y u)(h:∀ s',Inv X pins σ H s'->Q (.bool (!o.isSome)) s') : wpAny (model X.prog X.w) A (compareOp .NotIn u (.ref a)) Q E s:=by
  rcases g with ⟨kvs,k,e,ey,l⟩|⟨kvs,k,b,e,ey,eb,l⟩
  . subst ey;obtain ⟨z,hd,vs,rel,dd⟩:=Ec I.hok e;refine wpAny_notIn_of (CQ ry) hd dd.mapOf ?_;rw [<-(rel.val k).isSome_eq,<-l];exact h _ (I.tok _)
  . subst ey;cases (show u=Value.ref b from ry)
    obtain ⟨z,hd,xs,rel,dd⟩:=FC I.hok e;refine wpAny_notIn_heap (iK hu) (Cp I.hok eb) hd dd ?_;have q:=(rel.val k).isSome_eq;rw [Option.isSome_map] at q;rw [<-q,<-l];exact h _ (I.tok _)
theorem Be{t':Nat}{ob:HO}(I:Inv X pins σ H s)(mu:Mut (H a))(hs:Heap.SameBut a s.heap h')(he:∃ q,h'.get? a=some q)(new:ObjOk X.prog X.w (upd H a ob) h' a ob) : Inv X pins σ (upd H a ob) { s with heap:=h',toks:=t' } :=
  I.write (x:=a) (e:=a) mu (.inl rfl) (λb q hb z=>(hs.2 b hb).trans z) he new
theorem Fe{kvs:List (Key×V)}{vs:List (Key×Value)}(z:kvs.length<=sizeLine)(hd:(a==sysModules)=false)(rel:KV kvs vs)(dd:h'.DictOf (zR P w) a vs) : ObjOk P w H' h' a (.dK kvs):=⟨z,hd,vs,rel,dd⟩
theorem CW{Q:Unit->Shared->Prop}(hu:A.units+1<cLine)(I:Inv X pins σ H s)(g:DPut H a y v H')(ry:RelV y u)(rv:RelV v r)(h:∀ s',Inv X pins σ H' s'->Q () s') : wpAny (model X.prog X.w) A (setItem (.ref a) u r) Q E s:=by
  rcases g with ⟨kvs,k,e,ey,l,eH⟩|⟨kvs,k,b,e,ey,eb,l,eH⟩
  . subst ey eH;obtain ⟨z,hd,vs,rel,dd⟩:=LX I.hok e;have hz:vs.length<=sizeLine:=by rw [<-rel.length]; exact z
    have hl:(putK kvs k v).length<=sizeLine:=by have:=yH kvs k v; omega
    refine wpAny_setItem_pairs (hsz:=hz) (CQ ry) dd λh' dd' hs=>h _ ?_;have he:∃ q,h'.get? a=some q:=let ⟨q,_,_,hq,_⟩:=dd'; ⟨q,hq⟩
    exact Be I (by rw [e]; exact True.intro) hs he (Fe hl hd (rel.put k rv) dd')
  . subst ey eH;cases (show u=Value.ref b from ry)
    obtain ⟨z,hd,xs,rel,dd⟩:=Mx I.hok e;have hz:xs.length<=sizeLine:=by rw [<-Paired.length rel]; exact z
    have hl:(putK kvs k v).length<=sizeLine:=by have:=yH kvs k v; omega
    refine wpAny_setItem_heap (hsz:=hz) (iK hu) (Cp I.hok eb) dd λh' dd' hs=>h _ ?_;obtain ⟨q,es,ep,hq,h2,h3,h4,_,h5⟩:=dd';refine Be I (by rw [e]; exact True.intro) hs ⟨q,hq⟩ ⟨hl,hd,_,(rel.put k eb rv).keeps λc ys ec=>?_,q,es,ep,hq,h2,h3,h4,h5⟩;rw [zm (zW ec e (λz=>nomatch z))];exact ec
end
section
variable {X:Cx}{pins:List (Addr×Obj)}{σ:St}{s:Shared}{kvs:List (Key×V)}{k:Key}{u:Value}{A:Around}{E:Value->Shared->Prop}
theorem Me{v:V}{more:List Value}{Q:Value->Shared->Prop}(I:Inv X pins σ H s)(e:H a=some (.dK kvs))(ry:RelV (kV k) u)(l:valV kvs k=some v)(hm:more=[]\/∃ x,more=[x])(h:∀ w' s',Inv X pins σ (upd H a (.dK (Am kvs k))) s'->RelV v w'->Q w' s'):wpAny (model X.prog X.w) A (call (.builtin "dict.pop") (.ref a::u::more)) Q E s:=by
  obtain ⟨z,hd,vs,rel,dd⟩:=LX I.hok e;obtain ⟨w',hw,rw'⟩:=RelO.some_of (v:=v) (o:=valueAt vs k) (by rw [<-l]; exact rel.val k);have hp:(keyPart u).isSome=true:=by
    cases k with
    | inl i=>obtain ⟨t,q⟩:=(show ∃ t,u=Value.int i t from ry); subst q; rfl
    | inr x=>obtain ⟨t,q⟩:=(show ∃ t,u=Value.str x t from ry); subst q; rfl
  have ha:argsOk "dict.pop" ⟨.ref a::u::more,[]⟩:=by
    rcases hm with q|⟨x,q⟩
    . subst q; exact PySem.F.args_dict_pop_2 _ _
    . subst q; exact PySem.F.args_dict_pop_3 _ _ _
  refine call_meetsIn g4 dd.typeIs PySem.F.entry_dict_pop ha (meets_dict_pop_there (zR X.prog X.w) a (CQ ry) more hm hp)
    ⟨vs,w',dd,by rw [<-rel.length]; exact z,hw,λh' dd' hs=>h w' _ ?_ rw'⟩
  have he:∃ q,h'.get? a=some q:=let ⟨q,_,_,hq,_⟩:=dd'; ⟨q,hq⟩
  exact Be I (by rw [e]; exact True.intro) hs he (Fe (bW (FK kvs k) z) hd (rel.drop k) dd')
end
def NoSl(i:Expr):Prop:=∀ ov iv,subscripted i false ov iv=operate [ov,iv] (getItem ov iv)
theorem Ir{prog:Program}{A:Around}{E:Value->Shared->Prop}{s:Shared}{env:Env}{value slice:Expr}{pos:Pos}{T id:String}{Q:Value->Shared->Prop}(hl:typeLookup (.type T) "__getitem__"=pure (some (.builtin id)))(hs:NoSl slice)(h:wpAny (model prog w) A (eval value env) (λo s₁=>wpAny (model prog w) A (eval slice env) (λi s₂=>s₂.TypeIs o T/\wpAny (model prog w) A (getItem o i) Q E s₂) E s₁) E s) : wpAny (model prog w) A (eval (.Subscript value slice pos) env) Q E s:=by
  refine Subscript_ (ip h (λo s₁ h₁=>ip h₁ (λi s₂ h₂=>?_) λ_ _ x=>x) λ_ _ x=>x);obtain ⟨hT,h₂⟩:=h₂;unfold subscriptTail;refine iw ?_;rw [getitemInPython_of_ne hT.not_modules];refine iw (wpAny_specialOf hT hl ?_);have fin:wpAny (model prog w) A (subscripted slice false o i) (λr s₃=>wpAny (model prog w) A (letTemporaryGo value o r >>= λ_=>pure r) Q E s₃) E s₂:=by
    rw [hs o i];exact wpAny_operating (ip h₂ (λr s₃ h₃=>iw (wpAny_letTemporaryGo (iA h₃))) λ_ _ x=>x)
  first
    | exact iA (iw fin)
    | exact iw (iA (iw fin))
    | exact iw fin
variable {X:Cx}{pins:List (Addr×Obj)}
theorem Bi{σ:St}{s:Shared}(I:Inv X pins σ H s)(g:DGet H a y o):s.TypeIs (.ref a) "dict":=by
  rcases g with ⟨kvs,k,e,_,_⟩|⟨kvs,k,b,e,_,_,_⟩
  . obtain ⟨_,_,vs,_,dd⟩:=Ec I.hok e;exact dd.typeIs
  . obtain ⟨_,_,xs,_,dd⟩:=FC I.hok e;exact dd.typeIs
def KO(td ty:TE):TE:=λσ H Q=>td σ H λx H1=>ty σ H1 λy H2=>∃ a v,x=.ref a/\DGet H2 a y (some v)/\Q v H2
def DG(ty td:TE):TE:=λσ H Q=>ty σ H λy H1=>td σ H1 λx H2=>∃ a o,x=.ref a/\DGet H2 a y o/\Q (.bl (!o.isSome)) H2
def JG(td ty tv:TE):TS:=λD σ H=>tv σ H λv H1=>td σ H1 λx H2=>ty σ H2 λy H3=>∃ a H4,x=.ref a/\DPut H3 a y v H4/\D.nx σ H4
section
variable {X:Cx}{o i e value:Expr}{pos pos' tpos:Pos}{td ty tv:TE}
theorem AL(hu:X.A.units+1<cLine)(ho:PE X o td)(hi:PE X i ty)(hs:NoSl i):PE X (.Subscript o i pos) (KO td ty):=by
  intro pins s σ H Q I h;refine Ir PySem.F.slot_dict_getitem.lookup hs (thn (ho pins s σ H _ I h) λu s1 ⟨x,H1,I1,rx,q1⟩=>thn (hi pins s1 σ H1 _ I1 q1) λiv s2 ⟨y,H2,I2,ry,a,v,ex,g,q2⟩=>?_);subst ex;obtain rfl:u=Value.ref a:=rx;exact ⟨Bi I2 g,DR hu I2 g ry λw' s3 I3 rw'=>⟨v,H2,I3,rw',q2⟩⟩
theorem Fc(hu:X.A.units+1<cLine)(hi:PE X i ty)(ho:PE X o td):PC X .NotIn i o (DG ty td):=by
  intro pins s σ H Q I h;refine thn (hi pins s σ H _ I h) λiv s1 ⟨y,H1,I1,ry,q1⟩=>thn (ho pins s1 σ H1 _ I1 q1) λu s2 ⟨x,H2,I2,rx,a,ov,ex,g,q2⟩=>?_;subst ex;obtain rfl:u=Value.ref a:=rx;exact Io hu I2 g ry λs3 I3=>⟨.bl (!ov.isSome),H2,I3,rfl,q2⟩
theorem wT(hu:X.A.units+1<cLine)(ho:PE X o td)(hi:PE X i ty)(hv:PE X value tv)(hs:swapsWith value (some (.Subscript o i pos')) pos.line X.env=pure false) : PS X (.Assign [.Subscript o i pos'] value pos) (JG td ty tv):=by
  intro pins s σ H D I h;refine wpAny_Assign_Subscript (thn (hv pins s σ H _ I h) λr s1 ⟨v,H1,I1,rv,q1⟩=>thn (ho pins s1 σ H1 _ I1 q1) λu s2 ⟨x,H2,I2,rx,q2⟩=>thn (hi pins s2 σ H2 _ I2 q2) λiv s3 ⟨y,H3,I3,ry,a,H4,ex,g,q3⟩=>?_) hs;subst ex;obtain rfl:u=Value.ref a:=rx;exact CW hu I3 g ry rv λs4 I4=>⟨σ,H4,I4,q3⟩
end
section
variable {X:Cx}{pos:Pos}
end
structure M1(X:Cx)(o:Expr)(m:Str)(apos:Pos)(e:Expr)(cpos:Pos):Prop where
  base:attributeBase o m X.env (eval o X.env)=eval o X.env
  few:((backTo cpos (starEach [e] X.env)).all (λx=>!x.1) && (backToKw cpos (keywordEach [] X.env)).all (λx=>x.1.isSome)
    && decide (([e]:List Expr).length+([]:List Keyword).length+(if ([]:List Keyword).isEmpty then 0 else 1)<30))=true
  line:(apos.endLine==cpos.line)=true
  trees:backTo cpos (starEach [e] X.env)=[(false,eval e X.env)]
def IsD(H:Hp)(a:Addr):Prop:=(∃ kvs,Rd H a (.dK kvs))\/∃ kvs,Rd H a (.dT kvs)
theorem LQ{σ:St}{s:Shared}(I:Inv X pins σ H s)(d:IsD H a) : s.TypeIs (.ref a) "dict"/\(∀ b,Value.ref a=.ref b->∃ ob,s.heap.get? b=some ob/\ob.dict=none)/\(a==sysModules)=false:=by
  rcases d with ⟨kvs,e⟩|⟨kvs,e⟩
  . obtain ⟨_,hd,vs,_,dd⟩:=Ec I.hok e;refine ⟨dd.typeIs,λb q=>?_,hd⟩;cases q
    obtain ⟨ob,_,_,h1,h2,_⟩:=dd;exact ⟨ob,h1,h2.2.1⟩
  . obtain ⟨_,hd,xs,_,dd⟩:=FC I.hok e;refine ⟨dd.typeIs,λb q=>?_,hd⟩;cases q
    obtain ⟨ob,_,_,h1,h2,_⟩:=dd;exact ⟨ob,h1,h2.2.1⟩
section
variable {X:Cx}{pins:List (Addr×Obj)}{σ:St}{s:Shared}{y d:V}{u r:Value}{o:Option V}{A:Around}{E:Value->Shared->Prop}
end
def HW(td ty:TE):TE:=λσ H Q=>td σ H λx H1=>∃ a,x=.ref a/\IsD H1 a/\ty σ H1 λy H2=>∃ kvs k v,H2 a=some (.dK kvs)/\y=kV k/\valV kvs k=some v/\Q v (upd H2 a (.dK (Am kvs k)))
section
variable {X:Cx}{o e f:Expr}{apos cpos:Pos}{td ty tx:TE}
theorem Cj(ho:PE X o td)(he:PE X e ty)(m:M1 X o "pop" apos e cpos):PE X (.Call (.Attribute o "pop" apos) [e] [] cpos) (HW td ty):=by
  intro pins s σ H Q I h;refine wpAny_Call_method m.base m.few m.line PySem.F.plainAttrs_dict g4 PySem.F.type_dict_pop (thn (ho pins s σ H _ I h) λu s1 ⟨x,H1,I1,rx,a,ex,d,q1⟩=>?_);subst ex;obtain rfl:u=Value.ref a:=rx;obtain ⟨t1,t2,_⟩:=LQ I1 d;refine ⟨t1,t2,?_⟩;rw [m.trees];refine Calls.callWith_builtin rfl (Calls.evalArgs_plain (Calls.spliced_cons (thn (he pins s1 σ H1 _ I1 q1) λiv s2 ⟨y,H2,I2,ry,kvs,k,v,ea,ey,l,q2⟩=>Calls.spliced_nil ?_)));subst ey;exact Me I2 ea ry l (.inl rfl) λw' s3 I3 rw'=>⟨v,_,I3,rw',q2⟩
end
section
variable {X:Cx}{pins:List (Addr×Obj)}{σ:St}{s:Shared}{kvs:List (Key×V)}{A:Around}{E:Value->Shared->Prop}
end
section
variable {X:Cx}{pins:List (Addr×Obj)}{σ:St}{s:Shared}{y:V}{u:Value}{A:Around}{E:Value->Shared->Prop}
end
end L2
namespace Att
open PySem PySem.W PySem.Calls PyProof.Rows
end Att
namespace L2
open PySem PySem.Spec PyProof.Rows
variable {X:Cx}
variable {κ:Type}[DecidableEq κ]
end L2
namespace Bg
theorem GO(a b:Int):Int.gcd b (a.fmod b)=Int.gcd a b:=by
  rw [Int.fmod_def,aq,fA,cV]
theorem Gm(a b:Int):Int.gcd b (a % b)=Int.gcd a b:=by
  rw [ii,aq,fA,cV]
variable {a:Int}
theorem ID{b:Int}(h:b≠0):(a.fmod b).natAbs<b.natAbs:=by
  rw [Int.fmod_eq_emod];have h1:=cP a h;have h2:=Int.emod_lt a h;by_cases c:0<=b\/b∣a
  . rw [im c]; omega
  . rw [io c];have hb:b<0:=by
      rcases g5 b 0 with z|z
      . exact z
      . exact absurd (Or.inl z) c
    have hd:¬ b∣a:=λz=>c (Or.inr z);have hn:a % b≠0:=λz=>hd (Int.dvd_of_emod_eq_zero z);omega
def Bd(k:Nat)(x:Int):Prop:=x.natAbs<2 ^ k
instance {k:Nat} {x:Int}:Decidable (Bd k x):=inferInstanceAs (Decidable (x.natAbs<2 ^ k))
variable {x:Int}
theorem Bd.mono{j k:Nat}(h:Bd j x)(l:j<=k):Bd k x:=aI h (Nat.pow_le_pow_right (by decide) l)
theorem Bd.neg{k:Nat}(h:Bd k x):Bd k (-x):=by unfold Bd at *; rw [Int.natAbs_neg]; exact h
variable {y:Int}
theorem Bd.mul{j k:Nat}(h:Bd j x)(g:Bd k y):Bd (j+k) (x*y):=by
  unfold Bd at *
  rw [ce,Nat.pow_add];exact Nat.mul_lt_mul_of_lt_of_lt h g
theorem Bd.add{k:Nat}(h:Bd k x)(g:Bd k y):Bd (k+1) (x+y):=by
  unfold Bd at *
  rw [Nat.pow_succ];omega
theorem Bd.sub{k:Nat}(h:Bd k x)(g:Bd k y):Bd (k+1) (x - y):=by
  unfold Bd at *
  rw [Nat.pow_succ];omega
theorem Bd.of_le{k:Nat}(h:Bd k y)(l:x.natAbs<=y.natAbs):Bd k x:=a8 l h
theorem vv(a b:Int):(a.fdiv b).natAbs<=a.natAbs:=by
  by_cases hb:b=0
  . subst hb; simp
  have key:∀ a b:Int,0<b->(a.fdiv b).natAbs<=a.natAbs:=λa b hb=>by
    rw [dG a (by omega)];have h1:b*(a / b)+a % b=a:=Int.mul_ediv_add_emod a b;have h2:=cP a (show b≠0 by omega);have h3:=dc a hb;rcases g5 (a / b) 0 with q|q
    . have e:a<=a / b:=by
        have:b*(a / b)<=1*(a / b) - (b - 1):=by
          have z:(b - 1)*(a / b)<=(b - 1)*(-1):=eZ (by omega) (by omega);have z2:b*(a / b)=(b - 1)*(a / b)+a / b:=by rw [hU]; omega
          omega
        omega
      omega
    . have e:a / b<=a:=by
        have z:1*(a / b)<=b*(a / b):=Int.mul_le_mul_of_nonneg_right (by omega) q;omega
      omega
  rcases g5 b 0 with h|h
  . have e:a.fdiv b=(-a).fdiv (-b):=by rw [Int.neg_fdiv_neg]
    rw [e];have:=key (-a) (-b) (by omega);omega
  . exact key a b (by omega)
theorem Bd.fdiv{k:Nat}{x:Int}(h:Bd k x)(y:Int):Bd k (x.fdiv y):=h.of_le (vv x y)
theorem Bd.emod{k:Nat}(h:Bd k y)(hy:y≠0)(x:Int):Bd k (x % y):=by
  refine h.of_le ?_;have h1:=cP x hy;have h2:=Int.emod_lt x hy;omega
theorem Bd.log{k:Nat}(h:Bd k x):x.natAbs.log2<=k:=by
  by_cases z:x.natAbs=0
  . rw [z]; simp
  . exact bA ((hV z).mpr h)
def g3(a b n:Int):Nat:=Int.gcd (Int.gcd n a) b
def gd(a b n:Int):Int:=if n<0 then -(g3 a b n:Int) else (g3 a b n:Int)
theorem g3_n(a b n:Int):(g3 a b n:Int)∣n:=aX (bF ..) (bF ..)
theorem g3_a(a b n:Int):(g3 a b n:Int)∣a:=aX (bF ..) (bC ..)
theorem g3_b(a b n:Int):(g3 a b n:Int)∣b:=bC ..
theorem ES{b n:Int}(h:n≠0):0<g3 a b n:=by
  rcases Nat.eq_zero_or_pos (g3 a b n) with z|z
  . have:=g3_n a b n;rw [z] at this;exact absurd (Int.zero_dvd.mp (by simpa using this)) h
  . exact z
theorem KG{b n:Int}(h:n≠0):gd a b n≠0:=by
  have:=ES (a:=a) (b:=b) h;unfold gd;split <;> omega
theorem GT(a b n:Int):(gd a b n).natAbs=g3 a b n:=by
  unfold gd;split <;> simp
theorem Ez{b n:Int}(h:(g3 a b n:Int)∣x):gd a b n∣x:=by
  unfold gd;split
  . exact Int.neg_dvd.mpr h
  . exact h
theorem KP{k:Nat}{b n:Int}(hn:n≠0)(h:Bd k n):Bd k (gd a b n):=by
  refine h.of_le ?_;rw [GT];exact ib (by omega) (by
    have:=bL.mpr (g3_n a b n);simpa using this)
def lA(a b n:Int):Int:=a.fdiv (gd a b n)
def lB(a b n:Int):Int:=b.fdiv (gd a b n)
def lN(a b n:Int):Int:=n.fdiv (gd a b n)
theorem GS{b n:Int}:lA a b n*gd a b n=a:=fC (Ez (g3_a a b n))
theorem HE{b n:Int}:lB a b n*gd a b n=b:=fC (Ez (g3_b a b n))
theorem lN_mul{b n:Int}:lN a b n*gd a b n=n:=fC (Ez (g3_n a b n))
theorem l_a{b n:Int}:lA a b n*n=a*lN a b n:=by
  have h1:=GS (a:=a) (b:=b) (n:=n);have h2:=lN_mul (a:=a) (b:=b) (n:=n)
  calc lA a b n*n=lA a b n*(lN a b n*gd a b n):=by rw [h2]
    _=lA a b n*gd a b n*lN a b n:=by rw [am,aq (gd a b n)]
    _=a*lN a b n:=by rw [h1]
theorem l_b{b n:Int}:lB a b n*n=b*lN a b n:=by
  have h1:=HE (a:=a) (b:=b) (n:=n);have h2:=lN_mul (a:=a) (b:=b) (n:=n)
  calc lB a b n*n=lB a b n*(lN a b n*gd a b n):=by rw [h2]
    _=lB a b n*gd a b n*lN a b n:=by rw [am,aq (gd a b n)]
    _=b*lN a b n:=by rw [h1]
theorem l_n{b n:Int}(h:n≠0):1<=lN a b n:=by
  have h2:=lN_mul (a:=a) (b:=b) (n:=n);have hp:=ES (a:=a) (b:=b) h;have hs:0<lN a b n:=by
    by_cases c:n<0
    . have e:gd a b n=-(g3 a b n:Int):=im c;rw [e] at h2;refine fe λz=>?_;have:0<=lN a b n*-(g3 a b n:Int):=dW z (by omega);omega
    . have e:gd a b n=(g3 a b n:Int):=io c;rw [e] at h2;refine fe λz=>?_;have:lN a b n*(g3 a b n:Int)<=0:=cZ z (by omega);omega
  omega
theorem xu{b n:Int}(h:n≠0):g3 (lA a b n) (lB a b n) (lN a b n)=1:=by
  have hp:=ES (a:=a) (b:=b) h;have e:g3 a b n=g3 (lA a b n) (lB a b n) (lN a b n)*(gd a b n).natAbs:=by
    have h1:=GS (a:=a) (b:=b) (n:=n);have h2:=HE (a:=a) (b:=b) (n:=n);have h3:=lN_mul (a:=a) (b:=b) (n:=n);have:g3 (lA a b n*gd a b n) (lB a b n*gd a b n) (lN a b n*gd a b n)=g3 (lA a b n) (lB a b n) (lN a b n)*(gd a b n).natAbs:=by
      unfold g3;rw [Int.gcd_mul_right];have e1:((Int.gcd (lN a b n) (lA a b n)*(gd a b n).natAbs:Nat):Int).gcd (lB a b n*gd a b n)=Int.gcd ((Int.gcd (lN a b n) (lA a b n):Int)*gd a b n) (lB a b n*gd a b n):=by
        rw [bB,bB];congr 1;rw [ce,cG,cG]
      rw [e1,Int.gcd_mul_right]
    rw [h1,h2,h3] at this;exact this
  rw [GT] at e;have:1*g3 a b n=g3 (lA a b n) (lB a b n) (lN a b n)*g3 a b n:=by omega
  exact (Nat.eq_of_mul_eq_mul_right hp this).symm
end Bg
namespace L2
open PySem PySem.Spec PyProof.Rows Bg
theorem Ft{k:Nat}{x:Int}(h:Bd k x):Builtin.Int.intBits x<=k:=by
  unfold Builtin.Int.intBits;split
  . exact bJ _
  . rename_i z;have z':x≠0:=by simpa using z
    exact (hV (by omega)).mpr h
variable {y:Int}
theorem Bd.ok{j k:Nat}{x:Int}(h:Bd j x)(g:Bd k y)(l:j+k<=134217728):IntMulOk x y:=by
  have h1:=Ft h;have h2:=Ft g;unfold IntMulOk;have:Builtin.Int.intTooBig (Builtin.Int.intBits x+Builtin.Int.intBits y)=false:=by
    unfold Builtin.Int.intTooBig bitsLine;simp only [decide_eq_false_iff_not,fk,gt_iff_lt];have:(2 ^ 27:Nat)=134217728:=by decide
    omega
  rw [this];simp
variable {X:Cx}
theorem zl:OpR X (binaryOp .Mult) (rI IntMulOk λi j=>.int (i*j)):=opI λ_ _ _ _ _ _ _ hc q=>mul_int q hc
abbrev CFd(_ j:Int):Prop:=j≠0/\j.natAbs.log2<9000
abbrev CFp(_ j:Int):Prop:=0<j/\j.natAbs.log2<9000
abbrev CPw(i j:Int):Prop:=0<=j/\(Builtin.Int.intBits i:Int)*j<=2 ^ 27
theorem zM:OpR X (binaryOp .FloorDiv) (rI CFd λi j=>.int (i.fdiv j)):=opI λ_ _ _ _ _ _ _ hc q=>floordiv_int hc.1 q (.inl (gj hc.2))
theorem zz:OpR X (binaryOp .FloorDiv) (rI CFp λi j=>.int (i / j)):=opI λi j _ _ _ _ _ hc q=>by
  have h1:(0:Int)<j:=hc.1;exact floordiv_int (by omega) (by rw [dG i (by omega)]; exact q) (.inl (gj hc.2))
theorem AT:OpR X (binaryOp .Pow) (rI CPw λi j=>.int (i ^ j.toNat)):=opI λ_ _ _ _ _ _ _ hc q=>pow_int hc.1 hc.2 q
def rIs(K:iL):List V->Hp->VK->Prop:=λxs H Q=>∃ x T t b,xs=[x,.ty T]/\TyOf K H x t/\W.kitOne K t (.type T)=some b/\Q (.bl b) H
theorem yz:yx X (.builtin "isinstance") (rIs X.K):=by
  intro pins s σ H xs us Q I r h;obtain ⟨x,T,t,b,rfl,ty,e,q⟩:=h;obtain ⟨u,c,rfl,ru,rc⟩:=JM r;cases (show c=Value.type T from rc)
  exact ET I ru ty e λtk=>⟨.bl b,H,I.tok tk,rfl,q⟩
theorem uB(K:iL)(T:String):W.kitOne K (.type T) (.type T)=some true:=by
  unfold W.kitOne;rw [im];simp
theorem tV(K:iL):W.kitOne K (.type "int") (.type "bool")=some false:=by
  unfold W.kitOne;rw [io (by decide)];show (if W.kitMeta "bool"=true then W.subIn K (.type "int") (.type "bool") else none)=some false;rw [im (by decide +kernel)];show (fastBuiltinMro "int").map (·.contains (Value.type "bool"))=some false;decide +kernel
section
variable {K:iL}{H:Hp}{Q:VK}
theorem F4{i:Int}(h:Q (.bl true) H):rIs K [.int i,.ty "int"] H Q:=⟨_,_,_,_,rfl,.int i,uB K _,h⟩
theorem Dt{i:Int}(h:Q (.bl false) H):rIs K [.int i,.ty "bool"] H Q:=⟨_,_,_,_,rfl,.int i,tV K,h⟩
theorem FL{a:Addr}{xs:List V}(e:H a=some (.tup xs))(h:Q (.bl true) H):rIs K [.ref a,.ty "tuple"] H Q:=⟨_,_,_,_,rfl,.tup e,uB K _,h⟩
end
def Own(P:Program)(w:World)(K:iL)(mg:Str->Option Value)(base:Heap)(k:Nat)(x:Str)(ps:List Str)(dvs:List V)(sp:Sp):Prop :=
  ∃ (f:Addr) (fd:FuncData) (ds:List Value),FnOk P w K mg base CX0 k f fd ps sp/\mg x=some (.ref f)/\W.keepIn K (.ref f)=true/\Binds K fd ps ds/\Vals dvs ds
variable {ps:List Str}{dvs:List V}{sp:Sp}{x:Str}{t:TA}
theorem zf{k j:Nat}{p pos:Pos}{e:Expr}{es:List Expr}(O:Own X.prog X.w X.K X.mg X.base k x ps dvs sp)(hr:Room j X.A)(hg:Gl X x)(ha:PA X (e::es) t)(hk:k<=j:=by decide)(hdb:(x==("__debug__":Str))=false:=by decide)(he:starEach (e::es) X.env=(false,eval e X.env)::starEach es X.env:=by rfl)(hpl:(backTo pos (starEach es X.env)).any (·.1)=false:=by rfl) :
    PE X (.Call (.Name x p) (e::es) [] pos) (Dz sp dvs E0 t):=by
  obtain ⟨f,fd,ds,F,hm,kp,hb,hd⟩:=O;exact AS F (hr.mono hk) hg hm kp hb hd tK ha hdb he hpl
structure FunD(K:iL)(x qual:Str)(st:Stmt)(f:Addr)(fd:FuncData)(its:List Value):Prop where
  ex:∃ (oc:Value) (od:Option Addr) (T:Addr) (kV doc pm:Value) (an:Option Addr) (cdv ct:Value) (osl:Array (Option Value)) (to:Obj) (n:Nat),
    fd=W.fnOf x qual (defArgs st) (defBody st) (defScope st) (.ref T) kV doc pm an cdv ct/\K.lookup f=some ⟨oc,od,.func fd,osl⟩/\W.codeIn K cdv qual=true/\K.lookup T=some to/\to.data=.seq its.toArray n
  kp:W.keepIn K (.ref f)=true
variable {f:Addr}{fd:FuncData}{its:List Value}{qual:Str}
section
variable {P:Program}{w:World}{K:iL}{mg:Str->Option Value}{base:Heap}
theorem FunD.ok{st:Stmt}{N:List Str}{k:Nat}(F:FunD K x qual st f fd its)(S:FnScope N ps (defScope st))(len:∀ vs H Q E,sp vs H Q E->vs.length=ps.length)(hbody:∀ (cdv:Value) (A:Around) (outer:List Env) (s:Shared) (H:Hp) (vs:List V) (Q:VK) (E:XK),Room k (A.deeper (envOfC qual (defScope st) s.heap.objs.size f cdv))->sp vs H Q E ->
      ∃ t,PSs (cxOf CX0 P w K mg base N qual (defScope st) f cdv A outer s H E).nox (defBody st) t/\t { nx:=λ_ H'=>Q .non H',rt:=Q } (start N vs) H):FnOk P w K mg base CX0 (k+1) f fd ps sp:=by
  obtain ⟨oc,od,T,kV,doc,pm,an,cdv,ct,osl,to,n,rfl,lk,hcd,_⟩:=F.ex;refine Jg lk hcd S len λA outer s H vs Q E hr hsp=>?_;obtain ⟨t,h,q⟩:=hbody cdv A outer s H vs Q E hr hsp;exact ⟨t,h.nox,q⟩
end
def Top(K:iL)(mg:Str->Option Value)(x:Str)(st:Stmt):Prop:=∃ (f:Addr) (fd:FuncData),Fun K x x st f fd/\mg x=some (.ref f)
def TopD(K:iL)(mg:Str->Option Value)(x:Str)(st:Stmt)(its:List Value):Prop:=∃ (f:Addr) (fd:FuncData),FunD K x x st f fd its/\mg x=some (.ref f)
variable {osl:Array (Option Value)}{h:Heap}{an od:Option Addr}{mg:Str->Option Value}{cdv ct doc oc pm:Value}
theorem top_mk{K:iL}{st:Stmt}{kV:Value}(X:K.In h)(G:h.Ns mainGlobals mg)(a:W.nsIn K mainGlobals x=some (some (.ref f)))(l:K.lookup f=some ⟨oc,od,.func (W.fnOf x x (defArgs st) (defBody st) (defScope st) .none kV doc pm an cdv ct),osl⟩)(c:W.codeIn K cdv x=true)(k:W.keepIn K (.ref f)=true):Top K mg x st:=⟨f,_,Hi l c k,dF X G a⟩
theorem topD_mk{K:iL}{st:Stmt}{T:Addr}{kV:Value}{n:Nat}{to:Obj}(X:K.In h)(G:h.Ns mainGlobals mg)(a:W.nsIn K mainGlobals x=some (some (.ref f)))(l:K.lookup f=some ⟨oc,od,.func (W.fnOf x x (defArgs st) (defBody st) (defScope st) (.ref T) kV doc pm an cdv ct),osl⟩)(c:W.codeIn K cdv x=true)(k:W.keepIn K (.ref f)=true)(t:K.lookup T=some to)(d:to.data=.seq its.toArray n):TopD K mg x st its:=⟨f,_,⟨⟨oc,od,T,kV,doc,pm,an,cdv,ct,osl,_,n,rfl,l,c,t,d⟩,k⟩,dF X G a⟩
theorem Top.own{P:Program}{w:World}{K:iL}{base:Heap}{k:Nat}{st:Stmt}(T:Top K mg x st)(hb:∀ (kV doc pm:Value) (an:Option Addr) (cdv ct:Value) (us:List Value),us.length=ps.length->bindArgs (W.fnOf x x (defArgs st) (defBody st) (defScope st) .none kV doc pm an cdv ct) ⟨us,[]⟩=pure (ps.zip us))(h:∀ f fd,Fun K x x st f fd->FnOk P w K mg base CX0 k f fd ps sp):Own P w K mg base k x ps [] sp:=by
  obtain ⟨f,fd,F,m⟩:=T;exact ⟨f,fd,[],h f fd F,m,F.kp,F.binds hb,.nil⟩
def NewL(xs:List V)(H:Hp)(Q:VK):Prop:=xs.length<=sizeLine/\∀ p,H p=none->Q (.ref p) (upd H p (.lst xs))
def NewT(xs:List V)(H:Hp)(Q:VK):Prop:=xs.length<=sizeLine/\∀ p,H p=none->Q (.ref p) (upd H p (.tup xs))
def rLen(K:iL):List V->Hp->VK->Prop:=λxs H Q=>∃ p ys,xs=[.ref p]/\(SqL K H p ys\/SqT K H p ys)/\Q (.int ys.length) H
def rAbs:List V->Hp->VK->Prop:=λxs H Q=>∃ i,xs=[.int i]/\Q (.int (if i<0 then -i else i)) H
def rInt:List V->Hp->VK->Prop:=λxs H Q=>(∃ i,xs=[.int i]/\Q (.int i) H)\/∃ k,xs=[.bl k]/\Q (.int (if k then 1 else 0)) H
theorem zy:yx X (.builtin "len") (rLen X.K):=tN
theorem tY:yx X (.builtin "abs") rAbs:=GI
theorem D8:yx X (.type "int") rInt:=CU
variable {g:Int->Int->V}{ta te:TE}{c:TT}
section
variable {σ:St}{H:Hp}{Q:VK}{B:Bool->Hp->Prop}{D:Ends}{K:iL}
theorem Nc{t u:TS}(h:t { D with nx:=u D } σ H):tSeq t u D σ H:=h
theorem i_next(h:D.nx σ H):Kv D σ H:=h
theorem i_asg{g:TG}(h:te σ H λx H1=>g x σ H1 D.nx):tAsg te g D σ H:=h
theorem i_gname{i:Nat}{v:V}{R:St->Hp->Prop}(h:R (σ.set i (some v)) H):Di i v σ H R:=h
theorem i_ret(h:te σ H D.rt):tRet te D σ H:=h
theorem i_drop(h:te σ H λ_ H1=>D.nx σ H1):JQ te D σ H:=h
theorem i_ifS{t u:TS}(h:c σ H λb H1=>if b=true then t D σ H1 else u D σ H1):tIfS c t u D σ H:=h
theorem i_var{i:Nat}{v:V}(e:σ[i]?=some (some v))(h:Q v H):tVar i σ H Q:=⟨v,e,h⟩
theorem i_c{v:V}(h:Q v H):tC v σ H Q:=h
theorem i_op{r:R2}{tb:TE}(h:ta σ H λx H1=>tb σ H1 λy H2=>r x y H2 Q):tOp r ta tb σ H Q:=h
theorem i_un{r:V->Hp->VK->Prop}(h:ta σ H λx H1=>r x H1 Q):tUn r ta σ H Q:=h
theorem i_I0{i j:Int}(h:Q (g i j) H):rI0 g (.int i) (.int j) H Q:=⟨i,j,rfl,rfl,h⟩
theorem i_I{C:Int->Int->Prop}{i j:Int}(h:Q (g i j) H)(c:C i j):rI C g (.int i) (.int j) H Q:=⟨i,j,rfl,rfl,c,h⟩
theorem i_U{g:Int->V}{i:Int}(h:Q (g i) H):rU g (.int i) H Q:=⟨i,rfl,h⟩
theorem My{i j:Int}(h:Q (.bl (decide (i=j))) H):rEq (.int i) (.int j) H Q:=⟨rfl,by
  have e:decide (V.int i=V.int j)=decide (i=j):=by rw [uC]; exact g6 i j
  rw [e]; exact h⟩
theorem Mj{i j:Int}(h:Q (.bl (!decide (i=j))) H):rNe (.int i) (.int j) H Q:=⟨rfl,by
  have e:decide (V.int i=V.int j)=decide (i=j):=by rw [uC]; exact g6 i j
  rw [e]; exact h⟩
theorem MW{i j:Bool}(h:Q (.bl (decide (i=j))) H):rEq (.bl i) (.bl j) H Q:=⟨rfl,by
  have e:decide (V.bl i=V.bl j)=decide (i=j):=by rw [dec_bl]; cases i <;> cases j <;> rfl
  rw [e]; exact h⟩
theorem LM{t:TE}(h:t σ H λx H'=>∃ k,x=.bl k/\B k H'):LP t σ H B:=h
theorem i_tB{t:TE}(h:t σ H λx H'=>∃ k,x=.bl k/\B k H'):tB t σ H B:=h
theorem i_bl{k:Bool}{R:Bool->Prop}(h:R k):∃ k',V.bl k=.bl k'/\R k':=⟨k,rfl,h⟩
theorem Mo{t u:TT}(h:t σ H λc H1=>if c=true then u σ H1 B else B false H1):tAnd t u σ H B:=h
theorem i_or{t u:TT}(h:t σ H λc H1=>if c=true then B true H1 else u σ H1 B):tOr t u σ H B:=h
theorem ME{t:TT}(h:t σ H λc H1=>B (!c) H1):tNot t σ H B:=h
theorem Ks{t u:TE}(h:t σ H λx H1=>∃ c,x=.bl c/\if c=true then u σ H1 Q else Q (.bl false) H1):LG t u σ H Q:=h
theorem MV{t u:TE}(h:t σ H λx H1=>∃ c,x=.bl c/\if c=true then Q (.bl true) H1 else u σ H1 Q):tOrV t u σ H Q:=h
theorem KY{t:TE}(h:t σ H λx H1=>∃ c,x=.bl c/\Q (.bl (!c)) H1):JB t σ H Q:=h
theorem Mq{tb:TE}(h:c σ H λb H1=>if b=true then ta σ H1 Q else tb σ H1 Q):tIf c ta tb σ H Q:=h
theorem Mv{R:List V->Hp->Prop}(h:R [] H):tNil σ H R:=h
theorem LV{tr:TA}{R:List V->Hp->Prop}(h:ta σ H λx H1=>tr σ H1 λxs H2=>R (x::xs) H2):uI ta tr σ H R:=h
theorem Lr{E:XK}(h:t σ H λvs H1=>sp (vs++dvs) H1 Q E):Dz sp dvs E t σ H Q:=h
theorem i_cb{r:List V->Hp->VK->Prop}(h:t σ H λvs H1=>r vs H1 Q):tCB r t σ H Q:=h
theorem MY(h:t σ H λxs H1=>NewT xs H1 Q):tTup t σ H Q:=h
theorem M5(h:t σ H λxs H1=>NewL xs H1 Q):tLst t σ H Q:=h
theorem yi{n:Nat}(h:n<=1000):n<=sizeLine:=bA (Ev h)
theorem Cu{p:Addr}{xs:List V}{i:Int}{v:V}(h:H p=some (.tup xs))(e:atI xs i=some v)(q:Q v H):rIxT K (.ref p) (.int i) H Q:=⟨p,xs,i,v,rfl,rfl,SqT.of h,e,q⟩
theorem wV{p:Addr}{xs:List V}{i:Int}{v:V}(h:H p=some (.lst xs))(e:atI xs i=some v)(q:Q v H):rIxL K (.ref p) (.int i) H Q:=⟨p,xs,i,v,rfl,rfl,SqL.of h,e,q⟩
theorem L8{p:Addr}{xs:List V}(h:H p=some (.tup xs))(q:Q (.int xs.length) H):rLen K [.ref p] H Q:=⟨p,xs,rfl,.inr (SqT.of h),q⟩
theorem Lx{p:Addr}{xs:List V}(h:H p=some (.lst xs))(q:Q (.int xs.length) H):rLen K [.ref p] H Q:=⟨p,xs,rfl,.inl (SqL.of h),q⟩
theorem MU{i:Int}(q:Q (.int (if i<0 then -i else i)) H):rAbs [.int i] H Q:=⟨i,rfl,q⟩
theorem Kd{k:Bool}(q:Q (.int (if k then 1 else 0)) H):rInt [.bl k] H Q:=.inr ⟨k,rfl,q⟩
theorem MR{i j:Nat}{ta:TA}(h:ta σ H λvs H1=>∃ v w,vs=[v,w]/\D.nx ((σ.set i (some v)).set j (some w)) H1):tPar i j ta D σ H:=h
theorem Lb{v w:V}{R:V->V->Prop}(h:R v w):∃ v' w',[v,w]=[v',w']/\R v' w':=⟨v,w,rfl,h⟩
end
theorem if_d{p A B:Prop}[Decidable p](h1:p->A)(h2:¬ p->B):if decide p=true then A else B:=by
  by_cases h:p
  . rw [im (iJ h)]; exact h1 h
  . rw [io (by simp [h])]; exact h2 h
theorem AI{p A B:Prop}[Decidable p](h1:¬ p->A)(h2:p->B):if (!decide p)=true then A else B:=by
  by_cases h:p
  . rw [io (by simp [h])]; exact h2 h
  . rw [im (by simp [h])]; exact h1 h
theorem Gv{α:Type}{x y:α}{A B:Prop}[Decidable (x=y)](e:x=y)(h:B):if (!decide (x=y))=true then A else B:=AI (λc=>absurd e c) λ_=>h
theorem if_t{A B:Prop}(h:A):if true=true then A else B:=by rw [im rfl]; exact h
theorem if_f{A B:Prop}(h:B):if false=true then A else B:=by rw [io aJ]; exact h
theorem Mc{A B:Prop}(h:B):if (!true)=true then A else B:=by rw [io (by decide)]; exact h
theorem MM{A B:Prop}(h:A):if (!false)=true then A else B:=by rw [im (by decide)]; exact h
theorem zD{H:Hp}{p:Addr}(h:H p=none)(o:HO):Same H (upd H p o):=λb u q=>by rw [zm (zc q h)]; exact q
theorem uo(x:Int):Bd (x.natAbs.log2+1) x:=by
  unfold Bd;exact Nat.lt_log2_self
theorem HZ{j k:Nat}{x:Int}(h:Bd j x)(g:Bd k y):Bd (j+k+1) (x+y):=(h.mono (ck ..)).add (g.mono (Nat.le_add_left ..))
theorem Iw{j k:Nat}{x:Int}(h:Bd j x)(g:Bd k y):Bd (j+k+1) (x - y):=(h.mono (ck ..)).sub (g.mono (Nat.le_add_left ..))
variable {ds:List Value}
section
variable {P:Program}{w:World}{K:iL}{mg:Str->Option Value}{base:Heap}
theorem FunD.binds{st:Stmt}(F:FunD K x qual st f fd its)(h:∀ (T:Addr) (kV doc pm:Value) (an:Option Addr) (cdv ct:Value) (us:List Value),(us++ds).length=ps.length->∃ k:Option (Array Value)->Sem (List (Str×Value)),
      bindArgs (W.fnOf x qual (defArgs st) (defBody st) (defScope st) (.ref T) kV doc pm an cdv ct) ⟨us,[]⟩=seqItems? (.ref T) >>= k/\k (some its.toArray)=pure (ps.zip (us++ds))):Binds K fd ps ds:=by
  obtain ⟨oc,od,T,kV,doc,pm,an,cdv,ct,osl,to,n,rfl,lk,hcd,lT,hs⟩:=F.ex;intro s us KX hl;obtain ⟨k,h1,h2⟩:=h T kV doc pm an cdv ct us hl;exact BindsTo.of_defaults rfl (KX _ _ lT) hs h1 h2
theorem TopD.own{k:Nat}{st:Stmt}(T:TopD K mg x st its)(hb:∀ (T:Addr) (kV doc pm:Value) (an:Option Addr) (cdv ct:Value) (us:List Value),(us++ds).length=ps.length->∃ k:Option (Array Value)->Sem (List (Str×Value)),
      bindArgs (W.fnOf x x (defArgs st) (defBody st) (defScope st) (.ref T) kV doc pm an cdv ct) ⟨us,[]⟩=seqItems? (.ref T) >>= k/\k (some its.toArray)=pure (ps.zip (us++ds)))(hd:Vals dvs ds)(h:∀ f fd,FunD K x x st f fd its->FnOk P w K mg base CX0 k f fd ps sp):Own P w K mg base k x ps dvs sp:=by
  obtain ⟨f,fd,F,m⟩:=T;exact ⟨f,fd,ds,h f fd F,m,F.kp,F.binds hb,hd⟩
end
end L2
namespace Att
open PySem PySem.W PySem.Calls PyProof.Rows Bg
theorem wZ{x:WData}:∀ {xs:List WData},x∈xs->WData.weight x<=WData.weightAll xs
  | [],h=>absurd h (by simp)
  | y::ys,h=>by
    simp only [WData.weightAll];rcases aU.mp h with e|e
    . subst e; omega
    . have:=wZ e;omega
theorem GN{ns:List Int}(h:WData.layableAll [WData.list (ns.map WData.int)]=true):∀ x∈ns,Bd 1048576 x:=λx hx=>by
  have h1:WData.layable (WData.list (ns.map WData.int))=true:=by simpa [WData.layableAll] using h
  unfold WData.layable at h1;rw [cK] at h1;have h2:WData.weight (WData.list (ns.map WData.int))<=2 ^ 20:=of_decide_eq_true h1.2;simp only [WData.weight] at h2;have h3:WData.weight (WData.int x)<=WData.weightAll (ns.map WData.int):=wZ (bO.mpr ⟨x,hx,rfl⟩);simp only [WData.weight] at h3;unfold Bd;by_cases z:x=0
  . subst z;exact Nat.pow_pos (by decide)
  . rw [io (by simpa using z)] at h3;have e:(2:Nat) ^ 20=1048576:=by decide
    exact (hV (by omega)).mp (by omega)
theorem attach_callB{l:OpenLaw}{n:Nat}{q:Program}{loose:List Str}{XP:(Str->Option Value)->Heap->Prop}{YP:World->Heap->Prop}{d:DefRec}(hn:l.most=some n)(hdf:d.params.defaults=[])(call:∀ (w:World) (s₀ s₁:Shared) (mg mb:Str->Option Value) (fa:Addr) (a:Addr) (vs:List Value) (ns:List Int),
      Ground q loose [] XP w s₀ mg mb s₁.heap->YP w s₁.heap->mg d.name=some (.ref fa) ->
      s₁.heap.get? a=some { cls:=.type "list",data:=.seq vs.toArray }->IntsAre vs ns->ns.length<=n->(∀ x∈ns,Bd 1048576 x)->s₁.gens=#[] ->
      codeAny (model l.prog w) callerA (.call (.ref fa) ⟨[.ref a],[]⟩) (λr s'=>r=.ok (.ret (.bool true))/\OldK s₁.heap s'.heap/\s'.os=s₁.os/\AllBare s'.gens) s₁) :
    WalkO q loose XP YP l.row.toRowW d [] (λf vs=>PySem.call f vs):=by
  intro w s₀ s₁ mg mb G Y fa o pm cd doc dV kV ho hd hcd hD hmg hg args vals as hpre hlay hrd hwl hlo;obtain ⟨a,vs,ns,rfl,rfl,hobj,hints,hlen⟩:=EW hn hpre hwl;refine enter_call (iE (call w s₀ s₁ mg mb fa a vs ns G Y hmg hobj hints hlen (GN hlay) hg) λr s' hq=>?_);obtain ⟨rfl,h2,h3,h4⟩:=hq;exact ⟨.inl ⟨.bool true,.bool true,[],rfl,λ_=>rfl,.bool true,Dx l _,λ_=>⟨List.Pairwise.nil,λ_ hm=>(nomatch hm)⟩⟩,h2,h3,h4⟩
end Att
namespace L2
open PySem PySem.Spec PyProof.Rows Bg
def FX(K:iL):Sp:=λvs H Q _=>∃ (a:Addr) (ns:List Int),vs=[.ref a]/\SqL K H a (ns.map V.int)/\ns.length<=63/\(∀ x∈ns,Bd 1048576 x)/\∀ H',Q (.bl true) H'
variable {x:Str}
theorem walk_B{l:PySem.W.OpenLaw}{k:Nat}{q:Program}{loose:List Str}{XP:(Str->Option Value)->Heap->Prop}{YP:World->Heap->Prop}{d:DefRec}{K:Params->iL}(hn:l.most=some 63)(hdf:d.params.defaults=[])(hr:Room k callerA)(hY:∀ (w:World) (h:Heap),YP w h->(K w.params).In h)(F:∀ (w:World) (mg:Str->Option Value) (fa:Addr) (h:Heap),(K w.params).In h->h.Ns mainGlobals mg->mg d.name=some (.ref fa) ->
      ∃ fd:FuncData,(∀ (s:Shared) (u:Value),BindsTo s fd ⟨[u],[]⟩ [(x,u)]) /\
        ∀ base:Heap,(K w.params).In base->base.Ns mainGlobals mg->FnOk l.prog w (K w.params) mg base CX0 k fa fd [x] (FX (K w.params))) :
    PySem.W.WalkO q loose XP YP l.row.toRowW d [] (λf vs=>PySem.call f vs):=by
  refine Att.attach_callB hn hdf λw s₀ s₁ mg mb fa a vs ns G Y hmg hobj hints hlen hbd hg=>?_;have KX:=hY w _ Y;obtain ⟨fd,hb,hF⟩:=F w mg fa _ KX G.T.g hmg;exact GL KX G.T.g G.T.b G.T.builtins G.T.nolimit hg hobj hints (bW hlen (by decide)) hr hF hb (λH hO hS=>⟨a,ns,rfl,hS,hlen,hbd,λ_=>rfl⟩) λH e s' z=>z
theorem law_mk{P:Program}{w:World}{K:iL}{mg:Str->Option Value}{fa:Addr}{k:Nat}{st:Stmt}(T:Top K mg "law" st)(hfa:mg "law"=some (.ref fa))(hb:∀ (kV doc pm:Value) (an:Option Addr) (cdv ct:Value) (v:Value),bindArgs (W.fnOf "law" "law" (defArgs st) (defBody st) (defScope st) .none kV doc pm an cdv ct) ⟨[v],[]⟩=pure [(x,v)])(h:∀ base f fd,Fun K "law" "law" st f fd->FnOk P w K mg base CX0 k f fd [x] (FX K)) : ∃ fd:FuncData,(∀ (s:Shared) (u:Value),BindsTo s fd ⟨[u],[]⟩ [(x,u)])/\∀ base:Heap,K.In base->base.Ns mainGlobals mg->FnOk P w K mg base CX0 k fa fd [x] (FX K):=by
  obtain ⟨f,fd,F,m⟩:=T;have e:=hfa.symm.trans m;cases e
  obtain ⟨oc,od,kV,doc,pm,an,cdv,ct,osl,e1,lk,hcd⟩:=id F.ex;refine ⟨fd,λs u=>?_,λbase _ _=>h base _ _ F⟩;rw [e1];exact .of_eq (hb kV doc pm an cdv ct u)
end L2
namespace Bg
def fg(t b:Int):Int:=if b<0 then -((Int.gcd t b:Nat):Int) else ((Int.gcd t b:Nat):Int)
def fT(t b:Int):Int:=t.fdiv (fg t b)
def fB(t b:Int):Int:=b.fdiv (fg t b)
theorem Gy(t b:Int):fg t b=gd t t b:=by
  have e:g3 t t b=Int.gcd t b:=by
    unfold g3;rw [cV b t];have h:((Int.gcd t b:Nat):Int)∣t:=bF ..;rw [cV];have:=Int.gcd_eq_right_iff_dvd (a:=t) (b:=((Int.gcd t b:Nat):Int));rw [bB];rw [Nat.gcd_eq_right (bL.mpr h)];simp
  unfold fg gd;rw [e]
theorem Lq(t b:Int):fT t b=lA t t b:=by unfold fT lA; rw [Gy]
theorem IA(t b:Int):fB t b=lN t t b:=by unfold fB lN; rw [Gy]
variable {t:Int}
theorem f_b{b:Int}(h:b≠0):1<=fB t b:=by rw [IA]; exact l_n h
theorem f_t{b:Int}:fT t b*b=t*fB t b:=by rw [Lq,IA]; exact l_a
theorem MQ{b:Int}(h:b≠0):Int.gcd (fT t b) (fB t b)=1:=by
  have:=xu (a:=t) (b:=t) (n:=b) h;rw [Lq,IA];unfold g3 at this;have e:lB t t b=lA t t b:=rfl;rw [e] at this;have d:((Int.gcd (lN t t b) (lA t t b):Nat):Int)∣lA t t b:=bC ..;rw [bB,Nat.gcd_eq_left (bL.mpr d),cG] at this;rw [cV];exact this
theorem Md{b:Int}(h:b≠0):fg t b≠0:=by rw [Gy]; exact KG h
theorem MZ{k:Nat}{b:Int}(h:b≠0)(hb:Bd k b):Bd k (fg t b):=by rw [Gy]; exact KP h hb
theorem GV(c x y z:Int):g3 (c*x) (c*y) (c*z)=c.natAbs*g3 x y z:=by
  unfold g3;rw [fh];have e1:((c.natAbs*Int.gcd z x:Nat):Int).gcd (c*y)=Int.gcd (c*(Int.gcd z x:Nat)) (c*y):=by
    rw [bB,bB];congr 1;rw [ce,cG,cG]
  rw [e1,fh]
variable {x y z:Int}
theorem Ca{d:Int}(hx:d∣x)(hy:d∣y)(hz:d∣z):d∣(g3 x y z:Int):=d7 (d7 hz hx) hy
variable {x' y' z':Int}
theorem Fg(hg:g3 x y z=1)(hx:x*z'=x'*z)(hy:y*z'=y'*z):z∣z':=by
  have h1:z∣z'*x:=⟨x',by rw [aq z',hx,aq]⟩
  have h2:z∣z'*y:=⟨y',by rw [aq z',hy,aq]⟩
  have h3:z∣z'*z:=⟨z',by rw [aq]⟩
  have h:=Ca h1 h2 h3;rw [GV,hg,fD] at h;exact Int.dvd_natAbs.mp h
theorem HA(h1:1<=z)(h2:1<=z')(g1:g3 x y z=1)(g2:g3 x' y' z'=1)(hx:x*z'=x'*z)(hy:y*z'=y'*z):x=x'/\y=y'/\z=z':=by
  have d1:z∣z':=Fg g1 hx hy;have d2:z'∣z:=Fg g2 hx.symm hy.symm;have e:z=z':=by
    have a1:=ie (by omega) d1;have a2:=ie (by omega) d2;omega
  subst e;exact ⟨aG (by omega) hx,aG (by omega) hy,rfl⟩
theorem zC{a b n:Int}(h1:1<=z)(g1:g3 x y z=1)(hn:n≠0)(hx:x*n=a*z)(hy:y*n=b*z):x=lA a b n/\y=lB a b n/\z=lN a b n:=by
  refine HA h1 (l_n hn) g1 (xu hn) ?_ ?_
  . have e:=l_a (a:=a) (b:=b) (n:=n);refine aG hn ?_
    calc x*lN a b n*n=x*n*lN a b n:=by rw [am,aq (lN a b n),am]
      _=a*z*lN a b n:=by rw [hx]
      _=a*lN a b n*z:=by rw [am,aq z,am]
      _=lA a b n*n*z:=by rw [e]
      _=lA a b n*z*n:=by rw [am,aq n,am]
  . have e:=l_b (a:=a) (b:=b) (n:=n);refine aG hn ?_
    calc y*lN a b n*n=y*n*lN a b n:=by rw [am,aq (lN a b n),am]
      _=b*z*lN a b n:=by rw [hy]
      _=b*lN a b n*z:=by rw [am,aq z,am]
      _=lB a b n*n*z:=by rw [e]
      _=lB a b n*z*n:=by rw [am,aq n,am]
theorem Ie(h1:1<=z)(h2:1<=z')(g1:Int.gcd x z=1)(g2:Int.gcd x' z'=1)(hx:x*z'=x'*z):x=x'/\z=z':=by
  have k:∀ {a b:Int},Int.gcd a b=1->g3 a a b=1:=λ{a b} h=>by
    unfold g3;rw [cV b a,h];simp
  have:=HA h1 h2 (k g1) (k g2) hx hx;exact ⟨this.1,this.2.2⟩
theorem Bd.pow{k:Nat}{x:Int}(h:Bd k x):∀ n:Nat,0<k->Bd (k*n+1) (x ^ n)
  | 0,_=>by
    unfold Bd;rw [Int.pow_zero,ij];decide
  | n+1,hk=>by
    have ih:=Bd.pow h n hk;rw [Int.pow_succ];have e:k*(n+1)+1=(k*n+1)+k:=by rw [Nat.mul_succ]; omega
    rw [e];exact ih.mul h
theorem Js{k n:Nat}(h:Bd k x):Bd ((k+1)*n+1) (x ^ n):=Bd.pow (h.mono (dQ k)) n (Nat.succ_pos k)
theorem Jr{k:Nat}(h:Bd k x):Bd k (x / y):=h.of_le (Int.natAbs_ediv_le_natAbs x y)
theorem IL{k:Nat}(h:Bd k y)(hy:0<y):Bd k (x % y):=h.emod (by omega) x
theorem zw{k:Nat}{B:Int}(h0:0<=x)(h1:x<=B)(hB:B.natAbs<2 ^ k):Bd k x:=by
  unfold Bd;omega
theorem uO(k:Nat)(h0:-1000000<=x)(h1:x<=1000000)(hk:20<=k):Bd k x:=by
  have h:Bd 20 x:=by
    unfold Bd;have:(2:Nat) ^ 20=1048576:=by decide
    omega
  exact h.mono hk
end Bg
namespace L2
open PySem PySem.Spec PyProof.Rows Bg
variable {l:Addr}{X:Cx}{g:TG}{t:TS}
section
variable {σ:St}{H:Hp}{Q:VK}{D:Ends}{K:iL}
def tCut(t:TS):TS:=λD σ H=>∃ T:St->Hp->Prop,(∀ σ' H',T σ' H'->D.nx σ' H')/\t { D with nx:=T } σ H
theorem vZ{st:Stmt}(h:PS X st t):PS X st (tCut t):=by
  intro pins s σ H D I hw;obtain ⟨T,hT,hw⟩:=hw;refine thn (h pins s σ H _ I hw) λf s' q=>?_;cases f with
  | next=>obtain ⟨σ',H',I',q⟩:=q; exact ⟨σ',H',I',hT _ _ q⟩
  | brk=>exact q
  | cont=>exact q
  | ret v=>exact q
theorem CP{T:St->Hp->Prop}(h:t { D with nx:=T } σ H)(hT:∀ σ' H',T σ' H'->D.nx σ' H'):tCut t D σ H:=⟨T,hT,h⟩
theorem zr{xs:List V}(hl:xs.length<=1000)(h:∀ p H2,Same H H2->H2 p=some (.tup xs)->Q (.ref p) H2):NewT xs H Q :=
  ⟨yi hl,λp hp=>h p _ (zD hp _) zk⟩
theorem yl{xs:List V}(hl:xs.length<=1000)(h:∀ p H2,Same H H2->H2 p=some (.lst xs)->Q (.ref p) H2):NewL xs H Q :=
  ⟨yi hl,λp hp=>h p _ (zD hp _) zk⟩
theorem zE{xs:List V}(hl:xs.length<=1000)(h:∀ p H2,H p=none->Same H H2->H2 p=some (.lst xs)->Q (.ref p) H2):NewL xs H Q :=
  ⟨yi hl,λp hp=>h p _ hp (zD hp _) zk⟩
theorem JL{b:Addr}{xs zs:List V}(h1:H l=some (.lst xs))(h2:H b=some (.lst zs))(hz:xs.length+zs.length<=1000)(h:∀ p H2,Same H H2->H2 p=some (.lst (xs++zs))->Q (.ref p) H2):rCat (.ref l) (.ref b) H Q :=
  ⟨l,b,xs,zs,rfl,rfl,h1,h2,yi hz,λp hp=>h p _ (zD hp _) zk⟩
theorem i_sl{r:V->Option Int->Option Int->Hp->VK->Prop}{te:TE}{tl th:TO}(h:te σ H λx H1=>tl σ H1 λl H2=>th σ H2 λu H3=>r x l u H3 Q):tSl r te tl th σ H Q:=h
theorem GP{R:Option Int->Hp->Prop}(h:R none H):EF σ H R:=h
theorem LK{t:TE}{R:Option Int->Hp->Prop}(h:t σ H λx H1=>∃ i,x=.int i/\R (some i) H1):JK t σ H R:=h
theorem MP{k:Int}{R:Int->Prop}(h:R k):∃ k',V.int k=.int k'/\R k':=⟨k,rfl,h⟩
theorem yK{tl:TE}{tb:TS}(h:tl σ H λx H1=>∃ a,x=.ref a/\(∃ xs,SqL K H1 a xs)/\∃ W:Nat->Nat->St->Hp->Prop,(∃ m,W 0 m σ H1)/\∀ i m σ H,W i m σ H ->
  ((Itl K a).stop i H/\D.nx σ H)\/((Itl K a).go i H/\∃ N:St->Hp->Prop,(∀ σ' H',N σ' H'->∃ m',m'<m/\W (i+1) m' σ' H')/\∀ x H',(Itl K a).yld i H x H'->g x σ H' λσ2 H2=>tb { D with nx:=N,ct:=N,bk:=D.nx } σ2 H2)) :
  tFor (IQ K tl) g tb D σ H:=h
end
def EqV(X:Cx)(n:Nat)(H:Hp)(x y:V)(b:Bool):Prop :=
  ∀ (pins:List (Addr×Obj)) (σ:St) (s:Shared) (v u:Value) (A:Around),Inv X pins σ H s->RelV x v->RelV y u->A.units+4*n<cLine->SeqAt.EqAt A s v u b
theorem EqV.int{X:Cx}{n:Nat}{H:Hp}(i j:Int):EqV X n H (.int i) (.int j) (i==j):=λ_ _ s v u A _ rv ru _=>by
  obtain ⟨t,rfl⟩:=rv;obtain ⟨t',rfl⟩:=ru;exact SeqAt.EqAt.int_int i t j t'
inductive EqVs(X:Cx)(n:Nat)(H:Hp):List V->List V->List Bool->Prop
  | nil:EqVs X n H [] [] []
  | cons {x y:V} {b:Bool} {xs ys:List V} {bs:List Bool}:EqV X n H x y b->EqVs X n H xs ys bs->EqVs X n H (x::xs) (y::ys) (b::bs)
theorem EqVs.at{X:Cx}{n:Nat}{H:Hp}:∀ {xs ys:List V} {bs:List Bool},EqVs X n H xs ys bs->∀ {j:Nat} {x y:V},xs[j]?=some x->ys[j]?=some y->EqV X n H x y (bs.getD j false)
  | _,_,_,.nil,j,x,y,h,_=>by simp at h
  | _,_,_,.cons e _,0,x,y,h1,h2=>by
    simp at h1 h2;subst h1; subst h2;exact e
  | _,_,_,.cons _ r,j+1,x,y,h1,h2=>by
    have:=EqVs.at r (j:=j) (x:=x) (y:=y) (by simpa using h1) (by simpa using h2);simpa using this
theorem EqVs.len{X:Cx}{n:Nat}{H:Hp}:∀ {xs ys:List V} {bs:List Bool},EqVs X n H xs ys bs->xs.length=bs.length/\ys.length=bs.length
  | _,_,_,.nil=>⟨rfl,rfl⟩
  | _,_,_,.cons _ r=>by
    have:=r.len;simp only [ax];omega
theorem uE(bs:List Bool):((List.range bs.length).all λj=>bs.getD j false)=bs.all id:=by
  rw [cC];simp only [dL,bV,id];constructor
  . intro h b hb;obtain ⟨j,hj,e⟩:=List.mem_iff_getElem.mp hb;have:=h j hj;rw [c9,ae hj] at this;rw [<-e];exact this
  . intro h j hj;rw [c9,ae hj];exact h _ (cM hj)
variable {a:Addr}{H:Hp}
theorem DU{n:Nat}{b:Addr}{xs ys:List V}{bs:List Bool}{pins:List (Addr×Obj)}{σ:St}{s:Shared}{A:Around}(ha:SqT X.K H a xs)(hb:SqT X.K H b ys)(he:EqVs X n H xs ys bs)(I:Inv X pins σ H s)(hu:A.units+4*(n+1)<cLine) : ∃ (is js:Array Value),s.heap.IsTuple a is/\s.heap.IsTuple b js/\(∀ j (h1:j<is.size) (h2:j<js.size),SeqAt.EqAt A.in1 s is[j] js[j] (bs.getD j false))/\((List.range (min is.size js.size)).all (λj=>bs.getD j false) && is.size==js.size)=bs.all id:=by
  obtain ⟨is,r1,p1,_⟩:=I.tuple ha;obtain ⟨js,r2,p2,_⟩:=I.tuple hb;obtain ⟨l1,l2⟩:=he.len;have q1:=r1.length;have q2:=r2.length;refine ⟨is.toArray,js.toArray,(show s.heap.IsTuple a is.toArray from p1),(show s.heap.IsTuple b js.toArray from p2),λj h1 h2=>?_,?_⟩
  . have hj1:j<xs.length:=by rw [q1]; simpa using h1
    have hj2:j<ys.length:=by rw [q2]; simpa using h2
    obtain ⟨v,ev,rv⟩:=r1.get (ae hj1);obtain ⟨u,eu,ru⟩:=r2.get (ae hj2);have e1:is.toArray[j]=v:=by
      have:is[j]?=some v:=ev;rw [ae (by simpa using h1)] at this;simpa using ao this
    have e2:js.toArray[j]=u:=by
      have:js[j]?=some u:=eu;rw [ae (by simpa using h2)] at this;simpa using ao this
    rw [e1,e2];exact he.at (ae hj1) (ae hj2) pins σ s v u A.in1 I rv ru (by show A.units+1+4*n<cLine; omega)
  . have e1:is.toArray.size=bs.length:=by rw [aE]; omega
    have e2:js.toArray.size=bs.length:=by rw [aE]; omega
    rw [e1,e2,Nat.min_self,uE];simp
theorem EqV.tup{X:Cx}{n:Nat}{H:Hp}{a b:Addr}{xs ys:List V}{bs:List Bool}(ha:SqT X.K H a xs)(hb:SqT X.K H b ys)(he:EqVs X n H xs ys bs)(hs:a=b->bs.all id=true):EqV X (n+1) H (.ref a) (.ref b) (bs.all id):=λpins σ s v u A I rv ru hu=>by
  cases rv
  cases ru
  by_cases hab:a=b
  . subst hab;rw [hs rfl];exact SeqAt.EqAt.same _
  . obtain ⟨is,js,p1,p2,hj,e⟩:=DU ha hb he I hu;have:=SeqAt.RcAt.tuples (A:=A) (e:=λj=>bs.getD j false) p1 p2 (by omega) hj;rw [e] at this;exact SeqAt.EqAt.of_refs hab this
def rEqT(X:Cx):R2:=λx y H Q=>∃ a b xs ys bs n,x=.ref a/\y=.ref b/\n<=9/\SqT X.K H a xs/\SqT X.K H b ys/\EqVs X n H xs ys bs/\Q (.bl (bs.all id)) H
def rNeT(X:Cx):R2:=λx y H Q=>∃ a b xs ys bs n,x=.ref a/\y=.ref b/\n<=9/\SqT X.K H a xs/\SqT X.K H b ys/\EqVs X n H xs ys bs/\Q (.bl (!(bs.all id))) H
theorem HG(hu:X.A.units+64<cLine):OpR X (compareOp .Eq) (rEqT X):=by
  intro pins s σ H x y v u Q I rx ry h;obtain ⟨a,b,xs,ys,bs,n,rfl,rfl,hn,ha,hb,he,q⟩:=h;cases rx
  cases ry
  obtain ⟨is,js,p1,p2,hj,e⟩:=DU (A:=X.A) ha hb he I (by omega);refine SeqAt.eq_tupleAt p1 p2 (by omega) hj ?_;rw [e];exact ⟨.bl _,H,I,rfl,q⟩
theorem DJ(hu:X.A.units+64<cLine):OpR X (compareOp .NotEq) (rNeT X):=by
  intro pins s σ H x y v u Q I rx ry h;obtain ⟨a,b,xs,ys,bs,n,rfl,rfl,hn,ha,hb,he,q⟩:=h;cases rx
  cases ry
  obtain ⟨is,js,p1,p2,hj,e⟩:=DU (A:=X.A) ha hb he I (by omega);refine SeqAt.RcNeAt.tuples p1 p2 (by omega) hj X.prog X.w X.xe _ ?_;rw [e];exact ⟨.bl _,H,I,rfl,q⟩
variable {x x' y y' z z':Int}
theorem M6{Q:VK}{b:Addr}(ha:H a=some (.tup [.int x,.int y,.int z]))(hb:H b=some (.tup [.int x',.int y',.int z']))(q:Q (.bl (decide (x=x'/\y=y'/\z=z'))) H):rEqT X (.ref a) (.ref b) H Q:=by
  refine ⟨a,b,_,_,_,0,rfl,rfl,bJ _,SqT.of ha,SqT.of hb,.cons (.int x x') (.cons (.int y y') (.cons (.int z z') .nil)),?_⟩;have e:([x==x',y==y',z==z']:List Bool).all id=decide (x=x'/\y=y'/\z=z'):=by
    rw [cC];simp
  rw [e];exact q
theorem MC{Q:VK}{b:Addr}(ha:H a=some (.tup [.int x,.int y,.int z]))(hb:H b=some (.tup [.int x',.int y',.int z']))(q:Q (.bl (!decide (x=x'/\y=y'/\z=z'))) H):rNeT X (.ref a) (.ref b) H Q:=by
  refine ⟨a,b,_,_,_,0,rfl,rfl,bJ _,SqT.of ha,SqT.of hb,.cons (.int x x') (.cons (.int y y') (.cons (.int z z') .nil)),?_⟩;have e:([x==x',y==y',z==z']:List Bool).all id=decide (x=x'/\y=y'/\z=z'):=by
    rw [cC];simp
  rw [e];exact q
theorem M7{Q:VK}{b:Addr}(ha:H a=some (.tup [.int x,.int z]))(hb:H b=some (.tup [.int x',.int z']))(q:Q (.bl (!decide (x=x'/\z=z'))) H):rNeT X (.ref a) (.ref b) H Q:=by
  refine ⟨a,b,_,_,_,0,rfl,rfl,bJ _,SqT.of ha,SqT.of hb,.cons (.int x x') (.cons (.int z z') .nil),?_⟩;have e:([x==x',z==z']:List Bool).all id=decide (x=x'/\z=z'):=by
    rw [cC];simp
  rw [e];exact q
def SameX(l:Addr)(H H':Hp):Prop:=∀ b o,H b=some o->b≠l->H' b=some o
theorem Same.sameX{H':Hp}(s:Same H H')(l:Addr):SameX l H H':=λb o e _=>s b o e
theorem SameX.trans{H1 H2:Hp}(a:SameX l H H1)(b:SameX l H1 H2):SameX l H H2:=λc o e n=>b c o (a c o e n) n
theorem SameX.tup{l p:Addr}{H H':Hp}{xs ys:List V}(s:SameX l H H')(h:H p=some (.tup xs))(hl:H l=some (.lst ys)):H' p=some (.tup xs):=s _ _ h (zW h hl (λz=>nomatch z))
section
variable {σ:St}{H:Hp}{Q:VK}{D:Ends}{K:iL}
theorem zt{xs:List V}{y:V}(h:H l=some (.lst xs))(hz:xs.length<1000)(q:∀ H2,SameX l H H2->H2 l=some (.lst (xs++[y]))->Q .non H2):zZ (.ref l) [y] H Q :=
  ⟨l,xs,y,rfl,rfl,h,aI hz (yi (ag _)),q _ (λb o e n=>by rw [zm n]; exact e) zk⟩
theorem i_bm{T:String}{r:V->List V->Hp->VK->Prop}{to:TE}{t:TA}(h:to σ H λx H1=>tyV K T x H1/\t σ H1 λxs H2=>r x xs H2 Q):tBM K T r to t σ H Q:=h
theorem M3{xs:List V}{R:Prop}(h:H l=some (.lst xs))(q:R):tyV K "list" (.ref l) H/\R:=⟨.inl ⟨rfl,_,SqL.of h⟩,q⟩
theorem EA{ta:TA}{tb:TS}(h:ta σ H λvs H1=>∃ j:Int,vs=[.int j]/\-(2 ^ 62)<=j/\j<2 ^ 62/\∃ W:Nat->Nat->St->Hp->Prop,(∃ m,W 0 m σ H1)/\∀ i m σ H,W i m σ H ->
  ((Itr 0 j.toNat).stop i H/\D.nx σ H)\/((Itr 0 j.toNat).go i H/\∃ N:St->Hp->Prop,(∀ σ' H',N σ' H'->∃ m',m'<m/\W (i+1) m' σ' H')/\∀ x H',(Itr 0 j.toNat).yld i H x H'->g x σ H' λσ2 H2=>tb { D with nx:=N,ct:=N,bk:=D.nx } σ2 H2)) :
  tFor (Il ta) g tb D σ H:=h
end
end L2
namespace Bg
local macro_rules | `(!4)=>`(by omega)
structure Rt(d:Int):Prop where
  lo:2<=d
  hi:d<=99
  ns:∀ k:Nat,((k*k:Nat):Int)≠d
variable {d:Int}
theorem LR(h:2<=d/\d<=99)(n:d≠4/\d≠9/\d≠16/\d≠25/\d≠36/\d≠49/\d≠64/\d≠81):Rt d:=by
  refine ⟨h.1,h.2,λk e=>?_⟩;have hk:k<10:=by
    refine Nat.lt_of_not_le λz=>?_;have:10*10<=k*k:=Nat.mul_le_mul z z;omega
  have:k=0\/k=1\/k=2\/k=3\/k=4\/k=5\/k=6\/k=7\/k=8\/k=9:=by omega
  rcases this with q|q|q|q|q|q|q|q|q|q <;> subst q <;> omega
theorem irrN{D A B:Nat}(ns:∀ k:Nat,k*k≠D)(e:A*A=D*B*B):B=0:=by
  rcases Nat.eq_zero_or_pos B with z|hB
  . exact z
  exfalso;have hg:0<Nat.gcd A B:=Nat.gcd_pos_of_pos_right A hB;have hc:=Nat.coprime_div_gcd_div_gcd hg;obtain ⟨a,ha⟩:=gL A B;obtain ⟨b,hb⟩:=gq A B;have ea:A / Nat.gcd A B=a:=by rw [fE hg (gL A B)]; exact ha
  have eb:B / Nat.gcd A B=b:=by rw [fE hg (gq A B)]; exact hb
  rw [ea,eb] at hc;generalize Nat.gcd A B=g at *
  have e2:a*a=D*b*b:=by
    have h1:g*g*(a*a)=g*g*(D*b*b):=by
      rw [ha,hb] at e
      calc g*g*(a*a)=g*a*(g*a):=by simp only [ig,Nat.mul_left_comm]
        _=D*(g*b)*(g*b):=e
        _=g*g*(D*b*b):=by simp only [ig,Nat.mul_left_comm]
    exact dg (hW hg hg) h1
  have d1:b∣a*a:=⟨D*b,by rw [e2,Nat.mul_comm b]⟩
  have d2:b∣a:=hc.symm.dvd_of_dvd_mul_left d1;have d3:b=1:=by
    have:b∣Nat.gcd a b:=Nat.dvd_gcd d2 (Nat.dvd_refl b);rw [show Nat.gcd a b=1 from hc] at this;exact Nat.dvd_one.mp this
  rw [d3,fD,fD] at e2;exact ns a e2
variable {a:Int}
theorem irr{b:Int}(h:Rt d)(e:a*a=d*b*b):b=0:=by
  have hd:(d.toNat:Int)=d:=Int.toNat_of_nonneg (by have:=h.lo; omega);have:=irrN (D:=d.toNat) (A:=a.natAbs) (B:=b.natAbs) (λk q=>h.ns k (by rw [q]; exact hd)) (by
    have h1:((a.natAbs*a.natAbs:Nat):Int)=((d.toNat*b.natAbs*b.natAbs:Nat):Int):=by
      have ea:((a.natAbs*a.natAbs:Nat):Int)=a*a:=Int.natAbs_mul_self;have eb:((b.natAbs*b.natAbs:Nat):Int)=b*b:=Int.natAbs_mul_self;rw [ea,ig,d8,eb,hd,<-am];exact e
    exact d9 h1)
  omega
def sgn(d a b:Int):Int:=if 0<=a/\0<=b then (if 0<a+b then 1 else 0) else if a<=0/\b<=0 then -1 else if 0<a then (if d*b*b<a*a then 1 else -1) else (if a*a<d*b*b then 1 else -1)
theorem Ds{b:Int}(h:b≠0):0<b*b:=by
  rcases Int.lt_or_gt_of_ne h with q|q
  . exact dI q q
  . exact a9 q q
theorem Id{b:Int}(h:2<=d)(hb:b≠0):0<d*b*b:=by rw [am]; exact a9 (!4) (Ds hb)
def nrm(d a b:Int):Int:=a*a - d*b*b
theorem Co{b:Int}(h:Rt d)(e:nrm d a b=0):a=0/\b=0:=by
  unfold nrm at e;have hb:=irr (a:=a) (b:=b) h (!4);subst hb;rw [cQ] at e;refine ⟨?_,rfl⟩;rcases Int.lt_trichotomy a 0 with q|q|q
  . have:=dI q q; omega
  . exact q
  . have:=a9 q q; omega
def sg(x:Int):Int:=if 0<x then 1 else if x<0 then -1 else 0
theorem yO{b:Int}(h:Rt d)(n:0<nrm d a b):sgn d a b=sg a:=by
  unfold nrm at n;have ha:a≠0:=λz=>by
    subst z;by_cases hb:b=0
    . subst hb; simp at n
    . have:=Id h.lo hb;omega
  unfold sgn sg
  repeat' split
  all_goals omega
theorem yp{b:Int}(h:Rt d)(n:nrm d a b<0):sgn d a b=sg b:=by
  unfold nrm at n;have hb:b≠0:=λz=>by
    subst z;rw [cQ] at n;by_cases ha:a=0
    . subst ha; simp at n
    . have:=Ds ha;omega
  unfold sgn sg
  repeat' split
  all_goals omega
theorem yu(d:Int):sgn d 0 0=0:=by simp [sgn]
theorem nrm_tri{b:Int}(h:Rt d):(0<nrm d a b)\/(nrm d a b<0)\/(a=0/\b=0):=by
  rcases Int.lt_trichotomy (nrm d a b) 0 with q|q|q
  . exact .inr (.inl q)
  . exact .inr (.inr (Co h q))
  . exact .inl q
theorem Hz(x:Int):sg (-x)=- sg x:=by unfold sg; repeat' split <;> omega
theorem DH(d a b:Int):nrm d (-a) (-b)=nrm d a b:=by unfold nrm; rw [cR,am,cR,<-am]
theorem xh(h:Rt d)(a b:Int):sgn d (-a) (-b)=- sgn d a b:=by
  rcases nrm_tri (a:=a) (b:=b) h with q|q|⟨rfl,rfl⟩
  . rw [yO h q,yO h (by rw [DH]; exact q),Hz]
  . rw [yp h q,yp h (by rw [DH]; exact q),Hz]
  . rfl
theorem sg_cases(x:Int):(0<x/\sg x=1)\/(x<0/\sg x=-1)\/(x=0/\sg x=0):=by unfold sg; repeat' split <;> omega
theorem vW{k:Int}(hk:0<k)(x:Int):sg (k*x)=sg x:=by
  rcases sg_cases x with ⟨q,e⟩|⟨q,e⟩|⟨q,e⟩
  . have:=a9 hk q;rw [e]; unfold sg; rw [im this]
  . have:=dh hk q;rw [e]; unfold sg; rw [io (!4),im this]
  . subst q; simp
theorem Ep(d k a b:Int):nrm d (k*a) (k*b)=k*k*nrm d a b:=by
  unfold nrm;rw [dR];congr 1
  . simp only [am,bf]
  . simp only [am,bf,aq d]
theorem yU{k:Int}(h:Rt d)(hk:0<k)(a b:Int):sgn d (k*a) (k*b)=sgn d a b:=by
  have kk:0<k*k:=a9 hk hk;rcases nrm_tri (a:=a) (b:=b) h with q|q|⟨rfl,rfl⟩
  . rw [yO h q,yO h (by rw [Ep]; exact a9 kk q),vW hk]
  . rw [yp h q,yp h (by rw [Ep]; exact dh kk q),vW hk]
  . simp
variable {a' b':Int}
theorem ux{k m b:Int}(h:Rt d)(hk:0<k)(hm:0<m)(ea:k*a=m*a')(eb:k*b=m*b'):sgn d a b=sgn d a' b':=by
  rw [<-yU h hk a b,<-yU h hm a' b',ea,eb]
theorem Gk(d a b a' b':Int):nrm d (a*a'+d*b*b') (a*b'+b*a')=nrm d a b*nrm d a' b':=by
  unfold nrm;simp only [Int.mul_add,Int.add_mul,dR,hU];have e1:a*a'*(a*a')=a*a*(a'*a'):=by simp only [am,bf]
  have e2:d*b*b'*(d*b*b')=d*b*b*(d*b'*b'):=by simp only [am,bf]
  have e3:d*(a*b')*(a*b')=a*a*(d*b'*b'):=by simp only [am,bf]
  have e4:d*(b*a')*(b*a')=d*b*b*(a'*a'):=by simp only [am,bf,aq]
  have e5:d*b*b'*(a*a')=d*(b*a')*(a*b'):=by simp only [am,bf,aq]
  have e6:a*a'*(d*b*b')=d*(a*b')*(b*a'):=by simp only [am,bf,aq]
  omega
theorem xM{x y:Int}(hx:0<x)(h:y*y<x*x):-x<y/\y<x:=by
  constructor
  . refine fe λz=>?_;have:x*x<=(-y)*(-y):=fU (!4) (!4) (!4) (!4);rw [cR] at this;omega
  . refine fe λz=>?_;have:x*x<=y*y:=fU z z (!4) (!4);omega
theorem yZ{p q r s:Int}(h1:p<q)(h2:r<s)(hp:0<=p)(hr:0<=r):p*r<q*s:=by
  have a1:p*r<=p*s:=eZ (!4) hp;have a2:p*s<q*s:=Int.mul_lt_mul_of_pos_right h1 (!4);omega
theorem CA(x:Int):0<=x*x:=by
  by_cases h:x=0
  . subst h; simp
  . exact Int.le_of_lt (Ds h)
theorem uW(h:2<=d)(x:Int):0<=d*x*x:=by rw [am]; exact fV (!4) (CA x)
theorem BE{b:Int}(h:Rt d)(h1:sgn d a b=1)(h2:sgn d a' b'=1):sgn d (a*a'+d*b*b') (a*b'+b*a')=1:=by
  have hd:=h.lo;have np:=Gk d a b a' b';rcases nrm_tri (a:=a) (b:=b) h with q|q|⟨rfl,rfl⟩
  . have sa:0<a:=by rw [yO h q] at h1; unfold sg at h1; split at h1 <;> omega
    rcases nrm_tri (a:=a') (b:=b') h with q' | q' | ⟨rfl,rfl⟩
    . have sa':0<a':=by rw [yO h q'] at h2; unfold sg at h2; split at h2 <;> omega
      have n:0<nrm d (a*a'+d*b*b') (a*b'+b*a'):=by rw [np]; exact a9 q q'
      rw [yO h n];unfold nrm at q q';have k:=yZ (p:=d*b*b) (q:=a*a) (r:=d*b'*b') (s:=a'*a') (!4) (!4) (uW hd b) (uW hd b');have e1:d*b*b*(d*b'*b')=(d*b*b')*(d*b*b'):=by simp only [am,bf]
      have e2:a*a*(a'*a')=a*a'*(a*a'):=by simp only [am,bf]
      rw [e1,e2] at k;have:=(xM (a9 sa sa') k).1;unfold sg;rw [im (!4)]
    . have sb':0<b':=by rw [yp h q'] at h2; unfold sg at h2; split at h2 <;> omega
      have n:nrm d (a*a'+d*b*b') (a*b'+b*a')<0:=by rw [np]; exact dh q q'
      rw [yp h n];unfold nrm at q q';have k:=yZ (p:=d*b*b) (q:=a*a) (r:=a'*a') (s:=d*b'*b') (!4) (!4) (uW hd b) (CA a');have e1:d*b*b*(a'*a')=d*(b*a'*(b*a')):=by simp only [am,bf]
      have e2:a*a*(d*b'*b')=d*(a*b'*(a*b')):=by simp only [am,bf]
      rw [e1,e2] at k;have k':=fW k (!4);have:=(xM (a9 sa sb') k').1;unfold sg;rw [im (!4)]
    . rw [yu] at h2; omega
  . have sb:0<b:=by rw [yp h q] at h1; unfold sg at h1; split at h1 <;> omega
    rcases nrm_tri (a:=a') (b:=b') h with q' | q' | ⟨rfl,rfl⟩
    . have sa':0<a':=by rw [yO h q'] at h2; unfold sg at h2; split at h2 <;> omega
      have n:nrm d (a*a'+d*b*b') (a*b'+b*a')<0:=by rw [np]; exact Int.mul_neg_of_neg_of_pos q q'
      rw [yp h n];unfold nrm at q q';have k:=yZ (p:=a*a) (q:=d*b*b) (r:=d*b'*b') (s:=a'*a') (!4) (!4) (CA a) (uW hd b');have e1:a*a*(d*b'*b')=d*(a*b'*(a*b')):=by simp only [am,bf]
      have e2:d*b*b*(a'*a')=d*(b*a'*(b*a')):=by simp only [am,bf]
      rw [e1,e2] at k;have k':=fW k (!4);have:=(xM (a9 sb sa') k').1;unfold sg;rw [im (!4)]
    . have sb':0<b':=by rw [yp h q'] at h2; unfold sg at h2; split at h2 <;> omega
      have n:0<nrm d (a*a'+d*b*b') (a*b'+b*a'):=by rw [np]; exact dI q q'
      rw [yO h n];unfold nrm at q q';have k:=yZ (p:=a*a) (q:=d*b*b) (r:=a'*a') (s:=d*b'*b') (!4) (!4) (CA a) (CA a');have e1:a*a*(a'*a')=a*a'*(a*a'):=by simp only [am,bf]
      have e2:d*b*b*(d*b'*b')=(d*b*b')*(d*b*b'):=by simp only [am,bf]
      rw [e1,e2] at k;have:=(xM (a9 (a9 (!4) sb) sb') k).1;unfold sg;rw [im (!4)]
    . rw [yu] at h2; omega
  . rw [yu] at h1; omega
theorem sgn_tri(h:Rt d)(a b:Int):sgn d a b=1\/sgn d a b=-1\/(a=0/\b=0):=by
  rcases nrm_tri (a:=a) (b:=b) h with q|q|q
  . have ha:a≠0:=λz=>by
      subst z;unfold nrm at q;have:=uW h.lo b;omega
    rw [yO h q];rcases sg_cases a with ⟨_,e⟩|⟨_,e⟩|⟨e,_⟩
    . exact .inl e
    . exact .inr (.inl e)
    . exact absurd e ha
  . have hb:b≠0:=λz=>by
      subst z;unfold nrm at q;rw [cQ] at q;have:=CA a;omega
    rw [yp h q];rcases sg_cases b with ⟨_,e⟩|⟨_,e⟩|⟨e,_⟩
    . exact .inl e
    . exact .inr (.inl e)
    . exact absurd e hb
  . exact .inr (.inr q)
theorem Cg{b:Int}(h:Rt d):sgn d (a*a'+d*b*b') (a*b'+b*a')=sgn d a b*sgn d a' b':=by
  have neg1:∀ a b,sgn d a b=-1->sgn d (-a) (-b)=1:=λa b e=>by rw [xh h,e]; rfl
  rcases sgn_tri h a b with p|p|⟨rfl,rfl⟩
  . rcases sgn_tri h a' b' with q | q | ⟨rfl,rfl⟩
    . rw [BE h p q,p,q]; rfl
    . have:=BE h p (neg1 _ _ q);have e1:a*-a'+d*b*-b'=-(a*a'+d*b*b'):=by rw [gC,gC,hZ]
      have e2:a*-b'+b*-a'=-(a*b'+b*a'):=by rw [gC,gC,hZ]
      rw [e1,e2,xh h] at this;rw [p,q]; omega
    . simp [yu]
  . rcases sgn_tri h a' b' with q | q | ⟨rfl,rfl⟩
    . have:=BE h (neg1 _ _ p) q;have e1:-a*a'+d*-b*b'=-(a*a'+d*b*b'):=by rw [cH,gC,cH,hZ]
      have e2:-a*b'+-b*a'=-(a*b'+b*a'):=by rw [cH,cH,hZ]
      rw [e1,e2,xh h] at this;rw [p,q]; omega
    . have:=BE h (neg1 _ _ p) (neg1 _ _ q);have e1:-a*-a'+d*-b*-b'=a*a'+d*b*b':=by rw [cR,am d,cR,<-am]
      have e2:-a*-b'+-b*-a'=a*b'+b*a':=by rw [cR,cR]
      rw [e1,e2] at this;rw [this,p,q]; rfl
    . simp [yu]
  . simp [yu]
theorem vp{b:Int}(h:0<=a)(k:0<=b):sgn d a b=if 0<a+b then 1 else 0:=by unfold sgn; rw [im ⟨h,k⟩]
theorem Cn{b:Int}(n:¬ (0<=a/\0<=b))(h:a<=0)(k:b<=0):sgn d a b=-1:=by unfold sgn; rw [io n,im ⟨h,k⟩]
theorem Dr{b:Int}(h:0<a)(k:b<0):sgn d a b=if d*b*b<a*a then 1 else -1:=by unfold sgn; rw [io (!4),io (!4),im h]
theorem D5{b:Int}(h:a<0)(k:0<b):sgn d a b=if a*a<d*b*b then 1 else -1:=by unfold sgn; rw [io (!4),io (!4),io (!4)]
end Bg
namespace L2
open PySem PySem.Spec PyProof.Rows Bg
theorem xD(env:Env):∀ (names:List (Str×NameKind)) (acc:List (Str×Addr)),(∀ y∈names,y.2=.free->∃ c,env.cells.lookup y.1=some c)->(∀ x c,acc.lookup x=some c->env.cells.lookup x=some c) -> ∃ cl, (forIn names acc (fun (x : Str × NameKind) (r : List (Str × Addr)) => if (x.snd == NameKind.free) = true then do
                  let a <-cellOf env x.fst
                  pure (ForInStep.yield ((x.fst,a)::r))
                else pure (ForInStep.yield r)):Sem (List (Str×Addr)))=pure cl/\(∀ x c,cl.lookup x=some c->env.cells.lookup x=some c) /\
      ∀ x,((∃ c,acc.lookup x=some c)\/∃ y∈names,y.1=x/\y.2=.free)->∃ c,cl.lookup x=some c
  | [],acc,_,ha=>⟨acc,rfl,ha,λx h=>by
      rcases h with h|⟨y,hy,_⟩
      . exact h
      . simp at hy⟩
  | y::r,acc,hn,ha=>by
    by_cases hf:y.2=.free
    . obtain ⟨c,hc⟩:=hn y aV hf;obtain ⟨cl,e,h1,h2⟩:=xD env r ((y.1,c)::acc) (λz hz=>hn z (az _ hz)) (λx d hx=>by
        rw [cq] at hx;split at hx
        . rename_i q;have q':x=y.1:=by simpa using q
          rw [q',hc]; exact hx
        . exact ha x d hx)
      refine ⟨cl,?_,h1,λx h=>h2 x ?_⟩
      . rw [List.forIn_cons,im (by rw [hf]; rfl)];unfold cellOf;rw [hc];exact e
      . by_cases q:x=y.1
        . exact .inl ⟨c,by rw [cq,q]; simp⟩
        . rcases h with ⟨d,hd⟩ | ⟨z,hz,e1,e2⟩
          . exact .inl ⟨d,by
              rw [cq];have:(x==y.1)=false:=by simpa using q
              rw [this]; exact hd⟩
          . rcases aU.mp hz with e3 | e3
            . subst e3; exact absurd e1.symm q
            . exact .inr ⟨z,e3,e1,e2⟩
    . obtain ⟨cl,e,h1,h2⟩:=xD env r acc (λz hz=>hn z (az _ hz)) ha;refine ⟨cl,?_,h1,λx h=>h2 x ?_⟩
      . rw [List.forIn_cons,io (by simpa using hf)];exact e
      . rcases h with h | ⟨z,hz,e1,e2⟩
        . exact .inl h
        . rcases aU.mp hz with e3 | e3
          . subst e3; exact absurd e2 hf
          . exact .inr ⟨z,e3,e1,e2⟩
variable {scope:Scope}
theorem CS{env:Env}(h:∀ y∈scope.names,y.2=.free->∃ c,env.cells.lookup y.1=some c) : ∃ cl,closureFor scope env=pure cl/\(∀ x c,cl.lookup x=some c->env.cells.lookup x=some c)/\∀ y∈scope.names,y.2=.free->∃ c,cl.lookup y.1=some c:=by
  obtain ⟨cl,e,h1,h2⟩:=xD env scope.names [] h (λx c q=>by simp at q);refine ⟨cl,?_,h1,λy hy hf=>h2 y.1 (.inr ⟨y,hy,rfl,hf⟩)⟩;exact congrArg (λz:Sem (List (Str×Addr))=>z >>= λcs=>pure cs) e
variable {elt iter:Expr}{ifs:List Expr}
section
variable {prog:Program}{w:World}{A:Around}{R:Result->Shared->Prop}{s:Shared}
abbrev NoX:Value->Shared->Prop:=λ_ _=>False
theorem xA{target:Expr}{pos:Pos}{it acc:Value}{env:Env}(I:Nat->Shared->Prop)(turn:∀ n s,I n s->wpAny (model prog w) A (pyNext it) (λr s₁=>match r with
      | none=>R (.ok .next) s₁
      | some v=>wpAny (model prog w) A (letOwnedTupleGo target it v) (λ_ s₁'=>wpAny (model prog w) A (assign target env v) (λ_ s₂ =>
          wpAny (model prog w) A (forIn ifs true λc r=>if r=true then do let ok <-isTrue c env (eval c env); pure (ForInStep.yield ok) else pure (ForInStep.yield r)) (λok s₃ =>
            if ok=true then wpAny (model prog w) A (eval elt env) (λx s₄ =>
              wpAny (model prog w) A (call (.builtin "list.append") [acc,x]) (λ_ s₅=>∃ m,m<n/\I m s₅) NoX s₄) NoX s₃
            else ∃ m,m<n/\I m s₃) NoX s₂) NoX s₁') NoX s₁) NoX s)(n:Nat)(h:I n s) :
    codeAny (model prog w) A (.compLoop (.ListComp elt [⟨target,iter,ifs,0⟩] scope pos) 0 it acc env) R s:=by
  refine codeAny_loop rfl I (λn s hI=>?_) n h;show wpAny _ A ((compTurn (.ListComp elt [⟨target,iter,ifs,0⟩] scope pos) 0 it acc env).onRaise (λx=>do noteFrame x env; theTreesLotGoes x)) _ _ s;refine wpAny_noted ?_;rw [compTurn_list];refine iw (wpAny_standAt (iw (ip (turn n s hI) (λr s₁ h₁=>?_) λ_ _ h'=>h'.elim)));cases r with
  | none=>exact iA h₁
  | some v =>
    refine iw (ip h₁ (λ_ s₁' h₁'=>?_) λ_ _ h'=>h'.elim);refine iw (ip h₁' (λ_ s₂ h₂=>iw (ip h₂ (λok s₃ h₃=>?_) λ_ _ h'=>h'.elim)) λ_ _ h'=>h'.elim);cases ok with
    | false=>exact iA ⟨rfl,h₃⟩
    | true =>
      exact iw (iw (ip h₃ (λx s₄ h₄=>iw (ip h₄ (λ_ s₅ h₅=>iA (iA ⟨rfl,h₅⟩)) λ_ _ h'=>h'.elim)) λ_ _ h'=>h'.elim))
end
theorem yB{env:Env}(hk:env.scope.kind=.function):∀ {names:List (Str×NameKind)} {x:Str},names.lookup x=some .free->env.kindOf x=some .cell -> (names.map λ(n,k)=>if (k==NameKind.free && env.scope.kind==.function && env.kindOf n==some .cell) then (n,NameKind.cell) else (n,k)).lookup x=some .cell
  | [],_,h,_=>by simp at h
  | (n,k)::r,x,h,he=>by
    have ih:=@yB env hk r x;show List.lookup x ((if (k==NameKind.free && env.scope.kind==.function && env.kindOf n==some .cell)=true then (n,NameKind.cell) else (n,k))::_)=_;cases hx:x==n with
    | true =>
      simp only [cq,hx] at h;cases h
      have hxn:x=n:=by simpa using hx
      subst hxn;have hc:(NameKind.free==NameKind.free && env.scope.kind==.function && env.kindOf x==some .cell)=true:=by rw [hk,he]; rfl
      rw [im hc];simp [cq]
    | false =>
      simp only [cq,hx] at h;by_cases hc:(k==NameKind.free && env.scope.kind==.function && env.kindOf n==some .cell)=true
      . rw [im hc]; simp only [cq,hx]; exact ih h he
      . rw [io hc]; simp only [cq,hx]; exact ih h he
theorem v0{env:Env}:∀ {names:List (Str×NameKind)} {x:Str} {k:NameKind},(∀ y∈names,y.2≠.cell)->(k=.cell\/k=.free) -> (names.map λ(n,k)=>if (k==NameKind.free && env.scope.kind==.function && env.kindOf n==some .cell) then (n,NameKind.cell) else (n,k)).lookup x=some k->∃ y∈names,y.1=x/\y.2=.free
  | [],_,_,_,_,h=>by simp at h
  | (n,k)::r,x,k',hn,hk,h=>by
    have h':List.lookup x ((if (k==NameKind.free && env.scope.kind==.function && env.kindOf n==some .cell)=true then (n,NameKind.cell) else (n,k))::_)=some k':=h;have ih:=@v0 env r x k' (λy hy=>hn y (az _ hy)) hk;have kn:k≠.cell:=hn (n,k) aV;by_cases hc:(k==NameKind.free && env.scope.kind==.function && env.kindOf n==some .cell)=true
    . rw [im hc,cq] at h';have kf:k=.free:=by
        rw [cK,cK] at hc;simpa using hc.1.1
      cases hx:x==n with
      | true =>
        have hxn:x=n:=by simpa using hx
        exact ⟨(n,k),aV,hxn.symm,kf⟩
      | false =>
        rw [hx] at h';obtain ⟨y,hy,q⟩:=ih h';exact ⟨y,az _ hy,q⟩
    . rw [io hc,cq] at h';cases hx:x==n with
      | true =>
        have hxn:x=n:=by simpa using hx
        rw [hx] at h';have e:k=k':=ao h';refine ⟨(n,k),aV,hxn.symm,?_⟩;rcases hk with q|q
        . exact absurd (e.trans q) kn
        . exact e.trans q
      | false =>
        rw [hx] at h';obtain ⟨y,hy,q⟩:=ih h';exact ⟨y,az _ hy,q⟩
variable {ns:List (Str×NameKind)}
theorem DS(h:(scope.names.all λy=>y.2 != .free || ns.lookup y.1==some .cell)=true):∀ y∈scope.names,y.2=.free->ns.lookup y.1=some .cell:=λy hy hf=>by
  have:=dL.mp h y hy;rw [hf] at this;simpa using this
variable {js:List Nat}
theorem JT{N:List Str}(h:(js.all λj=>scope.names.lookup (N.getD j Str.empty)==some .free && ns.lookup (N.getD j Str.empty)==some .cell)=true):∀ j∈js,scope.names.lookup (N.getD j Str.empty)=some .free/\ns.lookup (N.getD j Str.empty)=some .cell:=λj hj=>by
  have:=dL.mp h j hj;rw [cK] at this;exact ⟨eq_of_beq this.1,eq_of_beq this.2⟩
theorem EJ(h:(scope.names.all λy=>y.2 != .cell)=true):∀ y∈scope.names,y.2≠.cell:=λy hy=>by
  have:=dL.mp h y hy;simpa using this
theorem BW(h:(scope.names.all λy=>y.2 != .local || scope.names.lookup y.1==some .local)=true):∀ y∈scope.names,y.2=.local->scope.names.lookup y.1=some .local:=λy hy hf=>by
  have:=dL.mp h y hy;rw [hf] at this;simpa using this
def vw(n:Nat)(js:List Nat)(σ:St):St:=List.replicate n none++js.map λj=>(σ[j]?).join
def ya(X:Cx)(scope:Scope)(cl:List (Str×Addr))(own:List Str)(js:List Nat)(fp:List Addr)(C:Addr)(s3:Shared)(H3:Hp):Cx :=
  { X with N:=own++js.map (λj=>X.N.getD j Str.empty),s₀:=s3,H₀:=H3,env:=compEnvC scope cl C X.env,outer:=X.stack,ex:=fp,fn:=λ_=>false,pn:=[],xe:=λ_ _=>False }
def PIfs(X:Cx)(ifs:List Expr)(t:TT):Prop:=∀ (pins:List (Addr×Obj)) (s:Shared) (σ:St) (H:Hp) (Q:Bool->Hp->Prop),Inv X pins σ H s->t σ H Q ->
  wpAny (model X.prog X.w) X.A (forIn ifs true λc r=>if r=true then do let ok <-isTrue c X.env (eval c X.env); pure (ForInStep.yield ok) else pure (ForInStep.yield r)) (TP X pins σ Q) X.xe s
def tAll:TT:=λ_ H B=>B true H
variable {X:Cx}
theorem zP:PIfs X [] tAll:=λ_ _ _ H _ I h=>wpAny_tests_nil ⟨H,I,h⟩
def AF(wi:TI)(g:TG)(tc:TT)(te:TE)(n:Nat)(js:List Nat):TE:=λσ H Q=>wi σ H λJ H1=>∀ D,H1 D=none->∃ W:Nat->Nat->St->Hp->Prop,(∃ m,W 0 m (vw n js σ) (upd H1 D (.lst []))) /\
  ∀ i m σ' H',W i m σ' H'->(J.stop i H'/\Q (.ref D) H')\/(J.go i H'/\∀ x H2,J.yld i H' x H2->g x σ' H2 λσ3 H3=>tc σ3 H3 λb H4 =>
    if b=true then te σ3 H4 λv H5=>zZ (.ref D) [v] H5 λ_ H6=>∃ m',m'<m/\W (i+1) m' σ3 H6 else ∃ m',m'<m/\W (i+1) m' σ3 H4)
section
variable {X:Cx}{pins:List (Addr×Obj)}{σ:St}{H:Hp}{s:Shared}{scope:Scope}{cl:List (Str×Addr)}{own:List Str}{js:List Nat}{fp:List Addr}
theorem EO(I:Inv X pins σ H s)(hkind:scope.kind=.function)(hcell:∀ y∈scope.names,y.2≠.cell)(cl1:∀ x c,cl.lookup x=some c->X.env.cells.lookup x=some c)(cl2:∀ y∈scope.names,y.2=.free->∃ c,cl.lookup y.1=some c)(hf:∀ b∈fp,FpOk X pins H b)(hl:∀ b∈fp,b<s.heap.objs.size):(ya X scope cl own js fp s.heap.objs.size s H).Ok:=by
  have hno:∀ b o,X.base.get? b=some o->b∉fp:=λb o e hb=>by
    rcases (hf b hb).2.2.2.1 with z|z
    . exact I.ok.noex b o e z
    . exact absurd (aI (Heap.lt_size e) (bW I.ok.bsz z)) (du _)
  have hex:∀ b∈fp,b∉frs X.stack:=λb hb z=>by
    rcases aU.mp (I.stkSub b z) with e|e
    . exact (hf b hb).2.1 e
    . exact (hf b hb).2.2.1 e
  exact ⟨I.ok.mod,hkind,I.ok.glob,I.ok.blt,ag _,λx y c h1 h2=>I.ok.inj x y c (cl1 x c h1) (cl1 y c h2),
    λx hx=>by
      have hx':(∃ k,(k=NameKind.cell\/k=.free)/\(relabel scope X.env).names.lookup x=some k):=by
        rcases hx with z|z
        . exact ⟨_,.inl rfl,z⟩
        . exact ⟨_,.inr rfl,z⟩
      obtain ⟨k,hk,z⟩:=hx';obtain ⟨y,hy,e1,e2⟩:=v0 hcell hk z;obtain ⟨c,hc⟩:=cl2 y hy e2;exact ⟨c,by rw [<-e1]; exact hc⟩,
    λx c h _=>absurd h (by show ¬ (false=true); decide),I.ok.hd,I.ok.frames,.inl rfl,
    λb hb=>⟨aP (hl b hb),λx c e=>(hf b hb).2.2.2.2.1 x c (cl1 x c e)⟩,
    I.bs,bW I.ok.bsz I.sz,hno,hex,I.stack,I.stkFree⟩
theorem Gc{h₁:Heap}{m:Str->Option Value}{t':Nat}(I:Inv X pins σ H s)(hkind:scope.kind=.function)(hcell:∀ y∈scope.names,y.2≠.cell)(cl1:∀ x c,cl.lookup x=some c->X.env.cells.lookup x=some c)(cl2:∀ y∈scope.names,y.2=.free->∃ c,cl.lookup y.1=some c)(hjs:∀ j∈js,scope.names.lookup (X.N.getD j Str.empty)=some .free/\X.env.scope.names.lookup (X.N.getD j Str.empty)=some .cell)(hf:∀ b∈fp,FpOk X pins H b)(hl:∀ b∈fp,b<s.heap.objs.size)(hn:h₁.Ns s.heap.objs.size m)(k:∀ b o,s.heap.get? b=some o->h₁.get? b=some o) : Inv (ya X scope cl own js fp s.heap.objs.size s H) [] (vw own.length js σ) H { s with heap:=h₁,toks:=t' }:=by
  refine ⟨EO I hkind hcell cl1 cl2 hf hl,rfl,I.bare,Un.kept k,⟨m,hn,λi x v h1 h2 h3=>?_⟩,λx c e=>?_,I.hok.fresh (ag _),λx c e=>I.freeC x c (cl1 x c e),λp hp=>absurd (show p∈([]:List (Addr×Obj)) from hp) (by simp),I.hok.kept k,?_⟩
  . have hi:own.length<=i:=by
      unfold vw at h2;by_cases z:i<own.length
      . rw [aT (by simpa using z),gA,im z] at h2;cases h2
      . omega
    unfold vw at h2;rw [aN (by simpa using hi),db,aj] at h2;have h1':(own++js.map (λj=>X.N.getD j Str.empty))[i]?=some x:=h1;rw [aN hi,aj] at h1';cases ej:js[i - own.length]? with
    | none=>rw [ej] at h2; cases h2
    | some j =>
      rw [ej] at h2 h1';have ex:X.N.getD j Str.empty=x:=ao h1';have ev:(σ[j]?).join=some v:=ao h2;have ev':σ[j]?=some (some v):=by
        cases q:σ[j]? with
        | none=>rw [q] at ev; cases ev
        | some z=>rw [q] at ev; rw [show z=some v from ev]
      have hjl:j<X.N.length:=by
        rw [<-I.len];exact (af.mp ev').1
      have eN:X.N[j]?=some x:=by
        rw [<-ex,c9,ae hjl];rfl
      obtain ⟨f1,f2⟩:=hjs j (av ej);rw [ex] at f1 f2;obtain ⟨mm,hnn,hll⟩:=I.loc;obtain ⟨u,r,lk⟩:=hll j x v eN ev' (.inr (.inl f2));refine ⟨u,r,?_⟩;rcases lk with ⟨q,_⟩|⟨_,c,e,ic⟩
      . rw [show X.env.kindOf x=some .cell from f2] at q; cases q
      . obtain ⟨y,hy,e1,e2⟩:∃ y∈scope.names,y.1=x/\y.2=.free:=⟨_,cX f1,rfl,rfl⟩
        obtain ⟨c',hc'⟩:=cl2 y hy e2;rw [e1] at hc';have:c'=c:=by
          have:=cl1 x c' hc';rw [e] at this;exact (ao this).symm
        subst this;obtain ⟨o,ho,hd⟩:=ic;exact .inr ⟨.inl (yB I.ok.kind f1 f2),c',hc',⟨o,k _ _ ho,hd⟩⟩
  . obtain ⟨v,o,ho,hd⟩:=I.cell x c (cl1 x c e);exact ⟨v,o,k _ _ ho,hd⟩
  . show _=(own++js.map _).length;unfold vw;simp
theorem tq{H':Hp}{σ':St}{s':Shared}{h':Heap}(I:Inv X pins σ H s)(hf:∀ b∈fp,FpOk X pins H b)(I':Inv (ya X scope cl own js fp s.heap.objs.size s H) [] σ' H' s')(sb:Heap.SameBut s.heap.objs.size s'.heap h'):Inv X pins σ H' { s' with heap:=h' }:=by
  have u:=I'.base;have ne:∀ b o,s.heap.get? b=some o->b≠s.heap.objs.size:=λb o e=>aP (Heap.lt_size e);refine I.call' (ch:=fp) I'.os ⟨λb o e n hb hx=>?_,λb o e n hb hx=>?_,u.free,λb o e hx=>?_,u.tups,u.frzs,u.tbls⟩ (λb o e=>?_) I'.bare λb hb=>⟨(hf b hb).2.2.2.1,(hf b hb).2.1,(hf b hb).2.2.2.2.1,(hf b hb).2.2.2.2.2⟩
  . exact (sb.2 b (ne b o e)).trans (u.keep b o e n hb hx)
  . obtain ⟨sl,z⟩:=u.slot b o e n hb hx;exact ⟨sl,(sb.2 b (ne b o e)).trans z⟩
  . obtain ⟨o',z⟩:=u.there b o e hx;exact ⟨o',(sb.2 b (ne b o e)).trans z⟩
  . have hfr:H' s.heap.objs.size=none:=I'.free;refine (I'.hok b o e).stay (λc v hc q=>(sb.2 c ?_).trans q) (λ_ q=>q) λ_ _ q=>q;rintro rfl;rcases hc with rfl|hc
    . rw [hfr] at e; cases e
    . rw [hfr] at hc; cases hc
end
variable {tgt:Expr}{H:Hp}{te:TE}{g:TG}{wi:TI}{tc:TT}
theorem BH{use:Option (Value->Sem Unit)}{R:Value->Shared->Prop}{pins:List (Addr×Obj)}{σ:St}{s:Shared}{Q:VK}{pos:Pos}(own:List Str)(js:List Nat)(hc:X.calm=true)(hi:PI X tgt iter wi)(hg:∀ cl fp C s3 H3,PG (ya X scope cl own js fp C s3 H3) tgt g)(ht:∀ cl fp C s3 H3,PIfs (ya X scope cl own js fp C s3 H3) ifs tc)(he:∀ cl fp C s3 H3,PE (ya X scope cl own js fp C s3 H3) elt te)(hfree:∀ y∈scope.names,y.2=.free->X.env.scope.names.lookup y.1=some .cell)(hjs:∀ j∈js,scope.names.lookup (X.N.getD j Str.empty)=some .free/\X.env.scope.names.lookup (X.N.getD j Str.empty)=some .cell)(hcell:∀ y∈scope.names,y.2≠.cell)(hnames:∀ y∈scope.names,y.2=.local->scope.names.lookup y.1=some .local)(hkind:scope.kind=.function)(hs:∀ x,foldedSetIterable iter X.env x=pure x)(I:Inv X pins σ H s)(h:AF wi g tc te own.length js σ H Q)(hend:∀ (D:Addr) (H3 H5:Hp) (σ5:St) (s3 s6:Shared) (fp:List Addr) (cl:List (Str×Addr)),Inv X pins σ H3 s3->(∀ b∈fp,FpOk X pins H3 b)->Inv (ya X scope cl own js fp s3.heap.objs.size s3 H3) [] σ5 H5 s6->Q (.ref D) H5 ->
      compPost (model X.prog X.w) X.A X.xe use R (.ref D) s3.heap.objs.size (.ok .next) s6) :
    wpAny (model X.prog X.w) X.A (comprehension (.ListComp elt [⟨tgt,iter,ifs,0⟩] scope pos) scope X.env (firstIterPos [⟨tgt,iter,ifs,0⟩] pos) (newList []) false (eval iter X.env) use) R X.xe s:=by
  have hk:=I.ok.kind;obtain ⟨cl,hcl,cl1,cl2⟩:=CS (scope:=scope) (env:=X.env) λy hy hf=>I.ok.has y.1 (.inl (hfree y hy hf));refine wpAny_comprehension_free rfl hs hcl hkind hnames (thn (hi pins s σ H _ I h) λv s1 h1=>thn h1 λitv s2 h2=>?_);obtain ⟨it,fp,tn,J,H2,e,I2,T,st2,f2,q2⟩:=h2;subst e;obtain ⟨W,⟨m0,w0⟩,turn⟩:=q2 s2.heap.objs.size I2.fresh;have I3:=I2.lnew (ys:=[]) (its:=[]) (t':=s2.toks) .nil (bJ _);refine iB (wpAny_newFunctionEnv hcell (by intro y hy; simp at hy) (λh₁ hns₁ hsb₁=>?_) hkind);have hl3:∀ b∈fp,b<(s2.heap.push ({ cls:=.type "list",data:=.seq ([]:List Value).toArray }:Obj)).objs.size:=λb hb=>by
    obtain ⟨o,e,_⟩:=T.obj _ _ st2 b hb;rw [Heap.size_push];exact Nat.lt_succ_of_lt (Heap.lt_size e)
  have f3:∀ b∈fp,FpOk X pins (upd H2 s2.heap.objs.size (.lst [])) b:=λb hb=>by
    obtain ⟨o,e,_⟩:=T.obj _ _ st2 b hb;refine ⟨?_,(f2 b hb).2⟩;rw [zm (aP (Heap.lt_size e))];exact (f2 b hb).1
  have I4:=Gc (own:=own) (js:=js) (h₁:=h₁) (t':=s2.toks+([]:List (Str×Value)).length) I3 hkind hcell cl1 cl2 hjs f3 hl3 hns₁ (λb o e=>(hsb₁.2 b (aP (Heap.lt_size e))).trans (Heap.get?_push_of_some _ e));have st4:tn 0 h₁:=T.keep _ _ _ st2 λb hb o e=>(hsb₁.2 b (aP (hl3 b hb))).trans (Heap.get?_push_of_some _ (Heap.get?_push_of_some _ e));have loop:codeAny (model X.prog X.w) X.A (.compLoop (.ListComp elt [⟨tgt,iter,ifs,0⟩] scope pos) 0 (.ref it) (.ref s2.heap.objs.size) (compEnvC scope cl (s2.heap.push ({ cls:=.type "list",data:=.seq ([]:List Value).toArray }:Obj)).objs.size X.env))
      (compPost (model X.prog X.w) X.A X.xe use R (.ref s2.heap.objs.size) (s2.heap.push ({ cls:=.type "list",data:=.seq ([]:List Value).toArray }:Obj)).objs.size) { s2 with heap:=h₁,toks:=s2.toks+([]:List (Str×Value)).length }:=by
    refine xA (λn s'=>∃ i σ' H',Inv (ya X scope cl own js fp _ _ _) [] σ' H' s'/\tn i s'.heap/\(∀ b∈fp,H' b=none)/\W i n σ' H') ?_ m0 ⟨0,_,_,I4,st4,λb hb=>(f3 b hb).1,w0⟩;rintro n s5 ⟨i,σ5,H5,I5,st5,fr5,w5⟩;have stat:∀ {H':Hp},(∀ b∈fp,H' b=none)->∀ b∈fp,FpOk (ya X scope cl own js fp _ _ _) [] H' b:=λhn b hb =>
      ⟨hn b hb,(I4.ok.exf b hb).1,I4.ok.exfs b hb,.inl hb,(I4.ok.exf b hb).2,λp hp=>absurd (show p∈([]:List (Addr×Obj)) from hp) (by simp)⟩
    rcases turn i n σ5 H5 w5 with ⟨stop,qn⟩|⟨go,step⟩
    . refine thn (T.done (ya X scope cl own js fp _ _ _) rfl rfl rfl hc i [] s5 σ5 H5 NoX I5 (stat fr5) st5 stop) λr s6 ⟨hr,I6⟩=>?_;subst hr;exact hend _ _ _ _ _ _ _ _ I3 f3 I6 qn
    . refine thn (T.item (ya X scope cl own js fp _ _ _) rfl rfl rfl hc i [] s5 σ5 H5 NoX I5 (stat fr5) st5 go) λr s6 ⟨u,hr,h6⟩=>?_;subst hr;refine thn h6 λ_ s7 ⟨x,H7,I7,r7,y7,st7,fr7⟩=>?_;have I7':=I7.pinned (stat fr7) (T.obj _ _ st7);refine thn (hg cl fp _ _ _ _ s7 σ5 H7 x u _ I7' r7 (step x H7 y7)) λ_ s8 ⟨σ8,H8,I8,q8⟩=>?_;have again:∀ {C3:Addr} {s3:Shared} {H3:Hp} {σ9:St} {H9:Hp} {s9:Shared} {m':Nat},Inv (ya X scope cl own js fp C3 s3 H3) ([]++Ai fp s7.heap) σ9 H9 s9->m'<n->W (i+1) m' σ9 H9->∃ m,m<n/\∃ i σ' H',Inv (ya X scope cl own js fp C3 s3 H3) [] σ' H' s9/\tn i s9.heap/\(∀ b∈fp,H' b=none)/\W i m σ' H':=λ{C3 s3 H3 σ9 H9 s9 m'} I9 hm w9=>by
        refine ⟨m',hm,i+1,σ9,H9,I9.unpinned,T.keep _ _ _ st7 λb hb o e=>(I9.pin (b,o) (a7 _ (a7 _ (xl hb e)))).1,λb hb=>?_,w9⟩;obtain ⟨o,e,d⟩:=T.obj _ _ st7 b hb;exact (I9.pin (b,o) (a7 _ (a7 _ (xl hb e)))).2.1
      refine thn (ht cl fp _ _ _ _ s8 σ8 H8 _ I8 q8) λb s9 ⟨H9,I9,q9⟩=>?_;cases b with
      | false =>
        rw [io aJ] at q9 ⊢;obtain ⟨m',hm,w9⟩:=q9;exact again I9 hm w9
      | true =>
        rw [im rfl] at q9 ⊢;refine thn (he cl fp _ _ _ _ s9 σ8 H9 _ I9 q9) λy s10 ⟨v,H10,I10,r10,q10⟩=>?_;exact thn (zB (X:=ya X scope cl own js fp _ _ _) _ s10 σ8 H10 (.ref s2.heap.objs.size) [v] (.ref s2.heap.objs.size) [y] _ I10 rfl (.cons r10 .nil) q10) λ_ s11 ⟨_,H11,I11,_,m',hm,w11⟩=>again I11 hm w11
  exact codeAny_compStart_list loop (T.self _ 0 _ _ _ st4 loop)
theorem yj{pos:Pos}(own:List Str)(js:List Nat)(hc:X.calm=true)(hi:PI X tgt iter wi)(hg:∀ cl fp C s3 H3,PG (ya X scope cl own js fp C s3 H3) tgt g)(ht:∀ cl fp C s3 H3,PIfs (ya X scope cl own js fp C s3 H3) ifs tc)(he:∀ cl fp C s3 H3,PE (ya X scope cl own js fp C s3 H3) elt te)(hfree':(scope.names.all λy=>y.2 != .free || X.env.scope.names.lookup y.1==some .cell)=true:=by rfl)(hjs':(js.all λj=>scope.names.lookup (X.N.getD j Str.empty)==some .free && X.env.scope.names.lookup (X.N.getD j Str.empty)==some .cell)=true:=by rfl)(hcell':(scope.names.all λy=>y.2 != .cell)=true:=by rfl)(hnames':(scope.names.all λy=>y.2 != .local || scope.names.lookup y.1==some .local)=true:=by rfl)(hkind:scope.kind=.function:=by rfl)(hs:∀ x,foldedSetIterable iter X.env x=pure x:=by intro _; rfl) :
    PE X (.ListComp elt [⟨tgt,iter,ifs,0⟩] scope pos) (AF wi g tc te own.length js):=by
  have hfree:∀ y∈scope.names,y.2=.free->X.env.scope.names.lookup y.1=some .cell:=DS hfree';have hjs:∀ j∈js,scope.names.lookup (X.N.getD j Str.empty)=some .free/\X.env.scope.names.lookup (X.N.getD j Str.empty)=some .cell:=JT hjs';have hcell:∀ y∈scope.names,y.2≠.cell:=EJ hcell';have hnames:∀ y∈scope.names,y.2=.local->scope.names.lookup y.1=some .local:=BW hnames';intro pins s σ H Q I h;rw [eval_ListComp];refine BH own js hc hi hg ht he hfree hjs hcell hnames hkind hs I h λD H3 H5 σ5 s3 s6 fp cl I3 f3 I6 qn=>?_;obtain ⟨m,hm,_⟩:=id I6.loc;exact ⟨m,hm,λh' sb=>⟨.ref D,H5,tq I3 f3 I6 sb,rfl,qn⟩⟩
def ue(n:Nat)(Pv:Nat->List V->St->Hp->Prop)(i:Nat)(σ:St)(H:Hp):Prop:=∃ m',m'<n - i/\m'=n - (i+1)/\i+1<=n/\∃ xs,Pv (i+1) xs σ H
theorem xv{n:Nat}{Pv:Nat->List V->St->Hp->Prop}{i:Nat}{xs:List V}{σ:St}(h:i<n)(p:Pv (i+1) xs σ H):ue n Pv i σ H:=⟨n - (i+1),by omega,rfl,h,xs,p⟩
variable {a:Addr}{y:Int}{ys:List V}{ta:TA}{tl:TE}{x:V}
section
variable {g:TG}{tc:TT}{te:TE}{D:Addr}{H1:Hp}{σ0:St}{Q:VK}
theorem xq{R:Hp->Prop}{lo:Int}{n:Nat}(Pv:Nat->List V->St->Hp->Prop)(h0:Pv 0 [] σ0 (upd H1 D (.lst [])))(hs:∀ i xs σ H,i<n->Pv i xs σ H->g (.int (lo+i)) σ H λσ3 H3=>tc σ3 H3 λb H4=>if b=true then te σ3 H4 λv H5=>zZ (.ref D) [v] H5 λ_ H6=>ue n Pv i σ3 H6 else ue n Pv i σ3 H4)(hd:∀ xs σ H,Pv n xs σ H->R H) : ∃ W:Nat->Nat->St->Hp->Prop,(∃ m,W 0 m σ0 (upd H1 D (.lst [])))/\∀ i m σ' H',W i m σ' H'->((Itr lo n).stop i H'/\R H')\/((Itr lo n).go i H'/\∀ x H2,(Itr lo n).yld i H' x H2->g x σ' H2 λσ3 H3=>tc σ3 H3 λb H4 =>
      if b=true then te σ3 H4 λv H5=>zZ (.ref D) [v] H5 λ_ H6=>∃ m',m'<m/\W (i+1) m' σ3 H6 else ∃ m',m'<m/\W (i+1) m' σ3 H4):=by
  refine ⟨λi m σ H=>m=n - i/\i<=n/\∃ xs,Pv i xs σ H,⟨n,by simp,bJ _,[],h0⟩,?_⟩;rintro i m σ H ⟨rfl,hi,xs,p⟩;by_cases hlt:i<n
  . refine .inr ⟨hlt,λx H' y=>?_⟩;obtain ⟨e,y⟩:=y;subst e y;exact hs i xs σ _ hlt p
  . have e:i=n:=by omega
    subst e;exact .inl ⟨ag _,hd xs σ H p⟩
theorem yq{R:Hp->Prop}{K:iL}(Pv:Nat->List V->St->Hp->Prop)(h0:Pv 0 [] σ0 (upd H1 D (.lst [])))(hl:∀ i xs σ H,i<=ys.length->Pv i xs σ H->SqL K H a ys)(hs:∀ i x xs σ H,ys[i]?=some x->Pv i xs σ H->g x σ H λσ3 H3=>tc σ3 H3 λb H4=>if b=true then te σ3 H4 λv H5=>zZ (.ref D) [v] H5 λ_ H6=>ue ys.length Pv i σ3 H6 else ue ys.length Pv i σ3 H4)(hd:∀ xs σ H,Pv ys.length xs σ H->R H) : ∃ W:Nat->Nat->St->Hp->Prop,(∃ m,W 0 m σ0 (upd H1 D (.lst [])))/\∀ i m σ' H',W i m σ' H'->((Itl K a).stop i H'/\R H')\/((Itl K a).go i H'/\∀ x H2,(Itl K a).yld i H' x H2->g x σ' H2 λσ3 H3=>tc σ3 H3 λb H4 =>
      if b=true then te σ3 H4 λv H5=>zZ (.ref D) [v] H5 λ_ H6=>∃ m',m'<m/\W (i+1) m' σ3 H6 else ∃ m',m'<m/\W (i+1) m' σ3 H4):=by
  refine ⟨λi m σ H=>m=ys.length - i/\i<=ys.length/\∃ xs,Pv i xs σ H,⟨ys.length,by simp,bJ _,[],h0⟩,?_⟩;rintro i m σ H ⟨rfl,hi,xs,p⟩;have q:=hl i xs σ H hi p;by_cases hlt:i<ys.length
  . refine .inr ⟨⟨ys,ys[i],q,by simp [hlt]⟩,λx H' y=>?_⟩;obtain ⟨e,y⟩:=y;subst e;exact hs i x xs σ _ (y ys q) p
  . have e:i=ys.length:=by omega
    subst e;exact .inl ⟨⟨ys,q,ag _⟩,hd xs σ H p⟩
theorem Cd{R:Hp->Prop}{K:iL}(Pv:Nat->List V->St->Hp->Prop)(h0:Pv 0 [] σ0 (upd H1 D (.lst [])))(hl:∀ i xs σ H,i<=ys.length->Pv i xs σ H->SqT K H a ys)(hs:∀ i x xs σ H,ys[i]?=some x->Pv i xs σ H->g x σ H λσ3 H3=>tc σ3 H3 λb H4=>if b=true then te σ3 H4 λv H5=>zZ (.ref D) [v] H5 λ_ H6=>ue ys.length Pv i σ3 H6 else ue ys.length Pv i σ3 H4)(hd:∀ xs σ H,Pv ys.length xs σ H->R H) : ∃ W:Nat->Nat->St->Hp->Prop,(∃ m,W 0 m σ0 (upd H1 D (.lst [])))/\∀ i m σ' H',W i m σ' H'->((Itt K a).stop i H'/\R H')\/((Itt K a).go i H'/\∀ x H2,(Itt K a).yld i H' x H2->g x σ' H2 λσ3 H3=>tc σ3 H3 λb H4 =>
      if b=true then te σ3 H4 λv H5=>zZ (.ref D) [v] H5 λ_ H6=>∃ m',m'<m/\W (i+1) m' σ3 H6 else ∃ m',m'<m/\W (i+1) m' σ3 H4):=by
  refine ⟨λi m σ H=>m=ys.length - i/\i<=ys.length/\∃ xs,Pv i xs σ H,⟨ys.length,by simp,bJ _,[],h0⟩,?_⟩;rintro i m σ H ⟨rfl,hi,xs,p⟩;have q:=hl i xs σ H hi p;by_cases hlt:i<ys.length
  . refine .inr ⟨⟨ys,ys[i],q,by simp [hlt]⟩,λx H' y=>?_⟩;obtain ⟨e,y⟩:=y;subst e;exact hs i x xs σ _ (y ys q) p
  . have e:i=ys.length:=by omega
    subst e;exact .inl ⟨⟨ys,q,ag _⟩,hd xs σ H p⟩
theorem Gh{σ:St}{n:Nat}(h:ta σ H λvs H1=>∃ i j:Int,vs=[.int i,.int j]/\(-(2 ^ 62)<=i/\i<2 ^ 62/\-(2 ^ 62)<=j/\j<2 ^ 62)/\∀ D,H1 D=none->∃ W:Nat->Nat->St->Hp->Prop,(∃ m,W 0 m (vw n js σ) (upd H1 D (.lst []))) /\
  ∀ i_1 m σ' H',W i_1 m σ' H'->((Itr i (j - i).toNat).stop i_1 H'/\Q (.ref D) H')\/((Itr i (j - i).toNat).go i_1 H'/\∀ x H2,(Itr i (j - i).toNat).yld i_1 H' x H2->g x σ' H2 λσ3 H3=>tc σ3 H3 λb H4 =>
    if b=true then te σ3 H4 λv H5=>zZ (.ref D) [v] H5 λ_ H6=>∃ m',m'<m/\W (i_1+1) m' σ3 H6 else ∃ m',m'<m/\W (i_1+1) m' σ3 H4)):AF (Iz ta) g tc te n js σ H Q:=h
theorem uP{σ:St}{n:Nat}(h:ta σ H λvs H1=>∃ j:Int,vs=[.int j]/\-(2 ^ 62)<=j/\j<2 ^ 62/\∀ D,H1 D=none->∃ W:Nat->Nat->St->Hp->Prop,(∃ m,W 0 m (vw n js σ) (upd H1 D (.lst []))) /\
  ∀ i m σ' H',W i m σ' H'->((Itr 0 j.toNat).stop i H'/\Q (.ref D) H')\/((Itr 0 j.toNat).go i H'/\∀ x H2,(Itr 0 j.toNat).yld i H' x H2->g x σ' H2 λσ3 H3=>tc σ3 H3 λb H4 =>
    if b=true then te σ3 H4 λv H5=>zZ (.ref D) [v] H5 λ_ H6=>∃ m',m'<m/\W (i+1) m' σ3 H6 else ∃ m',m'<m/\W (i+1) m' σ3 H4)):AF (Il ta) g tc te n js σ H Q:=h
theorem y6{K:iL}{σ:St}{n:Nat}(h:tl σ H λx H1=>∃ a,x=.ref a/\(∃ xs,SqL K H1 a xs)/\∀ D,H1 D=none->∃ W:Nat->Nat->St->Hp->Prop,(∃ m,W 0 m (vw n js σ) (upd H1 D (.lst []))) /\
  ∀ i m σ' H',W i m σ' H'->((Itl K a).stop i H'/\Q (.ref D) H')\/((Itl K a).go i H'/\∀ x H2,(Itl K a).yld i H' x H2->g x σ' H2 λσ3 H3=>tc σ3 H3 λb H4 =>
    if b=true then te σ3 H4 λv H5=>zZ (.ref D) [v] H5 λ_ H6=>∃ m',m'<m/\W (i+1) m' σ3 H6 else ∃ m',m'<m/\W (i+1) m' σ3 H4)):AF (IQ K tl) g tc te n js σ H Q:=h
theorem Dk{K:iL}{σ:St}{n:Nat}(h:tl σ H λx H1=>∃ a,x=.ref a/\(∃ xs,SqT K H1 a xs)/\∀ D,H1 D=none->∃ W:Nat->Nat->St->Hp->Prop,(∃ m,W 0 m (vw n js σ) (upd H1 D (.lst []))) /\
  ∀ i m σ' H',W i m σ' H'->((Itt K a).stop i H'/\Q (.ref D) H')\/((Itt K a).go i H'/\∀ x H2,(Itt K a).yld i H' x H2->g x σ' H2 λσ3 H3=>tc σ3 H3 λb H4 =>
    if b=true then te σ3 H4 λv H5=>zZ (.ref D) [v] H5 λ_ H6=>∃ m',m'<m/\W (i+1) m' σ3 H6 else ∃ m',m'<m/\W (i+1) m' σ3 H4)):AF (iTup K tl) g tc te n js σ H Q:=h
theorem Mn{B:Bool->Hp->Prop}{σ:St}(h:B true H):tAll σ H B:=h
theorem Ml{K:iL}{p:Addr}(h:H p=some (.lst ys))(fx:vD x=true)(fs:ys.all vD=true)(q:Q (.bl (inV x ys)) H):rIn K false x (.ref p) H Q:=⟨p,ys,rfl,.inl (SqL.of h),fx,fs,q⟩
theorem MS{K:iL}{p:Addr}{xs:List V}{i:Int}{v:V}(h:SqT K H p xs)(e:atI xs i=some v)(q:Q v H):rIxT K (.ref p) (.int i) H Q:=⟨p,xs,i,v,rfl,rfl,h,e,q⟩
theorem LB{b:Addr}{x z x' y' z':Int}(ha:SqT X.K H a [.int x,.int y,.int z])(hb:SqT X.K H b [.int x',.int y',.int z'])(q:Q (.bl (decide (x=x'/\y=y'/\z=z'))) H):rEqT X (.ref a) (.ref b) H Q:=by
  refine ⟨a,b,_,_,_,0,rfl,rfl,bJ _,ha,hb,.cons (.int x x') (.cons (.int y y') (.cons (.int z z') .nil)),?_⟩;have e:([x==x',y==y',z==z']:List Bool).all id=decide (x=x'/\y=y'/\z=z'):=by
    rw [cC];simp
  rw [e];exact q
theorem AU{σ:St}{E:Ends}{tb:TS}(h:ta σ H λvs H1=>∃ i j:Int,vs=[.int i,.int j]/\(-(2 ^ 62)<=i/\i<2 ^ 62/\-(2 ^ 62)<=j/\j<2 ^ 62)/\∃ W:Nat->Nat->St->Hp->Prop,(∃ m,W 0 m σ H1)/\∀ k m σ H,W k m σ H ->
  ((Itr i (j - i).toNat).stop k H/\E.nx σ H)\/((Itr i (j - i).toNat).go k H/\∃ N:St->Hp->Prop,(∀ σ' H',N σ' H'->∃ m',m'<m/\W (k+1) m' σ' H')/\∀ x H',(Itr i (j - i).toNat).yld k H x H'->g x σ H' λσ2 H2=>tb { E with nx:=N,ct:=N,bk:=E.nx } σ2 H2)) :
  tFor (Iz ta) g tb E σ H:=h
end
section
variable {σ:St}{H:Hp}{K:iL}{R:St->Hp->Prop}
theorem JE{n:Nat}{t:TGs}{xs:List V}(h:H a=some (.tup xs))(hn:xs.length=n)(q:t xs σ H R):gTup K n t (.ref a) σ H R:=⟨a,xs,rfl,SqT.of h,hn,q⟩
theorem IH{t:TG}{u:TGs}{v:V}{r:List V}(q:t v σ H λσ' H'=>u r σ' H' R):Kc t u (v::r) σ H R:=⟨v,r,rfl,q⟩
theorem Le(q:R σ H):gNil [] σ H R:=⟨rfl,q⟩
end
def TopI(mg:Str->Option Value)(x:Str)(i:Int):Prop:=∃ u,mg x=some u/\RelV (.int i) u
def TopT(K:iL)(mg:Str->Option Value)(x:Str)(xs:List V):Prop:=∃ a,mg x=some (.ref a)/\∀ H:Hp,SqT K H a xs
variable {h:Heap}{mg:Str->Option Value}
theorem topT_mk{K:iL}{x:Str}{o:Obj}{its:Array Value}{n:Nat}{xs:List V}(X:K.In h)(G:h.Ns mainGlobals mg)(e:W.nsIn K mainGlobals x=some (some (.ref a)))(l:K.lookup a=some o)(c:o.cls=.type "tuple")(d:o.data=.seq its n)(z:its.size<=sizeLine)(v:Vals xs its.toList):TopT K mg x xs:=⟨a,dF X G e,λ_=>.inr ⟨o,its,n,l,c,d,z,v⟩⟩
theorem topI_mk{K:iL}{x:Str}{i:Int}{t:Tok}(X:K.In h)(G:h.Ns mainGlobals mg)(e:W.nsIn K mainGlobals x=some (some (.int i t))):TopI mg x i:=⟨_,dF X G e,⟨t,rfl⟩⟩
def WGo(Pv:St->Hp->Prop)(μ:St->Hp->Nat)(tb:TS)(D:Ends)(σ0:St)(H0:Hp)(σ:St)(H:Hp):Prop :=
  ∃ N:St->Hp->Prop,(∀ σ' H',N σ' H'->∃ m',m'<μ σ0 H0/\(m'=μ σ' H'/\Pv σ' H'))/\tb { D with nx:=N,ct:=N,bk:=D.nx } σ H
variable {D:Ends}
theorem wgo{Pv:St->Hp->Prop}{μ:St->Hp->Nat}{tb:TS}{σ0:St}{H0:Hp}{σ:St}(h:tb { D with nx:=λσ' H'=>Pv σ' H'/\μ σ' H'<μ σ0 H0,ct:=λσ' H'=>Pv σ' H'/\μ σ' H'<μ σ0 H0,bk:=D.nx } σ H):WGo Pv μ tb D σ0 H0 σ H :=
  ⟨_,λ_ _ ⟨p,l⟩=>⟨_,l,rfl,p⟩,h⟩
theorem AN{c:TT}{tb:TS}{σ:St}(Pv:St->Hp->Prop)(μ:St->Hp->Nat)(h0:Pv σ H)(hs:∀ σ H,Pv σ H->c σ H λb H1=>if b=true then WGo Pv μ tb D σ H σ H1 else D.nx σ H1):B2 c tb D σ H:=by
  refine ⟨λm σ H=>m=μ σ H/\Pv σ H,⟨_,rfl,h0⟩,?_⟩;rintro m σ H ⟨rfl,p⟩;exact hs σ H p
theorem bl_q{Q:VK}{x y:Bool}(e:x=y)(q:Q (.bl y) H):Q (.bl x) H:=by rw [e]; exact q
theorem MB{Q:VK}{x:Int}(e:x=y)(q:Q (.int y) H):Q (.int x) H:=by rw [e]; exact q
def rIsN:R2:=λx y H Q=>y=.non/\Q (.bl (decide (x=.non))) H
def JN:R2:=λx y H Q=>y=.non/\Q (.bl (!decide (x=.non))) H
theorem IC:OpR X (compareOp .Is) rIsN:=LT
theorem B7:OpR X (compareOp .IsNot) JN:=Jk
theorem MX{Q:VK}(q:Q (.bl (decide (x=.non))) H):rIsN x .non H Q:=⟨rfl,q⟩
theorem J0{Q:VK}(q:Q (.bl (!decide (x=.non))) H):JN x .non H Q:=⟨rfl,q⟩
def sqs:List Int:=[4,9,16,25,36,49,64,81]
theorem IG(d:Int):inV (.int d) [.int 4,.int 9,.int 16,.int 25,.int 36,.int 49,.int 64,.int 81]=sqs.contains d:=by
  simp only [inV,d5,List.any_nil,eqV,sqs,List.contains_cons,List.contains_nil,Bool.or_false];simp only [BEq.comm (b:=d)]
theorem HP{xs:List Int}{i:Int}(h0:0<=i)(h1:i<xs.length):∃ d∈xs,atI (xs.map V.int) i=some (.int d):=by
  have hi:i.toNat<xs.length:=by omega
  refine ⟨xs[i.toNat],cM hi,?_⟩;have e:=xW (xs:=xs.map V.int) (j:=i.toNat) (v:=.int xs[i.toNat]) (by rw [aj,ae hi]; rfl);rw [show ((i.toNat:Nat):Int)=i by omega] at e;exact e
end L2
namespace Bg
local macro_rules | `(⋯)=>`(by decide)
local macro_rules | `(!4)=>`(by omega)
variable {a d:Int}
theorem Hq{b:Int}(h:Rt d)(z:¬ (a=0/\b=0)):a*a - d*b*b≠0:=λe=>z (Co h e)
theorem xE{b k:Int}(hk:k≠0)(h:a*k=b*k):a=b:=aG hk h
variable {x x' y y' z z':Int}
theorem F0{fx fy fz ix iy iz:Int}(hz:z'≠0)(hN:x'*x' - d*y'*y'≠0)(h1:fx*(z*z')=(x*x'+d*y*y')*fz)(h2:fy*(z*z')=(x*y'+y*x')*fz)(h3:ix*(x'*x' - d*y'*y')=z'*x'*iz)(h4:iy*(x'*x' - d*y'*y')=-z'*y'*iz) : x*(fz*iz)=(fx*ix+d*fy*iy)*z/\y*(fz*iz)=(fx*iy+fy*ix)*z:=by
  have hk:(x'*x' - d*y'*y')*z'≠0:=ay hN hz;constructor
  . refine xE hk ?_;clear hk hN hz;grind
  . refine xE hk ?_;clear hk hN hz;grind
theorem GE(h1:1<=z)(g:g3 x y z=1):lA x y z=x/\lB x y z=y/\lN x y z=z:=by
  have:=zC (x:=x) (y:=y) (z:=z) (a:=x) (b:=y) (n:=z) h1 g (!4) rfl rfl;exact ⟨this.1.symm,this.2.1.symm,this.2.2.symm⟩
variable {t:Int}
theorem xC{b:Int}(h1:1<=z)(g:Int.gcd x z=1)(hb:b≠0)(e:x*b=t*z):x=fT t b/\z=fB t b:=by
  refine Ie h1 (f_b hb) g (MQ hb) ?_;have f1:=f_t (t:=t) (b:=b);generalize fT t b=u at *
  generalize fB t b=v at *
  refine aG hb ?_;grind
theorem vh{b:Int}(h:Int.gcd x a=1)(k:Int.gcd x b=1):Int.gcd x (a*b)=1:=by
  rw [bB] at *
  rw [ce];exact Nat.Coprime.mul_right h k
theorem ul{b:Int}(h:Int.gcd a x=1)(k:Int.gcd b x=1):Int.gcd (a*b) x=1:=by
  rw [cV] at *
  exact vh h k
theorem wj{b:Int}(h:Int.gcd x a=1)(hy:y∣x)(hb:b∣a):Int.gcd y b=1:=by
  have h1:((Int.gcd y b:Nat):Int)∣x:=aX (bF ..) hy;have h2:((Int.gcd y b:Nat):Int)∣a:=aX (bC ..) hb;have h3:=d7 h1 h2;rw [h] at h3;have:=ie ⋯ h3;have h4:Int.gcd y b≠0:=λz=>by
    rw [z] at h3;exact absurd (Int.zero_dvd.mp h3) ⋯
  omega
theorem z4{b:Int}(h:1<=b):(0:Int)<(Int.gcd a b:Nat):=by
  have:=(Int.gcd_pos_iff (a:=a) (b:=b)).mpr (.inr (show b≠0 by omega));omega
theorem xp{b:Int}(ha:1<=a)(hb:0<b)(h:b∣a):1<=a / b:=by
  have e:=bT h;rcases g5 (a / b) 1 with z|z
  . have:a / b*b<=0:=cZ (!4) (!4);omega
  . exact z
theorem xJ{b:Int}(h:1<=b):Int.gcd (a / (Int.gcd a b:Nat)) (b / (Int.gcd a b:Nat))=1:=Int.gcd_ediv_gcd_ediv_gcd (by have:=z4 (a:=a) h; omega)
def plT(t b t' b':Int):Int:=t*(b' / (Int.gcd b b':Nat))+t'*(b / (Int.gcd b b':Nat))
variable {b' t':Int}
theorem F3{b:Int}(hb:1<=b)(hb':1<=b')(g:Int.gcd t b=1)(g':Int.gcd t' b'=1) : plT t b t' b' / (Int.gcd (plT t b t' b') (Int.gcd b b':Nat):Nat)=fT (t*b'+t'*b) (b*b')/\b / (Int.gcd b b':Nat)*(b' / (Int.gcd (plT t b t' b') (Int.gcd b b':Nat):Nat))=fB (t*b'+t'*b) (b*b'):=by
  have hs:=z4 (a:=b) hb';have hsb:((Int.gcd b b':Nat):Int)∣b:=bF ..;have hsb':((Int.gcd b b':Nat):Int)∣b':=bC ..;have hq:=xJ (a:=b) hb';have htop:plT t b t' b'=t*(b' / (Int.gcd b b':Nat))+t'*(b / (Int.gcd b b':Nat)):=rfl;generalize ((Int.gcd b b':Nat):Int)=s at *
  have eb:=bT hsb;have eb':=bT hsb';have p1:=xp hb hs hsb;have p2:=xp hb' hs hsb';have c1:Int.gcd t (b / s)=1:=wj g (dB _) ⟨s,eb.symm⟩;have c2:Int.gcd t' (b' / s)=1:=wj g' (dB _) ⟨s,eb'.symm⟩;generalize b / s=B at *
  generalize b' / s=B' at *
  generalize plT t b t' b'=T at *
  have hl:=z4 (a:=T) (b:=s) (!4);have hlT:((Int.gcd T s:Nat):Int)∣T:=bF ..;have hls:((Int.gcd T s:Nat):Int)∣s:=bC ..;have hq2:=xJ (a:=T) (b:=s) (!4);generalize ((Int.gcd T s:Nat):Int)=l at *
  have eT:=bT hlT;have es:=bT hls;have p3:=xp (!4) hl hls;have e1:b' / l=s / l*B':=by
    refine aG (show l≠0 by omega) ?_;rw [bT (aX hls hsb'),<-eb'];grind
  rw [e1];generalize T / l=U at *
  generalize s / l=S at *
  have d1:Int.gcd T B=1:=by
    rw [htop,aq t' B,f8];exact ul c1 (by rw [cV]; exact hq)
  have d2:Int.gcd T B'=1:=by
    rw [htop,fN,aq t B',f8];exact ul c2 hq
  have u1:Int.gcd U B=1:=wj d1 ⟨l,eT.symm⟩ (dB _);have u2:Int.gcd U B'=1:=wj d2 ⟨l,eT.symm⟩ (dB _);have pos:0<B*(S*B'):=a9 (!4) (a9 (!4) (!4));refine xC (!4) (vh u1 (vh hq2 u2)) (ay (!4) (!4)) ?_;subst eb eb' eT es;clear hs hsb hsb' hq p1 p2 c1 c2 hl hlT hls hq2 p3 e1 d1 d2 u1 u2 pos hb hb' g g';grind
theorem Ej{b:Int}(hb:1<=b)(hb':1<=b')(g:Int.gcd t b=1)(g':Int.gcd t' b'=1) : t / (Int.gcd t b':Nat)*(t' / (Int.gcd t' b:Nat))=fT (t*t') (b*b')/\b / (Int.gcd t' b:Nat)*(b' / (Int.gcd t b':Nat))=fB (t*t') (b*b'):=by
  have hf:=z4 (a:=t) hb';have hs:=z4 (a:=t') hb;have f1:((Int.gcd t b':Nat):Int)∣t:=bF ..;have f2:((Int.gcd t b':Nat):Int)∣b':=bC ..;have s1:((Int.gcd t' b:Nat):Int)∣t':=bF ..;have s2:((Int.gcd t' b:Nat):Int)∣b:=bC ..;have q1:=xJ (a:=t) hb';have q2:=xJ (a:=t') hb;generalize ((Int.gcd t b':Nat):Int)=f at *
  generalize ((Int.gcd t' b:Nat):Int)=s at *
  have et:=bT f1;have eb':=bT f2;have et':=bT s1;have eb:=bT s2;have p1:=xp hb hs s2;have p2:=xp hb' hf f2;have c1:Int.gcd (t / f) (b / s)=1:=wj g ⟨f,et.symm⟩ ⟨s,eb.symm⟩;have c2:Int.gcd (t' / s) (b' / f)=1:=wj g' ⟨s,et'.symm⟩ ⟨f,eb'.symm⟩;generalize t / f=T at *
  generalize t' / s=T' at *
  generalize b / s=B at *
  generalize b' / f=B' at *
  have pos:0<B*B':=a9 (!4) (!4);refine xC (!4) (ul (vh c1 q1) (vh q2 c2)) (ay (!4) (!4)) ?_;subst et eb et' eb';clear hf hs f1 f2 s1 s2 q1 q2 p1 p2 c1 c2 pos hb hb' g g';grind
theorem Kf{k:Nat}{b:Int}(h:Bd k t):Bd k (fT t b):=h.fdiv _
theorem Kr{k:Nat}{b:Int}(h:Bd k b):Bd k (fB t b):=h.fdiv _
theorem den_pos(q:Rat):(1:Int)<=(q.den:Int):=by have:=q.den_pos; omega
theorem y3(q:Rat):(q.den:Int)≠0:=by have:=q.den_pos; omega
theorem red(q:Rat):Int.gcd q.num q.den=1:=by
  have:=q.reduced;rw [bB,cG];exact this
theorem xr(q:Rat):Rat.divInt q.num q.den=q:=fR q
theorem rf{b:Int}(hb:b≠0):fT t b=(Rat.divInt t b).num/\fB t b=((Rat.divInt t b).den:Int):=by
  have e:(Rat.divInt t b).num*b=t*((Rat.divInt t b).den:Int):=by
    have:=xr (Rat.divInt t b);exact (cB (y3 _) hb).mp this
  have:=xC (den_pos (Rat.divInt t b)) (red _) hb e;exact ⟨this.1.symm,this.2.symm⟩
theorem CO{b:Int}(hb:b≠0)(hb':b'≠0):Rat.divInt (t*b'+t'*b) (b*b')=Rat.divInt t b+Rat.divInt t' b':=(Rat.divInt_add_divInt t t' hb hb').symm
theorem xU{b:Int}:Rat.divInt (t*t') (b*b')=Rat.divInt t b*Rat.divInt t' b':=(Rat.divInt_mul_divInt t t').symm
theorem Mp(q q':Rat):Rat.divInt (q.num*q'.den+q'.num*q.den) (q.den*q'.den)=q+q':=by rw [CO (y3 q) (y3 q'),xr,xr]
theorem JY(q q':Rat):Rat.divInt (q.num*q'.num) (q.den*q'.den)=q*q':=by rw [xU,xr,xr]
theorem KS{q:Rat}(h:q.num≠0):Rat.divInt q.den q.num=q⁻¹:=by
  have:=Rat.inv_divInt q.num q.den;rw [xr] at this;exact this.symm
def Bq(k:Nat)(q:Rat):Prop:=Bd k q.num/\Bd k (q.den:Int)
theorem Bq.mono{j k:Nat}{q:Rat}(h:Bq j q)(l:j<=k):Bq k q:=⟨h.1.mono l,h.2.mono l⟩
theorem Bq.neg{k:Nat}{q:Rat}(h:Bq k q):Bq k (-q):=⟨by rw [Rat.neg_num]; exact h.1.neg,by rw [Rat.neg_den]; exact h.2⟩
theorem EQ{k:Nat}{b:Int}(hb:b≠0)(h1:Bd k t)(h2:Bd k b):Bq k (Rat.divInt t b):=⟨by rw [<-(rf hb).1]; exact Kf h1,by rw [<-(rf hb).2]; exact Kr h2⟩
theorem Bq.inv{k:Nat}{q:Rat}(h:Bq k q)(z:q.num≠0):Bq k q⁻¹:=by
  rw [<-KS z];exact EQ z h.2 h.1
theorem HB(q q':Rat):plT q.num q.den q'.num q'.den / (Int.gcd (plT q.num q.den q'.num q'.den) (Int.gcd q.den q'.den:Nat):Nat)=(q+q').num/\(q.den:Int) / (Int.gcd q.den q'.den:Nat)*((q'.den:Int) / (Int.gcd (plT q.num q.den q'.num q'.den) (Int.gcd q.den q'.den:Nat):Nat))=((q+q').den:Int):=by
  have h:=F3 (den_pos q) (den_pos q') (red q) (red q');have e:=rf (t:=q.num*q'.den+q'.num*q.den) (b:=q.den*q'.den) (ay (y3 _) (y3 _));rw [Mp] at e;exact ⟨h.1.trans e.1,h.2.trans e.2⟩
theorem Eu(q q':Rat):q.num / (Int.gcd q.num q'.den:Nat)*(q'.num / (Int.gcd q'.num q.den:Nat))=(q*q').num/\(q.den:Int) / (Int.gcd q'.num q.den:Nat)*((q'.den:Int) / (Int.gcd q.num q'.den:Nat))=((q*q').den:Int):=by
  have h:=Ej (den_pos q) (den_pos q') (red q) (red q');have e:=rf (t:=q.num*q'.num) (b:=q.den*q'.den) (ay (y3 _) (y3 _));rw [JY] at e;exact ⟨h.1.trans e.1,h.2.trans e.2⟩
theorem HI{k:Nat}(h:Bd k x)(hy:0<y):Bd k (x / y):=by
  rw [<-dG x (!4)];exact h.fdiv y
theorem Ah{k:Nat}{b:Int}(hb:b≠0)(h:Bd k b):Bd k ((Int.gcd a b:Nat):Int):=h.of_le (by
  have h1:=bL.mpr (bC a b);exact ib (!4) h1)
def Br(j k:Nat)(q:Rat):Prop:=Bd j q.num/\Bd k (q.den:Int)
theorem Br.mono{j k j' k':Nat}{q:Rat}(h:Br j k q)(l:j<=j')(l':k<=k'):Br j' k' q:=⟨h.1.mono l,h.2.mono l'⟩
theorem Br.bq{j k n:Nat}{q:Rat}(h:Br j k q)(l:j<=n)(l':k<=n):Bq n q:=⟨h.1.mono l,h.2.mono l'⟩
theorem xO{j k:Nat}{b:Int}(hb:b≠0)(h1:Bd j t)(h2:Bd k b):Br j k (Rat.divInt t b):=⟨by rw [<-(rf hb).1]; exact Kf h1,by rw [<-(rf hb).2]; exact Kr h2⟩
theorem Br.mul{j k j' k':Nat}{q q':Rat}(h:Br j k q)(h':Br j' k' q'):Br (j+j') (k+k') (q*q'):=by
  rw [<-JY];exact xO (ay (y3 _) (y3 _)) (h.1.mul h'.1) (h.2.mul h'.2)
structure Tb where
  a:Rat
  b:Rat
  c:Rat
  e:Rat
theorem Tb.ext{s t:Tb}(h1:s.a=t.a)(h2:s.b=t.b)(h3:s.c=t.c)(h4:s.e=t.e):s=t:=by
  cases s
  cases t
  simp_all
def Tb.zero:Tb:=⟨0,0,0,0⟩
def Tb.add(s t:Tb):Tb:=⟨s.a+t.a,s.b+t.b,s.c+t.c,s.e+t.e⟩
def Tb.sub(s t:Tb):Tb:=⟨s.a - t.a,s.b - t.b,s.c - t.c,s.e - t.e⟩
def Tb.tr(s:Tb):Tb:=⟨s.a,s.c,s.b,s.e⟩
structure Tb.Bt(j k:Nat)(t:Tb):Prop where
  a:Br j k t.a
  b:Br j k t.b
  c:Br j k t.c
  e:Br j k t.e
theorem Tb.Bt.mono{j k j' k':Nat}{t:Tb}(h:t.Bt j k)(l:j<=j')(l':k<=k'):t.Bt j' k':=⟨h.a.mono l l',h.b.mono l l',h.c.mono l l',h.e.mono l l'⟩
theorem Tb.add_comm(s t:Tb):s.add t=t.add s:=Tb.ext (g7 ..) (g7 ..) (g7 ..) (g7 ..)
theorem Tb.add_assoc(s t u:Tb):(s.add t).add u=s.add (t.add u):=Tb.ext (gD ..) (gD ..) (gD ..) (gD ..)
theorem Tb.zero_add(t:Tb):Tb.zero.add t=t:=Tb.ext (g8 _) (g8 _) (g8 _) (g8 _)
structure Sd where
  x:Int
  y:Int
  z:Int
structure Sd.Ok(d:Int)(s:Sd):Prop where
  z1:1<=s.z
  g:g3 s.x s.y s.z=1
  bx:Bd 120 s.x
  bY:Bd 120 s.y
  bz:Bd 30 s.z
  up:sgn d s.x s.y=1
def Sd.p(s:Sd):Rat:=Rat.divInt s.x s.z
def Sd.q(s:Sd):Rat:=Rat.divInt s.y s.z
structure Bo where
  w:Sd
  h:Sd
def Bo.Ok(d:Int)(b:Bo):Prop:=b.w.Ok d/\b.h.Ok d
def Bo.tb(b:Bo):Tb:=⟨b.w.p*b.h.p,b.w.p*b.h.q,b.w.q*b.h.p,b.w.q*b.h.q⟩
def tbs:List Bo->Tb
  | []=>Tb.zero
  | b::l=>b.tb.add (tbs l)
theorem vN(l m:List Bo):tbs (l++m)=(tbs l).add (tbs m):=by
  induction l with
  | nil=>exact (Tb.zero_add _).symm
  | cons b l ih =>
    show b.tb.add (tbs (l++m))=(b.tb.add (tbs l)).add (tbs m);rw [ih,Tb.add_assoc]
theorem xg(b:Bo):tbs [b]=b.tb:=by
  show b.tb.add Tb.zero=b.tb;rw [Tb.add_comm,Tb.zero_add]
theorem Gf(l:List Bo)(b:Bo):tbs (l++[b])=(tbs l).add b.tb:=by rw [vN,xg]
structure Ms where
  f:Rat
  g:Rat
def Ms.Ok(m:Ms):Prop:=Br 90 10 m.f/\Br 90 10 m.g
def Sd.ms(s:Sd):Ms:=⟨s.p,s.q⟩
theorem Gx{n p q:Int}(hR:Rt d)(hn:0<n)(h:sgn d p q=1):sgn d (n+p) q=1:=by
  have d2:=hR.lo;by_cases hp:0<=p
  . by_cases hq:0<=q
    . rw [vp (!4) hq,im (!4)]
    . have p0:0<p:=by
        rcases Int.lt_or_eq_of_le hp with z|z
        . exact z
        . subst z;rw [Cn (!4) (!4) (!4)] at h;exact absurd h ⋯
      rw [Dr p0 (!4)] at h;rw [Dr (!4) (!4)];have h1:d*q*q<p*p:=by
        by_cases z:d*q*q<p*p
        . exact z
        . rw [io z] at h;exact absurd h ⋯
      have h2:p*p<=(n+p)*(n+p):=fU (!4) (!4) (!4) (!4);rw [im (!4)]
  . by_cases hq:0<q
    . rw [D5 (!4) hq] at h;have h1:p*p<d*q*q:=by
        by_cases z:p*p<d*q*q
        . exact z
        . rw [io z] at h;exact absurd h ⋯
      by_cases hs:0<=n+p
      . rw [vp hs (!4),im (!4)]
      . rw [D5 (!4) hq];have h2:(-(n+p))*(-(n+p))<=(-p)*(-p):=fU (!4) (!4) (!4) (!4);rw [cR,cR] at h2;rw [im (!4)]
    . rw [Cn (!4) (!4) (!4)] at h;exact absurd h ⋯
variable {a':Int}
theorem Ar{b:Int}(hR:Rt d)(h:sgn d a b=1)(h':sgn d a' b'=1):sgn d (a+a') (b+b')=1:=by
  have hN:a*a - d*b*b≠0:=by
    refine Hq hR λz=>?_;rw [z.1,z.2,yu] at h;exact absurd h ⋯
  obtain ⟨k,w,v,hk,e1,e2,e3,e4⟩:∃ k w v:Int,0<k/\k*a'=w*a+d*v*b/\k*b'=w*b+v*a/\k*(a+a')=(k+w)*a+d*v*b/\k*(b+b')=(k+w)*b+v*a:=by
    rcases Int.lt_or_gt_of_ne hN with z|z
    . refine ⟨-(a*a - d*b*b),-(a'*a - d*b'*b),-(b'*a - a'*b),by omega,?_,?_,?_,?_⟩ <;> grind
    . refine ⟨a*a - d*b*b,a'*a - d*b'*b,b'*a - a'*b,z,?_,?_,?_,?_⟩ <;> grind
  have s1:=yU hR hk a' b';rw [e1,e2,Cg hR,h,df,h'] at s1;have s2:=Gx hR hk s1;have s3:=yU hR hk (a+a') (b+b');rw [e3,e4,Cg hR,h,s2] at s3;rw [<-s3];rfl
def Tb.A(d:Int)(t:Tb):Rat:=t.a+(d:Rat)*t.e
def Tb.B(t:Tb):Rat:=t.b+t.c
variable {e:Int}
theorem zF{v:Int}(h:e∣x*v)(g:Int.gcd e v=1):e∣x:=by
  have h1:e∣x*v:=h;have h2:e∣x*e:=⟨x,aq ..⟩
  have h3:e∣(Int.gcd (x*e) (x*v):Nat):=d7 h2 h1;rw [fh,g,fD] at h3;exact Int.dvd_natAbs.mp h3
theorem yd{b:Int}(h:∀ e:Int,e∣a->e∣b->e∣1):Int.gcd a b=1:=by
  have:=h (Int.gcd a b:Nat) (bF ..) (bC ..);have h2:=bL.mpr this;simpa using h2
theorem ym{b:Int}(h:Int.gcd a b=1)(ha:e∣a)(hb:e∣b):e∣1:=by
  have:=d7 ha hb;rw [h] at this;exact this
theorem yL{b:Int}(h:Int.gcd a b=1)(ha:e∣a):Int.gcd e b=1 :=
  yd λ_ h1 h2=>ym h (aX h1 ha) h2
variable {c:Int}
theorem yX{b:Int}(h1:Int.gcd a b=1)(h2:Int.gcd a c=1):Int.gcd a (b*c)=1 :=
  yd λe ha hb=>by
    have e1:Int.gcd e c=1:=yL h2 ha;exact ym h1 ha (zF hb e1)
theorem BV(h1:1<=z)(h2:1<=z'):∃ s u v:Int,s=(Int.gcd z z':Nat)/\1<=s/\1<=u/\1<=v/\z=s*u/\z'=s*v/\z.fdiv s=u/\z'.fdiv s=v/\Int.gcd u v=1:=by
  have d1:((Int.gcd z z':Nat):Int)∣z:=bF ..;have d2:((Int.gcd z z':Nat):Int)∣z':=bC ..;have hp:0<Int.gcd z z':=cI _ (!4);obtain ⟨u,hu⟩:=d1;obtain ⟨v,hv⟩:=d2;have hs:(1:Int)<=(Int.gcd z z':Nat):=by omega
  have hg:Int.gcd u v=1:=by
    have e:Int.gcd z z'=Int.gcd ((Int.gcd z z':Nat)*u) ((Int.gcd z z':Nat)*v):=by rw [<-hu,<-hv]
    rw [fh,cG] at e;exact (dg hp (by rw [fD]; exact e)).symm
  generalize ((Int.gcd z z':Nat):Int)=s at *
  subst hu; subst hv;refine ⟨s,u,v,rfl,hs,?_,?_,rfl,rfl,cS _ (!4),cS _ (!4),hg⟩
  . refine fk.mp λq=>?_;have:=bI (show (0:Int)<=s by omega) (show u<=0 by omega);omega
  . refine fk.mp λq=>?_;have:=bI (show (0:Int)<=s by omega) (show v<=0 by omega);omega
def aS(z z':Int):Int:=(Int.gcd z z':Nat)
def aA(x z x' z':Int):Int:=x*z'.fdiv (aS z z')+x'*z.fdiv (aS z z')
def aL(x y z x' y' z':Int):Int:=(Int.gcd (Int.gcd (aS z z') (aA x z x' z'):Nat) (aA y z y' z'):Nat)
theorem IK(h1:1<=z)(h2:1<=z')(g1:g3 x y z=1)(g2:g3 x' y' z'=1) : 1<=aS z z'/\1<=aL x y z x' y' z'/\(aA x z x' z').fdiv (aL x y z x' y' z')=lA (x*z'+x'*z) (y*z'+y'*z) (z*z')/\(aA y z y' z').fdiv (aL x y z x' y' z')=lB (x*z'+x'*z) (y*z'+y'*z) (z*z') /\ z.fdiv (aS z z')*z'.fdiv (aL x y z x' y' z')=lN (x*z'+x'*z) (y*z'+y'*z) (z*z'):=by
  obtain ⟨s,u,v,hs,s1,u1,v1,ez,ez',fu,fv,guv⟩:=BV h1 h2;have eS:aS z z'=s:=hs.symm;have eA:∀ p q,aA p z q z'=p*v+q*u:=λp q=>by unfold aA; rw [eS,fu,fv]
  have eL:aL x y z x' y' z'=(Int.gcd (Int.gcd s (x*v+x'*u):Nat) (y*v+y'*u):Nat):=by unfold aL; rw [eS,eA,eA]
  rw [eS,eA,eA,fu];generalize hl:aL x y z x' y' z'=l at *
  generalize ha:x*v+x'*u=a at *
  generalize hb:y*v+y'*u=b at *
  have l1:1<=l:=by
    have:0<Int.gcd (Int.gcd s a:Nat) b:=cI _ (by
      have:=cI a (show s≠0 by omega);omega)
    omega
  have dls:l∣s:=by rw [eL]; exact aX (bF ..) (bF ..)
  have dla:l∣a:=by rw [eL]; exact aX (bF ..) (bC ..)
  have dlb:l∣b:=by rw [eL]; exact bC ..
  obtain ⟨m,hm⟩:=dls;obtain ⟨X,hX⟩:=dla;obtain ⟨Y,hY⟩:=dlb;have l0:l≠0:=by omega
  have fX:a.fdiv l=X:=by rw [hX]; exact cS _ l0
  have fY:b.fdiv l=Y:=by rw [hY]; exact cS _ l0
  have fZ:z'.fdiv l=m*v:=by rw [ez',hm,am]; exact cS _ l0
  rw [fX,fY,fZ];have m1:1<=m:=by
    refine fk.mp λq=>?_;have:=bI (show (0:Int)<=l by omega) (show m<=0 by omega);omega
  refine ⟨s1,l1,?_⟩;have gm:g3 X Y m=1:=by
    have e:(g3 (l*X) (l*Y) (l*m):Int)=l:=by
      unfold g3;rw [<-hX,<-hY,<-hm,<-eL]
    rw [GV] at e;have e2:l.natAbs*g3 X Y m=l.natAbs*1:=by omega
    exact dg (!4) e2
  have cop:∀ e:Int,e∣X->e∣Y->Int.gcd e u=1/\Int.gcd e v=1/\Int.gcd e m=1:=λe eX eY=>by
    have ea:e∣a:=by rw [hX]; exact aX eX (bU ..)
    have eb:e∣b:=by rw [hY]; exact aX eY (bU ..)
    refine ⟨yd λf f1 f2=>?_,yd λf f1 f2=>?_,yd λf f1 f2=>?_⟩
    . have fv1:Int.gcd f v=1:=yL guv f2;have k1:f∣x*v:=by
        have:=h7 (aX f1 ea) (aX f2 (bU x' u));rw [<-ha,em] at this;exact this
      have k2:f∣y*v:=by
        have:=h7 (aX f1 eb) (aX f2 (bU y' u));rw [<-hb,em] at this;exact this
      have:=Ca (zF k1 fv1) (zF k2 fv1) (aX f2 (show u∣z by rw [ez]; exact bU ..));rw [g1] at this;exact this
    . have fu1:Int.gcd f u=1:=yL (cV u v ▸ guv) f2;have k1:f∣x'*u:=by
        have:=h7 (aX f1 ea) (aX f2 (bU x v));rw [<-ha,fN,em] at this;exact this
      have k2:f∣y'*u:=by
        have:=h7 (aX f1 eb) (aX f2 (bU y v));rw [<-hb,fN,em] at this;exact this
      have:=Ca (zF k1 fu1) (zF k2 fu1) (aX f2 (show v∣z' by rw [ez']; exact bU ..));rw [g2] at this;exact this
    . have:=Ca (aX f1 eX) (aX f1 eY) f2;rw [gm] at this;exact this
  have gX:g3 X Y (u*(m*v))=1:=by
    have dX:=g3_a X Y (u*(m*v));have dY:=g3_b X Y (u*(m*v));have dZ:=g3_n X Y (u*(m*v));obtain ⟨c1,c2,c3⟩:=cop _ dX dY;have c4:=yX c1 (yX c3 c2);have:=ym c4 (dB _) dZ;have:=bL.mpr this;simpa using this
  refine zC ?_ gX (ay (!4) (!4)) ?_ ?_
  . exact a9 (!4) (a9 (!4) (!4))
  . subst ez ez';refine dJ l0 ?_;clear cop gX gm eL hl eA hs fu fv fX fY fZ guv g1 g2;have e1:l*(X*(s*u*(s*v)))=a*(s*u*(s*v)):=by rw [hX,am l X]
    have e2:l*((x*(s*v)+x'*(s*u))*(u*(m*v)))=(x*v+x'*u)*s*(u*(l*m*v)):=by grind
    rw [e1,e2,<-hm,ha];grind
  . subst ez ez';refine dJ l0 ?_;clear cop gX gm eL hl eA hs fu fv fX fY fZ guv g1 g2;have e1:l*(Y*(s*u*(s*v)))=b*(s*u*(s*v)):=by rw [hY,am l Y]
    have e2:l*((y*(s*v)+y'*(s*u))*(u*(m*v)))=(y*v+y'*u)*s*(u*(l*m*v)):=by grind
    rw [e1,e2,<-hm,hb];grind
theorem vf{k:Nat}(h:z≠0)(hb:Bd k z):Bd k ((Int.gcd z a:Nat):Int):=hb.of_le (by
  rw [cG];exact ib (!4) (by simpa using bL.mpr (bF z a)))
theorem JS(x y z:Int):g3 (-x) (-y) z=g3 x y z:=by
  unfold g3;rw [Int.gcd_neg,Int.gcd_neg]
theorem tw{b:Int}(h1:1<=b)(h2:1<=b')(g1:Int.gcd t b=1)(g2:Int.gcd t' b'=1) : 1<=aS b b'/\t*b'.fdiv (aS b b')=lA (t*b') (t'*b) (b*b')/\t'*b.fdiv (aS b b')=lB (t*b') (t'*b) (b*b')/\b.fdiv (aS b b')*b'=lN (t*b') (t'*b) (b*b'):=by
  obtain ⟨s,u,v,hs,s1,u1,v1,ez,ez',fu,fv,guv⟩:=BV h1 h2;have eS:aS b b'=s:=hs.symm;rw [eS,fu,fv];refine ⟨s1,?_⟩;have gvu:Int.gcd v u=1:=cV u v ▸ guv;have dub:u∣b:=by rw [ez]; exact bU ..
  have dvb:v∣b':=by rw [ez']; exact bU ..
  have gX:g3 (t*v) (t'*u) (u*b')=1:=by
    have dX:=g3_a (t*v) (t'*u) (u*b');have dY:=g3_b (t*v) (t'*u) (u*b');have dZ:=g3_n (t*v) (t'*u) (u*b');have k:((g3 (t*v) (t'*u) (u*b'):Nat):Int)∣1:=by
      generalize ((g3 (t*v) (t'*u) (u*b'):Nat):Int)=e at *
      have cu:Int.gcd e u=1:=yd λf f1 f2=>by
        have gt:Int.gcd f t=1:=yL (cV t b ▸ g1) (aX f2 dub);have hv:f∣v:=zF (by rw [aq]; exact aX f1 dX) gt;exact ym guv f2 hv
      have et':e∣t':=zF dY cu;have cv:Int.gcd e v=1:=yd λf f1 f2=>ym g2 (aX f1 et') (aX f2 dvb);have et:e∣t:=zF dX cv;have cs:Int.gcd e s=1:=yd λf f1 f2=>ym g1 (aX f1 et) (aX f2 (by rw [ez]; exact Int.dvd_mul_right ..));rw [ez'] at dZ;exact ym (yX cu (yX cs cv)) (dB _) dZ
    have:=bL.mpr k;simpa using this
  refine zC ?_ gX (ay (!4) (!4)) ?_ ?_
  . exact a9 (!4) (!4)
  . subst ez ez';clear gX hs guv gvu fu fv g1 g2;grind
  . subst ez ez';clear gX hs guv gvu fu fv g1 g2;grind
theorem Ao{b n n':Int}(hn:n≠0)(hn':n'≠0)(ea:a*n'=a'*n)(eb:b*n'=b'*n):lA a b n=lA a' b' n'/\lB a b n=lB a' b' n'/\lN a b n=lN a' b' n':=by
  refine zC (l_n hn) (xu hn) hn' ?_ ?_
  . have e:=l_a (a:=a) (b:=b) (n:=n);refine aG hn ?_;generalize lA a b n=u at *
    generalize lN a b n=v at *
    have h1:u*n'*n=u*n*n':=by rw [am,aq n',am]
    have h2:a'*v*n=a'*n*v:=by rw [am,aq v,am]
    rw [h1,h2,e,<-ea,am,aq v,am]
  . have e:=l_b (a:=a) (b:=b) (n:=n);refine aG hn ?_;generalize lB a b n=u at *
    generalize lN a b n=v at *
    have h1:u*n'*n=u*n*n':=by rw [am,aq n',am]
    have h2:b'*v*n=b'*n*v:=by rw [am,aq v,am]
    rw [h1,h2,e,<-eb,am,aq v,am]
structure B4 where
  a:Int
  b:Int
  c:Int
  e:Int
def B4.nx(d:Int)(s:B4):B4:=if 0<sgn d (s.a - s.c) (s.b - s.e) then ⟨s.a - s.c,s.b - s.e,s.c,s.e⟩ else ⟨s.a,s.b,s.c - s.a,s.e - s.b⟩
def b4:B4:=⟨0,1,1,0⟩
structure GB(d:Int)(k:Nat)(s:B4):Prop where
  det:s.a*s.e - s.b*s.c=1\/s.a*s.e - s.b*s.c=-1
  p1:sgn d s.a s.b=1
  q1:sgn d s.c s.e=1
  ba:Bd k s.a
  bb:Bd k s.b
  bc:Bd k s.c
  be:Bd k s.e
theorem GB.mono{d:Int}{j k:Nat}{s:B4}(g:GB d j s)(l:j<=k):GB d k s:=⟨g.det,g.p1,g.q1,g.ba.mono l,g.bb.mono l,g.bc.mono l,g.be.mono l⟩
theorem uA(d:Int):GB d 1 b4:=⟨.inr ⋯,by rw [show b4.a=0 from rfl,show b4.b=1 from rfl,vp ⋯ ⋯]; rfl,by rw [show b4.c=1 from rfl,show b4.e=0 from rfl,vp ⋯ ⋯]; rfl,by decide,by decide,by decide,by decide⟩
theorem GB.next{k:Nat}{s:B4}(hR:Rt d)(g:GB d k s):GB d (k+1) (s.nx d):=by
  obtain ⟨a,b,c,e⟩:=s;obtain ⟨det,p1,q1,ba,bb,bc,be⟩:=g;simp only at *
  have key:sgn d (a - c) (b - e)=1\/sgn d (a - c) (b - e)=-1:=by
    rcases sgn_tri hR (a - c) (b - e) with h|h|⟨h1,h2⟩
    . exact .inl h
    . exact .inr h
    . have e1:a=c:=by omega
      have e2:b=e:=by omega
      subst e1; subst e2;have:a*b - b*a=0:=by rw [aq]; omega
      omega
  unfold B4.nx;simp only;by_cases z:0<sgn d (a - c) (b - e)
  . rw [im z];refine ⟨?_,by show sgn d (a - c) (b - e)=1; omega,q1,ba.sub bc,bb.sub be,bc.mono (!4),be.mono (!4)⟩;show (a - c)*e - (b - e)*c=1\/(a - c)*e - (b - e)*c=-1;have:(a - c)*e - (b - e)*c=a*e - b*c:=by rw [hU,hU,aq e c]; omega
    omega
  . rw [io z];refine ⟨?_,p1,?_,ba.mono (!4),bb.mono (!4),bc.sub ba,be.sub bb⟩
    . show a*(e - b) - b*(c - a)=1\/a*(e - b) - b*(c - a)=-1;have:a*(e - b) - b*(c - a)=a*e - b*c:=by rw [dR,dR,aq b a]; omega
      omega
    . show sgn d (c - a) (e - b)=1;have:=xh hR (a - c) (b - e);rw [show -(a - c)=c - a by omega,show -(b - e)=e - b by omega] at this;omega
theorem xm{N p0 p2 q0 q2:Int}(h1:p0*N=a*p2)(h2:q0*N=c*q2):N*(p0*q2 - q0*p2)=p2*q2*(a - c):=by
  have e1:N*(p0*q2)=p2*q2*a:=by
    rw [<-am,aq N,h1,aq a,am,am,aq a]
  have e2:N*(q0*p2)=p2*q2*c:=by
    rw [<-am,aq N,h2,aq c,am,aq c,<-am,aq q2]
  rw [dR,dR,e1,e2]
theorem GK{b N:Int}(hR:Rt d)(hN:1<=N):sgn d (lA a b N*lN c e N - lA c e N*lN a b N) (lB a b N*lN c e N - lB c e N*lN a b N)=sgn d (a - c) (b - e):=by
  have n0:N≠0:=by omega
  refine ux hR (k:=N) (m:=lN a b N*lN c e N) (!4) (a9 (l_n n0) (l_n n0)) ?_ ?_
  . exact xm l_a l_a
  . exact xm l_b l_b
theorem By{b N:Int}(hN:1<=N):lA (lA a b N*lN c e N - lA c e N*lN a b N) (lB a b N*lN c e N - lB c e N*lN a b N) (lN a b N*lN c e N)=lA (a - c) (b - e) N/\lB (lA a b N*lN c e N - lA c e N*lN a b N) (lB a b N*lN c e N - lB c e N*lN a b N) (lN a b N*lN c e N)=lB (a - c) (b - e) N/\lN (lA a b N*lN c e N - lA c e N*lN a b N) (lB a b N*lN c e N - lB c e N*lN a b N) (lN a b N*lN c e N)=lN (a - c) (b - e) N:=by
  have n0:N≠0:=by omega
  have h1:=l_n (a:=a) (b:=b) n0;have h2:=l_n (a:=c) (b:=e) n0;refine Ao (ay (!4) (!4)) n0 ?_ ?_
  . rw [aq,xm l_a l_a,aq]
  . rw [aq,xm l_b l_b,aq]
theorem wL(x y z w:Int):x*y+-z*w=x*y - z*w:=by rw [cH]; omega
theorem AK{b N:Int}:(lA a b N*lB c e N - lB a b N*lA c e N)*N*N=lN a b N*lN c e N*(a*e - b*c):=by
  have h1:=l_a (a:=a) (b:=b) (n:=N);have h2:=l_b (a:=a) (b:=b) (n:=N);have h3:=l_a (a:=c) (b:=e) (n:=N);have h4:=l_b (a:=c) (b:=e) (n:=N);generalize lA a b N=p0 at *
  generalize lB a b N=p1 at *
  generalize lN a b N=p2 at *
  generalize lA c e N=q0 at *
  generalize lB c e N=q1 at *
  generalize lN c e N=q2 at *
  calc (p0*q1 - p1*q0)*N*N=(p0*N)*(q1*N) - (p1*N)*(q0*N):=by grind
    _=(a*p2)*(e*q2) - (b*p2)*(c*q2):=by rw [h1,h2,h3,h4]
    _=p2*q2*(a*e - b*c):=by grind
theorem yQ{b N:Int}(hR:Rt d)(hN:1<=N):sgn d (lA a b N) (lB a b N)=sgn d a b:=by
  have n0:N≠0:=by omega
  have h1:=l_n (a:=a) (b:=b) n0;refine ux hR (k:=N) (m:=lN a b N) (!4) (!4) ?_ ?_
  . rw [aq,l_a,aq]
  . rw [aq,l_b,aq]
def B4.det(s:B4):Int:=s.a*s.e - s.b*s.c
def B4.i(s:B4)(x y:Int):Int:=s.det*(x*s.e - y*s.c)
def B4.j(s:B4)(x y:Int):Int:=s.det*(s.a*y - s.b*x)
theorem Hv{k:Nat}{s:B4}(g:GB d k s):s.det*s.det=1:=by
  unfold B4.det;rcases g.det with h|h <;> rw [h] <;> decide
theorem AV{k:Nat}{s:B4}(g:GB d k s)(x y:Int):s.i x y*s.a+s.j x y*s.c=x/\s.i x y*s.b+s.j x y*s.e=y:=by
  have h:=Hv g;unfold B4.i B4.j B4.det at *
  generalize s.a=a at *
  generalize s.b=b at *
  generalize s.c=c at *
  generalize s.e=e at *
  clear g;constructor
  . have:(a*e - b*c)*(x*e - y*c)*a+(a*e - b*c)*(a*y - b*x)*c=(a*e - b*c)*(a*e - b*c)*x:=by grind
    rw [this,h,Int.one_mul]
  . have:(a*e - b*c)*(x*e - y*c)*b+(a*e - b*c)*(a*y - b*x)*e=(a*e - b*c)*(a*e - b*c)*y:=by grind
    rw [this,h,Int.one_mul]
theorem JA(d:Int)(s:B4):(s.nx d).det=s.det:=by
  unfold B4.nx;split <;> unfold B4.det <;> dsimp only <;> grind
theorem HQ(d:Int)(s:B4)(x y:Int):(0<sgn d (s.a - s.c) (s.b - s.e)->(s.nx d).i x y=s.i x y/\(s.nx d).j x y=s.i x y+s.j x y)/\(¬ 0<sgn d (s.a - s.c) (s.b - s.e)->(s.nx d).i x y=s.i x y+s.j x y/\(s.nx d).j x y=s.j x y):=by
  have h:=JA d s;constructor
  . intro z;unfold B4.i B4.j;rw [h];generalize s.det=D;unfold B4.nx;rw [im z];dsimp only;clear h z;grind
  . intro z;unfold B4.i B4.j;rw [h];generalize s.det=D;unfold B4.nx;rw [io z];dsimp only;clear h z;grind
theorem DK{b q:Int}(hb:b≠0)(h:t=q*b):t.fdiv b=q:=by rw [h]; exact Int.mul_fdiv_cancel _ hb
theorem MT{k:Nat}{s:B4}{N:Int}(g:GB d k s)(hN:1<=N) : lN x y N*(lA s.a s.b N*lB s.c s.e N - lB s.a s.b N*lA s.c s.e N)≠0 /\ ((lA x y N*lB s.c s.e N - lB x y N*lA s.c s.e N)*lN s.a s.b N).fdiv (lN x y N*(lA s.a s.b N*lB s.c s.e N - lB s.a s.b N*lA s.c s.e N))=s.i x y /\ ((lA s.a s.b N*lB x y N - lB s.a s.b N*lA x y N)*lN s.c s.e N).fdiv (lN x y N*(lA s.a s.b N*lB s.c s.e N - lB s.a s.b N*lA s.c s.e N))=s.j x y:=by
  have n0:N≠0:=by omega
  have z1:=l_n (a:=s.a) (b:=s.b) n0;have z2:=l_n (a:=s.c) (b:=s.e) n0;have z3:=l_n (a:=x) (b:=y) n0;have D:=AK (a:=s.a) (b:=s.b) (c:=s.c) (e:=s.e) (N:=N);have D1:=AK (a:=x) (b:=y) (c:=s.c) (e:=s.e) (N:=N);have D2:=AK (a:=s.a) (b:=s.b) (c:=x) (e:=y) (N:=N);have sq:=Hv g;have hd:s.a*s.e - s.b*s.c=s.det:=rfl;have hi:s.i x y=s.det*(x*s.e - y*s.c):=rfl;have hj:s.j x y=s.det*(s.a*y - s.b*x):=rfl;rw [hd] at D;rw [hi,hj];generalize x*s.e - y*s.c=U at *
  generalize s.a*y - s.b*x=V at *
  generalize hE:lA s.a s.b N*lB s.c s.e N - lB s.a s.b N*lA s.c s.e N=E at *
  generalize lA x y N*lB s.c s.e N - lB x y N*lA s.c s.e N=F at *
  generalize lA s.a s.b N*lB x y N - lB s.a s.b N*lA x y N=G at *
  generalize lN s.a s.b N=p at *
  generalize lN s.c s.e N=q at *
  generalize lN x y N=r at *
  generalize s.det=t at *
  have NN:N*N≠0:=ay n0 n0;have t0:t≠0:=λz=>by rw [z] at sq; exact absurd sq ⋯
  have E0:E≠0:=λz=>by
    rw [z,bS,bS] at D;exact ay (ay (!4) (!4)) t0 D.symm
  have b0:r*E≠0:=ay (!4) E0;refine ⟨b0,DK b0 (aG NN ?_),DK b0 (aG NN ?_)⟩
  . calc F*p*(N*N)=F*N*N*p:=by grind
      _=r*q*U*p:=by rw [D1]
      _=1*(p*q*r*U):=by grind
      _=t*t*(p*q*r*U):=by rw [sq]
      _=t*U*r*(p*q*t):=by grind
      _=t*U*r*(E*N*N):=by rw [D]
      _=t*U*(r*E)*(N*N):=by grind
  . calc G*q*(N*N)=G*N*N*q:=by grind
      _=p*r*V*q:=by rw [D2]
      _=1*(p*q*r*V):=by grind
      _=t*t*(p*q*r*V):=by rw [sq]
      _=t*V*r*(p*q*t):=by grind
      _=t*V*r*(E*N*N):=by rw [D]
      _=t*V*(r*E)*(N*N):=by grind
structure Sg(s:B4):Prop where
  a:s.a<=0
  b:0<=s.b
  c:0<=s.c
  e:s.e<=0
theorem Sg.nx{s:B4}(d:Int)(h:Sg s):Sg (s.nx d):=by
  obtain ⟨h1,h2,h3,h4⟩:=h;unfold B4.nx;split
  . exact ⟨by dsimp only; omega,by dsimp only; omega,h3,h4⟩
  . exact ⟨h1,h2,by dsimp only; omega,by dsimp only; omega⟩
def B4.srv(s:B4)(x y:Int):Prop:=0<=s.i x y/\0<=s.j x y
instance {s:B4} {x y:Int}:Decidable (s.srv x y):=inferInstanceAs (Decidable (0<=s.i x y/\0<=s.j x y))
theorem Hj{s:B4}(d:Int)(h:s.srv x y):(s.nx d).srv x y:=by
  obtain ⟨h1,h2⟩:=h;obtain ⟨n1,n2⟩:=HQ d s x y;unfold B4.srv;by_cases c:0<sgn d (s.a - s.c) (s.b - s.e)
  . rw [(n1 c).1,(n1 c).2]; exact ⟨h1,by omega⟩
  . rw [(n2 c).1,(n2 c).2]; exact ⟨by omega,h2⟩
theorem A1{k:Nat}{s:B4}(hR:Rt d)(g:GB d k s)(h:sgn d x y=1):0<s.i x y\/0<s.j x y:=by
  obtain ⟨cx,cy⟩:=AV g x y;generalize s.i x y=i at *
  generalize s.j x y=j at *
  refine f9 λn=>?_;have hi:i<=0:=by omega
  have hj:j<=0:=by omega
  have p1:=g.p1;have q1:=g.q1;have e1:sgn d ((-i)*s.a+(-j)*s.c) ((-i)*s.b+(-j)*s.e)=-1:=by
    rw [show (-i)*s.a+(-j)*s.c=-x by rw [<-cx,cH,cH]; omega,show (-i)*s.b+(-j)*s.e=-y by rw [<-cy,cH,cH]; omega,xh hR,h]
  have sc:∀ (t a b:Int),0<=t->sgn d a b=1->(t=0\/sgn d (t*a) (t*b)=1):=λt a b ht hs=>by
    by_cases z:t=0
    . exact .inl z
    . right;rw [yU hR (!4)];exact hs
  rcases sc (-i) s.a s.b (!4) p1 with z1|z1
  . rcases sc (-j) s.c s.e (!4) q1 with z2 | z2
    . rw [z1,z2,bS,bS,bS,bS,cf,yu] at e1;exact absurd e1 ⋯
    . rw [z1,bS,bS,dC,dC,z2] at e1;exact absurd e1 ⋯
  . rcases sc (-j) s.c s.e (!4) q1 with z2 | z2
    . rw [z2,bS,bS,cf,cf,z1] at e1;exact absurd e1 ⋯
    . have:=Ar hR z1 z2;rw [this] at e1;exact absurd e1 ⋯
theorem yc{i u:Int}(h:i≠0):u.natAbs<=(i*u).natAbs:=by
  rw [ce];exact cY _ (!4)
theorem Fp{i u:Int}(h:i<=0)(k:0<=u):i*u<=0:=cZ h k
theorem Fk{i u:Int}(h:i<=0)(k:u<=0):0<=i*u:=dW h k
theorem B8{i u:Int}(h:0<=i)(k:u<=0):i*u<=0:=bI h k
theorem BJ{k:Nat}{s:B4}(hR:Rt d)(g:GB d k s)(z:Sg s)(h:sgn d x y=1)(n:¬ s.srv x y) : s.a.natAbs<=x.natAbs/\s.c.natAbs<=x.natAbs/\s.b.natAbs<=y.natAbs/\s.e.natAbs<=y.natAbs:=by
  have hp:=A1 hR g h;obtain ⟨cx,cy⟩:=AV g x y;unfold B4.srv at n;obtain ⟨h1,h2,h3,h4⟩:=z;generalize s.i x y=i at *
  generalize s.j x y=j at *
  by_cases c:i<0
  . have hj:0<j:=by omega
    have a1:=yc (i:=i) (u:=s.a) (!4);have a2:=yc (i:=j) (u:=s.c) (!4);have a3:=yc (i:=i) (u:=s.b) (!4);have a4:=yc (i:=j) (u:=s.e) (!4);have p1:=Fk (i:=i) (u:=s.a) (!4) h1;have p2:=fV (a:=j) (b:=s.c) (!4) h3;have p3:=Fp (i:=i) (u:=s.b) (!4) h2;have p4:=B8 (i:=j) (u:=s.e) (!4) h4;omega
  . have hj:j<0:=by omega
    have hi:0<i:=by omega
    have a1:=yc (i:=i) (u:=s.a) (!4);have a2:=yc (i:=j) (u:=s.c) (!4);have a3:=yc (i:=i) (u:=s.b) (!4);have a4:=yc (i:=j) (u:=s.e) (!4);have p1:=B8 (i:=i) (u:=s.a) (!4) h1;have p2:=Fp (i:=j) (u:=s.c) (!4) h3;have p3:=fV (a:=i) (b:=s.b) (!4) h2;have p4:=Fk (i:=j) (u:=s.e) (!4) h4;omega
def st(d:Int):Nat->B4
  | 0=>b4
  | k+1=>(st d k).nx d
theorem Je(d:Int)(k:Nat):st d (k+1)=(st d k).nx d:=rfl
theorem Dc{d:Int}(hR:Rt d):∀ k,GB d (k+1) (st d k)
  | 0=>uA d
  | k+1=>(Dc hR k).next hR
theorem Ju(d:Int):∀ k,Sg (st d k)
  | 0=>⟨show b4.a<=0 by decide,show 0<=b4.b by decide,show 0<=b4.c by decide,show b4.e<=0 by decide⟩
  | k+1=>(Ju d k).nx d
variable {m:Nat}
theorem Fb{k:Nat}(h:(st d k).srv x y)(l:k<=m):(st d m).srv x y:=by
  induction m with
  | zero => have : k = 0 := by omega
            subst this; exact h
  | succ m ih =>
    by_cases c:k=m+1
    . subst c; exact h
    . exact Hj d (ih (!4))
theorem KQ(hR:Rt d)(h:sgn d x y=1):∀ (m k:Nat),((st d k).i x y).natAbs+((st d k).j x y).natAbs<=m->∃ K,(st d K).srv x y:=by
  intro m;induction m with
  | zero =>
    intro k hk;exact ⟨k,by omega,by omega⟩
  | succ m ih =>
    intro k hk;by_cases c:(st d k).srv x y
    . exact ⟨k,c⟩
    by_cases c2:(st d (k+1)).srv x y
    . exact ⟨_,c2⟩
    refine ih (k+1) ?_;have g1:=A1 hR (Dc hR k) h;have g2:=A1 hR (Dc hR (k+1)) h;obtain ⟨n1,n2⟩:=HQ d (st d k) x y;rw [Je] at *
    unfold B4.srv at c c2;by_cases cc:0<sgn d ((st d k).a - (st d k).c) ((st d k).b - (st d k).e)
    . obtain ⟨e1,e2⟩:=n1 cc;rw [e1,e2] at *
      omega
    . obtain ⟨e1,e2⟩:=n2 cc;rw [e1,e2] at *
      omega
theorem Ge(hR:Rt d)(h:sgn d x y=1):∃ K,(st d K).srv x y:=KQ hR h _ 0 (ag _)
theorem HH{d:Int}(hR:Rt d):∀ (L:List (Int×Int)),(∀ u∈L,sgn d u.1 u.2=1)->∃ K,∀ u∈L,(st d K).srv u.1 u.2
  | [],_=>⟨0,λu h=>absurd h (by simp)⟩
  | v::L,h=>by
    obtain ⟨K,hK⟩:=HH hR L λu hu=>h u (az _ hu);obtain ⟨K',hK'⟩:=Ge hR (h v aV);refine ⟨max K K',λu hu=>?_⟩;rcases aU.mp hu with z|z
    . subst z; exact Fb hK' (Nat.le_max_right ..)
    . exact Fb (hK u z) (Nat.le_max_left ..)
def Fst(d:Int)(L:List (Int×Int))(K:Nat):Prop:=(∀ u∈L,(st d K).srv u.1 u.2)/\∀ k,k<K->∃ u∈L,¬ (st d k).srv u.1 u.2
theorem Fst.unique{L L':List (Int×Int)}{K K':Nat}(hL:∀ u,u∈L↔u∈L')(h:Fst d L K)(h':Fst d L' K'):K=K':=by
  rcases gs K K' with c|c|c
  . obtain ⟨u,hu,n⟩:=h'.2 K c;exact absurd (h.1 u ((hL u).mpr hu)) n
  . exact c
  . obtain ⟨u,hu,n⟩:=h.2 K' c;exact absurd (h'.1 u ((hL u).mp hu)) n
theorem Fst.gb(hR:Rt d){L:List (Int×Int)}{K k:Nat}(hk:1<=k)(h:Fst d L K)(hp:∀ u∈L,sgn d u.1 u.2=1)(hb:∀ u∈L,Bd k u.1/\Bd k u.2):GB d (k+1) (st d K):=by
  cases K with
  | zero=>exact (uA d).mono (!4)
  | succ m =>
    obtain ⟨u,hu,n⟩:=h.2 m (!4);have g:=Dc hR m;obtain ⟨b1,b2,b3,b4⟩:=BJ hR g (Ju d m) (hp u hu) n;obtain ⟨c1,c2⟩:=hb u hu;have g':GB d k (st d m):=⟨g.det,g.p1,g.q1,c1.of_le b1,c2.of_le b3,c1.of_le b2,c2.of_le b4⟩
    exact g'.next hR
theorem Fst.gb_le(hR:Rt d){L:List (Int×Int)}{K k:Nat}(hk:1<=k)(h:Fst d L K)(hm:m<=K)(hp:∀ u∈L,sgn d u.1 u.2=1)(hb:∀ u∈L,Bd k u.1/\Bd k u.2):GB d (k+1) (st d m):=by
  cases m with
  | zero=>exact (uA d).mono (!4)
  | succ m =>
    obtain ⟨u,hu,n⟩:=h.2 m (!4);have g:=Dc hR m;obtain ⟨b1,b2,b3,b4⟩:=BJ hR g (Ju d m) (hp u hu) n;obtain ⟨c1,c2⟩:=hb u hu;have g':GB d k (st d m):=⟨g.det,g.p1,g.q1,c1.of_le b1,c2.of_le b3,c1.of_le b2,c2.of_le b4⟩
    exact g'.next hR
theorem tG(s:B4)(t x y:Int):s.i (t*x) (t*y)=t*s.i x y/\s.j (t*x) (t*y)=t*s.j x y:=by
  unfold B4.i B4.j;constructor <;> grind
theorem Ee{s:B4}(ht:1<=t):s.srv (t*x) (t*y)↔s.srv x y:=by
  unfold B4.srv;rw [(tG s t x y).1,(tG s t x y).2];have k:∀ u:Int,0<=t*u↔0<=u:=λu=>by
    constructor
    . intro h;refine fk.mp λn=>?_;have:t*u<0:=dh (!4) n;omega
    . exact λh=>fV (!4) h
  rw [k,k]
def lcmI(f z:Int):Int:=f.fdiv (Int.gcd f z:Nat)*z
theorem wk{f:Int}(hf:1<=f)(hz:1<=z):1<=lcmI f z/\f∣lcmI f z/\z∣lcmI f z/\(lcmI f z).natAbs<=(f*z).natAbs:=by
  obtain ⟨s,u,v,hs,s1,u1,v1,ez,ez',fu,fv,guv⟩:=BV hf hz;unfold lcmI;rw [<-hs,fu];refine ⟨a9 (!4) (!4),⟨v,by rw [ez',ez,aq s u,am]⟩,bU ..,?_⟩;rw [ce,ce];refine Nat.mul_le_mul_right _ ?_;rw [ez,ce];exact cY _ (!4)
def cbs(zs:List Int):Int:=zs.foldl lcmI 1
theorem F6(zs:List Int)(z:Int):cbs (zs++[z])=lcmI (cbs zs) z:=by unfold cbs; rw [dn]; rfl
theorem BR:∀ (zs:List Int) (f:Int) (k n:Nat),1<=f->(∀ z∈zs,1<=z/\Bd k z)->Bd n f->1<=zs.foldl lcmI f/\f∣zs.foldl lcmI f/\(∀ z∈zs,z∣zs.foldl lcmI f)/\Bd (n+k*zs.length) (zs.foldl lcmI f)
  | [],f,k,n,hf,_,hb=>⟨hf,dB _,λz h=>absurd h (by simp),hb⟩
  | z::zs,f,k,n,hf,h,hb=>by
    have hz:=h z aV;obtain ⟨a1,a2,a3,a4⟩:=wk hf hz.1;obtain ⟨b1,b2,b3,b4⟩:=BR zs (lcmI f z) k (n+k) a1 (λu hu=>h u (az _ hu)) ((hb.mul hz.2).of_le a4);refine ⟨b1,aX a2 b2,λu hu=>?_,?_⟩
    . rcases aU.mp hu with e | e
      . subst e; exact aX a3 b2
      . exact b3 u e
    . rw [List.foldl_cons,ax,Nat.mul_succ,Nat.add_comm (k*zs.length),<-gE];exact b4
theorem Dn{zs:List Int}{k:Nat}(h:∀ z∈zs,1<=z/\Bd k z):1<=cbs zs/\(∀ z∈zs,z∣cbs zs)/\Bd (1+k*zs.length) (cbs zs):=by
  obtain ⟨a,_,b,c⟩:=BR zs 1 k 1 ⋯ h ⋯;exact ⟨a,b,c⟩
theorem MF{P:Nat->Prop}:∀ n,P n->∃ m,P m/\∀ k,k<m->¬ P k:=by
  intro n;induction n using Nat.strongRecOn with
  | ind n ih =>
    intro h;by_cases c:∃ k,k<n/\P k
    . obtain ⟨k,hk,hp⟩:=c;exact ih k hk hp
    . exact ⟨n,h,λk hk hp=>c ⟨k,hk,hp⟩⟩
theorem Hy(hR:Rt d){L:List (Int×Int)}(h:∀ u∈L,sgn d u.1 u.2=1):∃ K,Fst d L K:=by
  obtain ⟨K,hK⟩:=HH hR L h;obtain ⟨m,hm,hn⟩:=MF (P:=λK=>∀ u∈L,(st d K).srv u.1 u.2) K hK;refine ⟨m,hm,λk hk=>?_⟩;have:=hn k hk;refine gc λc=>this λu hu=>?_;exact gc λz=>c ⟨u,hu,z⟩
def BsE(s s':B4)(N:Int):Prop:=(lA s.a s.b N=lA s'.a s'.b N/\lB s.a s.b N=lB s'.a s'.b N/\lN s.a s.b N=lN s'.a s'.b N)/\(lA s.c s.e N=lA s'.c s'.e N/\lB s.c s.e N=lB s'.c s'.e N/\lN s.c s.e N=lN s'.c s'.e N)
instance {s s':B4} {N:Int}:Decidable (BsE s s' N):=inferInstanceAs (Decidable (_/\_))
theorem Ba(x y:Int):lA x y 1=x/\lB x y 1=y/\lN x y 1=1:=by
  have e:g3 x y 1=1:=by
    unfold g3;rw [Int.one_gcd];exact Int.one_gcd
  have:=zC (x:=x) (y:=y) (z:=1) (a:=x) (b:=y) (n:=1) ⋯ e ⋯ rfl rfl;exact ⟨this.1.symm,this.2.1.symm,this.2.2.symm⟩
def tmS(m:Int)(s:Sd):Sd:=⟨lA (m*s.x) (m*s.y) s.z,lB (m*s.x) (m*s.y) s.z,lN (m*s.x) (m*s.y) s.z⟩
def adS(s t:Sd):Sd:=⟨lA (s.x*t.z+t.x*s.z) (s.y*t.z+t.y*s.z) (s.z*t.z),lB (s.x*t.z+t.x*s.z) (s.y*t.z+t.y*s.z) (s.z*t.z),lN (s.x*t.z+t.x*s.z) (s.y*t.z+t.y*s.z) (s.z*t.z)⟩
structure SK(k j:Nat)(s:Sd):Prop where
  z1:1<=s.z
  g:g3 s.x s.y s.z=1
  bx:Bd k s.x
  by':Bd k s.y
  bz:Bd j s.z
theorem SK.mono{k j k' j':Nat}{s:Sd}(h:SK k j s)(l:k<=k')(l':j<=j'):SK k' j' s:=⟨h.z1,h.g,h.bx.mono l,h.by'.mono l,h.bz.mono l'⟩
theorem SK.ne{k j:Nat}{s:Sd}(h:SK k j s):s.z≠0:=by have:=h.z1; omega
theorem xS{b n:Int}(hn:n≠0):Rat.divInt (lA a b n) (lN a b n)=Rat.divInt a n/\Rat.divInt (lB a b n) (lN a b n)=Rat.divInt b n:=by
  have z:=l_n (a:=a) (b:=b) hn;exact ⟨(cB (!4) hn).mpr l_a,(cB (!4) hn).mpr l_b⟩
def nul:Sd:=⟨0,0,1⟩
def mny(s:B4)(N:Int)(pl:Nat)(w:Sd):Int:=if pl=0 then s.i (N / w.z*w.x) (N / w.z*w.y) else s.j (N / w.z*w.x) (N / w.z*w.y)
def hg(s:B4)(N:Int)(pl:Nat):List Bo->Sd:=λL=>L.foldl (λa b=>adS a (tmS (mny s N pl b.w) b.h)) nul
structure B5(d N:Int)(b:Bo):Prop where
  w:SK 20 12 b.w
  h:SK 20 12 b.h
  wu:sgn d b.w.x b.w.y=1
  hu:sgn d b.h.x b.h.y=1
  dv:b.w.z∣N
theorem KW{k n:Nat}{s:B4}(g:GB d k s)(bx:Bd n x)(by':Bd n y):Bd (1+(n+k+1)) (s.i x y)/\Bd (1+(n+k+1)) (s.j x y):=by
  have hd:Bd 1 s.det:=by
    unfold B4.det;rcases g.det with h|h <;> rw [h] <;> decide
  refine ⟨hd.mul ((bx.mul g.be).sub (by'.mul g.bc)),hd.mul (Bd.mono ((g.ba.mul by').sub (g.bb.mul bx)) (!4))⟩
def bw1(s:B4)(N:Int):Sd:=⟨lA s.a s.b N,lB s.a s.b N,lN s.a s.b N⟩
def bw2(s:B4)(N:Int):Sd:=⟨lA s.c s.e N,lB s.c s.e N,lN s.c s.e N⟩
end Bg
namespace L2
open PySem PySem.Spec PyProof.Rows Bg
def rSum(K:iL):List V->Hp->VK->Prop:=λxs H Q=>∃ (a:Addr) (ns:List Int),xs=[.ref a]/\SqL K H a (ns.map V.int)/\Q (.int ns.sum) H
def Kp(K:iL):List V->Hp->VK->Prop:=λxs H Q=>∃ (a:Addr) (bs:List Bool),xs=[.ref a]/\SqL K H a (bs.map V.bl)/\Q (.bl (bs.all id)) H
theorem xt:∀ {ns:List Int} {us:List Value},Vals (ns.map V.int) us->∃ xs:Array (Int×Tok),us.toArray=intItems xs/\xs.toList.map (·.1)=ns
  | [],us,h=>by
    rw [Vals.zero h];exact ⟨#[],by simp [intItems],rfl⟩
  | n::ns,u::us,.cons r t=>by
      obtain ⟨tk,rfl⟩:=r;obtain ⟨xs,e1,e2⟩:=xt t;refine ⟨#[(n,tk)]++xs,?_,by simp [e2]⟩;have e3:(Value.int n tk::us).toArray=#[Value.int n tk]++us.toArray:=by simp
      rw [e3,e1];simp [intItems]
theorem Bf{xs:Array (Int×Tok)}:preSum (numAt xs) xs.size=(xs.toList.map (·.1)).sum:=by
  rw [preSum_eq,cN (by simp)]
variable {X:Cx}
theorem vn(hc:X.calm=true):yx X (.builtin "sum") (rSum X.K):=by
  intro pins s σ H xs us Q I r h;obtain ⟨a,ns,rfl,hq,q⟩:=h;obtain ⟨u,rfl,ru⟩:=Vals.one r;cases ru
  obtain ⟨its,rv,p,hz⟩:=I.list hq;obtain ⟨ys,e1,e2⟩:=xt rv;have hl:s.heap.IsList a (intItems ys):=by rw [<-e1]; exact p.isList
  refine sum_intListG (I.ok.hd hc) hl λh' tk t' hk=>?_;rw [Bf,e2];exact ⟨.int ns.sum,H,I.kept (t':=tk) hk,⟨t',rfl⟩,q⟩
theorem Dg(hc:X.calm=true):yx X (.builtin "all") (Kp X.K):=by
  intro pins s σ H xs us Q I r h;obtain ⟨a,bs,rfl,hq,q⟩:=h;obtain ⟨u,rfl,ru⟩:=Vals.one r;cases ru
  obtain ⟨its,rv,p,hz⟩:=I.list hq;have hlt:a<s.heap.objs.size:=by
    obtain ⟨o,_,e,_⟩:=p;exact Heap.lt_size e
  refine call_all_walk (iD p.isList ?_);refine ⟨_,_,_,_,_,_,(λi=>bs.getD i false),rfl,Walks.list (A:=X.A.in1) (show X.A.in1.handled=none from I.ok.hd hc) _ a (aP hlt) its.toArray,⟨⟨_,Heap.get?_push_size _ rfl,rfl,rfl⟩,p.isList.push _⟩,?_,λh' tk hk=>?_⟩
  . intro i v s' Q' E' hP hQ;have hP':its[i]?=some v:=by simpa using hP
    have hi:i<bs.length:=by
      have:=rv.length;rw [aa] at this;have:=(af.mp hP').1;omega
    obtain ⟨u,hu,ru⟩:=rv.get (i:=i) (x:=.bl bs[i]) (by rw [aj,ae hi]; rfl);rw [hP'] at hu;cases hu
    cases ru
    have e:bs.getD i false=bs[i]:=by rw [c9,ae hi]; rfl
    have hQ':Q' (bs.getD i false) s':=hQ;rw [e] at hQ';exact iq hQ'
  . have e:(List.range its.toArray.size).all (λi=>bs.getD i false)=bs.all id:=by
      have:=rv.length;rw [aa] at this;rw [aE,<-this,uE]
    rw [e];refine ⟨.bl _,H,I.kept (t':=tk) λb o e'=>hk b o ?_ (Heap.get?_push_of_some _ e'),rfl,q⟩;intro hb;have e2:b=s.heap.objs.size:=by simpa using hb
    exact absurd (Heap.lt_size e') (by rw [e2]; exact du _)
variable {a:Addr}{H:Hp}
theorem Ic{K:iL}{Q:VK}{ns:List Int}(h:SqL K H a (ns.map V.int))(q:Q (.int ns.sum) H):rSum K [.ref a] H Q:=⟨a,ns,rfl,h,q⟩
theorem JX{K:iL}{Q:VK}{bs:List Bool}(h:SqL K H a (bs.map V.bl))(q:Q (.bl (bs.all id)) H):Kp K [.ref a] H Q:=⟨a,bs,rfl,h,q⟩
inductive T0 where
  | flat (x:V)
  | tup (xs:List V)
  | lst (xs:List V)
section
variable {H0 H:Hp}{Q:VK}{ls:List (Addr×HO)}
end
variable {tg:Expr}
abbrev Fq(H:Hp)(p:Addr)(x:Rat):Prop:=H p=some (.tup [.int x.num,.int (x.den:Int)])
abbrev Fs(K:iL)(H:Hp)(p:Addr)(x:Rat):Prop:=SqT K H p [.int x.num,.int (x.den:Int)]
theorem EY{p:Addr}{t b:Int}(hb:b≠0)(e:H p=some (.tup [.int (fT t b),.int (fB t b)])):Fq H p (Rat.divInt t b):=by
  rw [(rf hb).1,(rf hb).2] at e;exact e
variable {y:Rat}
theorem Kx{p:Addr}(e:H p=some (.tup [.int (-y.num),.int (y.den:Int)])):Fq H p (-y):=by
  unfold Fq;rw [Rat.neg_num,Rat.neg_den];exact e
variable {x:Rat}
theorem IX{p:Addr}(e:H p=some (.tup [.int (plT x.num x.den y.num y.den / (Int.gcd (plT x.num x.den y.num y.den) (Int.gcd x.den y.den:Nat):Nat)),.int ((x.den:Int) / (Int.gcd x.den y.den:Nat)*((y.den:Int) / (Int.gcd (plT x.num x.den y.num y.den) (Int.gcd x.den y.den:Nat):Nat)))])):Fq H p (x+y):=by
  rw [(HB x y).1,(HB x y).2] at e;exact e
theorem FQ{p:Addr}(e:H p=some (.tup [.int (x.num / (Int.gcd x.num y.den:Nat)*(y.num / (Int.gcd y.num x.den:Nat))),.int ((x.den:Int) / (Int.gcd y.num x.den:Nat)*((y.den:Int) / (Int.gcd x.num y.den:Nat)))])):Fq H p (x*y):=by
  rw [(Eu x y).1,(Eu x y).2] at e;exact e
theorem Kg{p:Addr}(e:Fq H p x)(h:x=y):Fq H p y:=h ▸ e
variable {H':Hp}
theorem Same.sqT{K:iL}{xs:List V}(e:Same H H')(h:SqT K H a xs):SqT K H' a xs:=by
  rcases h with h|h
  . rcases h with h | ⟨o,h⟩
    . exact .inl (.inl (e _ _ h))
    . exact .inl (.inr ⟨o,e _ _ h⟩)
  . exact .inr h
abbrev SdAt(H:Hp)(p:Addr)(s:Sd):Prop:=H p=some (.tup [.int s.x,.int s.y,.int s.z])
structure Cell where
  p:Addr
  pw:Addr
  ph:Addr
  b:Bo
def Cell.v(c:Cell):V:=.ref c.p
structure Cell.At(H:Hp)(c:Cell):Prop where
  t:H c.p=some (.tup [.ref c.pw,.ref c.ph])
  w:SdAt H c.pw c.b.w
  h:SdAt H c.ph c.b.h
variable {c:Cell}
theorem Cell.At.same(h:c.At H)(s:Same H H'):c.At H':=⟨s _ _ h.t,s _ _ h.w,s _ _ h.h⟩
theorem Cell.At.sameX{D:Addr}{xs:List V}(h:c.At H)(s:SameX D H H')(e:H D=some (.lst xs)):c.At H':=⟨s.tup h.t e,s.tup h.w e,s.tup h.h e⟩
theorem ur{L:List Cell}{i:Nat}{y:V}(h:(L.map Cell.v)[i]?=some y):∃ c,y=.ref c.p/\c∈L/\L[i]?=some c:=by
  rw [aj] at h;cases e:L[i]? with
  | none=>rw [e] at h; cases h
  | some c =>
    rw [e] at h;exact ⟨c,(ao h).symm,av e,rfl⟩
theorem Cr{L:List Cell}{i:Nat}(h:L[i]?=some c):(L.take (i+1)).map Cell.b=(L.take i).map Cell.b++[c.b]:=by
  rw [bg,h,ai];rfl
structure TbS(K:iL)(H:Hp)(p r0 r1 f0 f1 f2 f3:Addr)(t:Tb):Prop where
  p:SqT K H p [.ref r0,.ref r1]
  r0:SqT K H r0 [.ref f0,.ref f1]
  r1:SqT K H r1 [.ref f2,.ref f3]
  f0:Fs K H f0 t.a
  f1:Fs K H f1 t.b
  f2:Fs K H f2 t.c
  f3:Fs K H f3 t.e
variable {f1 f2 f3 r0 r1:Addr}{t:Tb}
theorem TbS.same{K:iL}{p f0:Addr}(h:TbS K H p r0 r1 f0 f1 f2 f3 t)(s:Same H H'):TbS K H' p r0 r1 f0 f1 f2 f3 t:=⟨s.sqT h.p,s.sqT h.r0,s.sqT h.r1,s.sqT h.f0,s.sqT h.f1,s.sqT h.f2,s.sqT h.f3⟩
structure TbH(H:Hp)(p r0 r1 f0 f1 f2 f3:Addr)(t:Tb):Prop where
  p:H p=some (.tup [.ref r0,.ref r1])
  r0:H r0=some (.tup [.ref f0,.ref f1])
  r1:H r1=some (.tup [.ref f2,.ref f3])
  f0:Fq H f0 t.a
  f1:Fq H f1 t.b
  f2:Fq H f2 t.c
  f3:Fq H f3 t.e
theorem TbH.same{p f0:Addr}(h:TbH H p r0 r1 f0 f1 f2 f3 t)(s:Same H H'):TbH H' p r0 r1 f0 f1 f2 f3 t:=⟨s _ _ h.p,s _ _ h.r0,s _ _ h.r1,s _ _ h.f0,s _ _ h.f1,s _ _ h.f2,s _ _ h.f3⟩
theorem TbH.s{K:iL}{p f0:Addr}(h:TbH H p r0 r1 f0 f1 f2 f3 t):TbS K H p r0 r1 f0 f1 f2 f3 t:=⟨.of h.p,.of h.r0,.of h.r1,.of h.f0,.of h.f1,.of h.f2,.of h.f3⟩
def TbAt(H:Hp)(p:Addr)(t:Tb):Prop:=∃ r0 r1 f0 f1 f2 f3:Addr,TbH H p r0 r1 f0 f1 f2 f3 t
theorem TbAt.same{H H':Hp}{p:Addr}{t:Tb}(h:TbAt H p t)(s:Same H H'):TbAt H' p t:=by
  obtain ⟨r0,r1,f0,f1,f2,f3,h⟩:=h;exact ⟨r0,r1,f0,f1,f2,f3,h.same s⟩
theorem TbAt.eq{p:Addr}{u:Tb}(h:TbAt H p t)(e:t=u):TbAt H p u:=e ▸ h
section
variable {K:iL}{H:Hp}{Q:VK}{σ:St}{D:Ends}
end
def TopE(K:iL)(mg:Str->Option Value)(x:Str):Prop:=∃ a,mg x=some (.ref a)/\∀ H:Hp,∃ r0 r1 f0 f1 f2 f3:Addr,TbS K H a r0 r1 f0 f1 f2 f3 Tb.zero
structure TupIn(K:iL)(a:Addr)(xs:List V):Prop where
  h:∃ (o:Obj) (its:Array Value) (n:Nat),K.lookup a=some o/\o.cls=.type "tuple"/\o.data=.seq its n/\its.size<=sizeLine/\Vals xs its.toList
theorem tupIn_mk{K:iL}{o:Obj}{its:Array Value}{n:Nat}{xs:List V}(l:K.lookup a=some o)(c:o.cls=.type "tuple")(d:o.data=.seq its n)(z:its.size<=sizeLine)(v:Vals xs its.toList):TupIn K a xs:=⟨o,its,n,l,c,d,z,v⟩
theorem topE_mk{K:iL}{h:Heap}{mg:Str->Option Value}{x:Str}{f0:Addr}(X:K.In h)(G:h.Ns mainGlobals mg)(e:W.nsIn K mainGlobals x=some (some (.ref a)))(t:TupIn K a [.ref r0,.ref r1])(t0:TupIn K r0 [.ref f0,.ref f1])(t1:TupIn K r1 [.ref f2,.ref f3])(u0:TupIn K f0 [.int 0,.int 1])(u1:TupIn K f1 [.int 0,.int 1])(u2:TupIn K f2 [.int 0,.int 1])(u3:TupIn K f3 [.int 0,.int 1]):TopE K mg x :=
  ⟨a,dF X G e,λ_=>⟨r0,r1,f0,f1,f2,f3,.inr t.h,.inr t0.h,.inr t1.h,.inr u0.h,.inr u1.h,.inr u2.h,.inr u3.h⟩⟩
def rTup(K:iL):List V->Hp->VK->Prop:=λxs H Q=>∃ p ys,xs=[.ref p]/\((SqL K H p ys/\∀ l,H l=none->Q (.ref l) (upd H l (.tup ys)))\/(SqT K H p ys/\Q (.ref p) H))
theorem Fv:yx X (.type "tuple") (rTup X.K):=uH
def rLst(K:iL):List V->Hp->VK->Prop:=λxs H Q=>∃ p ys,xs=[.ref p]/\(SqL K H p ys\/SqT K H p ys)/\∀ l,H l=none->Q (.ref l) (upd H l (.lst ys))
theorem uZ:yx X (.type "list") (rLst X.K):=tH
theorem JO{K:iL}{Q:VK}{p:Addr}{ys:List V}(h:H p=some (.lst ys))(q:∀ l H2,Same H H2->H2 l=some (.tup ys)->Q (.ref l) H2):rTup K [.ref p] H Q:=⟨p,ys,rfl,.inl ⟨SqL.of h,λl hl=>q l _ (zD hl _) zk⟩⟩
section
variable {prog:Program}{w:World}{A:Around}{E:Value->Shared->Prop}
end
def rMin:List V->Hp->VK->Prop:=λxs H Q=>∃ i j:Int,xs=[.int i,.int j]/\Q (.int (if j<i then j else i)) H
theorem Fj(hc:X.calm=true):yx X (.builtin "min") rMin:=Ei hc
section
variable {K:iL}{σ:St}{H:Hp}{Q:VK}
theorem EB{n:Nat}(h:n<=1000):n<=sizeLine:=yi h
theorem Mg{i j:Int}(q:Q (.int (if j<i then j else i)) H):rMin [.int i,.int j] H Q:=⟨i,j,rfl,q⟩
theorem MO{T:String}{r:V->List V->Hp->VK->Prop}{to:TE}(h:to σ H λx H1=>tyV K T x H1/\r x [] H1 Q):tBM0 K T r to σ H Q:=h
theorem Mf{i j:Str}(h:Q (.bl (decide (i=j))) H):rEq (.str i) (.str j) H Q:=⟨rfl,by
  have e:decide (V.str i=V.str j)=decide (i=j):=by rw [cC]; simp
  rw [e]; exact h⟩
theorem Gj{z:Str}(h:Q (.bl true) H):rIs K [.str z,.ty "str"] H Q:=⟨_,_,_,_,rfl,.str z,uB K _,h⟩
end
section
variable {prog:Program}{w:World}{A:Around}{E:Value->Shared->Prop}{s:Shared}{R:Result->Shared->Prop}
variable {I:Addr}{fp wr:List Addr}{G:Array GenState->Array GenState->Prop}{n:Nat}{P:Nat->Value->Prop}{St:Nat->Shared->Prop}
end
section
variable {e:Expr}{te:TE}{p1 p2 pos pos2:Pos}
end
def SqA(H:Hp)(p:Addr)(xs:List V):Prop:=H p=some (.lst xs)\/H p=some (.tup xs)
theorem JP{K:iL}{Q:VK}{p:Addr}{xs:List V}{i:Int}{v:V}(h:SqA H p xs)(e:atI xs i=some v)(q:Q v H):rIx K (.ref p) (.int i) H Q:=by
  rcases h with h|h
  . exact .inl ⟨p,xs,i,v,rfl,rfl,SqL.of h,e,q⟩
  . exact .inr (.inl ⟨p,xs,i,v,rfl,rfl,SqT.of h,e,q⟩)
theorem BY{n:Nat}{b:Addr}(ha:Fq H a x)(hb:Fq H b x):EqV X (n+1) H (.ref a) (.ref b) true:=by
  have e:([x.num==x.num,(x.den:Int)==x.den]:List Bool).all id=true:=by simp
  have:=EqV.tup (X:=X) (n:=n) (SqT.of ha) (SqT.of hb) (.cons (.int x.num x.num) (.cons (.int x.den x.den) .nil)) (λ_=>e);rw [e] at this;exact this
theorem DB{n:Nat}{b r2 s1 s2:Addr}(ha:H a=some (.tup [.ref r1,.ref r2]))(hb:H b=some (.tup [.ref s1,.ref s2]))(e1:EqV X n H (.ref r1) (.ref s1) true)(e2:EqV X n H (.ref r2) (.ref s2) true):EqV X (n+1) H (.ref a) (.ref b) true :=
  EqV.tup (X:=X) (n:=n) (bs:=[true,true]) (SqT.of ha) (SqT.of hb) (.cons e1 (.cons e2 .nil)) (λ_=>rfl)
theorem JV{Q:VK}{b:Addr}(ha:TbAt H a t)(hb:TbAt H b t)(q:Q (.bl false) H):rNeT X (.ref a) (.ref b) H Q:=by
  obtain ⟨r0,r1,f0,f1,f2,f3,h⟩:=ha;obtain ⟨s0,s1,g0,g1,g2,g3,k⟩:=hb;exact ⟨a,b,_,_,[true,true],2,rfl,rfl,by decide,SqT.of h.p,SqT.of k.p,.cons (DB h.r0 k.r0 (BY h.f0 k.f0) (BY h.f1 k.f1)) (.cons (DB h.r1 k.r1 (BY h.f2 k.f2) (BY h.f3 k.f3)) .nil),q⟩
end L2
namespace Bg
end Bg
namespace L2
local macro_rules | `(!1)=>`(by simp)
local macro_rules | `(!4)=>`(by omega)
open PySem PySem.Spec PyProof.Rows Bg
structure BsAt(H:Hp)(p r1 r2:Addr)(s:B4)(N:Int):Prop where
  t:H p=some (.tup [.ref r1,.ref r2])
  f:H r1=some (.tup [.int (lA s.a s.b N),.int (lB s.a s.b N),.int (lN s.a s.b N)])
  g:H r2=some (.tup [.int (lA s.c s.e N),.int (lB s.c s.e N),.int (lN s.c s.e N)])
variable {H H':Hp}
theorem BsAt.same{p r1 r2:Addr}{s:B4}{N:Int}(h:BsAt H p r1 r2 s N)(z:Same H H'):BsAt H' p r1 r2 s N:=⟨z _ _ h.t,z _ _ h.f,z _ _ h.g⟩
def WGn(Pv:Nat->St->Hp->Prop)(m:Nat)(tb:TS)(D:Ends)(σ:St)(H:Hp):Prop :=
  ∃ N:St->Hp->Prop,(∀ σ' H',N σ' H'->∃ m',m'<m/\Pv m' σ' H')/\tb { D with nx:=N,ct:=N,bk:=D.nx } σ H
variable {D:Ends}
theorem wgn{Pv:Nat->St->Hp->Prop}{m:Nat}{tb:TS}{σ:St}(h:tb { D with nx:=λσ' H'=>∃ m',m'<m/\Pv m' σ' H',ct:=λσ' H'=>∃ m',m'<m/\Pv m' σ' H',bk:=D.nx } σ H):WGn Pv m tb D σ H :=
  ⟨_,λ_ _ z=>z,h⟩
theorem IO{c:TT}{tb:TS}{σ:St}(Pv:Nat->St->Hp->Prop)(h0:∃ m,Pv m σ H)(hs:∀ m σ H,Pv m σ H->c σ H λb H1=>if b=true then WGn Pv m tb D σ H1 else D.nx σ H1):B2 c tb D σ H :=
  ⟨Pv,h0,hs⟩
theorem vK(f:Nat->Int):∀ k,argBest (λi j=>decide (f i<f j)) k<=k/\∀ i,i<=k->f (argBest (λi j=>decide (f i<f j)) k)<=f i
  | 0=>⟨ag _,λi hi=>by have:i=0:=(!4); subst this; exact Int.le_refl _⟩
  | k+1=>by
    obtain ⟨h1,h2⟩:=vK f k;unfold argBest;by_cases c:f (k+1)<f (argBest (λi j=>decide (f i<f j)) k)
    . rw [im (iJ c)];refine ⟨ag _,λi hi=>?_⟩;by_cases e:i=k+1
      . subst e; exact Int.le_refl _
      . have:=h2 i (!4); omega
    . rw [io (by simpa using c)];refine ⟨by omega,λi hi=>?_⟩;by_cases e:i=k+1
      . subst e; omega
      . exact h2 i (!4)
def Kw(K:iL):List V->Hp->VK->Prop:=λxs H Q=>∃ (a:Addr) (ns:List Int),xs=[.ref a]/\(SqL K H a (ns.map V.int)\/SqT K H a (ns.map V.int))/\ns≠[]/\∀ m∈ns,(∀ x∈ns,m<=x)->Q (.int m) H
variable {ys:Array (Int×Tok)}{ns:List Int}
theorem Bv(e2:ys.toList.map (·.1)=ns){i:Nat}(hi:i<ns.length):numAt ys i=ns[i]:=by
  subst e2;have hi':i<ys.size:=by simpa using hi
  unfold numAt;rw [Array.getElem?_eq_getElem hi'];simp
theorem tU(e2:ys.toList.map (·.1)=ns)(hne:ns≠[]){v:Value}(h:(intItems ys)[argBest (λi j=>decide (numAt ys i<numAt ys j)) (ys.size - 1)]?=some v):∃ m t,v=.int m t/\m∈ns/\∀ x∈ns,m<=x:=by
  have hl:ys.size=ns.length:=by rw [<-e2]; simp
  have hp:0<ns.length:=bM.mpr hne;obtain ⟨h1,h2⟩:=vK (numAt ys) (ys.size - 1);obtain ⟨t,rfl⟩:=intItems_at h;generalize argBest (λi j=>decide (numAt ys i<numAt ys j)) (ys.size - 1)=b at *
  have hb:b<ns.length:=by omega
  refine ⟨_,t,rfl,?_,λx hx=>?_⟩
  . rw [Bv e2 hb]; exact cM hb
  . obtain ⟨i,hi,e⟩:=List.getElem_of_mem hx;have:=h2 i (!4);rw [Bv e2 hi,e] at this;exact this
variable {X:Cx}
theorem Dq(hc:X.calm=true):yx X (.builtin "min") (Kw X.K):=by
  intro pins s σ H xs us Q I r h;obtain ⟨a,ns,rfl,hq,hne,q⟩:=h;obtain ⟨u,rfl,ru⟩:=Vals.one r;cases ru
  rcases hq with hq|hq
  . obtain ⟨its,rv,p,hz⟩:=I.list hq;obtain ⟨ys,e1,e2⟩:=xt rv;have hl:s.heap.IsList a (intItems ys):=by rw [<-e1]; exact p.isList
    have hn:0<ys.size:=by
      have:ys.size=ns.length:=by rw [<-e2]; simp
      have:=bM.mpr hne;omega
    refine min_intList (I.ok.hd hc) hl hn λv h' tk hv hk=>?_;obtain ⟨m,t,rfl,hm,hle⟩:=tU e2 hne hv;exact ⟨.int m,H,I.kept (t':=tk) hk,⟨t,rfl⟩,q m hm hle⟩
  . obtain ⟨its,rv,p,hz⟩:=I.tuple hq;obtain ⟨ys,e1,e2⟩:=xt rv;have hl:s.heap.IsTuple a (intItems ys):=by rw [<-e1]; exact p
    have hn:0<ys.size:=by
      have:ys.size=ns.length:=by rw [<-e2]; simp
      have:=bM.mpr hne;omega
    have hlt:a<s.heap.objs.size:=by obtain ⟨_,e,_⟩:=hl; exact Heap.lt_size e
    refine call_min_walk (wpAny_pyIter_tuple hl ?_);refine ⟨_,[_,a],[_],_,_,_,_,rfl,Walks.tuple (A:=X.A.in1) (show X.A.in1.handled=none from I.ok.hd hc) _ a (aP hlt) (intItems ys),⟨⟨_,Heap.get?_push_size _ rfl,rfl,rfl⟩,hl.push _⟩,λb hb=>?_,by simpa [intItems] using hn,CmpOf.ints_lt (numAt ys) (λ_ _=>intItems_at),λv h' tk hP hk=>?_⟩
    . show b<(s.heap.push _).objs.size;rw [Heap.size_push];rcases aU.mp hb with rfl|hb
      . exact eW _
      . rcases aU.mp hb with rfl | hb
        . exact Nat.lt_succ_of_lt hlt
        . cases hb
    . obtain ⟨m,t,rfl,hm,hle⟩:=tU e2 hne (by simpa [intItems] using hP);refine ⟨.int m,H,I.kept (t':=tk) λb o e'=>hk b o ?_ (Heap.get?_push_of_some _ e'),⟨t,rfl⟩,q m hm hle⟩;intro hb;have e2:b=s.heap.objs.size:=by simpa using hb
      exact absurd (Heap.lt_size e') (by rw [e2]; exact du _)
variable {a:Addr}
section
variable {K:iL}{H:Hp}{Q:VK}{σ:St}{D:Ends}
theorem Ly{i j:Int}(h:H a=some (.tup [.int i,.int j]))(q:∀ m:Int,(m=i\/m=j)->m<=i->m<=j->Q (.int m) H):Kw K [.ref a] H Q :=
  ⟨a,[i,j],rfl,.inr (SqT.of h),by simp,λm hm hl=>q m (by simpa using hm) (hl i (!1)) (hl j (!1))⟩
end
structure Ln where
  p:Addr
  s:Sd
def Ln.v(c:Ln):V:=.ref c.p
def Ln.u(c:Ln):Int×Int:=(c.s.x,c.s.y)
theorem LU{L:List Ln}{i:Nat}{y:V}(h:(L.map Ln.v)[i]?=some y):∃ c,y=.ref c.p/\c∈L/\L[i]?=some c:=by
  rw [aj] at h;cases e:L[i]? with
  | none=>rw [e] at h; cases h
  | some c =>
    rw [e] at h;refine ⟨c,?_,av e,rfl⟩;have:Ln.v c=y:=by simpa using h
    exact this.symm
theorem AD{α:Type}{f:Ln->α}{L:List Ln}{i:Nat}{c:Ln}(h:L[i]?=some c):(L.take (i+1)).map f=(L.take i).map f++[f c]:=by
  rw [dq,h,ai];rfl
variable {tg:Expr}
section
variable {K:iL}{H:Hp}{Q:VK}
end
theorem Inv.turnedL{pins:List (Addr×Obj)}{σ:St}{s:Shared}{h':Heap}{t':Nat}{its:List Addr}(I:Inv X pins σ H s)(k:∀ b o,b∉its->s.heap.get? b=some o->h'.get? b=some o)(hf:∀ b∈its,FpOk X pins H b):Inv X pins σ H { s with heap:=h',toks:=t' }:=by
  have nit:∀ b u,H b=some u->b∉its:=λb u e z=>by have:=(hf b z).1; rw [this] at e; cases e
  refine I.step (g':=s.gens) (d':=s.drawn) (ch:=its) (λb hb=>?_) (λb o _ _ hc e _=>k b o hc e) (λb o _ _ hc e _=>⟨o.slots,k b o hc e⟩) (λ_ _ _ _ n=>n)
    (λb o hc e=>⟨o,k b o hc e⟩) (λ_ _ e=>e) (λ_ _ _ e=>e) (λb ps e=>⟨#[],by rw [e]; simp⟩) (λm hm=>?_) (λb u e=>?_) I.bare
  . obtain ⟨f0,f1,f2,f3,f4,f5⟩:=hf b hb;exact ⟨f3,f1,f4,f5⟩
  . obtain ⟨o,es,ep,ho,r⟩:=hm;exact ⟨o,es,ep,k _ o (λz=>(hf _ z).2.1 rfl) ho,r⟩
  . refine (I.hok b u e).stay (λc v hc q=>k c v ?_ q) (λ_ q=>q) λ_ _ q=>q;rcases hc with z|z
    . rw [z]; exact nit b u e
    . exact nit c _ z
def Itz(K:iL)(a b:Addr):It :=
  ⟨λi H=>∃ xs ys x y,SqL K H a xs/\SqL K H b ys/\xs[i]?=some x/\ys[i]?=some y,
   λi H v H'=>∃ T,H T=none/\v=.ref T/\∀ xs ys,SqL K H a xs->SqL K H b ys->∃ x y,xs[i]?=some x/\ys[i]?=some y/\H'=upd H T (.tup [x,y]),
   λi H=>∃ xs ys,SqL K H a xs/\SqL K H b ys/\(xs.length<=i\/ys.length<=i)⟩
variable {h:Heap}{o:Obj}
theorem w4{c:Addr}{o':Obj}(hc:c≠h.objs.size)(e:(h.push o).get? c=some o'):h.get? c=some o':=by
  obtain ⟨e1,e2⟩:=Heap.get?_some_iff.mp e;refine Heap.get?_some_iff.mpr ⟨?_,e2⟩;cases h
  simpa [Heap.push,Array.getElem?_push,hc] using e1
variable {es:List Expr}{P:Program}{w:World}
theorem Gn{K:iL}{k:Nat}{pos:Pos}(a b z TI TO i1 i2:Addr)(D:ZipApart z TI TO i1 i2 a b):Turn P w K (.Tuple es k pos) (Itz K a b) [z,TI,TO,i1,i2] z (λi h=>IsZip h z TI TO .none/\IsPair h TI (.ref i1) (.ref i2)/\(∃ x y,IsPair h TO x y)/\h.IsListIter i1 a i/\h.IsListIter i2 b i) where
  mem:=by simp
  obj:=λi h st c hc=>by
    obtain ⟨hz,hTI,⟨x,y,hTO⟩,⟨o1,e1,c1,d1⟩,⟨o2,e2,c2,d2⟩⟩:=st;have hc':c=z\/c=TI\/c=TO\/c=i1\/c=i2:=by simpa using hc
    rcases hc' with rfl|rfl|rfl|rfl|rfl
    . exact ⟨_,hz,λv q=>by cases q⟩
    . exact ⟨_,hTI,λv q=>by cases q⟩
    . exact ⟨_,hTO,λv q=>by cases q⟩
    . exact ⟨o1,e1,λv q=>by rw [d1] at q; cases q⟩
    . exact ⟨o2,e2,λv q=>by rw [d2] at q; cases q⟩
  keep:=λi h h' st kk=>by
    obtain ⟨hz,hTI,⟨x,y,hTO⟩,h1,h2⟩:=st;exact ⟨kk z (!1) _ hz,kk TI (!1) _ hTI,⟨x,y,kk TO (!1) _ hTO⟩,h1.at λo e=>kk i1 (!1) o e,h2.at λo e=>kk i2 (!1) o e⟩
  item:=by
    intro X hP hw hK hc i pins s σ H E I hf st hg;subst hP hw hK;obtain ⟨xs,ys,x,y,hq1,hq2,hx,hy⟩:=hg;obtain ⟨hz,hTI,⟨a0,b0,hTO⟩,h1,h2⟩:=st;obtain ⟨its1,rv1,p1,hz1⟩:=I.list hq1;obtain ⟨its2,rv2,p2,hz2⟩:=I.list hq2;obtain ⟨u1,hu1,ru1⟩:=rv1.get hx;obtain ⟨u2,hu2,ru2⟩:=rv2.get hy;refine wpAny_pyNext_zip_item D hz hTI hTO h1 h2 p1.isList p2.isList (x:=u1) (y:=u2) (by simpa using hu1) (by simpa using hu2) λh' a1 a2 a3 a4 a5 a6 hk=>?_;refine ⟨_,rfl,?_⟩;have lt:∀ {c o},s.heap.get? c=some o->s.heap.objs.size≠c:=λe=>gW (Heap.lt_size e);refine wpAny_letOwnedTupleGo_zip (s:={ s with heap:=h' }) a1 λh2' hz' hs'=>?_;have hT:H s.heap.objs.size=none:=I.hok.fresh (ag _);have I0:Inv X pins σ (upd H s.heap.objs.size (.tup [x,y])) { s with heap:=s.heap.push { cls:=.type "tuple",data:=.seq #[u1,u2] },toks:=s.toks } :=
      I.laid (t':=s.toks) (λb u e=>Heap.get?_push_of_some _ e) (ag _) ⟨show [x,y].length<=sizeLine from yi (!1),[u1,u2],.cons ru1 (.cons ru2 .nil),⟨_,Heap.get?_push_size _ rfl,rfl,_,rfl⟩⟩
    have hf':∀ c∈[z,TO,i1,i2],FpOk X pins (upd H s.heap.objs.size (.tup [x,y])) c:=λc hc=>by
      have hc2:c∈[z,TI,TO,i1,i2]:=by
        have hc':c=z\/c=TO\/c=i1\/c=i2:=by simpa using hc
        rcases hc' with rfl|rfl|rfl|rfl <;> simp
      obtain ⟨f0,f1,f2,f3,f4,f5⟩:=hf c hc2;have ne:c≠s.heap.objs.size:=by
        have hc':c=z\/c=TO\/c=i1\/c=i2:=by simpa using hc
        rcases hc' with rfl|rfl|rfl|rfl
        . exact (lt hz).symm
        . exact (lt hTO).symm
        . obtain ⟨_,e,_⟩:=h1; exact (lt e).symm
        . obtain ⟨_,e,_⟩:=h2; exact (lt e).symm
      exact ⟨by rw [zm ne]; exact f0,f1,f2,f3,f4,f5⟩
    have I1:=Inv.turnedL (s:={ s with heap:=s.heap.push { cls:=.type "tuple",data:=.seq #[u1,u2] },toks:=s.toks }) (h':=h2') (t':=s.toks) (its:=[z,TO,i1,i2]) I0 (λc o hc e=>by
      have c1:c≠z:=λq=>hc (by simp [q]);have c2:c≠TO:=λq=>hc (by simp [q]);have c3:c≠i1:=λq=>hc (by simp [q]);have c4:c≠i2:=λq=>hc (by simp [q]);refine hs'.extBut _ _ c1 ?_;by_cases hcs:c=s.heap.objs.size
      . subst hcs;have e':some ({ cls:=.type "tuple",data:=.seq #[u1,u2] }:Obj)=some o:=(Heap.get?_push_size s.heap rfl).symm.trans e;rw [<-e'];exact a5
      . refine hk c o c1 c2 c3 c4 ?_;exact w4 hcs e) hf'
    refine ⟨.ref s.heap.objs.size,_,I1,rfl,⟨_,hT,rfl,λxs' ys' q1 q2=>⟨x,y,?_,?_,rfl⟩⟩,⟨hz',?_,⟨_,_,hs'.extBut _ _ D.TOz a2⟩,a3.extBut hs'.extBut D.i1z,a4.extBut hs'.extBut D.i2z⟩,λc hc=>?_⟩
    . rw [I.list_inj q1 hq1]; exact hx
    . rw [I.list_inj q2 hq2]; exact hy
    . exact hs'.extBut _ _ D.TIz (hk _ _ D.TIz D.TITO D.TIi1 D.TIi2 hTI)
    . have ne:c≠s.heap.objs.size:=by
        have hc':c=z\/c=TI\/c=TO\/c=i1\/c=i2:=by simpa using hc
        rcases hc' with rfl|rfl|rfl|rfl|rfl
        . exact (lt hz).symm
        . exact (lt hTI).symm
        . exact (lt hTO).symm
        . obtain ⟨_,e,_⟩:=h1; exact (lt e).symm
        . obtain ⟨_,e,_⟩:=h2; exact (lt e).symm
      rw [zm ne];exact (hf c hc).1
  done:=by
    intro X hP hw hK hc i pins s σ H E I hf st hg;subst hP hw hK;obtain ⟨xs,ys,hq1,hq2,hlen⟩:=hg;obtain ⟨hz,hTI,⟨a0,b0,hTO⟩,h1,h2⟩:=st;obtain ⟨its1,rv1,p1,hz1⟩:=I.list hq1;obtain ⟨its2,rv2,p2,hz2⟩:=I.list hq2;have l1:=rv1.length;have l2:=rv2.length;refine wpAny_pyNext_zip_end (I.ok.hd hc) D hz hTI hTO h1 h2 p1.isList p2.isList ?_ λh' hk=>⟨rfl,I.turnedL (t':=s.toks) (its:=[z,TO,i1,i2]) (λc o hc e=>hk c o (λq=>hc (by simp [q])) (λq=>hc (by simp [q])) (λq=>hc (by simp [q])) (λq=>hc (by simp [q])) e) λc hc=>hf c ?_⟩
    . rcases hlen with h | h
      . exact .inl (by simp; omega)
      . exact .inr (by simp; omega)
    . have hc':c=z\/c=TO\/c=i1\/c=i2:=by simpa using hc
      rcases hc' with rfl|rfl|rfl|rfl <;> simp
  self:=λ_ _ _ _ _ st h=>wpAny_pyIter_zip st.1 h
def iZip(K:iL)(ta:TA):TI:=λσ H R=>ta σ H λvs H1=>∃ a b xs ys,vs=[.ref a,.ref b]/\SqL K H1 a xs/\SqL K H1 b ys/\R (Itz K a b) H1
variable {tpos:Pos}{ta:TA}
theorem Lj{k:Nat}{a b:Expr}{p pos:Pos}(hg:Gl X "zip")(hm:X.mg "zip"=none)(hbz:bootBuiltins "zip"=some (.type "zip"))(ha:PA X [a,b] ta)(hs:starEach [a,b] X.env=[(false,eval a X.env),(false,eval b X.env)]:=by rfl)(hs2:starEach [b] X.env=[(false,eval b X.env)]:=by rfl) :
    PI X (.Tuple es k tpos) (.Call (.Name "zip" p) [a,b] [] pos) (iZip X.K ta):=by
  intro pins s σ H R I h;refine Call_ (wB I hg hm hbz (b7 (thn (ha pos pins s σ H _ I h) λus s1 ⟨vs,H1,I1,r1,q1⟩=>?_) (by rw [hs,hs2]) (by rw [hs2]; rfl)));obtain ⟨l1,l2,xs,ys,e,q1,q2,q⟩:=q1;subst e;cases r1 with
  | cons r rr =>
    cases rr with
    | cons r' rr =>
      cases rr
      cases r
      cases r'
      obtain ⟨its1,rv1,p1,hz1⟩:=I1.list q1;obtain ⟨its2,rv2,p2,hz2⟩:=I1.list q2;have lt1:l1<s1.heap.objs.size:=by obtain ⟨o,_,e,_⟩:=p1; exact Heap.lt_size e
      have lt2:l2<s1.heap.objs.size:=by obtain ⟨o,_,e,_⟩:=p2; exact Heap.lt_size e
      refine call_zip_2 p1.isList p2.isList λh' hz hTI hTO hi1 hi2 hsz hk=>?_;refine wpAny_pyIter_zip (s:={ s1 with heap:=h' }) hz ?_;have D:ZipApart (s1.heap.objs.size+4) (s1.heap.objs.size+2) (s1.heap.objs.size+3) s1.heap.objs.size (s1.heap.objs.size+1) l1 l2 :=
        W.ktu_apart _ _ _ lt1 lt2
      refine ⟨_,[_,_,_,_,_],_,_,H1,rfl,I1.kept (t':=s1.toks) hk,Gn l1 l2 _ _ _ _ _ D,⟨hz,hTI,⟨_,_,hTO⟩,hi1,hi2⟩,λc hc=>?_,q⟩;have hc':c=s1.heap.objs.size+4\/c=s1.heap.objs.size+2\/c=s1.heap.objs.size+3\/c=s1.heap.objs.size\/c=s1.heap.objs.size+1:=by simpa using hc
      have hge:s1.heap.objs.size<=c:=by
        rcases hc' with rfl|rfl|rfl|rfl|rfl
        . exact ck ..
        . exact ck ..
        . exact ck ..
        . exact ag _
        . exact ck ..
      exact I1.fpOk hge (I1.hok.fresh hge)
variable {g:TG}
theorem KZ{K:iL}{σ:St}{E:Ends}{tb:TS}(h:ta σ H λvs H1=>∃ a b xs ys,vs=[.ref a,.ref b]/\SqL K H1 a xs/\SqL K H1 b ys/\∃ W:Nat->Nat->St->Hp->Prop,(∃ m,W 0 m σ H1)/\∀ i m σ H,W i m σ H ->
  ((Itz K a b).stop i H/\E.nx σ H)\/((Itz K a b).go i H/\∃ N:St->Hp->Prop,(∀ σ' H',N σ' H'->∃ m',m'<m/\W (i+1) m' σ' H')/\∀ x H',(Itz K a b).yld i H x H'->g x σ H' λσ2 H2=>tb { E with nx:=N,ct:=N,bk:=E.nx } σ2 H2)) :
  tFor (iZip K ta) g tb E σ H:=h
theorem IF{K:iL}{b:Addr}{xs ys:List V}{tb:TS}{σ:St}(hlen:xs.length=ys.length)(Pv:Nat->St->Hp->Prop)(h0:Pv 0 σ H)(hl:∀ i σ H,i<=xs.length->Pv i σ H->SqL K H a xs/\SqL K H b ys)(hs:∀ i x y T σ H,xs[i]?=some x->ys[i]?=some y->H T=none->Pv i σ H->g (.ref T) σ (upd H T (.tup [x,y])) λσ2 H2=>tb { D with nx:=Pv (i+1),ct:=Pv (i+1),bk:=D.nx } σ2 H2)(hd:∀ σ H,Pv xs.length σ H->D.nx σ H) :
    ∃ W:Nat->Nat->St->Hp->Prop,(∃ m,W 0 m σ H)/\∀ i m σ H,W i m σ H ->
      ((Itz K a b).stop i H/\D.nx σ H)\/((Itz K a b).go i H/\∃ N:St->Hp->Prop,(∀ σ' H',N σ' H'->∃ m',m'<m/\W (i+1) m' σ' H')/\∀ x H',(Itz K a b).yld i H x H'->g x σ H' λσ2 H2=>tb { D with nx:=N,ct:=N,bk:=D.nx } σ2 H2):=by
  refine ⟨λi m σ H=>m=xs.length - i/\i<=xs.length/\Pv i σ H,⟨xs.length,by simp,bJ _,h0⟩,?_⟩;rintro i m σ H ⟨rfl,hi,p⟩;obtain ⟨q1,q2⟩:=hl i σ H hi p;by_cases hlt:i<xs.length
  . have hlt2:i<ys.length:=by omega
    refine .inr ⟨⟨xs,ys,xs[i],ys[i],q1,q2,by simp [hlt],by simp [hlt2]⟩,Pv (i+1),λσ' H' p'=>⟨xs.length - (i+1),by omega,rfl,hlt,p'⟩,λv H' yy=>?_⟩;obtain ⟨T,hT,rfl,yy⟩:=yy;obtain ⟨x,y,hx,hy,rfl⟩:=yy xs ys q1 q2;exact hs i x y T σ H hx hy hT p
  . have e:i=xs.length:=by omega
    subst e;exact .inl ⟨⟨xs,ys,q1,q2,.inl (ag _)⟩,hd σ H p⟩
def JH:V->List V->Hp->VK->Prop:=λx vs H Q=>∃ i:Int,x=.int i/\vs=[]/\Q (.int ((Builtin.Int.intBits i:Nat):Int)) H
theorem Ij:MtR X "int.bit_length" JH:=by
  intro pins s σ H x xs v us Q I rx rv h;obtain ⟨i,rfl,rfl,q⟩:=h;obtain ⟨t,rfl⟩:=rx;have hus:=rv.zero;subst hus;exact call_int_bit_length ⟨.int _,H,I.tok _,⟨_,rfl⟩,q⟩
theorem LN{i:Int}{Q:VK}(q:Q (.int ((Builtin.Int.intBits i:Nat):Int)) H):JH (.int i) [] H Q:=⟨i,rfl,rfl,q⟩
theorem MA{K:iL}{z:Int}{R:Prop}(q:R):tyV K "int" (.int z) H/\R:=⟨rfl,q⟩
theorem Im{k:Nat}{i:Int}(h:Bd k i):¬ ((k:Int)<((Builtin.Int.intBits i:Nat):Int)):=by
  unfold Builtin.Int.intBits;by_cases c:i=0
  . subst c;rw [im (by decide)];omega
  . rw [io (by simpa using c)];have h1:i.natAbs.log2<k:=(hV (!4)).mpr h;omega
variable {x' y y':Int}
theorem Mz{j k:Nat}{d x:Int}(hd:Bd 64 d)(b1:Bd j x)(b2:Bd j y)(b4:Bd k x')(b5:Bd k y')(hk:j+k+65<=8192):Bd 8192 (x*x'+d*y*y') :=
  (Bd.add (k:=64+j+k) ((b1.mul b4).mono (!4)) ((hd.mul b2).mul b5)).mono (!4)
theorem Mm{j k:Nat}{x:Int}(b1:Bd j x)(b2:Bd j y)(b4:Bd k x')(b5:Bd k y')(hk:j+k+65<=8192):Bd 8192 (x*y'+y*x') :=
  (Bd.add (k:=j+k) (b1.mul b5) (b2.mul b4)).mono (!4)
section
variable {g:TG}{tc:TT}{te:TE}{σ0:St}{H1:Hp}{D:Addr}
end
def TopS(mg:Str->Option Value)(x:Str)(z:Str):Prop:=∃ u,mg x=some u/\RelV (.str z) u
variable {x z:Str}{mg:Str->Option Value}
theorem topS_mk{K:iL}{t:Tok}(X:K.In h)(G:h.Ns mainGlobals mg)(e:W.nsIn K mainGlobals x=some (some (.str z t))):TopS mg x z:=⟨_,dF X G e,⟨t,rfl⟩⟩
section
variable {K:iL}{σ:St}{H:Hp}{Q:VK}
end
open Builtin Builtin.Str
section
variable {H:Hp}{Q:VK}
end
open PySem.W PySem.Calls PySem.Builtin PySem.Builtin.ObjectAttr PySem.Builtin.Getset_descriptor
variable {M:Model}
section
variable {prog:Program}{w:World}{A:Around}{E:Value->Shared->Prop}{K:Frag}{x C:Addr}{h:Heap}{g:Array GenState}{d:Drawn}{t:Nat}{os:OsState}
theorem uz{R:Result->Shared->Prop}{tp:Value}(L0:Looks (model prog w) h (typeOf (.ref x)) (.ref C))(L5:Looks (model prog w) h (isSubtype (.ref C) (.type "object")) true)(hR:R (.ok (.ret (.ref C))) ⟨h,g,d,t,os⟩):codeAny (model prog w) A (.call (.builtin "getset_descriptor.__get__") ⟨[.builtin "object.__class__",.ref x,tp],[]⟩) R ⟨h,g,d,t,os⟩:=by
  refine codeAny_call_builtin KF.slot_gs.plain KF.entry_gs (KF.slot_gs.check _ _ _ _ _ _ _ _ KF.type_class (KF.args_gs _ _ _) ?_);unfold Builtin.«getset_descriptor.__get__» descrGet;rw [dga_obj];refine iw (iA ?_);unfold descrGetter descrCheckInstance descrNameAndClass isInstance;simp only [KF.owner_class];repeat lk
  refine ⟨Code.quiet_builtin _ (by decide +kernel),codeAny_builtin KF.entry_class ?_⟩;unfold Builtin.«object.__class__» shownTypeOf;repeat lk
  exact hR
theorem ve{tk:Tok}{Q:Fin->Shared->Prop}(L0:Looks (model prog w) h (typeOf (.ref x)) (.ref C))(L4:Looks (model prog w) h (typeLookup (.ref C) "__class__") (some (.builtin "object.__class__")))(L5:Looks (model prog w) h (isSubtype (.ref C) (.type "object")) true)(hq:Q (.done (.ret (.ref C))) ⟨h,g,d,t,os⟩):wpAny (model prog w) A (Builtin.«object.__getattribute__» ⟨[.ref x,.str "__class__" tk],[]⟩) Q E ⟨h,g,d,t,os⟩:=by
  have f6:=F.slot_gs_get.lookup;have f7:=F.slot_gs_set.lookup;have f5:typeOf (.builtin "object.__class__")=pure (.type "getset_descriptor"):=by kernel_rfl
  repeat (any_goals (first | assumption | (with_reducible refine Looks.at (by assumption) ?_) | wp_step))
  refine uz L0 L5 ?_;repeat (any_goals (first | assumption | wp_step))
theorem FE{nameV:Value}{Q:Unit->Shared->Prop}(L0:Looks M h (typeOf (.ref x)) (.ref C))(L3:Looks M h (isSubtype (.ref C) (.type "BaseException")) true)(hq:Q () ⟨h,g,d,t,os⟩):wpAny M A (checkBuiltinCall "BaseException.__getattribute__" ⟨[.ref x,nameV],[]⟩) Q E ⟨h,g,d,t,os⟩:=by
  have hk:builtinKind "BaseException.__getattribute__"=some .slot:=by decide +kernel
  have hsplit:splitId "BaseException.__getattribute__"=some ("BaseException","__getattribute__"):=by decide +kernel
  have ha:=F.args_bexc_ga (.ref x) nameV;simp only [checkBuiltinCall,hk,hsplit];refine iw ?_;unfold isInstance;repeat (any_goals (first | assumption | (with_reducible refine Looks.at (by assumption) ?_) | wp_step))
theorem EG{Q:Option Value->Shared->Prop}(L0:Looks (model prog w) h (typeOf (.ref x)) (.ref C))(L1:Looks (model prog w) h (typeLookup (.ref C) "__getattribute__") (some (.builtin "BaseException.__getattribute__")))(L2:Looks (model prog w) h (typeLookup (.ref C) "__getattr__") none)(L3:Looks (model prog w) h (isSubtype (.ref C) (.type "BaseException")) true)(L4:Looks (model prog w) h (typeLookup (.ref C) "__class__") (some (.builtin "object.__class__")))(L5:Looks (model prog w) h (isSubtype (.ref C) (.type "object")) true)(hq:Q (some (.ref C)) ⟨h,g,d,t+1,os⟩):wpAny (model prog w) A (getAttr? (.ref x) "__class__") Q E ⟨h,g,d,t,os⟩:=by
  have f3:=fF.ga.bind (.ref x);have hx2:(Value.builtin "BaseException.__getattribute__"==Value.builtin "object.__getattribute__")=false:=by decide +kernel
  have hx1:(onTheHeap (Value.ref C) && Value.builtin "BaseException.__getattribute__"==Value.builtin "object.__getattribute__")=false:=by rw [hx2]; rfl
  unfold getAttr? getAttrBy?;repeat (any_goals (first | assumption | (with_reducible refine Looks.at (by assumption) ?_) | wp_step))
  refine codeAny_call_builtin fF.ga.plain F.entry_bexc_ga (FE L0 L3 (ve L0 L4 L5 ?_));exact iA (iA hq)
end
structure XOk(K:Frag)(C:Addr):Prop where
  ex:excIn K C [.type "ValueError",.type "Exception",.type "BaseException",.type "object"] "ValueError.__new__"=true
  cl:(clsIn K C).isSome=true
  ga:findIn K (.ref C) "__getattribute__"=some (some (.builtin "BaseException.__getattribute__"))
  gr:findIn K (.ref C) "__getattr__"=some none
  be:mroIn K C (.type "BaseException")=some true
  ca:findIn K (.ref C) "__class__"=some (some (.builtin "object.__class__"))
  ob:mroIn K C (.type "object")=some true
def LJ(x C:Addr)(h:Heap):Prop:=∃ o,h.get? x=some o/\o.cls=.ref C
variable {C:Addr}
theorem Bp{K:Frag}{x:Addr}(k:XOk K C):KitX K (.ref x) (.ref C) (LJ x C) where
  ty:=λM h _ p=>by
    obtain ⟨o,ho,hc⟩:=p;exact hc ▸ (Looks.ld ho).andThen .now
  it:=λ_ _ X _=>by
    obtain ⟨cdD,hcD⟩:=dk.mp k.cl;unfold clsIn at hcD;split at hcD
    . rename_i c' d' cd' sl' ho;intro A' Q' E' s' kk q;unfold isType loadHead;exact iw (wpAny_loadPart (kk _ _ (X _ _ ho)) (iA q))
    . cases hcD
  ne:=λh tp dd its n sl X htp=>by
    obtain ⟨cdD,hcD⟩:=dk.mp k.cl;refine Bool.eq_false_iff.mpr λq=>?_;have e:C=tp:=Value.ref.inj (beq_iff_eq.mp q);subst e;unfold clsIn at hcD;split at hcD
    . rename_i c' d' cd' sl' ho;have z:=(X _ _ ho).symm.trans htp;cases z
    . cases hcD
  ca:=λ{prog w A E Q s} X p q=>by
    obtain ⟨h,g,d,t,os⟩:=s;obtain ⟨o,ho,hc⟩:=p;exact EG (hc ▸ (Looks.ld ho).andThen .now) (looks_findIn X k.ga) (looks_findIn X k.gr) (looks_mroIn X k.be) (looks_findIn X k.ca) (looks_mroIn X k.ob) q
structure CXo(P:Program)(w:World)(outer:List Env)(H:Hp)(s:Shared)(a C t:Addr)(H':Hp)(B:Heap)(s':Shared):Prop where
  os:s'.os=s.os
  bare:AllBare s'.gens
  un:Un (frs outer) [] H H' s.heap s'.heap
  keep:∀ b o,s.heap.get? b=some o->H b=none->b∉frs outer->B.get? b=some o
  there:∀ b o,s.heap.get? b=some o->b∉frs outer->∃ o',B.get? b=some o'
  hok:HOk P w H' B
  fly:Heap.FlyingW B outer a (.ref C) (.ref t) s'.heap
def CXe(P:Program)(w:World):CXT:=λouter H s E e s'=>∃ (a C t:Addr) (H':Hp) (B:Heap),e=.ref a/\CXo P w outer H s a C t H' B s'/\E (.ref C) none H'
theorem Ga{pins:List (Addr×Obj)}{σ:St}{s:Shared}(I:Inv X pins σ H s):HOk X.prog X.w H (W.hideAll s.heap (frs X.stack)):=λb u e =>
  (I.hok b u e).stay (λc v hc q=>dN _ q λhm=>by
    have hn:=I.stkFree c hm;rcases hc with z|z
    . rw [z,e] at hn; cases hn
    . rw [z] at hn; cases hn) (λ_ q=>q) λ_ _ q=>q
variable {s':Shared}{E:Value->Shared->Prop}
section
variable {pins:List (Addr×Obj)}{σ:St}{H:Hp}{s:Shared}
theorem Inv.old(I:Inv X pins σ H s){b:Addr}(e:X.s₀.heap.get? b=some o):b≠X.env.locals:=aP (aI (Heap.lt_size e) I.ok.above)
theorem Inv.nostk(I:Inv X pins σ H s){b:Addr}(e:X.s₀.heap.get? b=some o)(hb:b∉X.fs):b∉frs X.stack:=λz=>by
  rcases aU.mp (I.stkSub b z) with q|q
  . exact I.old e q
  . exact hb q
theorem Inv.instk(I:Inv X pins σ H s)(hst:X.stack=X.env::X.outer){b:Addr}(hb:b∈X.fs):b∈frs X.stack:=by
  rw [hst];unfold frs;rw [dO];split
  . exact hb
  . exact az _ hb
theorem Inv.raised(I:Inv X pins σ H s)(hst:X.stack=X.env::X.outer)(hf:X.env.frame=some X.env.locals)(hex:X.ex=[]){e:Addr}{args:List Value}{h1:Heap}(hm:Heap.MadeExcOf s.heap h1 e (.ref C) args){Q:Unit->Shared->Prop}(hQ:∀ h' t B,CXo X.prog X.w X.outer X.H₀ X.s₀ e C t H B { s with heap:=h' }->Q () { s with heap:=h' }):wpAny M X.A (leaving X.env (.ref e)) Q E { s with heap:=h1 }:=by
  have hfr:X.A.frames=some (X.env::X.outer):=by rw [<-hst]; exact I.ok.frames
  have hff:s.heap.FunFrames (W.hideAll s.heap (frs X.stack)) (X.env::X.outer):=by
    have z:=I.stack;rw [hst] at z;exact W.funFrames_hide z λenv he a ha=>by rw [hst]; exact fK.mpr ⟨env,he,ha⟩
  have nx:∀ b,b∉X.ex:=λb=>by rw [hex]; simp
  refine wpAny_leaves_madeW (s:={ s with heap:=h1 }) (base:=W.hideAll s.heap (frs X.stack)) (h:=s.heap) hfr hf (λb o q=>W.of_hideAll _ q) hff hm λh' t x1 x2 x3 x4=>hQ h' t (W.hideAll s.heap (frs X.stack)) ?_;have inB:∀ b o,X.s₀.heap.get? b=some o->X.H₀ b=none->b∉frs X.outer->(W.hideAll s.heap (frs X.stack)).get? b=some o:=λb o q n hb=>dN _ (I.base.keep b o q n hb (nx b)) (I.nostk q hb);have thB:∀ b o,X.s₀.heap.get? b=some o->b∉frs X.outer->∃ o',(W.hideAll s.heap (frs X.stack)).get? b=some o':=λb o q hb=>by
    obtain ⟨o',k⟩:=I.base.there b o q (nx b);exact ⟨o',dN _ k (I.nostk q hb)⟩
  have sl:∀ b o,s.heap.get? b=some o->b∈frs X.outer->∃ sl,h'.get? b=some { o with slots:=sl }:=λb o q hb=>by
    obtain ⟨_,o',e',nd⟩:=I.funs.mem hb;rw [q] at e';cases e'
    exact x4 b o (hm.keeps b o q) nd
  refine ⟨I.os,I.bare,⟨λb o q n hb _=>x1.1 b o (inB b o q n hb),λb o q n hb _=>?_,λb o q n _=>I.base.free b o q n (nx b),λb o q _=>?_,I.base.tups,I.base.frzs,I.base.tbls⟩,inB,thB,Ga I,x1⟩
  . obtain ⟨s1,k⟩:=I.base.slot b o q n hb (nx b);obtain ⟨s2,k2⟩:=sl b _ k hb;exact ⟨s2,k2⟩
  . by_cases hb:b∈frs X.outer
    . obtain ⟨o',k⟩:=I.base.there b o q (nx b);obtain ⟨s2,k2⟩:=sl b _ k hb;exact ⟨_,k2⟩
    . obtain ⟨o',k⟩:=thB b o q hb;exact ⟨o',x1.1 b o' k⟩
theorem Inv.passed(I:Inv X pins σ H s)(hst:X.stack=X.env::X.outer)(hf:X.env.frame=some X.env.locals)(hex:X.ex=[]){t:Addr}{B:Heap}(c:CXo X.prog X.w X.stack H s a C t H' B s'){Q:Unit->Shared->Prop}(hQ:∀ h',CXo X.prog X.w X.outer X.H₀ X.s₀ a C t H' B { s' with heap:=h' }->Q () { s' with heap:=h' }):wpAny M X.A (leaving X.env (.ref a)) Q E s':=by
  have hfr:X.A.frames=some (X.env::X.outer):=by rw [<-hst]; exact I.ok.frames
  have fl:=c.fly;rw [hst] at fl;have nx:∀ b,b∉X.ex:=λb=>by rw [hex]; simp
  refine wpAny_leaves_onW hfr hf fl λh' x1 x4=>hQ h' ?_;have inB:∀ b o,X.s₀.heap.get? b=some o->X.H₀ b=none->b∉frs X.outer->B.get? b=some o:=λb o q n hb=>c.keep b o (I.base.keep b o q n hb (nx b)) (I.base.free b o q n (nx b)) (I.nostk q hb);have thB:∀ b o,X.s₀.heap.get? b=some o->b∉frs X.outer->∃ o',B.get? b=some o':=λb o q hb=>by
    obtain ⟨o',k⟩:=I.base.there b o q (nx b);exact c.there b o' k (I.nostk q hb)
  have sl:∀ b o,s.heap.get? b=some o->b∈frs X.outer->∃ sl,h'.get? b=some { o with slots:=sl }:=λb o q hb=>by
    have hb':=I.instk hst hb;obtain ⟨s1,k1⟩:=c.un.slot b o q (I.stkFree b hb') hb' (!1);have hb2:b∈(X.env::X.outer).filterMap (·.frame):=by rw [<-hst]; exact hb'
    obtain ⟨_,o',e',nd⟩:=fl.2.2.1.mem hb2;rw [k1] at e';cases e'
    obtain ⟨s2,k2⟩:=x4 b _ k1 nd;exact ⟨s2,k2⟩
  refine ⟨c.os.trans I.os,c.bare,⟨λb o q n hb _=>x1.1 b o (inB b o q n hb),λb o q n hb _=>?_,λb o q n _=>?_,λb o q _=>?_,λb xs q=>c.un.tups b xs (I.base.tups b xs q),λb o u q=>c.un.frzs b o u (I.base.frzs b o u q),λb ps q=>?_⟩,inB,thB,c.hok,x1⟩
  . obtain ⟨s1,k⟩:=I.base.slot b o q n hb (nx b);obtain ⟨s2,k2⟩:=sl b _ k hb;exact ⟨s2,k2⟩
  . obtain ⟨o',k⟩:=I.base.there b o q (nx b);exact c.un.free b o' k (I.base.free b o q n (nx b)) (!1)
  . by_cases hb:b∈frs X.outer
    . obtain ⟨o',k⟩:=I.base.there b o q (nx b);obtain ⟨s2,k2⟩:=sl b _ k hb;exact ⟨_,k2⟩
    . obtain ⟨o',k⟩:=thB b o q hb;exact ⟨o',x1.1 b o' k⟩
  . obtain ⟨m1,e1⟩:=I.base.tbls b ps q;obtain ⟨m2,e2⟩:=c.un.tbls b _ e1;exact ⟨m1++m2,by rw [e2,Array.append_assoc]⟩
end
def HC(X:Cx)(E:XK):Prop:=∀ (pins:List (Addr×Obj)) (σ:St) (H:Hp) (s:Shared) (e C:Addr) (args:List Value) (h1:Heap),Inv X pins σ H s->Heap.MadeExcOf s.heap h1 e (.ref C) args->E (.ref C) none H->X.xe (.ref e) { s with heap:=h1 }
section
variable {P:Program}{w:World}{K:iL}{mg:Str->Option Value}{base:Heap}{N:List Str}{qual:Str}{scope:Scope}{f:Addr}{cd:Value}{A:Around}{outer:List Env}{s0:Shared}{H0:Hp}{E:XK}
theorem tM:HC (cxOf (CXe P w) P w K mg base N qual scope f cd A outer s0 H0 E) E:=λpins σ H s e C args h1 I hm hE =>
  I.raised rfl rfl rfl hm λh' t B c=>⟨e,C,t,H,B,rfl,c,hE⟩
theorem vi:yT (CXe P w) (cxOf (CXe P w) P w K mg base N qual scope f cd A outer s0 H0 E) E:=λpins σ H s e s' I h=>by
  obtain ⟨a,C,t,H',B,rfl,c,hE⟩:=h;exact I.passed rfl rfl rfl c λh' c'=>⟨a,C,t,H',B,rfl,c',hE⟩
end
theorem KC:yT (CXe P w) X E0:=λ_ _ _ _ _ _ _ h=>by
  obtain ⟨_,_,_,_,_,_,_,z⟩:=h;exact z.elim
def Kh(C:Addr)(E:XK):TS:=λ_ _ H=>E (.ref C) none H
theorem Fl{K:iL}(k:XOk K C)(X:K.In h):∃ bm N nm q bs hdct sn sub ab col dd k0 k1 k2 k3 k5 mN,h.get? C=some (excClassObj nm q C N bs bm hdct sn sub ab col dd k0 k1 k2 k3 k5 "ValueError.__new__")/\h.Ns N mN/\mN "__init__"=none/\OwnTail h [.type "ValueError",.type "Exception",.type "BaseException",.type "object"] bm:=by
  have q:=k.ex;unfold W.excIn at q;split at q
  . rename_i dd cd sl ho;split at q
    . rename_i C' bm k0 k1 k2 k3 n k5 hm hs;simp only [cK,beq_iff_eq,Bool.not_eq_true'] at q;obtain ⟨⟨⟨⟨⟨rfl,rfl⟩,hdel⟩,ht⟩,hok⟩,hni⟩:=q;obtain ⟨nm,bs,mro,ns,qn,hd,sn,sub,ab,col,del⟩:=cd;dsimp only at hm hdel hok hni;subst hm hdel;have hsl:sl=#[k0,k1,k2,k3,some (.builtin "ValueError.__new__"),k5]:=by
        obtain ⟨l⟩:=sl;simp only at hs;rw [hs]
      subst hsl;exact ⟨bm,ns,nm,qn,bs,hd,sn,sub,ab,col,dd,k0,k1,k2,k3,k5,_,X _ _ ho,.of_isNs (W.isNs_of_in X hok),W.nsMap_none_of_in X hok hni,W.tail_of_in X ht⟩
    . cases q
  . cases q
variable {np:Pos}
theorem Bw{E:XK}{j:Nat}{p1 cpos pos:Pos}(hx:HC X E)(k:XOk X.K C)(hm:X.mg x=some (.ref C))(hg:Gl X x)(hc:X.calm=true)(hd:(x==("__debug__":Str))=false:=by decide) :
    PS X (.Raise (some (.Call (.Name x np) [.Constant (.str z) j p1] [] cpos)) none pos) (Kh C E):=by
  intro pins s σ H D I h;obtain ⟨bm,N,nm,q,bs,hdct,sn,sub,ab,col,dd,k0,k1,k2,k3,k5,mN,hC,hN,hni,T⟩:=Fl k I.kIn;have FB:=PySem.F.excBase_ValueError;refine wpAny_Raise_call_subT (C:=C) (nm:=nm) (q:=q) (N:=N) (bs:=bs) (bm:=bm) (hdct:=hdct) (sn:=sn) (sub:=sub) (ab:=ab) (col:=col) (dd:=dd) (k0:=k0) (k1:=k1) (k2:=k2) (k3:=k3) (k5:=k5)
    FB (mN:=mN) (T.hasType FB.hasBase) (I.ok.hd hc) rfl hni (wo I hg hm ⟨rfl,?_⟩ hd)
  refine Calls.evalArgs_plain (PyProof.Rows.spliced_more (Calls.Constant_str (PyProof.Rows.spliced_none ?_)));have I1:=I.tok (s.toks+1);exact ⟨rfl,show 1<=sizeLine by decide,hC,hN,T,λh' e hm'=>hx pins σ H _ e C _ h' I1 hm' h⟩
def ExcO(a C:Addr):HO:=.ext (LJ a C)
theorem HOk.add{o:HO}(x:HOk P w H h)(hn:H a=none)(new:ObjOk P w (upd H a o) h a o):HOk P w (upd H a o) h:=λb u e=>by
  by_cases hb:b=a
  . subst hb; rw [zk] at e; cases e; exact new
  . rw [zm hb] at e;exact (x b u e).stay (λc v _ q=>q) (λc q=>by rw [zm (zc q hn)]; exact q) λc xs q=>by rw [zm (zc q hn)]; exact q
theorem ObjOk.there{o:HO}(x:ObjOk P w H h a o):∃ u,h.get? a=some u:=by
  cases o with
  | lst xs=>obtain ⟨_,_,_,_,e⟩:=x; exact ⟨_,e⟩
  | tup xs=>obtain ⟨_,_,_,u,e,_⟩:=x; exact ⟨_,e⟩
  | dK kvs=>obtain ⟨_,_,_,_,o,_,_,e,_⟩:=x; exact ⟨_,e⟩
  | dT kvs=>obtain ⟨_,_,_,_,o,_,_,e,_⟩:=x; exact ⟨_,e⟩
  | set S n=>obtain ⟨o,_,_,_,e,_⟩:=x; exact ⟨_,e⟩
  | ins C dx fs=>obtain ⟨_,_,_,e,_⟩:=x; exact ⟨_,e⟩
  | own y=>exact x
  | xd fs=>obtain ⟨_,⟨_,_,_,e,_⟩,_⟩:=x; exact ⟨_,e⟩
  | rng lo hi=>obtain ⟨_,_,_,e⟩:=x; exact ⟨_,e⟩
  | frz ob u=>obtain ⟨e,_⟩:=x; exact ⟨_,e⟩
  | tbl ps=>exact ⟨_,(show h.get? a=some _ from x)⟩
  | met f y=>exact ⟨_,(show h.get? a=some _ from x)⟩
  | ext φ=>obtain ⟨_,e,_⟩:=x; exact e
theorem CXo.free{outer:List Env}{s:Shared}{t:Addr}{B:Heap}(c:CXo P w outer H s a C t H' B s'):H' a=none:=by
  cases q:H' a with
  | none=>rfl
  | some u =>
    obtain ⟨o,e⟩:=(c.hok a u q).there;have:=c.fly.2.1;rw [e] at this;cases this
def Cx.tryc(X:Cx)(pl:List (Addr×Obj))(EE:St->XK):Cx:={ X with pn:=X.pn++pl,xe:=λe s'=>∃ σ H s,Inv X pl σ H s/\CXe X.prog X.w X.stack H s (EE σ) e s' }
def Cx.inx(X:Cx)(a:Addr):Cx:={ X with A:=X.A.mark (some (.ref a)),calm:=false,xe:=λ_ _=>False }
section
variable {pl pins:List (Addr×Obj)}{σ:St}{H:Hp}{s:Shared}{EE:St->XK}{a:Addr}
theorem Cx.Ok.tryc(ok:X.Ok):(X.tryc pl EE).Ok :=
  ⟨ok.mod,ok.kind,ok.glob,ok.blt,ok.above,ok.inj,ok.has,ok.cab,ok.hd,ok.frames,ok.stk,ok.exf,ok.bs,ok.bsz,ok.noex,ok.exfs,ok.funs,ok.frf⟩
theorem Cx.Ok.untry(ok:(X.tryc pl EE).Ok):X.Ok :=
  ⟨ok.mod,ok.kind,ok.glob,ok.blt,ok.above,ok.inj,ok.has,ok.cab,ok.hd,ok.frames,ok.stk,ok.exf,ok.bs,ok.bsz,ok.noex,ok.exfs,ok.funs,ok.frf⟩
theorem Inv.tryc(I:Inv X pl σ H s):Inv (X.tryc pl EE) [] σ H s:=⟨I.ok.tryc,I.os,I.bare,I.base,I.loc,I.cell,I.free,I.freeC,λp hp=>I.pin p (by
  have hp':p∈(X.pn++pl)++[]:=hp;simpa using hp'),I.hok,I.len⟩
theorem Inv.untry(I:Inv (X.tryc pl EE) pins σ H s):Inv X pl σ H s:=⟨I.ok.untry,I.os,I.bare,I.base,I.loc,I.cell,I.free,I.freeC,λp hp=>I.pin p (bP _ hp),I.hok,I.len⟩
theorem Cx.Ok.inx(ok:X.Ok):(X.inx a).Ok :=
  ⟨ok.mod,ok.kind,ok.glob,ok.blt,ok.above,ok.inj,ok.has,ok.cab,λz=>absurd (show false=true from z) aJ,ok.frames,ok.stk,ok.exf,ok.bs,ok.bsz,ok.noex,ok.exfs,ok.funs,ok.frf⟩
theorem Inv.inx(I:Inv X pins σ H s):Inv (X.inx a) pins σ H s:=⟨I.ok.inx,I.os,I.bare,I.base,I.loc,I.cell,I.free,I.freeC,I.pin,I.hok,I.len⟩
theorem Inv.uninx(ok:X.Ok)(I:Inv (X.inx a) pins σ H s):Inv X pins σ H s:=⟨ok,I.os,I.bare,I.base,I.loc,I.cell,I.free,I.freeC,I.pin,I.hok,I.len⟩
theorem Inv.landed(I:Inv X pl σ H s){t:Addr}{B h5:Heap}(c:CXo X.prog X.w X.stack H s a C t H' B s')(hfl:Heap.FlyingW B X.stack a (.ref C) (.ref t) h5)(hsm:s'.heap.UpToSlots h5) : Inv X pl σ H' { s' with heap:=h5 }/\Inv X pl σ (upd H' a (ExcO a C)) { s' with heap:=h5 }:=by
  have hn:=c.free;have sl:∀ b o,s.heap.get? b=some o->H b=none->b∈frs X.stack->∃ sl,h5.get? b=some { o with slots:=sl }:=λb o q n hb=>by
    obtain ⟨s1,k1⟩:=c.un.slot b o q n hb (!1);obtain ⟨_,o',e',nd⟩:=c.fly.2.2.1.mem hb;rw [k1] at e';cases e'
    obtain ⟨s2,k2⟩:=hsm b _ k1 nd;exact ⟨s2,k2⟩
  have th:∀ b o,s.heap.get? b=some o->∃ o',h5.get? b=some o':=λb o q=>by
    by_cases hb:b∈frs X.stack
    . obtain ⟨s1,k1⟩:=sl b o q (I.stkFree b hb) hb;exact ⟨_,k1⟩
    . obtain ⟨o',k⟩:=c.there b o q hb;exact ⟨o',hfl.1 b o' k⟩
  have ne:∀ b o,s.heap.get? b=some o->H b=none->b≠a:=λb o q n z=>by
    by_cases hb:b∈frs X.stack
    . obtain ⟨_,o',e',nd⟩:=hfl.2.2.1.mem hb;obtain ⟨_,_,_,oe,vs,T,oT,ts,he,hcl,hd,_⟩:=hfl;rw [z,he] at e';cases e'
      exact nd vs hd
    . have k:=c.keep b o q n hb;rw [z,c.fly.2.1] at k;cases k
  have ho5:HOk X.prog X.w H' h5:=c.hok.kept hfl.1;constructor
  . exact I.call' (s':={ s' with heap:=h5 }) (ch:=[]) c.os ⟨λb o q n hb _=>hfl.1 b o (c.keep b o q n hb),λb o q n hb _=>sl b o q n hb,c.un.free,λb o q _=>th b o q,c.un.tups,c.un.frzs,c.un.tbls⟩ ho5 c.bare (λb z=>absurd z (!1))
  . refine I.call' (s':={ s' with heap:=h5 }) (ch:=[]) c.os ⟨λb o q n hb _=>hfl.1 b o (c.keep b o q n hb),λb o q n hb _=>sl b o q n hb,λb o q n _=>?_,λb o q _=>th b o q,λb xs q=>?_,λb o u q=>?_,λb ps q=>?_⟩ (ho5.add hn ?_) c.bare (λb z=>absurd z (!1))
    . rw [zm (ne b o q n)];exact c.un.free b o q n (!1)
    . have k:=c.un.tups b xs q;rw [zm (zc k hn)];exact k
    . have k:=c.un.frzs b o u q;rw [zm (zc k hn)];exact k
    . obtain ⟨m,k⟩:=c.un.tbls b ps q;exact ⟨m,by rw [zm (zc k hn)]; exact k⟩
    . obtain ⟨ob,ho,hc⟩:=hfl.there;refine ⟨⟨ob,ho,hc⟩,⟨ob,ho⟩,λh1 h2 p k=>?_⟩;obtain ⟨o,e1,e2⟩:=p;exact ⟨o,k o e1,e2⟩
theorem Inv.gone(I:Inv X pins σ H s)(hN:X.N.Nodup){j:Nat}{n:Str}(hj:X.N[j]?=some n)(hn:X.env.scope.names.lookup n=some .local){A:Around}{pos:Pos}{Q:Unit->Shared->Prop}(h:∀ s',Inv X pins (σ.set j none) H s'->Q () s'):wpAny M A (do bindName X.env n .none; unbindBehindTheSuite X.env n pos) Q E s:=by
  obtain ⟨m,hm,hl⟩:=id I.loc;have hcls:(X.env.scope.kind==.class || (X.env.scope.kind==.module && X.env.locals != X.env.globals))=false:=by rw [I.ok.kind]; rfl
  refine wpAny_nameGoes_keeps hn hm hcls λh' v hn' hs=>?_;have cne:=I.cne;have hjσ:j<σ.length:=by rw [I.len]; exact (af.mp hj).1
  have old:∀ b o,X.s₀.heap.get? b=some o->b≠X.env.locals:=λb o e=>aP (aI (Heap.lt_size e) I.ok.above);refine h _ ⟨I.ok,I.os,I.bare,⟨λb o e n hb hx=>?_,λb o e n hb hx=>?_,I.base.free,λb o e hx=>?_,I.base.tups,I.base.frzs,I.base.tbls⟩,⟨_,hn',λk y v' e1 e2 e3=>?_⟩,λy c e=>?_,I.free,I.freeC,λp hp=>?_,λb ob e=>?_,by simpa using I.len⟩
  . exact (hs.2 b (old b o e)).trans (I.base.keep b o e n hb hx)
  . obtain ⟨sl,e1⟩:=I.base.slot b o e n hb hx;exact ⟨sl,(hs.2 b (old b o e)).trans e1⟩
  . obtain ⟨o',e1⟩:=I.base.there b o e hx;exact ⟨o',(hs.2 b (old b o e)).trans e1⟩
  . by_cases hk:k=j
    . subst hk;rw [eK hjσ] at e2;cases e2
    . rw [fi (bZ hk)] at e2;obtain ⟨u',r',q⟩:=hl k y v' e1 e2 e3;refine ⟨u',r',?_⟩;rcases q with ⟨kk,e⟩|⟨kk,c,e,z⟩
      . refine .inl ⟨kk,?_⟩;have:y≠n:=λe=>hk (uG hN e1 (e ▸ hj));simp [this,e]
      . exact .inr ⟨kk,c,e,z.sameBut hs (cne y c e)⟩
  . obtain ⟨w',z⟩:=I.cell y c e;exact ⟨w',z.sameBut hs (cne y c e)⟩
  . obtain ⟨e,n,ne,nf,d⟩:=I.pin p hp;exact ⟨(hs.2 p.1 ne).trans e,n,ne,nf,d⟩
  . refine (I.hok b ob e).stay (λc w' hc q=>(hs.2 c ?_).trans q) (λ_ q=>q) λ_ _ q=>q;rintro rfl;rcases hc with rfl|hc
    . rw [I.free] at e; cases e
    . rw [I.free] at hc; cases hc
end
theorem Ay{A:Around}{g:Array GenState}{d:Drawn}{t:Nat}{os:OsState}{K:iL}{D:Addr}{b:Bool}{Q:Bool->Shared->Prop}(X:K.In h)(ho:h.get? a=some o)(hc:o.cls=.ref C)(kD:XOk K D)(hm:W.mroIn K C (.ref D)=some b)(hq:Q b ⟨h,g,d,t,os⟩):wpAny M A (excMatches (.ref a) (.ref D)) Q E ⟨h,g,d,t,os⟩:=by
  have L0:PySem.W.Looks M h (typeOf (.ref a)) (.ref C):=hc ▸ (PySem.W.Looks.ld ho).andThen .now;have L1:=W.looks_mroIn (M:=M) X hm;have L2:=W.looks_mroIn (M:=M) X kD.be;obtain ⟨bm,N,nm,q,bs,hdct,sn,sub,ab,col,dd,k0,k1,k2,k3,k5,mN,hD,hN,hni,T⟩:=Fl kD X;have f:=tc_notTuple;unfold excMatches;repeat (any_goals (first | assumption | (with_reducible refine PySem.W.Looks.at (by assumption) ?_) | with_reducible refine wpAny_loadPart_at hD ?_ | wp_step))
  cases b <;> (repeat (any_goals (first | assumption | wp_step)))
def tryD(j:Nat)(D:Ends):Ends:={ nx:=λσ2 H2=>D.nx (σ2.set j none) H2,rt:=D.rt,bk:=λσ2 H2=>D.bk (σ2.set j none) H2,ct:=λσ2 H2=>D.ct (σ2.set j none) H2 }
def tryE(K:iL)(Cy:Addr)(j:Nat)(ts:TS)(D:Ends):St->XK:=λσ' cls _ H'=>∃ C,cls=.ref C/\W.mroIn K C (.ref Cy)=some true/\∀ a,H' a=none->ts (tryD j D) (σ'.set j (some (.ref a))) (upd H' a (ExcO a C))
def tTry(K:iL)(Cy:Addr)(j:Nat)(tb:(St->XK)->TS)(ts:TS):TS:=λD σ H=>tb (tryE K Cy j ts D) D σ H
variable {Cy:Addr}{ts:TS}
theorem MK{K:iL}{j:Nat}{tb:(St->XK)->TS}{σ:St}(h:tb (tryE K Cy j ts D) D σ H):tTry K Cy j tb ts D σ H:=h
theorem GR{K:iL}{j:Nat}{σ:St}{d:Option Addr}(hs:W.mroIn K C (.ref Cy)=some true)(h:∀ a,H a=none->ts (tryD j D) (σ.set j (some (.ref a))) (upd H a (ExcO a C))):tryE K Cy j ts D σ (.ref C) d H:=⟨C,rfl,hs,h⟩
theorem Ky{body suite:List Stmt}{b₀:Stmt}{n:Str}{hpos pos:Pos}{j:Nat}{tb:(St->XK)->TS}(hst:X.stack=X.env::X.outer)(hf:X.env.frame=some X.env.locals)(hN:X.N.Nodup)(hj:X.N[j]?=some n)(hn:X.env.scope.names.lookup n=some .local)(ky:XOk X.K Cy)(hm:X.mg x=some (.ref Cy))(hg:Gl X x)(hb:∀ pl EE,PSs (X.tryc pl EE) body (tb EE))(hs:∀ a,PSs (X.inx a) (b₀::suite) ts)(hd:(x==("__debug__":Str))=false:=by decide) :
    PS X (.Try body [.ExceptHandler (some (.Name x np)) (some n) (b₀::suite) hpos] [] [] pos) (tTry X.K Cy j tb ts):=by
  intro pins s σ H D I h;refine wpAny_Try_except (ip (hb pins _ [] s σ H D I.tryc h) (λf s1 q=>?_) (λe s1 hx=>?_))
  . cases f with
    | next =>
      obtain ⟨σ',H',I',q⟩:=q;exact ir ⟨σ',H',I'.untry,q⟩
    | brk=>obtain ⟨σ',H',I',q⟩:=q; exact ⟨σ',H',I'.untry,q⟩
    | cont=>obtain ⟨σ',H',I',q⟩:=q; exact ⟨σ',H',I'.untry,q⟩
    | ret u=>obtain ⟨v,σ',H',I',r,q⟩:=q; exact ⟨v,σ',H',I'.untry,r,q⟩
  . obtain ⟨σ1,H1,s0,I0,a,C,t,H',B,rfl,c,C',hC',hsub,hh⟩:=hx;have hCC:C'=C:=(Value.ref.inj hC').symm;subst hCC;have hfr:X.A.frames=some (X.env::X.outer):=by rw [<-hst]; exact I0.ok.frames
    have fl:=c.fly;rw [hst] at fl;refine wpAny_looks_onW hfr hf fl λh4 held4 sm4=>?_;refine wpAny_landsW (s:={ s1 with heap:=h4 }) held4 λh5 fl5 sm5=>?_;have fl5':Heap.FlyingW B X.stack a (.ref C') (.ref t) h5:=by rw [hst]; exact fl5
    obtain ⟨I5,_⟩:=I0.landed c fl5' (sm4.trans sm5);have I5x:Inv (X.inx a) pins σ1 H' { s1 with heap:=h5 }:=I5.inx;refine wpAny_handleBy_cons (codeAny_handlers_test (wo (X:=X.inx a) I5x hg hm ?_ hd)) (by intro q; cases q);obtain ⟨ob,ho,hc⟩:=fl5.there;refine Ay (g:=s1.gens) (d:=s1.drawn) (t:=s1.toks) (os:=s1.os) I5.kIn ho hc ky hsub ?_;refine codeAny_handlers_suite_as (lands_againW (s:={ s1 with heap:=h5 }) fl5 λh6 fl6 sm6=>?_);have fl6':Heap.FlyingW B X.stack a (.ref C') (.ref t) h6:=by rw [hst]; exact fl6
    obtain ⟨_,I6⟩:=I0.landed c fl6' ((sm4.trans sm5).trans sm6);refine xH I6 hN hj (.inl hn) (v:=.ref a) (u:=.ref a) rfl (λs7 I7=>?_) (.inr hn);refine ip (hs a pins s7 _ _ _ I7.inx (hh a c.free)) (λf s8 q=>?_) λ_ _ z=>False.elim z;cases f with
    | next =>
      obtain ⟨σ',H8,I8,q⟩:=q;exact (I8.uninx I7.ok).gone hN hj hn λs9 I9=>⟨_,H8,I9,q⟩
    | brk =>
      obtain ⟨σ',H8,I8,q⟩:=q;exact (I8.uninx I7.ok).gone hN hj hn λs9 I9=>⟨_,H8,I9,q⟩
    | cont =>
      obtain ⟨σ',H8,I8,q⟩:=q;exact (I8.uninx I7.ok).gone hN hj hn λs9 I9=>⟨_,H8,I9,q⟩
    | ret u =>
      obtain ⟨v,σ',H8,I8,r,q⟩:=q;exact (I8.uninx I7.ok).gone hN hj hn λs9 I9=>⟨v,_,H8,I9,r,q⟩
def OwnX(P:Program)(w:World)(K:iL)(mg:Str->Option Value)(base:Heap)(k:Nat)(x:Str)(ps:List Str)(dvs:List V)(sp:Sp):Prop :=
  ∃ (f:Addr) (fd:FuncData) (ds:List Value),FnOk P w K mg base (CXe P w) k f fd ps sp/\mg x=some (.ref f)/\W.keepIn K (.ref f)=true/\Binds K fd ps ds/\Vals dvs ds
def HM(sp:Sp)(dvs:List V)(EE:St->XK)(t:TA):TE:=λσ H Q=>t σ H λvs H1=>sp (vs++dvs) H1 Q (EE σ)
variable {sp:Sp}{t:TA}
theorem D3{dvs:List V}{EE:St->XK}{σ:St}{Q:VK}(h:t σ H λvs H1=>sp (vs++dvs) H1 Q (EE σ)):HM sp dvs EE t σ H Q:=h
section
variable {k j:Nat}{x:Str}{ps:List Str}{dvs:List V}{sp:Sp}{p pos:Pos}{e:Expr}{es:List Expr}{t:TA}{E:XK}
theorem Ii(O:OwnX X.prog X.w X.K X.mg X.base k x ps dvs sp)(hr:Room j X.A)(hg:Gl X x)(ha:PA X (e::es) t)(hk:k<=j:=by decide)(hdb:(x==("__debug__":Str))=false:=by decide)(he:starEach (e::es) X.env=(false,eval e X.env)::starEach es X.env:=by rfl)(hpl:(backTo pos (starEach es X.env)).any (·.1)=false:=by rfl) :
    PE X (.Call (.Name x p) (e::es) [] pos) (Dz sp dvs E0 t):=by
  obtain ⟨f,fd,ds,F,hm,kp,hb,hd⟩:=O;exact AS F (hr.mono hk) hg hm kp hb hd KC ha hdb he hpl
theorem AZ(hp:yT (CXe X.prog X.w) X E)(O:OwnX X.prog X.w X.K X.mg X.base k x ps dvs sp)(hr:Room j X.A)(hg:Gl X x)(ha:PA X (e::es) t)(hk:k<=j:=by decide)(hdb:(x==("__debug__":Str))=false:=by decide)(he:starEach (e::es) X.env=(false,eval e X.env)::starEach es X.env:=by rfl)(hpl:(backTo pos (starEach es X.env)).any (·.1)=false:=by rfl) :
    PE X (.Call (.Name x p) (e::es) [] pos) (Dz sp dvs E t):=by
  obtain ⟨f,fd,ds,F,hm,kp,hb,hd⟩:=O;exact AS F (hr.mono hk) hg hm kp hb hd hp ha hdb he hpl
theorem Ff{pl:List (Addr×Obj)}{EE:St->XK}(O:OwnX X.prog X.w X.K X.mg X.base k x ps dvs sp)(hr:Room j X.A)(hg:Gl (X.tryc pl EE) x)(ha:PA (X.tryc pl EE) (e::es) t)(hk:k<=j:=by decide)(hdb:(x==("__debug__":Str))=false:=by decide)(he:starEach (e::es) X.env=(false,eval e X.env)::starEach es X.env:=by rfl)(hpl:(backTo pos (starEach es X.env)).any (·.1)=false:=by rfl) :
    PE (X.tryc pl EE) (.Call (.Name x p) (e::es) [] pos) (HM sp dvs EE t):=by
  obtain ⟨f,fd,ds,F,hm,kp,hb,hd⟩:=O;intro pins s σ H Q I h;refine iF (wo I hg hm ?_ hdb);refine d4 (h₀:=X.base) I.ok.mod.kin kp (thn (ha pos pins s σ H _ I h) λus s1 ⟨vs,H1,I1,r,q⟩=>⟨I1.kIn,?_⟩) he hpl;have r2:Vals (vs++dvs) (us++ds):=r.append hd;have hl:(us++ds).length=ps.length:=by rw [<-r2.length]; exact F.len _ _ _ _ q
  refine wpAny_call (iE (F.run X.A X.stack s1 H1 ⟨us,[]⟩ (us++ds) (vs++dvs) Q (EE σ) (hr.mono hk) I1.env0 (hb s1 us I1.kIn hl) r2 q) λr' s' hq=>?_);cases r' with
  | error e'=>exact ⟨σ,H1,s1,I1.untry,hq⟩
  | ok fl =>
    cases fl with
    | ret u=>exact I1.after hq
    | next=>exact False.elim hq
    | brk=>exact False.elim hq
    | cont=>exact False.elim hq
end
def rIsX(K:iL):List V->Hp->VK->Prop:=λxs H Q=>∃ (a C:Addr) (c:V) (c':Value) (b:Bool),xs=[.ref a,c]/\RelV c c'/\H a=some (ExcO a C)/\XOk K C/\W.kitOne K (.ref C) c'=some b/\Q (.bl b) H
theorem wC:yx X (.builtin "isinstance") (rIsX X.K):=by
  intro pins s σ H xs us Q I r h;obtain ⟨a,C,c,c',b,rfl,rc,ea,k,e,q⟩:=h;obtain ⟨u,v,rfl,ru,rv⟩:=Vals.two r;cases ru
  have hv:v=c':=by
    cases c with
    | non=>exact (show v=_ from rv).trans (show c'=_ from rc).symm
    | bl z=>exact (show v=_ from rv).trans (show c'=_ from rc).symm
    | ref z=>exact (show v=_ from rv).trans (show c'=_ from rc).symm
    | ty z=>exact (show v=_ from rv).trans (show c'=_ from rc).symm
    | int z=>obtain ⟨tk,rfl⟩:=rc; unfold W.kitOne W.kitCls at e; rw [io (by intro z; cases beq_iff_eq.mp z)] at e; cases e
    | str z=>obtain ⟨tk,rfl⟩:=rc; unfold W.kitOne W.kitCls at e; rw [io (by intro z; cases beq_iff_eq.mp z)] at e; cases e
    | byt z=>obtain ⟨tk,rfl⟩:=rc; unfold W.kitOne W.kitCls at e; rw [io (by intro z; cases beq_iff_eq.mp z)] at e; cases e
    | flt z=>obtain ⟨tk,rfl⟩:=rc; unfold W.kitOne W.kitCls at e; rw [io (by intro z; cases beq_iff_eq.mp z)] at e; cases e
  subst hv;obtain ⟨p,_,_⟩:=(show ObjOk X.prog X.w H s.heap a (ExcO a C) from I.hok a _ ea)
  exact b8 (Bp k) I.kIn p e (λz=>nomatch z) λtk=>⟨.bl b,H,I.tok tk,rfl,q⟩
theorem F2{K:iL}{Q:VK}{c:V}{c':Value}{b:Bool}(ea:H a=some (ExcO a C))(k:XOk K C)(rc:RelV c c')(e:W.kitOne K (.ref C) c'=some b)(q:Q (.bl b) H):rIsX K [.ref a,c] H Q:=⟨a,C,c,c',b,rfl,rc,ea,k,e,q⟩
variable {f:Addr}{fd:FuncData}{ps:List Str}{qual:Str}
section
variable {P:Program}{w:World}{K:iL}{mg:Str->Option Value}{base:Heap}
theorem Fun.okX{st:Stmt}{N:List Str}{k:Nat}(F:Fun K x qual st f fd)(S:FnScope N ps (defScope st))(len:∀ vs H Q E,sp vs H Q E->vs.length=ps.length)(hbody:∀ (cdv:Value) (A:Around) (outer:List Env) (s:Shared) (H:Hp) (vs:List V) (Q:VK) (E:XK),Room k (A.deeper (envOfC qual (defScope st) s.heap.objs.size f cdv))->sp vs H Q E ->
      ∃ t,PSs (cxOf (CXe P w) P w K mg base N qual (defScope st) f cdv A outer s H E) (defBody st) t/\t { nx:=λ_ H'=>Q .non H',rt:=Q } (start N vs) H):FnOk P w K mg base (CXe P w) (k+1) f fd ps sp:=by
  obtain ⟨oc,od,kV,doc,pm,an,cdv,ct,osl,rfl,lk,hcd⟩:=F.ex;exact Jg lk hcd S len λA outer s H vs Q E hr hsp=>hbody cdv A outer s H vs Q E hr hsp
theorem Top.ownX{k:Nat}{st:Stmt}(T:Top K mg x st)(hb:∀ (kV doc pm:Value) (an:Option Addr) (cdv ct:Value) (us:List Value),us.length=ps.length->bindArgs (W.fnOf x x (defArgs st) (defBody st) (defScope st) .none kV doc pm an cdv ct) ⟨us,[]⟩=pure (ps.zip us))(h:∀ f fd,Fun K x x st f fd->FnOk P w K mg base (CXe P w) k f fd ps sp):OwnX P w K mg base k x ps [] sp:=by
  obtain ⟨f,fd,F,m⟩:=T;exact ⟨f,fd,[],h f fd F,m,F.kp,F.binds hb,.nil⟩
end
section
variable {pins:List (Addr×Obj)}{σ:St}{H:Hp}{s:Shared}{pos:Pos}
theorem LZ(I:Inv X pins σ H s):sysModules<s.heap.objs.size:=fM (by decide) (show mainGlobals<s.heap.objs.size from (I.mod.glob.keeps I.bk).lt)
theorem dnew(h:Heap)(hb:sysModules<h.objs.size):ObjOk P w H (h.push { cls:=.type "dict",data:=.dict #[] }) h.objs.size (.dK []) :=
  ⟨bJ _,beq_eq_false_iff_ne.mpr (bZ (aP hb)),[],.nil,Heap.DictOf.new h⟩
def GZ:TE:=λ_ H Q=>∀ p H',H p=none->Same H H'->H' p=some (.dK [])->Q (.ref p) H'
theorem B0:PE X (.Dict [] [] pos) GZ:=λpins s σ H Q I h =>
  wpAny_Dict_empty ⟨.ref s.heap.objs.size,_,I.laid (a:=s.heap.objs.size) (o:=.dK []) (t':=s.toks) (λ_ _ q=>Heap.get?_push_of_some _ q) (ag _) (dnew s.heap (LZ I)),rfl,
    h _ _ (I.hok.fresh (ag _)) (zD (I.hok.fresh (ag _)) _) zk⟩
theorem DX{σ:St}{Q:VK}(q:∀ p H',H p=none->Same H H'->H' p=some (.dK [])->Q (.ref p) H'):GZ σ H Q:=q
end
structure WE(X:Cx)(e:Expr)(t:TE):Prop where
  w:PE X e t
structure WA(X:Cx)(es:List Expr)(t:TA):Prop where
  w:PA X es t
structure WS(X:Cx)(st:Stmt)(t:TS):Prop where
  w:PS X st t
structure WSs(X:Cx)(st:List Stmt)(t:TS):Prop where
  w:PSs X st t
def Hs:Expr->Bool
  | .Starred _ _=>true
  | _=>false
variable {e:Expr}
theorem IP{env:Env}(h:Hs e=false):starEach (e::es) env=(false,eval e env)::starEach es env:=by
  cases e <;> first | rfl | exact absurd (show true=false from h) (by decide)
theorem vy{t:TE}(h:PE X e t):WE X e t:=⟨h⟩
theorem wz:WA X [] tNil:=⟨z5⟩
variable {te:TE}
theorem z7(ha:WE X e te)(hr:WA X es t)(h:Hs e=false:=by rfl):WA X (e::es) (uI te t):=⟨zv ha.w hr.w (IP h)⟩
theorem wX{x1:Nat}{pos:Pos}(h:WA X es t):WE X (.Tuple es x1 pos) (tTup t):=⟨zo h.w⟩
theorem Kt{pos:Pos}(h:WA X es t):WE X (.List es pos) (tLst t):=⟨zx h.w⟩
theorem G9{pos:Pos}(he:WE X e te):WS X (.Return (some e) pos) (tRet te):=⟨zi he.w⟩
theorem EH{st:Stmt}{t:TS}(h:WS X st t):WSs X [st] t:=⟨zd h.w⟩
variable {tc:TT}
theorem HR{c:Expr}{a b:List Stmt}{t u:TS}{pos:Pos}(hc:PT X c tc)(ha:WSs X a t)(hb:PSs X b u):PS X (.If c a b pos) (tIfS tc t u):=zu hc ha.w hb
theorem Hk{n:Nat}{b:Addr}{xs ys:List V}{bs:List Bool}{pins:List (Addr×Obj)}{σ:St}{s:Shared}{A:Around}(ha:SqL X.K H a xs)(hb:SqL X.K H b ys)(he:EqVs X n H xs ys bs)(I:Inv X pins σ H s)(hu:A.units+4*(n+1)<cLine) : ∃ (is js:Array Value),s.heap.IsList a is/\s.heap.IsList b js/\is.size=js.size/\(∀ j (h1:j<is.size) (h2:j<js.size),SeqAt.EqAt A.in1 s is[j] js[j] (bs.getD j false))/\((List.range is.size).all (λj=>bs.getD j false))=bs.all id:=by
  obtain ⟨is,r1,p1,_⟩:=I.list ha;obtain ⟨js,r2,p2,_⟩:=I.list hb;obtain ⟨l1,l2⟩:=he.len;have q1:=r1.length;have q2:=r2.length;refine ⟨is.toArray,js.toArray,p1.isList,p2.isList,by rw [aE,aE]; omega,λj h1 h2=>?_,?_⟩
  . have hj1:j<xs.length:=by rw [q1]; simpa using h1
    have hj2:j<ys.length:=by rw [q2]; simpa using h2
    obtain ⟨v,ev,rv⟩:=r1.get (ae hj1);obtain ⟨u,eu,ru⟩:=r2.get (ae hj2);have e1:is.toArray[j]=v:=by
      have:is[j]?=some v:=ev;rw [ae (by simpa using h1)] at this;simpa using ao this
    have e2:js.toArray[j]=u:=by
      have:js[j]?=some u:=eu;rw [ae (by simpa using h2)] at this;simpa using ao this
    rw [e1,e2];exact he.at (ae hj1) (ae hj2) pins σ s v u A.in1 I rv ru (by show A.units+1+4*n<cLine; omega)
  . have e1:is.toArray.size=bs.length:=by rw [aE]; omega
    rw [e1,uE]
def rEqL(X:Cx):R2:=λx y H Q=>∃ a b xs ys bs n,x=.ref a/\y=.ref b/\n<=9/\SqL X.K H a xs/\SqL X.K H b ys/\EqVs X n H xs ys bs/\Q (.bl (bs.all id)) H
theorem HX(hu:X.A.units+64<cLine):OpR X (compareOp .Eq) (rEqL X):=by
  intro pins s σ H x y v u Q I rx ry h;obtain ⟨a,b,xs,ys,bs,n,rfl,rfl,hn,ha,hb,he,q⟩:=h;cases rx
  cases ry
  obtain ⟨is,js,p1,p2,hz,hj,e⟩:=Hk (A:=X.A) ha hb he I (!4);refine SeqAt.eq_listAt p1 p2 hz (!4) hj ?_;rw [e];exact ⟨.bl _,H,I,rfl,q⟩
theorem FD{Q:VK}{b:Addr}(ha:H a=some (.lst (ns.map V.int)))(hb:H b=some (.lst (ns.map V.int)))(q:Q (.bl true) H):rEqL X (.ref a) (.ref b) H Q:=by
  have key:∀ ms:List Int,EqVs X 0 H (ms.map V.int) (ms.map V.int) (ms.map λ_=>true):=by
    intro ms;induction ms with
    | nil=>exact .nil
    | cons m ms ih =>
      have e:EqV X 0 H (.int m) (.int m) true:=by
        have:=EqV.int (X:=X) (n:=0) (H:=H) m m;simpa using this
      exact .cons e ih
  refine ⟨a,b,_,_,_,0,rfl,rfl,bJ _,SqL.of ha,SqL.of hb,key ns,?_⟩;have e:(ns.map λ_=>true).all id=true:=by simp
  rw [e];exact q
structure H5(d N:Int)(H:Hp)(p:Addr)(C:List Cell):Prop where
  l:H p=some (.lst (C.map Cell.v))
  at':∀ c∈C,c.At H
  ok:∀ c∈C,B5 d N c.b
section
variable {M:Model}{A:Around}{E:Value->Shared->Prop}{s:Shared}
end
section
variable {pins:List (Addr×Obj)}{σ:St}{H:Hp}{s:Shared}
end
section
variable {pins:List (Addr×Obj)}{σ:St}{H:Hp}{s:Shared}{scope:Scope}{cl:List (Str×Addr)}{own:List Str}{js:List Nat}{fp:List Addr}{C:Addr}{s3:Shared}{H3:Hp}{E:XK}
end
section
variable {pins:List (Addr×Obj)}{σ:St}{H:Hp}{s:Shared}{scope:Scope}{cl:List (Str×Addr)}{own:List Str}{js:List Nat}{fp:List Addr}{E:XK}
end
variable {d:Addr}
theorem Inv.retrack{pins:List (Addr×Obj)}{σ:St}{s:Shared}{u u':HO}(I:Inv X pins σ H s)(e:H d=some u)(nf:∀ o v,X.H₀ d≠some (.frz o v))(nt:∀ xs,u≠.tup xs)(nb:∀ ps,u≠.tbl ps)(no:∀ y,u≠.own y)(new:ObjOk X.prog X.w H s.heap d u')(no':∀ y,u'≠.own y):Inv X pins σ (upd H d u') s:=by
  have ne:∀ {b},H b=none->b≠d:=λ{b} q z=>by rw [z,e] at q; cases q
  have st:∀ b v,ObjOk X.prog X.w H s.heap b v->ObjOk X.prog X.w (upd H d u') s.heap b v:=λb v x=>x.stay (λc w' _ q=>q)
    (λc q=>by rw [zm (λz=>no _ (by rw [z,e] at q; exact ao q))]; exact q)
    (λc xs q=>by rw [zm (λz=>nt _ (by rw [z,e] at q; exact ao q))]; exact q)
  refine ⟨I.ok,I.os,I.bare,⟨I.base.keep,I.base.slot,λb o q n hx=>?_,I.base.there,λb xs q=>?_,λb o v q=>?_,λb ps q=>?_⟩,I.loc,I.cell,?_,λx c q=>?_,λp hp=>?_,λb v q=>?_,I.len⟩
  . have k:=I.base.free b o q n hx;rw [zm (ne k)];exact k
  . have k:=I.base.tups b xs q;rw [zm (λz=>nt xs (by rw [z,e] at k; exact ao k))];exact k
  . have k:=I.base.frzs b o v q;rw [zm (λz=>nf o v (by rw [<-z]; exact q))];exact k
  . obtain ⟨more,k⟩:=I.base.tbls b ps q;exact ⟨more,by rw [zm (λz=>nb _ (by rw [z,e] at k; exact ao k))]; exact k⟩
  . rw [zm (ne I.free)]; exact I.free
  . rw [zm (ne (I.freeC x c q))]; exact I.freeC x c q
  . obtain ⟨k1,k2,k3⟩:=I.pin p hp;exact ⟨k1,by rw [zm (ne k2)]; exact k2,k3⟩
  . by_cases z:b=d
    . subst z;rw [zk] at q;cases q
      exact st _ _ new
    . rw [zm z] at q;exact st _ _ (I.hok b v q)
def Itd(d:Addr)(ob:Obj)(kvs:List (Key×V)):It :=
  ⟨λi H=>H d=some (.frz ob (.dK kvs))/\i<kvs.length,λi H x H'=>H'=H/\∃ kv,kvs[i]?=some kv/\x=kV kv.1,λi H=>H d=some (.frz ob (.dK kvs))/\kvs.length<=i⟩
theorem Fo{k:Key}{u:Value}(h:(zR P w).is k u=true):RelV (kV k) u:=by
  cases k with
  | inl i =>
    have h:Value.isInt i u=true:=h;unfold Value.isInt at h;split at h
    . exact ⟨_,by rw [show i=_ from (beq_iff_eq.mp h).symm]⟩
    . cases h
  | inr x =>
    have h:Value.isStrOf x u=true:=h;unfold Value.isStrOf at h;split at h
    . exact ⟨_,by rw [show x=_ from (beq_iff_eq.mp h).symm]⟩
    . cases h
variable {kvs:List (Key×V)}{ep:Nat}
theorem BB{ob:Obj}{es:Array DictEntry}(hdat:ob.data=.dict es ep)(ok:HOk P w H h)(e:H d=some (.frz ob (.dK kvs))):∃ vs,KV kvs vs/\h.DictAt (zR P w) d vs ep:=by
  obtain ⟨g,_,_,vs,r,o,es',ep',g',c,dd,r2⟩:=ok d _ e;have:o=ob:=by rw [g] at g'; exact (ao g').symm
  subst this;rw [hdat] at dd;cases dd
  exact ⟨vs,r,o,es,g,c,hdat,r2⟩
theorem DZ{K:iL}(d it:Addr){ob:Obj}{es:Array DictEntry}(hdat:ob.data=.dict es ep):Turn P w K tg (Itd d ob kvs) [it] it (λi h=>h.IsKeyIter it d i kvs.length ep) where
  mem:=by simp
  obj:=λi h st b hb=>by
    have e:b=it:=by simpa using hb
    subst e;obtain ⟨o,e,c,dd⟩:=st;exact ⟨o,e,λv z=>by rw [dd] at z; cases z⟩
  keep:=λi h h' st k=>st.at λo e=>k it (!1) o e
  item:=by
    intro X hP hw hK hc i pins s σ H E I hf st hg;subst hP hw hK;obtain ⟨hfz,hi⟩:=hg;obtain ⟨vs,r,da⟩:=BB hdat I.hok hfz;have hl:=r.length;obtain ⟨f0,f1,f2,f3,f4,f5⟩:=hf it (!1);obtain ⟨⟨k,v⟩,hk⟩:∃ p,vs[i]?=some p:=⟨vs[i]'(!4),by simp⟩
    have hkk:kvs[i]?.map (·.1)=some k:=by
      have:=congrArg (·[i]?) r.keys;simp only [aj,hk] at this;exact this
    obtain ⟨kv,hkv,ekv⟩:∃ kv,kvs[i]?=some kv/\kv.1=k:=by
      cases q:kvs[i]? with
      | none=>rw [q] at hkk; cases hkk
      | some kv=>rw [q] at hkk; exact ⟨kv,rfl,ao hkk⟩
    rw [hl] at st ⊢;refine wpAny_pyNext_dict_item st da hk λkey h' hkey st' sb=>?_;have I1:Inv X pins σ H { s with heap:=h' }:=I.turned (t':=s.toks) (λb o hb e=>(sb.2 b hb).trans e) f0 f1 f3 f4 f5;obtain ⟨o,e,c,dd⟩:=id st';exact ⟨key,rfl,Fz (s:={ s with heap:=h' }) e c dd (by decide) ⟨kV k,H,I1,Fo hkey,⟨rfl,kv,hkv,by rw [ekv]⟩,st',λb hb=>(hf b hb).1⟩⟩
  done:=by
    intro X hP hw hK hc i pins s σ H E I hf st hg;subst hP hw hK;obtain ⟨hfz,hi⟩:=hg;obtain ⟨vs,r,da⟩:=BB hdat I.hok hfz;have hl:=r.length;obtain ⟨f0,f1,f2,f3,f4,f5⟩:=hf it (!1);rw [hl] at st;exact wpAny_pyNext_dict_end (I.ok.hd hc) st da (eR (!4)) λh' eb=>⟨rfl,I.turned (t':=s.toks) (λb o hb e=>eb b o hb e) f0 f1 f3 f4 f5⟩
  self:=λ_ _ _ _ _ st h=>wpAny_pyIter_keyiter st h
def NoFz(H₀:Hp)(d:Addr):Prop:=∀ o v,H₀ d≠some (.frz o v)
def Iy(H₀:Hp)(td:TE):TI:=λσ H R=>td σ H λx H1=>∃ d kvs,x=.ref d/\H1 d=some (.dK kvs)/\∀ ob,NoFz H₀ d->R (Itd d ob kvs) (upd H1 d (.frz ob (.dK kvs)))
theorem Inv.nofrz{pins:List (Addr×Obj)}{σ:St}{s:Shared}(I:Inv X pins σ H s)(e:H d=some (.dK kvs)):∀ o v,X.H₀ d≠some (.frz o v):=λo v q=>by
  have k:=I.base.frzs d o v q;rw [e] at k;cases k
theorem Inv.freeze{pins:List (Addr×Obj)}{σ:St}{s:Shared}{ob:Obj}(I:Inv X pins σ H s)(e:H d=some (.dK kvs))(g:s.heap.get? d=some ob):Inv X pins σ (upd H d (.frz ob (.dK kvs))) s :=
  I.retrack e (I.nofrz e) (λ_ z=>by cases z) (λ_ z=>by cases z) (λ_ z=>by cases z) ⟨g,I.hok d _ e⟩ (λ_ z=>by cases z)
theorem Inv.thaw{pins:List (Addr×Obj)}{σ:St}{s:Shared}{ob:Obj}(I:Inv X pins σ H s)(nf:∀ o v,X.H₀ d≠some (.frz o v))(e:H d=some (.frz ob (.dK kvs))):Inv X pins σ (upd H d (.dK kvs)) s :=
  I.retrack e nf (λ_ z=>by cases z) (λ_ z=>by cases z) (λ_ z=>by cases z) (I.hok d _ e).2 (λ_ z=>by cases z)
theorem IV{td:TE}(hd:PE X e td):PI X tg e (Iy X.H₀ td):=by
  intro pins s σ H R I h;refine thn (hd pins s σ H _ I h) λv s1 ⟨x,H1,I1,r1,q1⟩=>?_;obtain ⟨d,kvs,ex,hq,q⟩:=q1;subst ex;cases r1
  obtain ⟨z,y,vs,r,dof⟩:=id (I1.hok d _ hq);obtain ⟨ep,o,es,ho,r2⟩:=dof.dictAt;obtain ⟨c,hdat,r3⟩:=id r2;refine wpAny_pyIter_dict y ⟨o,es,ho,r2⟩ ?_;have I2:=(I1.kept (h':=s1.heap.push { cls:=.type "dict_keyiterator",data:=.fields #[.ref d,.int 0 0,.int vs.length 0,.int ep 0] }) (t':=s1.toks) λb o e=>Heap.get?_push_of_some _ e).freeze hq (Heap.get?_push_of_some _ ho);refine ⟨s1.heap.objs.size,[s1.heap.objs.size],_,_,_,rfl,I2,DZ d _ hdat,?_,λb hb=>?_,q o (I1.nofrz hq)⟩
  . rw [r.length];exact ⟨_,Heap.get?_push_size _ rfl,rfl,rfl⟩
  . have e:b=s1.heap.objs.size:=by simpa using hb
    subst e;have hn:=I1.hok.fresh (ag s1.heap.objs.size);exact I1.fpOk (ag _) (by rw [zm (λz=>by rw [z,hq] at hn; cases hn)]; exact hn)
def HN(H₀:Hp)(td:TE)(g:TG)(tc:TT)(te:TE)(n:Nat)(js:List Nat):TE:=λσ H Q=>AF (Iy H₀ td) g tc te n js σ H λv H2=>∃ d ob kvs,NoFz H₀ d/\H2 d=some (.frz ob (.dK kvs))/\Q v (upd H2 d (.dK kvs))
theorem FT{elt iter tgt:Expr}{ifs:List Expr}{scope:Scope}{pos:Pos}{td:TE}(own:List Str)(js:List Nat)(hc:X.calm=true)(hi:PI X tgt iter (Iy X.H₀ td))(hg:∀ cl fp C s3 H3,PG (ya X scope cl own js fp C s3 H3) tgt g)(ht:∀ cl fp C s3 H3,PIfs (ya X scope cl own js fp C s3 H3) ifs tc)(he:∀ cl fp C s3 H3,PE (ya X scope cl own js fp C s3 H3) elt te)(hfree':(scope.names.all λy=>y.2 != .free || X.env.scope.names.lookup y.1==some .cell)=true:=by rfl)(hjs':(js.all λj=>scope.names.lookup (X.N.getD j Str.empty)==some .free && X.env.scope.names.lookup (X.N.getD j Str.empty)==some .cell)=true:=by rfl)(hcell':(scope.names.all λy=>y.2 != .cell)=true:=by rfl)(hnames':(scope.names.all λy=>y.2 != .local || scope.names.lookup y.1==some .local)=true:=by rfl)(hkind:scope.kind=.function:=by rfl)(hs:∀ x,foldedSetIterable iter X.env x=pure x:=by intro _; rfl) :
    PE X (.ListComp elt [⟨tgt,iter,ifs,0⟩] scope pos) (HN X.H₀ td g tc te own.length js):=by
  intro pins s σ H Q I h;rw [eval_ListComp];refine BH own js hc hi hg ht he (DS hfree') (JT hjs') (EJ hcell') (BW hnames') hkind hs I h λD H3 H5 σ5 s3 s6 fp cl I3 f3 I6 qn=>?_;obtain ⟨d,ob,kvs,nf,e,qn⟩:=qn;obtain ⟨m,hm,_⟩:=id I6.loc;exact ⟨m,hm,λh' sb=>⟨.ref D,_,(tq I3 f3 I6 sb).thaw nf e,rfl,qn⟩⟩
section
variable {g:TG}{tc:TT}{te:TE}{D:Addr}{H1:Hp}{σ0:St}{Q:VK}
theorem Ew{R:Hp->Prop}{ob:Obj}(Pv:Nat->List V->St->Hp->Prop)(h0:Pv 0 [] σ0 (upd H1 D (.lst [])))(hl:∀ i xs σ H,i<=kvs.length->Pv i xs σ H->H d=some (.frz ob (.dK kvs)))(hs:∀ i kv xs σ H,kvs[i]?=some kv->Pv i xs σ H->g (kV kv.1) σ H λσ3 H3=>tc σ3 H3 λb H4=>if b=true then te σ3 H4 λv H5=>zZ (.ref D) [v] H5 λ_ H6=>ue kvs.length Pv i σ3 H6 else ue kvs.length Pv i σ3 H4)(hd:∀ xs σ H,Pv kvs.length xs σ H->R H) : ∃ W:Nat->Nat->St->Hp->Prop,(∃ m,W 0 m σ0 (upd H1 D (.lst [])))/\∀ i m σ' H',W i m σ' H'->((Itd d ob kvs).stop i H'/\R H')\/((Itd d ob kvs).go i H'/\∀ x H2,(Itd d ob kvs).yld i H' x H2->g x σ' H2 λσ3 H3=>tc σ3 H3 λb H4 =>
      if b=true then te σ3 H4 λv H5=>zZ (.ref D) [v] H5 λ_ H6=>∃ m',m'<m/\W (i+1) m' σ3 H6 else ∃ m',m'<m/\W (i+1) m' σ3 H4):=by
  refine ⟨λi m σ H=>m=kvs.length - i/\i<=kvs.length/\∃ xs,Pv i xs σ H,⟨kvs.length,by simp,bJ _,[],h0⟩,?_⟩;rintro i m σ H ⟨rfl,hi,xs,p⟩;have q:=hl i xs σ H hi p;by_cases hlt:i<kvs.length
  . refine .inr ⟨⟨q,hlt⟩,λx H' y=>?_⟩;obtain ⟨e,kv,hkv,ex⟩:=y;subst e ex;exact hs i kv xs σ _ hkv p
  . have e:i=kvs.length:=by omega
    subst e;exact .inl ⟨⟨q,ag _⟩,hd xs σ H p⟩
theorem IR{H₀:Hp}{td:TE}{σ:St}{n:Nat}{js:List Nat}(h:td σ H λx H1=>∃ d kvs,x=.ref d/\H1 d=some (.dK kvs)/\∀ ob,NoFz H₀ d->∀ D,(upd H1 d (.frz ob (.dK kvs))) D=none->∃ W:Nat->Nat->St->Hp->Prop,(∃ m,W 0 m (vw n js σ) (upd (upd H1 d (.frz ob (.dK kvs))) D (.lst []))) /\
  ∀ i m σ' H',W i m σ' H'->((Itd d ob kvs).stop i H'/\∃ d' ob' kvs',NoFz H₀ d'/\H' d'=some (.frz ob' (.dK kvs'))/\Q (.ref D) (upd H' d' (.dK kvs')))\/((Itd d ob kvs).go i H'/\∀ x H2,(Itd d ob kvs).yld i H' x H2->g x σ' H2 λσ3 H3=>tc σ3 H3 λb H4 =>
    if b=true then te σ3 H4 λv H5=>zZ (.ref D) [v] H5 λ_ H6=>∃ m',m'<m/\W (i+1) m' σ3 H6 else ∃ m',m'<m/\W (i+1) m' σ3 H4)):HN H₀ td g tc te n js σ H Q:=h
end
def OwnM(P:Program)(w:World)(K:iL)(mg:Str->Option Value)(base:Heap)(CX:CXT)(C:Addr)(k:Nat)(m:Str)(ps:List Str)(dvs:List V)(sp:Sp):Prop :=
  ∃ (f:Addr) (fd:FuncData) (ds:List Value),FnOk P w K mg base CX k f fd ps sp/\Cls K C/\Meth K C m f/\Binds K fd ps ds/\Vals dvs ds
def OwnI(P:Program)(w:World)(K:iL)(mg:Str->Option Value)(base:Heap)(CX:CXT)(C:Addr)(k:Nat)(x:Str)(ps:List Str)(dvs:List V)(sp:Sp):Prop :=
  ∃ (f:Addr) (fd:FuncData) (ds:List Value),FnOk P w K mg base CX k f fd ps sp/\Mk K C f/\mg x=some (.ref C)/\Binds K fd ps ds/\Vals dvs ds
section
variable {CX:CXT}{k j:Nat}{C:Addr}{x m:Str}{ps ks:List Str}{dvs:List V}{sp:Sp}{E:XK}{p pos apos:Pos}{e o:Expr}{es:List Expr}{ta:TE}{t tk:TA}{pl:Sem Bool}{kws:List Keyword}{gV:List V->List V->List V}
theorem wQ(O:OwnM X.prog X.w X.K X.mg X.base CX C k m ps dvs sp)(hx:yT CX X E)(hr:Room j X.A)(he:PE X o ta)(ha:PA X (e::es) t)(hk:k<=j:=by decide)(hst:starEach (e::es) X.env=(false,eval e X.env)::starEach es X.env:=by rfl)(hpl:(backTo pos (starEach es X.env)).any (·.1)=false:=by rfl)(ht:eval (.Call (.Attribute o m apos) (e::es) [] pos) X.env=(do
      let ov <-eval o X.env
      standAt apos.atName
      let (f,first) <-holding [ov] (getMethod ov m pl)
      callWith pos f first (backTo pos (starEach (e::es) X.env)) (backToKw pos (keywordEach [] X.env))):=by rfl):PE X (.Call (.Attribute o m apos) (e::es) [] pos) (De C m sp dvs E ta t):=by
  obtain ⟨f,fd,ds,F,c,hm,hb,hd⟩:=O;exact Ji he c hm F (hr.mono hk) hb hd hx ha hst hpl ht
theorem GF(O:OwnM X.prog X.w X.K X.mg X.base CX C k m ps dvs sp)(hx:yT CX X E)(hr:Room j X.A)(he:PE X o ta)(hk:k<=j:=by decide)(ht:eval (.Call (.Attribute o m apos) [] [] pos) X.env=(do
      let ov <-eval o X.env
      standAt apos.atName
      let (f,first) <-holding [ov] (getMethod ov m pl)
      callWith pos f first (backTo pos (starEach [] X.env)) (backToKw pos (keywordEach [] X.env))):=by rfl):PE X (.Call (.Attribute o m apos) [] [] pos) (De C m sp dvs E ta tNil):=by
  obtain ⟨f,fd,ds,F,c,hm,hb,hd⟩:=O;exact Gd he c hm F (hr.mono hk) hb hd hx ht
theorem Jp(O:OwnI X.prog X.w X.K X.mg X.base CX C k x ps dvs sp)(hx:yT CX X E)(hr:Room j X.A)(hg:Gl X x)(ha:PA X (e::es) t)(hk:k+1<=j:=by decide)(hdb:(x==("__debug__":Str))=false:=by decide)(he:starEach (e::es) X.env=(false,eval e X.env)::starEach es X.env:=by rfl)(hpl:(backTo pos (starEach es X.env)).any (·.1)=false:=by rfl):PE X (.Call (.Name x p) (e::es) [] pos) (Ix C sp dvs E t):=by
  obtain ⟨f,fd,ds,F,M,hm,hb,hd⟩:=O;exact IM M F (hr.mono hk) hg hm hb hd hx ha hdb he hpl
end
def TopM(K:iL)(C:Addr)(m qual:Str)(st:Stmt):Prop:=∃ (f:Addr) (fd:FuncData),Fun K m qual st f fd/\Meth K C m f
def TopIn (K:iL) (mg:Str->Option Value) (C:Addr) (x qual:Str) (st:Stmt) (its:List Value):Prop:=∃ (f:Addr) (fd:FuncData),FunD K "__init__" qual st f fd its/\Mk K C f/\mg x=some (.ref C)
section
variable {P:Program}{w:World}{K:iL}{mg:Str->Option Value}{base:Heap}{CX:CXT}{C:Addr}{k:Nat}{x m qual:Str}{st:Stmt}{ps ks:List Str}{dvs:List V}{its ds:List Value}{sp:Sp}
theorem TopM.own(T:TopM K C m qual st)(c:Cls K C)(hb:∀ (kV doc pm:Value) (an:Option Addr) (cdv ct:Value) (us:List Value),us.length=ps.length->bindArgs (W.fnOf m qual (defArgs st) (defBody st) (defScope st) .none kV doc pm an cdv ct) ⟨us,[]⟩=pure (ps.zip us))(h:∀ f fd,Fun K m qual st f fd->FnOk P w K mg base CX k f fd ps sp):OwnM P w K mg base CX C k m ps [] sp:=by
  obtain ⟨f,fd,F,hm⟩:=T;exact ⟨f,fd,[],h f fd F,c,hm,F.binds hb,.nil⟩
theorem TopIn.own(T:TopIn K mg C x qual st its)(hb:∀ (T:Addr) (kV doc pm:Value) (an:Option Addr) (cdv ct:Value) (us:List Value),(us++ds).length=ps.length->∃ k:Option (Array Value)->Sem (List (Str×Value)),
      bindArgs (W.fnOf "__init__" qual (defArgs st) (defBody st) (defScope st) (.ref T) kV doc pm an cdv ct) ⟨us,[]⟩=seqItems? (.ref T) >>= k/\k (some its.toArray)=pure (ps.zip (us++ds)))(hd:Vals dvs ds)(h:∀ f fd,FunD K "__init__" qual st f fd its->FnOk P w K mg base CX k f fd ps sp):OwnI P w K mg base CX C k x ps dvs sp:=by
  obtain ⟨f,fd,F,M,hm⟩:=T;exact ⟨f,fd,ds,h f fd F,M,hm,F.binds hb,hd⟩
end
variable {osl:Array (Option Value)}{an od:Option Addr}{cdv ct doc oc pm:Value}
theorem topM_mk{K:iL}{m:Str}{st:Stmt}{kV:Value}(l:K.lookup f=some ⟨oc,od,.func (W.fnOf m qual (defArgs st) (defBody st) (defScope st) .none kV doc pm an cdv ct),osl⟩)(c:W.codeIn K cdv qual=true)(k:W.keepIn K (.ref f)=true)(a:W.findIn K (.ref C) m=some (some (.ref f)))(n:W.isFn K (.ref f)=true):TopM K C m qual st:=⟨f,_,Hi l c k,⟨a,n,k⟩⟩
variable {its:List Value}
theorem topIn_mk{K:iL}{st:Stmt}{T:Addr}{kV:Value}{n:Nat}{to:Obj}(X:K.In h)(G:h.Ns mainGlobals mg)(l:K.lookup f=some ⟨oc,od,.func (W.fnOf "__init__" qual (defArgs st) (defBody st) (defScope st) (.ref T) kV doc pm an cdv ct),osl⟩)(c:W.codeIn K cdv qual=true)(k:W.keepIn K (.ref f)=true)(t:K.lookup T=some to)(d:to.data=.seq its.toArray n)(m:W.makesIn K C=true)(i:W.findIn K (.ref C) "__init__"=some (some (.ref f)))(nf:W.isFn K (.ref f)=true)(kc:W.keepIn K (.ref C)=true)(a:W.nsIn K mainGlobals x=some (some (.ref C))):TopIn K mg C x qual st its :=
  ⟨f,_,⟨⟨oc,od,T,kV,doc,pm,an,cdv,ct,osl,_,n,rfl,l,c,t,d⟩,k⟩,⟨m,i,nf,kc⟩,dF X G a⟩
section
variable {prog:Program}{w:World}{κ:Type}[DecidableEq κ]{knd:KeyKind prog w κ}{A:Around}{E:Value->Shared->Prop}
theorem xj:entryFor table "dict.update.loop"=some Builtin.«dict.update.loop»:=entryFor_of_tree (by kernel_rfl)
theorem vG:typeLookup (.type "list") "keys"=pure none:=by rw [typeLookup_type,builtinLookup_eq_fast]; kernel_rfl
theorem Aa{s:Shared}{xs:Array Value}{k:Nat}{Q:Option Value->Shared->Prop}(hx:s.heap.get? a=some o)(hc:o.cls=.type "list")(hdat:o.data=.seq xs k)(hd:o.dict=none)(hA:A.handled=none)(q:∀ h' tk e,Heap.NewExcOf s.heap h' e "AttributeError"->Q none { s with heap:=h',toks:=tk }):wpAny (model prog w) A (getAttr? (.ref a) "keys") Q E s:=by
  obtain ⟨c,dct,dat,sl⟩:=o;simp only at hc hdat hd;subst hc hdat hd;obtain ⟨hp,g,d,tk,os⟩:=s;have tT:∀ tk',(⟨hp,g,d,tk',os⟩:Shared).TypeIs (.ref a) "list":=λ_=>⟨_,hx,rfl⟩
  have k1:=sub_AttributeError;have k3:=F.slot_list_getattribute.lookup;have k4:=F.slot_list_getattribute.bind (.ref a);have k5:=am_list_getattr_none;unfold getAttr? getAttrBy? getAttrBy;repeat (any_goals (first | assumption | exact tT _ | ((with_reducible show wpAny _ _ (call (Value.builtin "list.__getattribute__") _ _) _ _ _); refine iI F.slot_list_getattribute (tT _) am_entry_list_getattribute (F.args_list_getattribute_2 _ _) (meets_getattribute_miss_list a xs k sl "keys" _ vG (by decide +kernel)) ⟨hx,hA,λh' tk' e hx'=>?_⟩) | wp_step))
  obtain ⟨t',u',he⟩:=hx'.there;show wpAny _ _ (getattributeRaised _ _ _ _ _ _ _) _ _ _;unfold getattributeRaised;repeat (any_goals (first | assumption | wp_step))
  exact q _ _ _ hx'.of
theorem tR(hh:A.handled=none){R:Result->Shared->Prop}{d it l:Addr}(hdi:d≠it)(hdl:l≠d)(hli:l≠it){items:List Value}{rs:List (κ×Value)}{s0:Shared} (hit0:∀ (i:Nat) (x:Value),items[i]?=some x->∃ (p:Addr) (k:κ) (v key:Value),x=.ref p/\p≠d/\p≠it/\s0.heap.IsTuple p #[key,v]/\rs[i]?=some (k,v)/\knd.is k key=true) (hlen:rs.length=items.length) (hnd:(rs.map (·.1)).Nodup) (hsz:rs.length<=sizeLine) (hl0:s0.heap.IsList l items.toArray) (hR:∀ h' tk,h'.DictOf knd d rs->(∀ b o,b≠it->b≠d->s0.heap.get? b=some o->h'.get? b=some o)->R (.ok (.ret .none)) { s0 with heap:=h',toks:=tk }) :
    ∀ (n i:Nat) (h:Heap) (tk:Nat),items.length=i+n->h.IsListIter it l i->h.DictOf knd d (rs.take i)->(∀ b o,b≠it->b≠d->s0.heap.get? b=some o->h.get? b=some o) ->
      codeAny (model prog w) A (.builtin "dict.update.loop" ⟨[.ref d,.ref it,rawInt i,.none],[]⟩) R { s0 with heap:=h,toks:=tk }
  | 0,i,h,tk,e,hi,hd,hk=>by
    have hl:h.IsList l items.toArray:=by
      obtain ⟨o,g,c⟩:=hl0;exact ⟨o,hk l o hli hdl g,c⟩
    refine codeAny_builtin xj ?_;unfold Builtin.«dict.update.loop»;refine iw (wpAny_pyNext_list_end (A:=A.under _) hh hi hl (by simp; omega) λh' eb=>?_);have hd':h'.DictOf knd d rs:=by
      have:=hd.extBut eb hdi
      rwa [cN (!4)] at this
    exact iw (iA (iA (hR h' tk hd' λb o n1 n2 g=>eb b o n1 (hk b o n1 n2 g))))
  | n+1,i,h,tk,e,hi,hd,hk=>by
    have hl:h.IsList l items.toArray:=by
      obtain ⟨o,g,c⟩:=hl0;exact ⟨o,hk l o hli hdl g,c⟩
    obtain ⟨x,hx⟩:∃ x,items[i]?=some x:=⟨items[i]'(!4),by simp⟩
    obtain ⟨p,k,v,key,rfl,np,npi,⟨o,go,oc,m,od⟩,hr,hkey⟩:=hit0 i x hx;refine codeAny_builtin xj ?_;unfold Builtin.«dict.update.loop»;refine iw (wpAny_pyNext_list_item hi hl (by simpa using hx) λh' hi' sb=>?_);have gp:h'.get? p=some o:=(sb.2 p npi).trans (hk p o npi np go);refine iw (iG ?_);refine iw (wpAny_tryCatch ?_);unfold Builtin.Dict.pairItems;refine iw (iH (s:={ s0 with heap:=h',toks:=tk }) (T:="tuple") ⟨o,gp,oc⟩ ?_);rw [im (by decide)];refine iw (wpAny_seqItems (s:={ s0 with heap:=h',toks:=tk }) gp od (iA ?_));show wpAny _ _ (holding [key,v] (dictSet d key v)) _ _ _;refine iG (wpAny_dictSet_pairs (s:={ s0 with heap:=h',toks:=tk }) (hsz:=by rw [aZ]; omega) hkey (hd.sameBut sb hdi) λh2 hd2 sb2=>?_);refine iA ⟨Code.quiet_builtin _ (by decide +kernel),?_⟩;have est:stored (rs.take i) k v=rs.take (i+1):=by
      rw [dq,hr];unfold stored;rw [io]
      . rfl
      . intro z;obtain ⟨y,hy,ey⟩:=List.any_eq_true.mp z;have ey:y.1=k:=of_decide_eq_true ey;obtain ⟨j,hj,rfl⟩:=List.getElem_of_mem hy;rw [aZ] at hj;have hi2:=(af.mp hr)
        obtain ⟨hi3,hi4⟩:=hi2;refine gf.mp hnd j i (by rw [aa]; omega) (by rw [aa]; omega) (!4) ?_;simp only [dM];rw [hi4];simpa using ey
    rw [est] at hd2;have:=tR hh hdi hdl hli hit0 hlen hnd hsz hl0 hR n (i+1) h2 (tk+1) (!4) (hi'.at λo g=>(sb2.2 it (bZ hdi)).trans g) hd2 λb o n1 n2 g=>(sb2.2 b n2).trans ((sb.2 b n1).trans (hk b o n1 n2 g));exact this
theorem wU{s:Shared}{Q:Value->Shared->Prop}{l:Addr}{ol:Obj}{n:Nat}{items:List Value}{rs:List (κ×Value)}(hh:A.handled=none)(hl:s.heap.get? l=some ol)(hc:ol.cls=.type "list")(hdat:ol.data=.seq items.toArray n)(hdd:ol.dict=none)(hit0:∀ (i:Nat) (x:Value),items[i]?=some x->∃ (p:Addr) (k:κ) (v key:Value),x=.ref p/\s.heap.IsTuple p #[key,v]/\rs[i]?=some (k,v)/\knd.is k key=true)(hlen:rs.length=items.length)(hnd:(rs.map (·.1)).Nodup)(hsz:rs.length<=sizeLine)(q:∀ h' tk,h'.DictOf knd s.heap.objs.size rs->(∀ b o,s.heap.get? b=some o->h'.get? b=some o)->Q (.ref s.heap.objs.size) { s with heap:=h',toks:=tk }) :
    wpAny (model prog w) A (call (.type "dict") [.ref l]) Q E s:=by
  refine callType_codes (Q₁:=λobj s₁=>obj=.ref s.heap.objs.size/\s₁={ s with heap:=s.heap.push { cls:=.type "dict",data:=.dict #[] } }) F.kt_called_dict (F.kt_typeCall_dict_1 _) F.entry_dict_init (kt_code_dict_new _ ⟨rfl,rfl⟩) ?_;rintro obj s₁ ⟨rfl,rfl⟩;have hnew:(s.heap.push { cls:=.type "dict",data:=.dict #[] }).DictOf knd s.heap.objs.size []:=Heap.DictOf.new s.heap;have hl1:=Heap.get?_push_of_some { cls:=.type "dict",data:=.dict #[] } hl;refine ⟨hnew.typeIs,F.args_dict_init_2 _ _,?_⟩;unfold Builtin.«dict.__init__»;refine iw ?_;unfold Builtin.Dict.selfAndRest;refine iw (wpAny_notOrdered_dict hnew.typeIs ?_);show wpAny _ _ (pure (s.heap.objs.size,[Value.ref l])) _ _ _;refine iA ?_;show wpAny _ _ (Builtin.Dict.updateFrom "dict.__init__" s.heap.objs.size (.ref l) [] .none) _ _ _;unfold Builtin.Dict.updateFrom;refine iw (iH (s:={ s with heap:=s.heap.push { cls:=.type "dict",data:=.dict #[] } }) (T:="list") ⟨ol,hl1,hc⟩ ?_);rw [im (by decide)];refine iw (Aa (s:={ s with heap:=s.heap.push { cls:=.type "dict",data:=.dict #[] } }) hl1 hc hdat hdd (show A.in1.in1.handled=none from hh) λh1 tk1 e1 new=>?_);simp only [Option.isNone_none,if_true];have kp:∀ b o,(s.heap.push { cls:=.type "dict",data:=.dict #[] }).get? b=some o->h1.get? b=some o:=new.keeps;have hl2:=kp _ _ hl1;refine iw (wpAny_rule ?_);refine iw (iD (s:={ s with heap:=h1,toks:=tk1 }) ⟨ol,hl2,hc,n,hdat⟩ ?_);refine iA ⟨Code.quiet_builtin _ (by decide +kernel),?_⟩;have lt:∀ {b o},s.heap.get? b=some o->b<s.heap.objs.size:=λg=>Heap.lt_size g;obtain ⟨od,_,_,god,_⟩:=id hnew;have ltd:s.heap.objs.size<h1.objs.size:=Heap.lt_size (kp _ _ god);have up:∀ b o,s.heap.get? b=some o->(h1.push { cls:=.type "list_iterator",data:=.fields #[.ref l,.int 0 0] }).get? b=some o:=λb o g=>Heap.get?_push_of_some _ (kp b o (Heap.get?_push_of_some _ g));have hd0:(h1.push { cls:=.type "list_iterator",data:=.fields #[.ref l,.int 0 0] }).DictOf knd s.heap.objs.size (rs.take 0):=by
    obtain ⟨o,es,ep,g,r⟩:=hnew;exact ⟨o,es,ep,Heap.get?_push_of_some _ (kp _ _ g),r⟩
  refine tR (s0:={ s with heap:=h1.push { cls:=.type "list_iterator",data:=.fields #[.ref l,.int 0 0] },toks:=tk1 }) (A:=A.in1) (show A.in1.handled=none from hh) (d:=s.heap.objs.size) (it:=h1.objs.size) (l:=l) (aP ltd) (aP (lt hl)) (aP (fM (lt hl) ltd)) (items:=items) (rs:=rs) (λi x hx=>?_) hlen hnd hsz ⟨ol,up _ _ hl,hc,n,hdat⟩ (λh' tk dd kk=>⟨rfl,?_⟩) items.length 0 _ tk1 (!1) ⟨_,Heap.get?_push_size _ rfl,rfl,rfl⟩ hd0 λb o _ _ g=>g
  . obtain ⟨p,k,v,key,e,⟨o,g,c⟩,r,hk⟩:=hit0 i x hx;exact ⟨p,k,v,key,e,aP (lt g),aP (fM (lt g) ltd),⟨o,up _ _ g,c⟩,r,hk⟩
  . exact q h' tk dd λb o g=>kk b o (aP (fM (lt g) ltd)) (aP (lt g)) (up b o g)
end
def HJ:List V->Hp->VK->Prop:=λxs H Q=>∃ (l:Addr) (ps:List Addr) (kvs:List (Key×V)),xs=[.ref l]/\H l=some (.lst (ps.map V.ref))/\ps.length=kvs.length/\(∀ (i:Nat) (p:Addr) (kv:Key×V),ps[i]?=some p->kvs[i]?=some kv->H p=some (.tup [kV kv.1,kv.2]))/\(kvs.map (·.1)).Nodup/\kvs.length<=sizeLine/\∀ p,H p=none->Q (.ref p) (upd H p (.dK kvs))
theorem BG{P:Program}{w:World}{H:Hp}{h:Heap}(ok:HOk P w H h):∀ {ps:List Addr} {kvs:List (Key×V)},ps.length=kvs.length->(∀ (i:Nat) (p:Addr) (kv:Key×V),ps[i]?=some p->kvs[i]?=some kv->H p=some (.tup [kV kv.1,kv.2])) -> ∃ rs:List (Key×Value),KV kvs rs/\∀ (i:Nat) (x:Value),(ps.map Value.ref)[i]?=some x->∃ (p:Addr) (k:Key) (v key:Value),x=.ref p/\h.IsTuple p #[key,v]/\rs[i]?=some (k,v)/\(zR P w).is k key=true
  | [],[],_,_=>⟨[],.nil,λi x e=>by simp at e⟩
  | [],_::_,e,_=>by cases e
  | _::_,[],e,_=>by cases e
  | p::ps,kv::kvs,e,hp=>by
    obtain ⟨rs,r,hr⟩:=BG ok (ps:=ps) (kvs:=kvs) (by simpa using e) λi p' kv' h1 h2=>hp (i+1) p' kv' h1 h2;obtain ⟨_,its,rv,tp⟩:=ok p _ (hp 0 p kv rfl rfl);obtain ⟨key,v,rfl,rk,rv⟩:=Vals.two rv;refine ⟨(kv.1,v)::rs,.cons ⟨rfl,rv⟩ r,λi x hx=>?_⟩;cases i with
    | zero =>
      have:x=.ref p:=(ao hx).symm;subst this;exact ⟨p,kv.1,v,key,rfl,tp,rfl,CQ rk⟩
    | succ i=>exact hr i x hx
theorem Es:∀ {ps:List Addr} {its:List Value},Vals (ps.map V.ref) its->its=ps.map Value.ref
  | [],_,r=>by cases r; rfl
  | p::ps,_,r=>by
    cases r with
    | cons r1 r2 =>
      cases r1
      rw [Es r2];rfl
theorem vO(hc:X.calm=true):yx X (.type "dict") HJ:=by
  intro pins s σ H xs us Q I r h;obtain ⟨l,ps,kvs,rfl,el,hlen,hps,hnd,hsz,q⟩:=h;obtain ⟨u,rfl,ru⟩:=Vals.one r;cases ru
  obtain ⟨_,its,n,rv,gl⟩:=id (I.hok l _ el);have:=Es rv;subst this;obtain ⟨rs,rr,hr⟩:=BG I.hok hlen hps;have hl:=rr.length;refine wU (I.ok.hd hc) gl rfl rfl rfl hr (by rw [aa]; omega) (by rw [<-rr.keys]; exact hnd) (!4) λh' tk dd kk=>?_;refine ⟨.ref s.heap.objs.size,_,I.laid (a:=s.heap.objs.size) (o:=.dK kvs) (t':=tk) kk (ag _) (Fe hsz (beq_eq_false_iff_ne.mpr (bZ (aP I.big))) rr dd),rfl,q _ (I.hok.fresh (ag _))⟩
section
variable {prog:Program}{w:World}{κ:Type}[DecidableEq κ]{knd:KeyKind prog w κ}{A:Around}{E:Value->Shared->Prop}
theorem ui:typeLookup (.type "dict") "__len__"=pure (some (.builtin "dict.__len__")):=by rw [typeLookup_type,builtinLookup_eq_fast]; kernel_rfl
theorem vX:∀ {l:List Value} {ns:List Int},l.length=ns.length->(∀ (j:Nat) (v:Value) (n:Int),l[j]?=some v->ns[j]?=some n->∃ t,v=.int n t)->IntsAre l ns
  | [],[],_,_=>.nil
  | [],_::_,e,_=>by cases e
  | _::_,[],e,_=>by cases e
  | v::l,n::ns,e,h=>by
    obtain ⟨t,rfl⟩:=h 0 v n rfl rfl;exact .cons n t (vX (by simpa using e) λj v' n' h1 h2=>h (j+1) v' n' h1 h2)
theorem uF{kvs:List (Key×Value)}{acc:Array Value}(hk:kvs.map (·.1)=ns.map Sum.inl)(h:ItemsOf (λi v=>∃ k x,kvs[i]?=some (k,x)/\(zR prog w).is k v=true) acc kvs.length):IntsAre acc.toList ns:=by
  have hl:kvs.length=ns.length:=by
    have:=congrArg List.length hk
    rwa [aa,aa] at this
  refine vX (by rw [dP,h.1,hl]) λj v n h1 h2=>?_;obtain ⟨k,x,e1,e2⟩:=h.2 j v (by rw [<-Array.getElem?_toList]; exact h1);have:k=.inl n:=by
    have z:=congrArg (·[j]?) hk;simp only [aj,e1,h2,dA,Option.some.injEq] at z;exact z
  subst this;exact Fo e2
end
theorem xf:∀ {vs:List Value} {ns:List Int},IntsAre vs ns->Vals (ns.map V.int) vs
  | _,_,.nil=>.nil
  | _,_,.cons n t r=>.cons ⟨t,rfl⟩ (xf r)
def Ite(K:iL)(a:Addr):It :=
  ⟨λi H=>∃ xs x,SqL K H a xs/\xs[i]?=some x,
   λi H v H'=>∃ T,H T=none/\v=.ref T/\∀ xs,SqL K H a xs->∃ x,xs[i]?=some x/\H'=upd H T (.tup [.int (i:Int),x]),
   λi H=>∃ xs,SqL K H a xs/\xs.length<=i⟩
theorem Ed{K:iL}{k:Nat}{pos:Pos}(a e it:Addr)(ne:e≠it):Turn P w K (.Tuple es k pos) (Ite K a) [e,it] e (λi h=>(∃ old,IsEnum h e it (i:Int) old)/\h.IsListIter it a i) where
  mem:=by simp
  obj:=λi h st c hc=>by
    obtain ⟨⟨old,he⟩,⟨o1,e1,c1,d1⟩⟩:=st;have hc':c=e\/c=it:=by simpa using hc
    rcases hc' with rfl|rfl
    . exact ⟨_,he,λv q=>by cases q⟩
    . exact ⟨o1,e1,λv q=>by rw [d1] at q; cases q⟩
  keep:=λi h h' st kk=>by
    obtain ⟨⟨old,he⟩,h1⟩:=st;exact ⟨⟨old,kk e (!1) _ he⟩,h1.at λo q=>kk it (!1) o q⟩
  item:=by
    intro X hP hw hK hc i pins s σ H E I hf st hg;subst hP hw hK;obtain ⟨xs,x,hq,hx⟩:=hg;obtain ⟨⟨old,he⟩,h1⟩:=st;obtain ⟨its,rv,p1,hz1⟩:=I.list hq;obtain ⟨u,hu,ru⟩:=rv.get hx;refine wpAny_pyNext_enum_item he h1 p1.isList (x:=u) (by simpa using hu) ne λh' a1 a2 a3 a4 hk=>?_;refine ⟨_,rfl,?_⟩;have lt:∀ {c o},s.heap.get? c=some o->s.heap.objs.size≠c:=λq=>gW (Heap.lt_size q);refine wpAny_letOwnedTupleGo_enum (s:={ s with heap:=h',toks:=s.toks+1 }) a1 λh2' he' hs'=>?_;have hs':Heap.SameBut e h' h2':=hs';have hT:H s.heap.objs.size=none:=I.hok.fresh (ag _);have I0:Inv X pins σ (upd H s.heap.objs.size (.tup [.int (i:Int),x])) { s with heap:=s.heap.push { cls:=.type "tuple",data:=.seq #[.int (i:Int) s.toks,u] },toks:=s.toks+1 } :=
      I.laid (t':=s.toks+1) (λb u e=>Heap.get?_push_of_some _ e) (ag _) ⟨show [V.int (i:Int),x].length<=sizeLine from yi (!1),[.int (i:Int) s.toks,u],.cons ⟨_,rfl⟩ (.cons ru .nil),⟨_,Heap.get?_push_size _ rfl,rfl,_,rfl⟩⟩
    have hne:∀ c∈[e,it],c≠s.heap.objs.size:=λc hc=>by
      have hc':c=e\/c=it:=by simpa using hc
      rcases hc' with rfl|rfl
      . exact (lt he).symm
      . obtain ⟨_,q,_⟩:=h1; exact (lt q).symm
    have hf':∀ c∈[e,it],FpOk X pins (upd H s.heap.objs.size (.tup [.int (i:Int),x])) c:=λc hc=>by
      obtain ⟨f0,f1,f2,f3,f4,f5⟩:=hf c hc;exact ⟨by rw [zm (hne c hc)]; exact f0,f1,f2,f3,f4,f5⟩
    have I1:=Inv.turnedL (s:={ s with heap:=s.heap.push { cls:=.type "tuple",data:=.seq #[.int (i:Int) s.toks,u] },toks:=s.toks+1 }) (h':=h2') (t':=s.toks+1) (its:=[e,it]) I0 (λc o hc q=>by
      have c1:c≠e:=λq=>hc (by simp [q]);have c3:c≠it:=λq=>hc (by simp [q]);refine hs'.extBut _ _ c1 ?_;by_cases hcs:c=s.heap.objs.size
      . subst hcs;have e':some ({ cls:=.type "tuple",data:=.seq #[.int (i:Int) s.toks,u] }:Obj)=some o:=(Heap.get?_push_size s.heap rfl).symm.trans q;rw [<-e'];exact a3
      . exact hk c o c1 c3 (w4 hcs q)) hf'
    refine ⟨.ref s.heap.objs.size,_,I1,rfl,⟨_,hT,rfl,λxs' q1=>⟨x,by rw [I.list_inj q1 hq]; exact hx,rfl⟩⟩,⟨⟨_,by simpa using he'⟩,a2.extBut hs'.extBut (bZ ne)⟩,λc hc=>?_⟩;rw [zm (hne c hc)];exact (hf c hc).1
  done:=by
    intro X hP hw hK hc i pins s σ H E I hf st hg;subst hP hw hK;obtain ⟨xs,hq,hx⟩:=hg;obtain ⟨⟨old,he⟩,h1⟩:=st;obtain ⟨its,rv,p1,hz1⟩:=I.list hq;have l1:=rv.length;obtain ⟨f0,f1,f2,f3,f4,f5⟩:=hf it (!1);refine wpAny_pyNext_enum_end (I.ok.hd hc) he h1 p1.isList (by simp; omega) λh' hk=>⟨rfl,I.turned (t':=s.toks) (it:=it) (λc o hc q=>hk c o hc q) f0 f1 f3 f4 f5⟩
  self:=λ_ _ _ _ _ st h=>by
    obtain ⟨⟨old,he⟩,_⟩:=st;exact wpAny_pyIter_enum he h
def Itv(K:iL)(a:Addr)(n:Nat):It :=
  ⟨λi H=>i<n/\∃ xs x,SqL K H a xs/\xs[n - 1 - i]?=some x,λi H x H'=>H'=H/\∀ xs,SqL K H a xs->xs[n - 1 - i]?=some x,λi _=>i=n⟩
theorem D6{K:iL}(a it:Addr)(n:Nat):Turn P w K tg (Itv K a n) [it] it (λi h=>h.IsRevIter it a ((n:Int) - 1 - (i:Int))) where
  mem:=by simp
  obj:=λi h st b hb=>by
    have e:b=it:=by simpa using hb
    subst e;obtain ⟨o,e,c,d⟩:=st;exact ⟨o,e,λv z=>by rw [d] at z; cases z⟩
  keep:=λi h h' st k=>st.at λo e=>k it (!1) o e
  item:=by
    intro X hP hw hK hc i pins s σ H E I hf st hg;subst hP hw hK;obtain ⟨hi,xs,x,hq,hx⟩:=hg;obtain ⟨its,rv,p,hz⟩:=I.list hq;obtain ⟨u,hu,ru⟩:=rv.get hx;obtain ⟨f0,f1,f2,f3,f4,f5⟩:=hf it (!1);have e1:(n:Int) - 1 - (i:Int)=((n - 1 - i:Nat):Int):=by omega
    rw [e1] at st;refine wpAny_pyNext_rev_item st p.isList (x:=u) (by simpa using hu) λh' st' sb=>?_;have I1:Inv X pins σ H { s with heap:=h' }:=I.turned (t':=s.toks) (λb o hb e=>(sb.2 b hb).trans e) f0 f1 f3 f4 f5;obtain ⟨o,e,c,d⟩:=id st';have e2:((n - 1 - i:Nat):Int) - 1=(n:Int) - 1 - ((i+1:Nat):Int):=by omega
    rw [e2] at st';exact ⟨u,rfl,Fz (s:={ s with heap:=h' }) e c d (by decide) ⟨x,H,I1,ru,⟨rfl,λys hy=>by rw [I.list_inj hy hq]; exact hx⟩,st',λb hb=>(hf b hb).1⟩⟩
  done:=by
    intro X hP hw hK hc i pins s σ H E I hf st hg;subst hP hw hK;have hg:i=n:=hg;subst hg;obtain ⟨f0,f1,f2,f3,f4,f5⟩:=hf it (!1);have e1:(i:Int) - 1 - (i:Int)=-1:=by omega
    rw [e1] at st;exact wpAny_pyNext_rev_end (I.ok.hd hc) st λh' hk=>⟨rfl,I.turned (t':=s.toks) (it:=it) (λc o hc q=>hk c o hc q) f0 f1 f3 f4 f5⟩
  self:=λ_ _ _ _ _ st h=>wpAny_pyIter_revIter st h
theorem vE:bootBuiltins "enumerate"=some (.type "enumerate"):=by first | rfl | decide +kernel
def Kj(K:iL)(ta:TA):TI:=λσ H R=>ta σ H λvs H1=>∃ a xs,vs=[.ref a]/\SqL K H1 a xs/\R (Ite K a) H1
theorem uh{k:Nat}{a:Expr}{p pos:Pos}(hg:Gl X "enumerate")(hm:X.mg "enumerate"=none)(ha:PA X [a] ta)(hs:starEach [a] X.env=[(false,eval a X.env)]:=by rfl) :
    PI X (.Tuple es k tpos) (.Call (.Name "enumerate" p) [a] [] pos) (Kj X.K ta):=by
  intro pins s σ H R I h;refine Call_ (wB I hg hm vE (b7 (thn (ha pos pins s σ H _ I h) λus s1 ⟨vs,H1,I1,r1,q1⟩=>?_) hs rfl));obtain ⟨l1,xs,e,q1,q⟩:=q1;subst e;cases r1 with
  | cons r rr =>
    cases rr
    cases r
    obtain ⟨its1,rv1,p1,hz1⟩:=I1.list q1;refine call_enumerate_list p1.isList λh' he hit hsz hk=>?_;refine wpAny_pyIter_enum (s:={ s1 with heap:=h' }) he ?_;refine ⟨_,[_,_],_,_,H1,rfl,I1.kept (t':=s1.toks) hk,Ed l1 _ _ (gW (eW s1.heap.objs.size)),⟨⟨_,he⟩,hit⟩,λc hc=>?_,q⟩;have hc':c=s1.heap.objs.size+1\/c=s1.heap.objs.size:=by simpa using hc
    have hge:s1.heap.objs.size<=c:=by
      rcases hc' with rfl|rfl
      . exact ck ..
      . exact ag _
    exact I1.fpOk hge (I1.hok.fresh hge)
def LH(K:iL)(ta:TA):TI:=λσ H R=>ta σ H λvs H1=>∃ a xs,vs=[.ref a]/\SqL K H1 a xs/\R (Itv K a xs.length) H1
theorem IW{a:Expr}{p pos:Pos}(hg:Gl X "reversed")(hm:X.mg "reversed"=none)(ha:PA X [a] ta)(hs:starEach [a] X.env=[(false,eval a X.env)]:=by rfl) :
    PI X tg (.Call (.Name "reversed" p) [a] [] pos) (LH X.K ta):=by
  intro pins s σ H R I h;refine Call_ (wB I hg hm boot_reversed (b7 (thn (ha pos pins s σ H _ I h) λus s1 ⟨vs,H1,I1,r1,q1⟩=>?_) hs rfl));obtain ⟨l1,xs,e,q1,q⟩:=q1;subst e;cases r1 with
  | cons r rr =>
    cases rr
    cases r
    obtain ⟨its1,rv1,p1,hz1⟩:=I1.list q1;have hl:=rv1.length;refine call_reversed_list p1.isList ?_;have hit:(s1.heap.push (revObj l1 ((its1.toArray.size:Int) - 1))).IsRevIter s1.heap.objs.size l1 ((xs.length:Int) - 1 - ((0:Nat):Int)):=⟨_,Heap.get?_push_size _ rfl,rfl,by simp [revObj,hl]⟩
    refine wpAny_pyIter_revIter (s:={ s1 with heap:=_ }) hit ?_;refine ⟨_,[_],_,_,H1,rfl,I1.kept (t':=s1.toks) λb o e=>Heap.get?_push_of_some _ e,D6 l1 _ xs.length,hit,λb hb=>?_,q⟩;have e:b=s1.heap.objs.size:=by simpa using hb
    subst e;exact I1.fpOk (ag _) (I1.hok.fresh (ag _))
theorem B3{K:iL}{σ:St}{E:Ends}{tb:TS}(h:ta σ H λvs H1=>∃ a xs,vs=[.ref a]/\SqL K H1 a xs/\∃ W:Nat->Nat->St->Hp->Prop,(∃ m,W 0 m σ H1)/\∀ i m σ H,W i m σ H ->
  ((Ite K a).stop i H/\E.nx σ H)\/((Ite K a).go i H/\∃ N:St->Hp->Prop,(∀ σ' H',N σ' H'->∃ m',m'<m/\W (i+1) m' σ' H')/\∀ x H',(Ite K a).yld i H x H'->g x σ H' λσ2 H2=>tb { E with nx:=N,ct:=N,bk:=E.nx } σ2 H2)) :
  tFor (Kj K ta) g tb E σ H:=h
theorem Kb{K:iL}{σ:St}{E:Ends}{tb:TS}(h:ta σ H λvs H1=>∃ a xs,vs=[.ref a]/\SqL K H1 a xs/\∃ W:Nat->Nat->St->Hp->Prop,(∃ m,W 0 m σ H1)/\∀ i m σ H,W i m σ H ->
  ((Itv K a xs.length).stop i H/\E.nx σ H)\/((Itv K a xs.length).go i H/\∃ N:St->Hp->Prop,(∀ σ' H',N σ' H'->∃ m',m'<m/\W (i+1) m' σ' H')/\∀ x H',(Itv K a xs.length).yld i H x H'->g x σ H' λσ2 H2=>tb { E with nx:=N,ct:=N,bk:=E.nx } σ2 H2)) :
  tFor (LH K ta) g tb E σ H:=h
theorem wJ{K:iL}{xs:List V}{tb:TS}{σ:St}(Pv:Nat->St->Hp->Prop)(h0:Pv 0 σ H)(hl:∀ i σ H,i<=xs.length->Pv i σ H->SqL K H a xs)(hs:∀ i x T σ H,xs[i]?=some x->H T=none->Pv i σ H->g (.ref T) σ (upd H T (.tup [.int (i:Int),x])) λσ2 H2=>tb { D with nx:=Pv (i+1),ct:=Pv (i+1),bk:=D.nx } σ2 H2)(hd:∀ σ H,Pv xs.length σ H->D.nx σ H) :
    ∃ W:Nat->Nat->St->Hp->Prop,(∃ m,W 0 m σ H)/\∀ i m σ H,W i m σ H ->
      ((Ite K a).stop i H/\D.nx σ H)\/((Ite K a).go i H/\∃ N:St->Hp->Prop,(∀ σ' H',N σ' H'->∃ m',m'<m/\W (i+1) m' σ' H')/\∀ x H',(Ite K a).yld i H x H'->g x σ H' λσ2 H2=>tb { D with nx:=N,ct:=N,bk:=D.nx } σ2 H2):=by
  refine ⟨λi m σ H=>m=xs.length - i/\i<=xs.length/\Pv i σ H,⟨xs.length,by simp,bJ _,h0⟩,?_⟩;rintro i m σ H ⟨rfl,hi,p⟩;have q1:=hl i σ H hi p;by_cases hlt:i<xs.length
  . refine .inr ⟨⟨xs,xs[i],q1,by simp [hlt]⟩,Pv (i+1),λσ' H' p'=>⟨xs.length - (i+1),by omega,rfl,hlt,p'⟩,λv H' yy=>?_⟩;obtain ⟨T,hT,rfl,yy⟩:=yy;obtain ⟨x,hx,rfl⟩:=yy xs q1;exact hs i x T σ H hx hT p
  . have e:i=xs.length:=by omega
    subst e;exact .inl ⟨⟨xs,q1,ag _⟩,hd σ H p⟩
theorem Gb{K:iL}{xs:List V}{tb:TS}{σ:St}(Pv:Nat->St->Hp->Prop)(h0:Pv 0 σ H)(hl:∀ i σ H,i<=xs.length->Pv i σ H->SqL K H a xs)(hs:∀ i x σ H,i<xs.length->xs[xs.length - 1 - i]?=some x->Pv i σ H->g x σ H λσ2 H2=>tb { D with nx:=Pv (i+1),ct:=Pv (i+1),bk:=D.nx } σ2 H2)(hd:∀ σ H,Pv xs.length σ H->D.nx σ H) :
    ∃ W:Nat->Nat->St->Hp->Prop,(∃ m,W 0 m σ H)/\∀ i m σ H,W i m σ H ->
      ((Itv K a xs.length).stop i H/\D.nx σ H)\/((Itv K a xs.length).go i H/\∃ N:St->Hp->Prop,(∀ σ' H',N σ' H'->∃ m',m'<m/\W (i+1) m' σ' H')/\∀ x H',(Itv K a xs.length).yld i H x H'->g x σ H' λσ2 H2=>tb { D with nx:=N,ct:=N,bk:=D.nx } σ2 H2):=by
  refine ⟨λi m σ H=>m=xs.length - i/\i<=xs.length/\Pv i σ H,⟨xs.length,by simp,bJ _,h0⟩,?_⟩;rintro i m σ H ⟨rfl,hi,p⟩;have q:=hl i σ H hi p;by_cases hlt:i<xs.length
  . have hj:xs.length - 1 - i<xs.length:=by omega
    refine .inr ⟨⟨hlt,xs,xs[xs.length - 1 - i],q,by simp [hj]⟩,Pv (i+1),λσ' H' p'=>⟨xs.length - (i+1),by omega,rfl,hlt,p'⟩,λx H' y=>?_⟩;obtain ⟨e,y⟩:=y;subst e;exact hs i x σ _ hlt (y xs q) p
  . have e:i=xs.length:=by omega
    subst e;exact .inl ⟨rfl,hd σ H p⟩
def Hn(K:iL):List V->Hp->VK->Prop:=λxs H Q=>∃ (a:Addr) (ns ms:List Int),xs=[.ref a]/\SqL K H a (ns.map V.int)/\ms.Perm ns/\ms.Pairwise (·<=·)/\ns.length<64/\∀ p,H p=none->Q (.ref p) (upd H p (.lst (ms.map V.int)))
theorem wv:∀ {vs:List Value} {ns:List Int},Vals (ns.map V.int) vs->IntsAre vs ns
  | _,[],.nil=>.nil
  | _,n::ns,.cons ⟨t,e⟩ r=>by rw [e]; exact .cons n t (wv r)
theorem CH:yx X (.builtin "sorted") (Hn X.K):=by
  intro pins s σ H xs us Q I r h;obtain ⟨a,ns,ms,rfl,hq,hp,hs,h64,q⟩:=h;obtain ⟨u,rfl,ru⟩:=Vals.one r;cases ru
  obtain ⟨its,rv,p1,hz1⟩:=I.list hq;have hl:=rv.length;rw [aa] at hl;refine sorted_ints p1.isList (wv rv) (!4) λout ns' a1 a2 a3=>?_;have e:ns'=ms:=gu (λa b _ _ h k=>Int.le_antisymm h k) a3 hs (a2.trans hp.symm);subst e;obtain ⟨ep,he⟩:=sortedAll_at s.heap its out;have hl2:(ns'.map V.int).length<=sizeLine:=by
    rw [aa,a2.length_eq];exact bW (bA h64) (by rw [sizeLine_eq]; decide)
  exact ⟨.ref _,_,I.laid (a:=s.heap.objs.size+1) (o:=.lst (ns'.map V.int)) (t':=s.toks) (λ_ _=>sortedAll_old) (dQ _) ⟨hl2,out.toList,ep,xf a1,by simpa using he⟩,rfl,q _ (I.hok.fresh (dQ _))⟩
theorem IU{K:iL}{Q:VK}{ms:List Int}(h:H a=some (.lst (ns.map V.int)))(hp:ms.Perm ns)(hs:ms.Pairwise (·<=·))(hl:ns.length<64)(q:∀ p H2,H p=none->Same H H2->H2 p=some (.lst (ms.map V.int))->Q (.ref p) H2):Hn K [.ref a] H Q :=
  ⟨a,ns,ms,rfl,SqL.of h,hp,hs,hl,λp hn=>q p _ hn (zD hn _) zk⟩
section
variable {e:Expr}{te:TE}{p1 p2 pos pos2:Pos}
end
abbrev vR(p:Addr):Option V:=some (.ref p)
abbrev vI(n:Int):Option V:=some (.int n)
theorem st_of{t:TS}{σ σ':St}(e:σ=σ')(h:t D σ' H):t D σ H:=e ▸ h
theorem Ki{t u:TS}{σ:St}(h:∀ N:St->Hp->Prop,(∀ σ' H',u D σ' H'->N σ' H')->t { D with nx:=N } σ H):tSeq t u D σ H:=h (u D) λ_ _ h=>h
theorem ps_s{pos:Pos}(i:Nat){pos':Pos}(hN:X.N.Nodup)(he:PE X e te)(hi:X.N[i]?=some x:=by rfl)(hx:Loc X.env.scope x:=by first | exact Or.inl rfl | exact Or.inr rfl)(hs:swapsWith e (some (.Name x pos')) pos.line X.env=pure false:=by rfl)(hf:X.fn x=true\/X.env.scope.names.lookup x=some .local:=by first | exact .inl rfl | exact .inr rfl | assumption):PS X (.Assign [.Name x pos'] e pos) (tAsg te (Di i)):=Lk hN hi hx he hs hf
theorem pg_n{pos:Pos}(i:Nat)(hN:X.N.Nodup)(hi:X.N[i]?=some x:=by rfl)(hx:Loc X.env.scope x:=by first | exact Or.inl rfl | exact Or.inr rfl)(hf:X.fn x=true\/X.env.scope.names.lookup x=some .local:=by first | exact .inl rfl | exact .inr rfl | assumption):PG X (.Name x pos) (Di i):=Jm hN hi hx hf
theorem pe_i{a b:Expr}{ta tb:TE}{pos:Pos}{r:R2}(hr:IxR X r)(ha:PE X a ta)(hb:PE X b tb)(hs:uQ b:=by exact λ_ _=>rfl):PE X (.Subscript a b pos) (tOp r ta tb):=Ik hr ha hb hs
theorem pa1(ha:PE X e te)(hs:starEach [e] X.env=(false,eval e X.env)::starEach [] X.env:=by rfl):PA X [e] (uI te tNil):=zv ha z5 hs
variable {tf:TE}
theorem pa2{f:Expr}(ha:PE X e te)(hb:PE X f tf)(hs:starEach [e,f] X.env=(false,eval e X.env)::starEach [f] X.env:=by rfl)(ht:starEach [f] X.env=(false,eval f X.env)::starEach [] X.env:=by rfl):PA X [e,f] (uI te (uI tf tNil)):=zv ha (pa1 hb ht) hs
theorem pa3{f g:Expr}{tg:TE}(ha:PE X e te)(hb:PE X f tf)(hc:PE X g tg)(hs:starEach [e,f,g] X.env=(false,eval e X.env)::starEach [f,g] X.env:=by rfl)(ht:starEach [f,g] X.env=(false,eval f X.env)::starEach [g] X.env:=by rfl)(hu:starEach [g] X.env=(false,eval g X.env)::starEach [] X.env:=by rfl):PA X [e,f,g] (uI te (uI tf (uI tg tNil))):=zv ha (pa2 hb hc ht hu) hs
variable {base:Heap}
theorem Fun.okA{K:iL}{st:Stmt}{N:List Str}{k:Nat}(F:Fun K x qual st f fd)(S:FnScope N ps (defScope st))(hbody:∀ (cdv:Value) (A:Around) (outer:List Env) (s:Shared) (H:Hp) (vs:List V) (Q:VK) (E:XK),Room k (A.deeper (envOfC qual (defScope st) s.heap.objs.size f cdv))->sp vs H Q E->∃ t,PSs (cxOf CX0 P w K mg base N qual (defScope st) f cdv A outer s H E).nox (defBody st) t/\t { nx:=λ_ H'=>Q .non H',rt:=Q } (start N vs) H)(len:∀ vs H Q E,sp vs H Q E->vs.length=ps.length:=by intro vs H Q E h; cases h; subst_vars; rfl):FnOk P w K mg base CX0 (k+1) f fd ps sp:=F.ok S len hbody
theorem FunD.okA{K:iL}{st:Stmt}{N:List Str}{k:Nat}(F:FunD K x qual st f fd its)(S:FnScope N ps (defScope st))(hbody:∀ (cdv:Value) (A:Around) (outer:List Env) (s:Shared) (H:Hp) (vs:List V) (Q:VK) (E:XK),Room k (A.deeper (envOfC qual (defScope st) s.heap.objs.size f cdv))->sp vs H Q E->∃ t,PSs (cxOf CX0 P w K mg base N qual (defScope st) f cdv A outer s H E).nox (defBody st) t/\t { nx:=λ_ H'=>Q .non H',rt:=Q } (start N vs) H)(len:∀ vs H Q E,sp vs H Q E->vs.length=ps.length:=by intro vs H Q E h; cases h; subst_vars; rfl):FnOk P w K mg base CX0 (k+1) f fd ps sp:=F.ok S len hbody
theorem Fun.okXA{K:iL}{st:Stmt}{N:List Str}{k:Nat}(F:Fun K x qual st f fd)(S:FnScope N ps (defScope st))(hbody:∀ (cdv:Value) (A:Around) (outer:List Env) (s:Shared) (H:Hp) (vs:List V) (Q:VK) (E:XK),Room k (A.deeper (envOfC qual (defScope st) s.heap.objs.size f cdv))->sp vs H Q E->∃ t,PSs (cxOf (CXe P w) P w K mg base N qual (defScope st) f cdv A outer s H E) (defBody st) t/\t { nx:=λ_ H'=>Q .non H',rt:=Q } (start N vs) H)(len:∀ vs H Q E,sp vs H Q E->vs.length=ps.length:=by intro vs H Q E h; cases h; subst_vars; rfl):FnOk P w K mg base (CXe P w) (k+1) f fd ps sp:=F.okX S len hbody
theorem ifn{A B:Prop}{p:Prop}[Decidable p](q:B)(h:¬ p:=by decide +kernel):if decide p=true then A else B:=by rw [il h]; exact q
variable {p':Pos}
theorem pit(k:Nat){n:Int}{j:Nat}{p pos:Pos}(hN:X.N[k]?=some x:=by rfl)(hv:Vis X.env.scope x:=by first | exact Or.inl rfl | exact Or.inr (Or.inl rfl) | exact Or.inr (Or.inr rfl))(hd:(x==("__debug__":Str))=false:=by decide)(hcd:(x==("__classdict__":Str))=false:=by decide)(hs:uQ (.Constant (.int n) j p'):=by exact λ_ _=>rfl):PE X (.Subscript (.Name x p) (.Constant (.int n) j p') pos) (tOp (rIxT X.K) (tVar k) (tC (.int n))):=Ik ix_tup (pv k hN hv hd hcd) ze hs
theorem pil(k:Nat){n:Int}{j:Nat}{p pos:Pos}(hN:X.N[k]?=some x:=by rfl)(hv:Vis X.env.scope x:=by first | exact Or.inl rfl | exact Or.inr (Or.inl rfl) | exact Or.inr (Or.inr rfl))(hd:(x==("__debug__":Str))=false:=by decide)(hcd:(x==("__classdict__":Str))=false:=by decide)(hs:uQ (.Constant (.int n) j p'):=by exact λ_ _=>rfl):PE X (.Subscript (.Name x p) (.Constant (.int n) j p') pos) (tOp (rIxL X.K) (tVar k) (tC (.int n))):=Ik ix_list (pv k hN hv hd hcd) ze hs
variable {S:Addr}{n0:Nat}{res:Value}
section
variable {prog:Program}{w:World}{κ:Type}[DecidableEq κ]{knd:KeyKind prog w κ}{A:Around}{E:Value->Shared->Prop}
theorem Cz{s:Shared}{I:Addr}{kvs:List (κ×Value)}{R:Result->Shared->Prop}(hh:A.handled=none)(hn:kvs.length<=sizeLine)(g1:s.heap.get? S=some { cls:=.type "list",data:=.seq #[] n0 })(hI:s.heap.IsKeyIter I d 0 kvs.length ep)(hm:s.heap.DictAt knd d kvs ep)(nSI:S≠I)(nSd:S≠d)(ndI:d≠I)(hR:∀ (s':Shared) (acc:Array Value) (c:Nat),(∀ b o,b≠S->b≠I->s.heap.get? b=some o->s'.heap.get? b=some o)->s'.gens=s.gens->s'.drawn=s.drawn->s'.os=s.os->s'.heap.get? S=some { cls:=.type "list",dict:=none,data:=.seq acc c,slots:=#[] }->ItemsOf (λi v=>∃ k x,kvs[i]?=some (k,x)/\knd.is k v=true) acc kvs.length->R (.ok (.ret res)) s') :
    wpAny (model prog w) A.in1 (rule "list.extend.makes-room" >>= λ_=>Builtin.List.listTouch (.ref S) >>= λ_=>again (.builtin "list.extend.loop" ⟨[.ref S,.ref I,res],[]⟩))
      (λfin s'=>match fin with | .done f=>R (.ok f) s' | .again c'=>c'.quiet=true/\codeAny (model prog w) A c' R s') (λe s'=>R (.error e) s') s:=by
  refine iw (wpAny_rule ?_);refine iw ?_;show wpAny _ A.in1 (updateSeq S (·.push .none) >>= λ_=>updateSeq S (·.pop)) _ _ _;refine iw (wpAny_updateSeq g1 rfl ?_);have g2:=Heap.get?_update_self (Obj.mapSeq (·.push Value.none)) g1 rfl;refine wpAny_updateSeq g2 rfl ?_;have g3:=Heap.get?_update_self (Obj.mapSeq (·.pop)) g2 rfl;have oth:∀ (b:Addr) (o:Obj),b≠S->s.heap.get? b=some o->((s.heap.update S (Obj.mapSeq (·.push Value.none))).update S (Obj.mapSeq (·.pop))).get? b=some o :=
    λb o nb g=>(Heap.get?_update_other _ _ nb.symm).trans ((Heap.get?_update_other _ _ nb.symm).trans g)
  have W:=(Walks.dictKeys (knd:=knd) (A:=A.in1) (show A.in1.handled=none from hh) I d ndI kvs ep).toS;refine iA ⟨plainId_quiet F.plain_extend_loop _,codeAny_extend_loopS W hn S ?_ _ kvs.length 0 _ _ _ rfl (bJ _) ⟨hI.at λo g=>oth I o nSI.symm g,hm.at' λo g=>oth d o nSd.symm g⟩ g3 (ItemsOf.nil _) λs' acc' c' hmv hS' hacc=>?_⟩
  . intro z;rcases aU.mp z with z|z
    . exact nSI z
    . exact nSd (by simpa using z)
  . refine hR s' acc' c' (λb o n1 n2 g=>hmv.heap b o (λz=>?_) (oth b o n1 g)) hmv.gens hmv.drawn hmv.os hS' hacc;rcases aU.mp z with z|z
    . exact n1 z
    . exact n2 (by simpa using z)
theorem AX{s:Shared}{kvs:List (κ×Value)}{R:Result->Shared->Prop}(hh:A.handled=none)(hds:(d==sysModules)=false)(hn:kvs.length<=sizeLine)(g1:s.heap.get? S=some { cls:=.type "list",data:=.seq #[] n0 })(hm:s.heap.DictAt knd d kvs ep)(nSd:S≠d)(hR:∀ (s':Shared) (acc:Array Value) (c:Nat),(∀ b o,b≠S->s.heap.get? b=some o->s'.heap.get? b=some o)->s'.gens=s.gens->s'.drawn=s.drawn->s'.os=s.os->s'.heap.get? S=some { cls:=.type "list",dict:=none,data:=.seq acc c,slots:=#[] }->ItemsOf (λi v=>∃ k x,kvs[i]?=some (k,x)/\knd.is k v=true) acc kvs.length->R (.ok (.ret res)) s') :
    wpAny (model prog w) A.in1 (Builtin.List.listExtendWith (.ref S) (.ref d) res)
      (λfin s'=>match fin with | .done f=>R (.ok f) s' | .again c'=>c'.quiet=true/\codeAny (model prog w) A c' R s') (λe s'=>R (.error e) s') s:=by
  have h1:Builtin.List.listSameRef (.ref S) (.ref d)=false:=by simp [Builtin.List.listSameRef,nSd]
  unfold Builtin.List.listExtendWith;refine iw (iH hm.dictOf.typeIs ?_);rw [io (by rw [h1]; decide)];refine iw (wpAny_pyIter_dict hds hm ?_);have hm2:=hm.keep (h':=s.heap.push { cls:=.type "dict_keyiterator",data:=.fields #[.ref d,.int 0 0,.int kvs.length 0,.int ep 0] }) λb o e=>Heap.get?_push_of_some _ e;refine iw (iG ?_);unfold Builtin.List.listLengthHint;refine iw (wpAny_specialOf hm2.dictOf.typeIs ui ?_)
  (generalize hid:("dict.__len__":String)=id0; (fail_if_success (clear hid id0)); wp_delta; rw [show splitId id0=some ("dict","__len__") from by subst hid; decide +kernel]; subst hid)
  refine iw (wpAny_isInstance (b:=true) hm2.dictOf.typeIs (by rw [isSubtype_type]; kernel_rfl) ?_);rw [io (by decide)];refine wpAny_ite ?_;rw [im (by decide)];refine iw (iH hm2.dictOf.typeIs ?_);refine iA ?_;rw [im (by decide)];have ltS:=Heap.lt_size g1;refine Cz (s:={ s with heap:=s.heap.push { cls:=.type "dict_keyiterator",data:=.fields #[.ref d,.int 0 0,.int kvs.length 0,.int ep 0] } }) (R:=R) hh hn (S:=S) (I:=s.heap.objs.size) (Heap.get?_push_of_some _ g1) ⟨_,Heap.get?_push_size _ rfl,rfl,rfl⟩ hm2 (aP ltS) nSd (aP hm.lt_size) λs' acc c kk e1 e2 e3 hS' hacc=>?_;exact hR s' acc c (λb o n g=>kk b o n (aP (Heap.lt_size g)) (Heap.get?_push_of_some _ g)) e1 e2 e3 hS' hacc
theorem vH{s:Shared}{kvs:List (κ×Value)}{Q:Value->Shared->Prop}(hh:A.handled=none)(hds:(d==sysModules)=false)(hn:kvs.length<=sizeLine)(hm:s.heap.DictAt knd d kvs ep)(hQ:∀ (s':Shared) (acc:Array Value) (c:Nat),(∀ b o,s.heap.get? b=some o->s'.heap.get? b=some o)->s'.gens=s.gens->s'.drawn=s.drawn->s'.os=s.os->s'.heap.get? s.heap.objs.size=some { cls:=.type "list",dict:=none,data:=.seq acc c,slots:=#[] }->ItemsOf (λi v=>∃ k x,kvs[i]?=some (k,x)/\knd.is k v=true) acc kvs.length->Q (.ref s.heap.objs.size) s') :
    wpAny (model prog w) A (call (.type "list") [.ref d]) Q E s:=by
  refine callType_codes (Q₁:=λobj s₁=>obj=.ref s.heap.objs.size/\s₁={ s with heap:=s.heap.push { cls:=.type "list",data:=.seq #[] } }) F.called_list (F.typeCall_list_1 _) F.entry_list_init
    (code_list_new _ ⟨rfl,rfl⟩) λobj s₁ h₁=>?_
  obtain ⟨rfl,rfl⟩:=h₁;have hS:(s.heap.push { cls:=.type "list",data:=.seq #[] }).get? s.heap.objs.size=some { cls:=.type "list",data:=.seq #[] }:=Heap.get?_push_size _ rfl;have hm1:=hm.keep (h':=s.heap.push { cls:=.type "list",data:=.seq #[] }) λb o e=>Heap.get?_push_of_some _ e;have nSd:s.heap.objs.size≠d:=bZ (aP hm.lt_size);refine ⟨⟨_,hS,rfl⟩,F.args_list_init_2 _ _,?_⟩;show wpAny _ _ (do let old <-Builtin.List.listItems (.ref s.heap.objs.size); Builtin.List.listUpdate (.ref s.heap.objs.size) (λ_=>#[]); letGo old.toList.reverse; Builtin.List.listExtendWith (.ref s.heap.objs.size) (.ref d) .none) _ _ _;refine iw ?_;unfold Builtin.List.listItems;refine iw (wpAny_seqItems hS rfl (iA ?_));show wpAny _ _ (updateSeq s.heap.objs.size (λ_=>#[]) >>= λ_=>letGo (#[]:Array Value).toList.reverse >>= λ_=>Builtin.List.listExtendWith (.ref s.heap.objs.size) (.ref d) .none) _ _ _;refine iw (wpAny_updateSeq hS rfl ?_);have hS2:=Heap.get?_update_self (Obj.mapSeq (λ_=>(#[]:Array Value))) hS rfl;have oth:∀ b o,b≠s.heap.objs.size->(s.heap.push { cls:=.type "list",data:=.seq #[] }).get? b=some o->((s.heap.push { cls:=.type "list",data:=.seq #[] }).update s.heap.objs.size (Obj.mapSeq (λ_=>(#[]:Array Value)))).get? b=some o :=
    λb o hb e=>(Heap.get?_update_other _ _ (bZ hb)).trans e
  have hm3:=hm1.at' (h':=(s.heap.push { cls:=.type "list",data:=.seq #[] }).update s.heap.objs.size (Obj.mapSeq (λ_=>(#[]:Array Value)))) λo g=>oth d o (bZ nSd) g;refine iw (wpAny_letGo ?_);refine AX (A:=A.in1) hh hds hn hS2 hm3 nSd λs' acc c kk e1 e2 e3 hS' hacc=>?_;exact ⟨rfl,hQ s' acc c (λb o g=>kk b o (aP (Heap.lt_size g)) (oth b o (aP (Heap.lt_size g)) (Heap.get?_push_of_some _ g))) e1 e2 e3 hS' hacc⟩
end
def KJ:List V->Hp->VK->Prop:=λxs H Q=>∃ (d:Addr) (kvs:List (Key×V)) (ns:List Int),xs=[.ref d]/\H d=some (.dK kvs)/\kvs.map (·.1)=ns.map Sum.inl/\kvs.length<=1000/\∀ p,H p=none->Q (.ref p) (upd H p (.lst (ns.map V.int)))
theorem EM(hc:X.calm=true):yx X (.type "list") KJ:=by
  intro pins s σ H xs us Q I r h;obtain ⟨d,kvs,ns,rfl,e,hk,h64,q⟩:=h;obtain ⟨u,rfl,ru⟩:=Vals.one r;cases ru
  obtain ⟨z,y,vs,rel,dof⟩:=id (I.hok d _ e);obtain ⟨ep,da⟩:=dof.dictAt;have hl:=rel.length;have hz:vs.length<=sizeLine:=bW (show vs.length<=1000 by omega) (by rw [sizeLine_eq]; decide);refine vH (I.ok.hd hc) y hz da λs' acc c kk e1 e2 e3 hS' hacc=>?_;obtain ⟨h0,g0,d0,t0,o0⟩:=s;obtain ⟨h1,g1,d1,t1,o1⟩:=s';simp only at e1 e2 e3 kk hS';subst e1 e2 e3;have hI:=uF (by rw [<-rel.keys]; exact hk) hacc;have hl2:(ns.map V.int).length<=sizeLine:=by
    have:kvs.length=ns.length:=by
      have:=congrArg List.length hk
      rwa [aa,aa] at this
    rw [aa];omega
  exact ⟨.ref h0.objs.size,_,I.laid (a:=h0.objs.size) (o:=.lst (ns.map V.int)) (t':=t1) kk (ag _) ⟨hl2,acc.toList,c,xf hI,by rw [Array.toArray_toList]; exact hS'⟩,rfl,q _ (I.hok.fresh (ag _))⟩
theorem Jx{Q:VK}(h:H d=some (.dK kvs))(hk:kvs.map (·.1)=ns.map Sum.inl)(hl:kvs.length<=1000)(q:∀ (p:Addr) (H2:Hp),H p=none->Same H H2->H2 p=some (.lst (ns.map V.int))->Q (.ref p) H2):KJ [.ref d] H Q :=
  ⟨d,kvs,ns,rfl,h,hk,hl,λp hp=>q p _ hp (zD hp _) zk⟩
section
variable {prog:Program}{w:World}{A:Around}{E:Value->Shared->Prop}{s:Shared}
end
variable {pins:List (Addr×Obj)}{σ:St}
section
variable {prog:Program}{w:World}{A:Around}{E:Value->Shared->Prop}{s:Shared}{R:Result->Shared->Prop}
end
section
variable {a b:Expr}{ta:TA}{p1 p2 pos pos2:Pos}
end
end L2
local macro_rules | `(tactic| walk_at "sc")=>`(tactic| exact ⟨rfl,rfl,rfl,by decide +kernel,rfl,by decide +kernel,by decide +kernel⟩)
local macro_rules | `(tactic| walk_at "s")=>`(tactic| ((refine L2.st_of (by dsimp only [L2.start,List.map,List.length,Nat.zero_add,Nat.reduceAdd,Nat.reduceSub,List.replicate,List.cons_append,List.nil_append]) ?_); try dsimp only [L2.cx_K]))
local macro_rules | `(tactic| omega)=>`(tactic| first | lia | omega +splitNatSub)
open PySem PySem.Spec PyProof.Rows L2 Bg
local macro_rules | `(tactic| walk_at "bd")=>`(tactic| first | assumption | ((with_reducible show Bd _ (-_)); exact Bd.neg (by walk_at "bd")) | ((with_reducible show Bd _ (_*_)); exact Bd.mul (by walk_at "bd") (by walk_at "bd")) | ((with_reducible show Bd _ (_+_)); exact HZ (by walk_at "bd") (by walk_at "bd")) | ((with_reducible show Bd _ (_ - _)); exact Iw (by walk_at "bd") (by walk_at "bd")) | ((with_reducible show Bd _ (_ ^ _)); exact Js (by walk_at "bd")) | ((with_reducible show Bd _ (_ / _)); exact Jr (by walk_at "bd")) | ((with_reducible show Bd _ (_ % _)); exact IL (by walk_at "bd") (by decide +kernel)) | ((with_reducible show Bd _ (Int.fdiv _ _)); exact Bd.fdiv (by walk_at "bd") _) | exact Bd.abs (by walk_at "bd") | exact uo _)
local macro_rules | `(tactic| walk_at "cd")=>`(tactic| first | assumption | decide | omega | exact ⟨by decide,by decide +kernel⟩ | exact Bd.ok (by walk_at "bd") (by walk_at "bd") (by decide +kernel) | exact cpw_of (by walk_at "bd") (by decide) (by decide +kernel) | decide +kernel)
local macro_rules | `(tactic| walk_at "rd")=>`(tactic| first | ((with_reducible refine Ki ?_); intro _ _) | with_reducible refine i_asg ?_ | ((with_reducible refine i_gname ?_); try dsimp only [List.set_cons_zero,List.set_cons_succ]) | with_reducible refine i_ret ?_ | with_reducible refine i_drop ?_ | with_reducible refine i_ifS ?_ | with_reducible refine i_next ?_ | ((with_reducible show tVar _ _ _ _); refine i_var rfl ?_) | with_reducible refine i_c ?_ | with_reducible refine i_op ?_ | with_reducible refine i_un ?_ | with_reducible refine i_I0 ?_ | ((with_reducible show rI _ _ (V.int _) (V.int _) _ _); first | refine i_I ?_ (by walk_at "cd") | refine i_I ?_ ?c) | with_reducible refine i_U ?_ | with_reducible refine My ?_ | with_reducible refine Mj ?_ | with_reducible refine MW ?_ | with_reducible refine i_neB ?_ | with_reducible refine LM ?_ | with_reducible refine i_tB ?_ | with_reducible refine i_bl ?_ | with_reducible refine Mo ?_ | with_reducible refine i_or ?_ | with_reducible refine ME ?_ | with_reducible refine Ks ?_ | with_reducible refine MV ?_ | with_reducible refine KY ?_ | with_reducible refine Mq ?_ | with_reducible refine Mv ?_ | with_reducible refine LV ?_ | with_reducible refine Lr ?_ | with_reducible refine i_callK ?_ | with_reducible refine i_cb ?_ | with_reducible refine MY ?_ | with_reducible refine M5 ?_ | with_reducible refine if_t ?_ | with_reducible refine if_f ?_ | with_reducible refine Mc ?_ | with_reducible refine MM ?_ | with_reducible refine MR ?_ | with_reducible refine Lb ?_ | with_reducible refine MU ?_ | with_reducible refine Kd ?_ | with_reducible refine F4 ?_ | with_reducible refine Dt ?_ | with_reducible refine i_is_bool ?_ | with_reducible refine FL (by assumption) ?_ | with_reducible refine L8 (by assumption) ?_ | with_reducible refine Lx (by assumption) ?_ | ((with_reducible show rIxT _ (V.ref _) (V.int _) _ _); first | refine Cu (by assumption) (by rfl) ?_ | refine MS (by assumption) (by rfl) ?_) | ((with_reducible show rIxL _ (V.ref _) (V.int _) _ _); refine wV (by assumption) (by rfl) ?_) | with_reducible refine i_bm ?_ | with_reducible refine M3 (by assumption) ?_ | with_reducible refine i_sl ?_ | with_reducible refine GP ?_ | with_reducible refine LK ?_ | with_reducible refine MP ?_ | with_reducible refine MX ?_ | with_reducible refine J0 ?_ | ((with_reducible show gTup _ _ _ (V.ref _) _ _ _); refine JE (by assumption) (by rfl) ?_) | with_reducible refine IH ?_ | with_reducible refine Le ?_ | with_reducible refine Mn ?_ | with_reducible refine (show ∀ σ' H',_->_ from by assumption) _ _ ?_)
local macro_rules | `(tactic| walk_at "mm")=>`(tactic| repeat first | exact aV | refine az _ ?_)
local macro_rules | `(tactic| walk_at "rd")=>`(tactic| first | with_reducible refine Mg ?_ | with_reducible refine Mf ?_ | with_reducible refine i_neS ?_ | with_reducible refine Gj ?_ | with_reducible refine MO ?_ | with_reducible refine i_fF ?_ | with_reducible refine i_fVal0 ?_ | with_reducible refine i_fInt0 ?_ | with_reducible refine i_tyS ?_ | with_reducible refine MA ?_ | with_reducible refine LN ?_)
local macro_rules | `(tactic| walk_at "b8")=>`(tactic| first | assumption | decide +kernel | exact Bd.mono (by walk_at "bd") (by decide +kernel))
local macro_rules | `(tactic| lia)=>`(tactic| first | (lia (splits:=9)) | omega +splitNatSub)
local macro_rules | `(tactic| exists $e)=>`(tactic| ((repeat walk_at "rd"); refine $e))
local macro_rules | `(tactic| walk_at "r")=>`(tactic| repeat walk_at "rd")
set_option maxHeartbeats 4000000
namespace Bk
local macro_rules | `(⋯)=>`(by decide)
local macro_rules | `(!1)=>`(by simp)
local macro_rules | `(!2)=>`(by lia)
local macro_rules | `(!3)=>`(by decide +kernel)
inductive A2(a b:Prop):Prop | mk:a->b->A2 a b
inductive A3(a b c:Prop):Prop | mk:a->b->c->A3 a b c
inductive A4(a b c d:Prop):Prop | mk:a->b->c->d->A4 a b c d
inductive A5(a b c d e:Prop):Prop | mk:a->b->c->d->e->A5 a b c d e
inductive A6(a b c d e f:Prop):Prop | mk:a->b->c->d->e->f->A6 a b c d e f
inductive A7(a b c d e f g:Prop):Prop | mk:a->b->c->d->e->f->g->A7 a b c d e f g
inductive A8(a b c d e f g h:Prop):Prop | mk:a->b->c->d->e->f->g->h->A8 a b c d e f g h
inductive A9(a b c d e f g h i:Prop):Prop | mk:a->b->c->d->e->f->g->h->i->A9 a b c d e f g h i
inductive A10(a b c d e f g h i j:Prop):Prop | mk:a->b->c->d->e->f->g->h->i->j->A10 a b c d e f g h i j
inductive E1{A:Type}(p:A->Prop):Prop | mk (a:A) (h:p a):E1 p
inductive E2{A B:Type}(p:A->B->Prop):Prop | mk (a:A) (b:B) (h:p a b):E2 p
inductive E3{A B C:Type}(p:A->B->C->Prop):Prop | mk (a:A) (b:B) (c:C) (h:p a b c):E3 p
inductive E4{A B C D:Type}(p:A->B->C->D->Prop):Prop | mk (a:A) (b:B) (c:C) (d:D) (h:p a b c d):E4 p
inductive E5{A B C D E:Type}(p:A->B->C->D->E->Prop):Prop | mk (a:A) (b:B) (c:C) (d:D) (e:E) (h:p a b c d e):E5 p
inductive E6{A B C D E F:Type}(p:A->B->C->D->E->F->Prop):Prop | mk (a:A) (b:B) (c:C) (d:D) (e:E) (f:F) (h:p a b c d e f):E6 p
inductive E7{A B C D E F G:Type}(p:A->B->C->D->E->F->G->Prop):Prop | mk (a:A) (b:B) (c:C) (d:D) (e:E) (f:F) (g:G) (h:p a b c d e f g):E7 p
inductive E9{A B C D E F G H I:Type}(p:A->B->C->D->E->F->G->H->I->Prop):Prop | mk (a:A) (b:B) (c:C) (d:D) (e:E) (f:F) (g:G) (h:H) (i:I) (h:p a b c d e f g h i):E9 p
def top(i:Nat):Stmt:=PySem.Challenge.pw_boardglue_k72_too_many_squares.main.body.getD i (.Pass ⟨0,0,0,0⟩)
abbrev S1:Stmt:=top 17
abbrev S2:Stmt:=top 18
abbrev S3:Stmt:=top 21
abbrev S7:Stmt:=top 22
abbrev S8:Stmt:=top 23
abbrev S9:Stmt:=top 24
abbrev S10:Stmt:=top 25
abbrev S11:Stmt:=top 26
abbrev S12:Stmt:=top 27
abbrev S13:Stmt:=top 28
abbrev S14:Stmt:=top 29
abbrev S15:Stmt:=top 30
abbrev S16:Stmt:=top 31
abbrev S17:Stmt:=top 33
abbrev S18:Stmt:=top 34
abbrev S20:Stmt:=top 35
abbrev S21:Stmt:=top 36
abbrev S22:Stmt:=top 37
abbrev S23:Stmt:=top 38
abbrev S24:Stmt:=top 40
abbrev S25:Stmt:=top 41
abbrev S26:Stmt:=top 42
abbrev S27:Stmt:=top 44
abbrev S28:Stmt:=top 50
abbrev S29:Stmt:=top 51
abbrev S30:Stmt:=top 52
abbrev S31:Stmt:=top 53
abbrev S32:Stmt:=top 54
abbrev S33:Stmt:=top 55
abbrev S34:Stmt:=top 56
abbrev S35:Stmt:=top 59
abbrev S36:Stmt:=top 60
abbrev S37:Stmt:=top 61
abbrev S38:Stmt:=top 62
abbrev S39:Stmt:=top 63
abbrev S40:Stmt:=top 64
abbrev S41:Stmt:=top 65
abbrev S42:Stmt:=top 68
abbrev S43:Stmt:=top 69
abbrev S44:Stmt:=top 70
abbrev S45:Stmt:=top 71
abbrev S46:Stmt:=top 72
abbrev S47:Stmt:=top 73
abbrev S48:Stmt:=top 74
abbrev S49:Stmt:=top 75
abbrev S50:Stmt:=top 76
abbrev S51:Stmt:=top 78
abbrev S52:Stmt:=top 79
abbrev S53:Stmt:=top 83
abbrev S54:Stmt:=top 84
abbrev S55:Stmt:=top 85
abbrev S56:Stmt:=top 86
abbrev S57:Stmt:=top 87
abbrev S58:Stmt:=top 88
abbrev S59:Stmt:=top 89
abbrev S60:Stmt:=top 91
abbrev S61:Stmt:=top 92
abbrev S62:Stmt:=top 93
abbrev S63:Stmt:=top 94
abbrev S64:Stmt:=top 95
abbrev S65:Stmt:=top 96
abbrev S66:Stmt:=top 97
abbrev S67:Stmt:=top 98
abbrev S68:Stmt:=top 99
abbrev S69:Stmt:=top 101
abbrev S70:Stmt:=top 102
abbrev S71:Stmt:=top 103
abbrev S72:Stmt:=xV (top 57) 0
abbrev S73:Stmt:=xV (top 57) 1
abbrev S74:Stmt:=xV (top 57) 2
abbrev S75:Stmt:=xV (top 57) 3
abbrev S76:Stmt:=xV (top 57) 4
abbrev S77:Stmt:=xV (top 57) 5
structure Bl(mg:Str->Option Value):Prop where
  ValueError:mg "ValueError"=none
  abs:mg "abs"=none
  all:mg "all"=none
  bool:mg "bool"=none
  dict:mg "dict"=none
  enumerate:mg "enumerate"=none
  int:mg "int"=none
  isinstance:mg "isinstance"=none
  len:mg "len"=none
  list:mg "list"=none
  min:mg "min"=none
  range:mg "range"=none
  reversed:mg "reversed"=none
  sorted:mg "sorted"=none
  str:mg "str"=none
  sum:mg "sum"=none
  tuple:mg "tuple"=none
  zip:mg "zip"=none
theorem uD:bootBuiltins "ValueError"=some (.type "ValueError"):=by decide +kernel
theorem HV:bootBuiltins "abs"=some (.builtin "abs"):=by decide +kernel
theorem Kk:bootBuiltins "all"=some (.builtin "all"):=by decide +kernel
theorem Jo:bootBuiltins "bool"=some (.type "bool"):=by decide +kernel
theorem ED:bootBuiltins "dict"=some (.type "dict"):=by decide +kernel
theorem HD:bootBuiltins "int"=some (.type "int"):=by decide +kernel
theorem zL:bootBuiltins "isinstance"=some (.builtin "isinstance"):=by decide +kernel
theorem Ax:bootBuiltins "list"=some (.type "list"):=by decide +kernel
theorem GY:bootBuiltins "min"=some (.builtin "min"):=by decide +kernel
theorem Fw:bootBuiltins "sorted"=some (.builtin "sorted"):=by decide +kernel
theorem Jv:bootBuiltins "str"=some (.type "str"):=by decide +kernel
theorem DI:bootBuiltins "sum"=some (.builtin "sum"):=by decide +kernel
theorem uk:bootBuiltins "tuple"=some (.type "tuple"):=by decide +kernel
theorem Ke:bootBuiltins "zip"=some (.type "zip"):=by decide +kernel
structure Cs where
  YardError:Addr
  NoLength:Addr
  NoBoard:Addr
  NoText:Addr
  NoDeed:Addr
  NoName:Addr
  Grain:Addr
  Unfit:Addr
  TooMany:Addr
  NoRow:Addr
  Apart:Addr
  Yard:Addr
structure Xs(K:iL)(mg:Str->Option Value)(cs:Cs):Prop where
  m_YardError:mg "YardError"=some (.ref cs.YardError)
  m_NoLength:mg "NoLength"=some (.ref cs.NoLength)
  m_NoBoard:mg "NoBoard"=some (.ref cs.NoBoard)
  m_NoText:mg "NoText"=some (.ref cs.NoText)
  m_NoDeed:mg "NoDeed"=some (.ref cs.NoDeed)
  m_NoName:mg "NoName"=some (.ref cs.NoName)
  m_Grain:mg "Grain"=some (.ref cs.Grain)
  m_Unfit:mg "Unfit"=some (.ref cs.Unfit)
  m_TooMany:mg "TooMany"=some (.ref cs.TooMany)
  m_NoRow:mg "NoRow"=some (.ref cs.NoRow)
  m_Apart:mg "Apart"=some (.ref cs.Apart)
  m_Yard:mg "Yard"=some (.ref cs.Yard)
  o_YardError:XOk K cs.YardError
  o_TooMany:XOk K cs.TooMany
  s_TooMany:W.mroIn K cs.TooMany (.ref cs.YardError)=some true
  k_TooMany_YardError:W.kitOne K (.ref cs.TooMany) (.ref cs.YardError)=some true
  k_TooMany_NoLength:W.kitOne K (.ref cs.TooMany) (.ref cs.NoLength)=some false
  k_TooMany_NoBoard:W.kitOne K (.ref cs.TooMany) (.ref cs.NoBoard)=some false
  k_TooMany_NoText:W.kitOne K (.ref cs.TooMany) (.ref cs.NoText)=some false
  k_TooMany_NoDeed:W.kitOne K (.ref cs.TooMany) (.ref cs.NoDeed)=some false
  k_TooMany_NoName:W.kitOne K (.ref cs.TooMany) (.ref cs.NoName)=some false
  k_TooMany_Grain:W.kitOne K (.ref cs.TooMany) (.ref cs.Grain)=some false
  k_TooMany_Unfit:W.kitOne K (.ref cs.TooMany) (.ref cs.Unfit)=some false
  k_TooMany_TooMany:W.kitOne K (.ref cs.TooMany) (.ref cs.TooMany)=some true
  k_TooMany_NoRow:W.kitOne K (.ref cs.TooMany) (.ref cs.NoRow)=some false
  k_TooMany_Apart:W.kitOne K (.ref cs.TooMany) (.ref cs.Apart)=some false
  k_TooMany_Yard:W.kitOne K (.ref cs.TooMany) (.ref cs.Yard)=some false
  k_TooMany_ValueError:W.kitOne K (.ref cs.TooMany) (.type "ValueError")=some true
  c_Yard:Cls K cs.Yard
  n_Yard_root:NoAttr K cs.Yard "root"
  n_Yard_turning:NoAttr K cs.Yard "turning"
  n_Yard_known:NoAttr K cs.Yard "known"
  n_Yard_lying:NoAttr K cs.Yard "lying"
  n_Yard_done:NoAttr K cs.Yard "done"
def Rep(D:Int)(M:Nat)(s:Sd):Prop:=∃ X Y:Int,Bd M X/\Bd M Y/\s.x*D=X*s.z/\s.y*D=Y*s.z
structure So(d D:Int)(M:Nat)(s:Sd):Prop where
  z1:1<=s.z
  g:g3 s.x s.y s.z=1
  up:sgn d s.x s.y=1
  r:Rep D M s
variable {D d:Int}{M:Nat}
theorem So.sk{K:Nat}{s:Sd}(h:So d D M s)(hD:1<=D)(bD:Bd K D):SK M K s:=by
  obtain ⟨X,Y,bX,bY,hx,hy⟩:=h.r;obtain ⟨e1,e2,e3⟩:=zC h.z1 h.g (show D≠0 by lia) hx hy;refine ⟨h.z1,h.g,?_,?_,?_⟩
  . rw [e1];exact bX.fdiv _
  . rw [e2];exact bY.fdiv _
  . rw [e3];exact bD.fdiv _
theorem So.ne{s:Sd}(h:So d D M s):s.z≠0:=by have:=h.z1; lia
theorem So.mono{d D:Int}{M M':Nat}{s:Sd}(h:So d D M s)(l:M<=M'):So d D M' s:=by
  obtain ⟨X,Y,bX,bY,hx,hy⟩:=h.r;exact ⟨h.z1,h.g,h.up,X,Y,bX.mono l,bY.mono l,hx,hy⟩
variable {a:Int}
theorem ye{b c e:Int}(hb:b≠0)(he:e≠0)(h:a*e=c*b):Rat.divInt a b=Rat.divInt c e:=(cB hb he).mpr h
theorem So.pq{s:Sd}(h:So d D M s)(hD:1<=D):∃ X Y:Int,Bd M X/\Bd M Y/\s.p=Rat.divInt X D/\s.q=Rat.divInt Y D:=by
  obtain ⟨X,Y,bX,bY,hx,hy⟩:=h.r;exact ⟨X,Y,bX,bY,ye h.ne (!2) hx,ye h.ne (!2) hy⟩
def BoD(d D:Int)(M:Nat)(b:Bo):Prop:=So d D M b.w/\So d D M b.h
def TbD(E:Int)(k:Nat)(t:Tb):Prop:=∃ a b c e:Int,(Bd k a/\Bd k b/\Bd k c/\Bd k e)/\t.a=Rat.divInt a E/\t.b=Rat.divInt b E/\t.c=Rat.divInt c E/\t.e=Rat.divInt e E
theorem TbD.bt{E:Int}{k j:Nat}{t:Tb}(h:TbD E k t)(hE:E≠0)(bE:Bd j E):t.Bt k j:=by
  obtain ⟨a,b,c,e,⟨h1,h2,h3,h4⟩,e1,e2,e3,e4⟩:=h;refine ⟨?_,?_,?_,?_⟩
  . rw [e1]; exact xO hE h1 bE
  . rw [e2]; exact xO hE h2 bE
  . rw [e3]; exact xO hE h3 bE
  . rw [e4]; exact xO hE h4 bE
theorem BoD.tb{d D:Int}{M:Nat}{b:Bo}(h:BoD d D M b)(hD:1<=D):TbD (D*D) (M+M) b.tb:=by
  obtain ⟨X,Y,bX,bY,ep,eq⟩:=h.1.pq hD;obtain ⟨X',Y',bX',bY',ep',eq'⟩:=h.2.pq hD;refine ⟨X*X',X*Y',Y*X',Y*Y',⟨bX.mul bX',bX.mul bY',bY.mul bX',bY.mul bY'⟩,?_,?_,?_,?_⟩
  . show b.w.p*b.h.p=_;rw [ep,ep',xU]
  . show b.w.p*b.h.q=_;rw [ep,eq',xU]
  . show b.w.q*b.h.p=_;rw [eq,ep',xU]
  . show b.w.q*b.h.q=_;rw [eq,eq',xU]
theorem y9{b E:Int}(hE:E≠0):Rat.divInt a E+Rat.divInt b E=Rat.divInt (a+b) E:=by
  rw [<-CO hE hE];refine ye (ay hE hE) hE ?_;grind
theorem TbD.add{E:Int}{k:Nat}{s t:Tb}(hE:E≠0)(h:TbD E k s)(h':TbD E k t):TbD E (k+1) (s.add t):=by
  obtain ⟨a,b,c,e,⟨h1,h2,h3,h4⟩,e1,e2,e3,e4⟩:=h;obtain ⟨a',b',c',e',⟨k1,k2,k3,k4⟩,f1,f2,f3,f4⟩:=h';refine ⟨a+a',b+b',c+c',e+e',⟨h1.add k1,h2.add k2,h3.add k3,h4.add k4⟩,?_,?_,?_,?_⟩
  . show s.a+t.a=_;rw [e1,f1,y9 hE]
  . show s.b+t.b=_;rw [e2,f2,y9 hE]
  . show s.c+t.c=_;rw [e3,f3,y9 hE]
  . show s.e+t.e=_;rw [e4,f4,y9 hE]
theorem TbD.mono{E:Int}{k k':Nat}{t:Tb}(h:TbD E k t)(l:k<=k'):TbD E k' t:=by
  obtain ⟨a,b,c,e,⟨h1,h2,h3,h4⟩,r⟩:=h;exact ⟨a,b,c,e,⟨h1.mono l,h2.mono l,h3.mono l,h4.mono l⟩,r⟩
theorem MD{l:List Bo}(h:∀ b∈l,BoD d D M b)(hD:1<=D):TbD (D*D) (M+M+l.length) (tbs l):=by
  have hE:D*D≠0:=ay (!2) (!2);induction l with
  | nil =>
    have z:(0:Rat)=Rat.divInt 0 (D*D):=(fG _).symm;have b0:Bd (M+M+([]:List Bo).length) 0:=fH _;exact ⟨0,0,0,0,⟨b0,b0,b0,b0⟩,z,z,z,z⟩
  | cons b l ih =>
    have h1:=(h b aV).tb hD;have h2:=ih λc hc=>h c (az _ hc);exact TbD.add hE (h1.mono (ck _ _)) h2
theorem L9{K n:Nat}{l:List Bo}(h:∀ b∈l,BoD d D M b)(hD:1<=D)(bD:Bd K D)(hl:l.length<=n):(tbs l).Bt (M+M+n) (K+K) :=
  ((MD h hD).mono (show M+M+l.length<=M+M+n by lia)).bt (ay (!2) (!2)) (bD.mul bD)
def tkS(s t:Sd):Sd:=⟨lA (s.x*t.z+-t.x*s.z) (s.y*t.z+-t.y*s.z) (s.z*t.z),lB (s.x*t.z+-t.x*s.z) (s.y*t.z+-t.y*s.z) (s.z*t.z),lN (s.x*t.z+-t.x*s.z) (s.y*t.z+-t.y*s.z) (s.z*t.z)⟩
def shS(s:Sd)(m k:Int):Sd:=⟨lA (s.x*m) (s.y*m) (s.z*k),lB (s.x*m) (s.y*m) (s.z*k),lN (s.x*m) (s.y*m) (s.z*k)⟩
variable {X Y:Int}
theorem uN{b n:Int}(hn:n≠0)(h1:a*D=X*n)(h2:b*D=Y*n):lA a b n*D=X*lN a b n/\lB a b n*D=Y*lN a b n:=by
  have e1:=l_a (a:=a) (b:=b) (n:=n);have e2:=l_b (a:=a) (b:=b) (n:=n);constructor
  . refine xE hn ?_;have:lA a b n*D*n=(lA a b n*n)*D:=by grind
    rw [this,e1];have:a*lN a b n*D=(a*D)*lN a b n:=by grind
    rw [this,h1];grind
  . refine xE hn ?_;have:lB a b n*D*n=(lB a b n*n)*D:=by grind
    rw [this,e2];have:b*lN a b n*D=(b*D)*lN a b n:=by grind
    rw [this,h2];grind
theorem JF{s t:Sd}(hs:s.z≠0)(ht:t.z≠0):(tkS s t).p=s.p - t.p/\(tkS s t).q=s.q - t.q:=by
  have hn:s.z*t.z≠0:=ay hs ht;obtain ⟨h1,h2⟩:=xS (a:=s.x*t.z+-t.x*s.z) (b:=s.y*t.z+-t.y*s.z) hn;constructor
  . show Rat.divInt (lA _ _ _) (lN _ _ _)=_;rw [h1,CO hs ht,<-Rat.neg_divInt,fS];rfl
  . show Rat.divInt (lB _ _ _) (lN _ _ _)=_;rw [h2,CO hs ht,<-Rat.neg_divInt,fS];rfl
theorem KA{s t:Sd}(hs:s.z≠0)(ht:t.z≠0):(adS s t).p=s.p+t.p/\(adS s t).q=s.q+t.q:=by
  have hn:s.z*t.z≠0:=ay hs ht;obtain ⟨h1,h2⟩:=xS (a:=s.x*t.z+t.x*s.z) (b:=s.y*t.z+t.y*s.z) hn;constructor
  . show Rat.divInt (lA _ _ _) (lN _ _ _)=_;rw [h1,CO hs ht];rfl
  . show Rat.divInt (lB _ _ _) (lN _ _ _)=_;rw [h2,CO hs ht];rfl
variable {m:Int}
theorem GA{s:Sd}{k:Int}(hs:s.z≠0)(hk:k≠0):(shS s m k).p=s.p*Rat.divInt m k/\(shS s m k).q=s.q*Rat.divInt m k:=by
  have hn:s.z*k≠0:=ay hs hk;obtain ⟨h1,h2⟩:=xS (a:=s.x*m) (b:=s.y*m) hn;constructor
  . show Rat.divInt (lA _ _ _) (lN _ _ _)=_;rw [h1,xU];rfl
  . show Rat.divInt (lB _ _ _) (lN _ _ _)=_;rw [h2,xU];rfl
theorem MJ{w h f:Sd}(hw:w.z≠0)(hf:f.z≠0):(⟨f,h⟩:Bo).tb.add (⟨tkS w f,h⟩:Bo).tb=(⟨w,h⟩:Bo).tb:=by
  obtain ⟨e1,e2⟩:=JF hw hf;refine Tb.ext ?_ ?_ ?_ ?_ <;> simp only [Tb.add,Bo.tb,e1,e2] <;> grind
theorem Mt{w h f:Sd}(hh:h.z≠0)(hf:f.z≠0):(⟨w,f⟩:Bo).tb.add (⟨w,tkS h f⟩:Bo).tb=(⟨w,h⟩:Bo).tb:=by
  obtain ⟨e1,e2⟩:=JF hh hf;refine Tb.ext ?_ ?_ ?_ ?_ <;> simp only [Tb.add,Bo.tb,e1,e2] <;> grind
theorem ER(hm:m≠0):Rat.divInt 1 m*Rat.divInt m 1=1:=by
  rw [<-xU];refine (ye (c:=1) (e:=1) (ay hm ⋯) ⋯ (by grind)).trans ?_;decide +kernel
theorem M8{w h:Sd}(hw:w.z≠0)(hh:h.z≠0)(hm:m≠0):(⟨shS w 1 m,shS h m 1⟩:Bo).tb=(⟨w,h⟩:Bo).tb:=by
  obtain ⟨e1,e2⟩:=GA (m:=1) (k:=m) hw hm;obtain ⟨e3,e4⟩:=GA (m:=m) (k:=1) hh ⋯;have e:=ER hm;refine Tb.ext ?_ ?_ ?_ ?_ <;> simp only [Bo.tb,e1,e2,e3,e4] <;> grind
theorem M4{w h:Sd}(hw:w.z≠0)(hh:h.z≠0)(hm:m≠0):(⟨shS w m 1,shS h 1 m⟩:Bo).tb=(⟨w,h⟩:Bo).tb:=by
  obtain ⟨e1,e2⟩:=GA (m:=m) (k:=1) hw ⋯;obtain ⟨e3,e4⟩:=GA (m:=1) (k:=m) hh hm;have e:=ER hm;refine Tb.ext ?_ ?_ ?_ ?_ <;> simp only [Bo.tb,e1,e2,e3,e4] <;> grind
theorem M9{w w' h:Sd}(hw:w.z≠0)(hw':w'.z≠0):(⟨adS w w',h⟩:Bo).tb=(⟨w,h⟩:Bo).tb.add (⟨w',h⟩:Bo).tb:=by
  obtain ⟨e1,e2⟩:=KA hw hw';refine Tb.ext ?_ ?_ ?_ ?_ <;> simp only [Tb.add,Bo.tb,e1,e2] <;> grind
theorem MI{w h h':Sd}(hh:h.z≠0)(hh':h'.z≠0):(⟨w,adS h h'⟩:Bo).tb=(⟨w,h⟩:Bo).tb.add (⟨w,h'⟩:Bo).tb:=by
  obtain ⟨e1,e2⟩:=KA hh hh';refine Tb.ext ?_ ?_ ?_ ?_ <;> simp only [Tb.add,Bo.tb,e1,e2] <;> grind
inductive Dd where
  | cut (al:Bool) (n:Int) (s:Sd)
  | glue (al:Bool) (n m:Int)
  | shift (al:Bool) (n k:Int)
  | turn (n:Int)
abbrev SY(s:Sd):Prop:=SK 2400 2100 s
def Dd.wd:Dd->Str
  | .cut al _ _=>if al then "along" else "across"
  | .glue al _ _=>if al then "atop" else "beside"
  | .shift al _ _=>if al then "spread" else "stack"
  | .turn _=>"turn"
def Dd.n:Dd->Int
  | .cut _ n _=>n
  | .glue _ n _=>n
  | .shift _ n _=>n
  | .turn n=>n
def Dd.names:Dd->List Int
  | .glue _ n m=>[n,m]
  | d=>[d.n]
def DdAt(H:Hp)(p:Addr):Dd->Prop
  | .cut al n s=>∃ q,H p=some (.tup [.str (Dd.cut al n s).wd,.int n,.ref q])/\SdAt H q s
  | .glue al n m=>H p=some (.tup [.str (Dd.glue al n m).wd,.int n,.int m])
  | .shift al n k=>H p=some (.tup [.str (Dd.shift al n k).wd,.int n,.int k])
  | .turn n=>H p=some (.tup [.str "turn",.int n])
def Dd.Ok:Dd->Prop
  | .cut _ _ s=>SY s
  | .shift _ _ k=>1<=k/\Bd 1024 k
  | _=>True
variable {e:Dd}{H H':Hp}
theorem DdAt.same{p:Addr}(h:DdAt H p e)(s:Same H H'):DdAt H' p e:=by
  cases e with
  | cut al n t=>obtain ⟨q,h1,h2⟩:=h; exact ⟨q,s _ _ h1,s _ _ h2⟩
  | glue al n m=>exact s _ _ h
  | shift al n k=>exact s _ _ h
  | turn n=>exact s _ _ h
def Dd.two:Dd->Bool
  | .glue _ _ _=>true
  | _=>false
def Dd.new(b c:Bo):Dd->List Bo
  | .cut false _ s=>[⟨s,b.h⟩,⟨tkS b.w s,b.h⟩]
  | .cut true _ s=>[⟨b.w,s⟩,⟨b.w,tkS b.h s⟩]
  | .glue false _ _=>[⟨adS b.w c.w,b.h⟩]
  | .glue true _ _=>[⟨b.w,adS b.h c.h⟩]
  | .shift false _ k=>[⟨shS b.w 1 k,shS b.h k 1⟩]
  | .shift true _ k=>[⟨shS b.w k 1,shS b.h 1 k⟩]
  | .turn _=>[⟨b.h,b.w⟩]
def EV(d:Int)(w s:Sd):Prop:=SY w/\SY s/\0<sgn d s.x s.y/\0<sgn d (w.x*s.z - s.x*w.z) (w.y*s.z - s.y*w.z)
def Dd.Fit(d:Int)(b c:Bo):Dd->Prop
  | .cut false _ s=>EV d b.w s
  | .cut true _ s=>EV d b.h s
  | .glue false _ _=>b.h=c.h/\SY b.w/\SY c.w
  | .glue true _ _=>b.w=c.w/\SY b.h/\SY c.h
  | .shift _ _ k=>1<=k/\Bd 1024 k/\SY b.w/\SY b.h
  | .turn _=>True
def Dd.isT:Dd->Bool
  | .turn _=>true
  | _=>false
def zY(ns:List Nat):List Int->List Nat
  | []=>ns
  | m::ms=>zY (ns.filter λn:Nat=>decide ((n:Int)≠m)) ms
def CellsOf(cl:List Cell)(e:Dd)(c c':Cell):Prop:=match e with
  | .glue _ n m=>(∃ i:Nat,n=(i:Int)/\cl[i]?=some c)/\∃ i:Nat,m=(i:Int)/\cl[i]?=some c'
  | e=>(∃ i:Nat,e.n=(i:Int)/\cl[i]?=some c)/\c'=c
structure Yd where
  p:Addr
  dx:Addr
  k:Addr
  l:Addr
  t:Addr
def Yd.fs (y:Yd) (d:Int) (tn:Bool):List (Str×V):=[("root",.int d),("turning",.bl tn),("known",.ref y.k),("lying",.ref y.l),("done",.ref y.t)]
def nmK(ns:List Nat):List (Key×V):=ns.map λn:Nat=>((.inl (n:Int):Key),V.bl true)
structure YdAt(C:Addr)(H:Hp)(y:Yd)(d:Int)(tn:Bool)(cl:List Cell)(ns:List Nat)(lg:List V):Prop where
  o:H y.p=some (.ins C y.dx (y.fs d tn))
  k:H y.k=some (.lst (cl.map Cell.v))
  l:H y.l=some (.dK (nmK ns))
  t:H y.t=some (.lst lg)
  kt:y.k≠y.t
  at':∀ c∈cl,c.At H
  up:ns.Pairwise (· < ·)
  lt:∀ n∈ns,n<cl.length
  lc:cl.length<=400
  ll:lg.length<=200
theorem YdAt.same{C:Addr}{H H':Hp}{y:Yd}{d:Int}{tn:Bool}{cl:List Cell}{ns:List Nat}{lg:List V}(h:YdAt C H y d tn cl ns lg)(s:Same H H'):YdAt C H' y d tn cl ns lg :=
  ⟨s _ _ h.o,s _ _ h.k,s _ _ h.l,s _ _ h.t,h.kt,λc hc=>(h.at' c hc).same s,h.up,h.lt,h.lc,h.ll⟩
variable {ta:TE}
theorem yn{X:Cx}{e:Expr}{f:Str}{pos:Pos}{K:iL}(hK:X.K=K)(he:PE X e ta)(hb:attributeBase e f X.env (eval e X.env)=eval e X.env):PE X (.Attribute e f pos) (tFld K ta f):=by
  subst hK;exact KE he hb
variable {σ:L2.St}
theorem M2{K:iL}{f:Str}{Q:VK}(h:ta σ H λx H1=>∃ a C dx fs v,x=.ref a/\H1 a=some (.ins C dx fs)/\Cls K C/\NoAttr K C f/\fs.lookup f=some v/\Q v H1):tFld K ta f σ H Q:=h
variable {tv:TE}
theorem Lg{K:iL}{f:Str}{D:Ends}(h:tv σ H λy H1=>ta σ H1 λx H2=>∃ a C dx fs,x=.ref a/\H2 a=some (.ins C dx fs)/\Cls K C/\NoAttr K C f/\fs.length<1000/\D.nx σ (upd H2 a (.ins C dx (putF f y fs)))):sFld K ta tv f D σ H:=h
local macro_rules | `(tactic| walk_at "rd")=>`(tactic| first | with_reducible refine M2 ?_ | with_reducible refine Lg ?_)
variable {dx:Addr}
theorem tD{K:iL}{f:Str}{D:Ends}{y:V}{a C:Addr}{fs:List (Str×V)}(e:H a=some (.ins C dx fs))(c:Cls K C)(n:NoAttr K C f)(hl:fs.length<1000)(q:∀ H1,SameX a H H1->H1 a=some (.ins C dx (putF f y fs))->D.nx σ H1):∃ a' C dx fs,V.ref a=.ref a'/\H a'=some (.ins C dx fs)/\Cls K C/\NoAttr K C f/\fs.length<1000/\D.nx σ (upd H a' (.ins C dx (putF f y fs))) :=
  ⟨a,C,dx,fs,rfl,e,c,n,hl,q _ (λb u q n=>by rw [zm n]; exact q) zk⟩
variable {ys:List V}
theorem DV{K:iL}{Q:VK}{p:Addr}(h:H p=some (.lst ys))(q:∀ l H2,H l=none->Same H H2->H2 l=some (.lst ys)->Q (.ref l) H2):rLst K [.ref p] H Q:=⟨p,ys,rfl,.inl (SqL.of h),λl hl=>q l _ hl (zD hl _) zk⟩
variable {kvs:List (Key×V)}{ps:List Addr}
theorem Fr{Q:VK}{l:Addr}(e:H l=some (.lst (ps.map V.ref)))(hl:ps.length=kvs.length)(hp:∀ (i:Nat) (p:Addr) (kv:Key×V),ps[i]?=some p->kvs[i]?=some kv->H p=some (.tup [kV kv.1,kv.2]))(hn:(kvs.map (·.1)).Nodup)(hz:kvs.length<=1000)(q:∀ p H2,H p=none->Same H H2->H2 p=some (.dK kvs)->Q (.ref p) H2):HJ [.ref l] H Q :=
  ⟨l,ps,kvs,rfl,e,hl,hp,hn,bW hz (!3),λp h=>q p _ h (zD h _) zk⟩
variable {ns:List Nat}
theorem tQ(h:ns.Pairwise (· < ·)):((nmK ns).map (·.1)).Nodup:=by
  rw [nmK,ik];refine gv.mpr (h.imp λ{a b} hab e=>?_);have e:(a:Int)=b:=fm e
  lia
theorem SameX.of{l:Addr}(s:Same H H'):SameX l H H':=λb o e _=>s b o e
theorem yM{f:Str}{v:V}{fs:List (Str×V)}{n:Nat}(h:fs.length<n):(putF f v fs).length<n+1:=a8 (xB f v fs) (Nat.succ_lt_succ h)
variable {ty:TE}
theorem JU{td:TE}{Q:VK}(h:ty σ H λy H1=>td σ H1 λx H2=>∃ a o,x=.ref a/\DGet H2 a y o/\Q (.bl (!o.isSome)) H2):DG ty td σ H Q:=h
theorem Kz{td:TE}{Q:VK}(h:td σ H λx H1=>ty σ H1 λy H2=>∃ a v,x=.ref a/\DGet H2 a y (some v)/\Q v H2):KO td ty σ H Q:=h
theorem KN{td:TE}{D:Ends}(h:tv σ H λv H1=>td σ H1 λx H2=>ty σ H2 λy H3=>∃ a H4,x=.ref a/\DPut H3 a y v H4/\D.nx σ H4):JG td ty tv D σ H:=h
local macro_rules | `(tactic| walk_at "rd")=>`(tactic| first | with_reducible refine JU ?_ | with_reducible refine Kz ?_ | with_reducible refine KN ?_)
theorem wP{n:Nat}:∀ {ns:List Nat},n∈ns->valV (nmK ns) (.inl (n:Int))=some (.bl true)
  | m::ns,h=>by
    by_cases e:m=n
    . subst e; exact z6 rfl
    . rw [nmK,aW,zV (λc=>e (d9 (fm c)))];exact wP (by simpa [bZ e] using h)
theorem EZ{k:Nat}(h:ns.Pairwise (· < ·))(hk:∀ n∈ns,n<k):ns.length<=k:=by
  have hn:ns.Nodup:=h.imp λhab=>aP hab;have:=(gO (n:=k))
  exact (bQ (n:=k)) ▸ (eU hn λn h=>bV.mpr (hk n h))
def Prs(cl:List Cell)(ns:List Nat)(H:Hp)(ps:List Addr):Prop:=ps.length=ns.length/\∀ (j:Nat) (p:Addr),ps[j]?=some p->∃ n c,ns[j]?=some n/\cl[n]?=some c/\H p=some (.tup [.int (n:Int),.ref c.p])
variable {dvs:List V}{sp:Sp}{E:XK}
theorem Lh{C:Addr}{m:Str}{t:TA}{Q:VK}(h:ta σ H λx H1=>∃ a dx fs,x=.ref a/\H1 a=some (.ins C dx fs)/\fs.lookup m=none/\t σ H1 λvs H2=>sp (x::(vs++dvs)) H2 Q E):De C m sp dvs E ta t σ H Q:=h
theorem LI{td:TE}{Q:VK}(h:td σ H λx H1=>∃ a,x=.ref a/\IsD H1 a/\ty σ H1 λy H2=>∃ kvs k v,H2 a=some (.dK kvs)/\y=kV k/\valV kvs k=some v/\Q v (upd H2 a (.dK (Am kvs k)))):HW td ty σ H Q:=h
local macro_rules | `(tactic| walk_at "rd")=>`(tactic| first | with_reducible refine Lh ?_ | with_reducible refine LI ?_)
theorem DdAt.tup{H:Hp}{p:Addr}{e:Dd}(h:DdAt H p e):∃ r,H p=some (.tup (.str e.wd::.int e.n::r)):=by
  cases e with
  | cut al n t=>obtain ⟨q,h1,h2⟩:=h; exact ⟨_,h1⟩
  | glue al n m=>exact ⟨_,h⟩
  | shift al n k=>exact ⟨_,h⟩
  | turn n=>exact ⟨_,h⟩
theorem Jh(h:e.wd=Str.ofString "turn"):e.isT=true:=by
  cases e with
  | cut al n t=>cases al <;> exact absurd (show Str.ofString _=Str.ofString "turn" from h) (!3)
  | glue al n m=>cases al <;> exact absurd (show Str.ofString _=Str.ofString "turn" from h) (!3)
  | shift al n k=>cases al <;> exact absurd (show Str.ofString _=Str.ofString "turn" from h) (!3)
  | turn n=>rfl
theorem Mr{p A B F:Prop}[Decidable p](h:B)(k:p->B->A):if decide p=true then A else if false=true then F else B:=if_d (λc=>k c h) λ_=>if_f h
theorem Dd.names_len(e:Dd):e.names.length<=2:=by cases e <;> simp [Dd.names]
def Dd.cells(e:Dd)(c c':Cell):List Cell:=if e.two then [c,c'] else [c]
variable {c c':Cell}{cl:List Cell}
theorem AA(h:CellsOf cl e c c'){i:Nat}(hi:e.names[i]?=some m):∃ (n:Nat) (x:Cell),m=(n:Int)/\cl[n]?=some x/\(e.cells c c')[i]?=some x:=by
  cases e with
  | glue al n k =>
    obtain ⟨⟨j,h1,h2⟩,j',h3,h4⟩:=h
    match i,hi with
    | 0,hi=>injection hi with hi; exact ⟨j,c,hi ▸ h1,h2,rfl⟩
    | 1,hi=>injection hi with hi; exact ⟨j',c',hi ▸ h3,h4,rfl⟩
    | i+2,hi=>exact nomatch hi
  | cut al n t =>
    obtain ⟨⟨j,h1,h2⟩,_⟩:=h
    match i,hi with
    | 0,hi=>injection hi with hi; exact ⟨j,c,hi ▸ h1,h2,rfl⟩
    | i+1,hi=>exact nomatch hi
  | shift al n k =>
    obtain ⟨⟨j,h1,h2⟩,_⟩:=h
    match i,hi with
    | 0,hi=>injection hi with hi; exact ⟨j,c,hi ▸ h1,h2,rfl⟩
    | i+1,hi=>exact nomatch hi
  | turn n =>
    obtain ⟨⟨j,h1,h2⟩,_⟩:=h
    match i,hi with
    | 0,hi=>injection hi with hi; exact ⟨j,c,hi ▸ h1,h2,rfl⟩
    | i+1,hi=>exact nomatch hi
theorem CellsOf.mem(h:CellsOf cl e c c'):c∈cl/\c'∈cl:=by
  cases e with
  | glue al n k=>obtain ⟨⟨j,h1,h2⟩,j',h3,h4⟩:=h; exact ⟨av h2,av h4⟩
  | cut al n t=>obtain ⟨⟨j,h1,h2⟩,rfl⟩:=h; exact ⟨av h2,av h2⟩
  | shift al n k=>obtain ⟨⟨j,h1,h2⟩,rfl⟩:=h; exact ⟨av h2,av h2⟩
  | turn n=>obtain ⟨⟨j,h1,h2⟩,rfl⟩:=h; exact ⟨av h2,av h2⟩
theorem Dd.cells_len(e:Dd)(c c':Cell):(e.cells c c').length=e.names.length:=by cases e <;> rfl
theorem wl{m:Int}:∀ (ms:List Int) (ns:List Nat),zY ns (ms++[m])=(zY ns ms).filter λn:Nat=>decide ((n:Int)≠m)
  | [],_=>rfl
  | _::ms,_=>wl ms _
theorem mem_ndrop{n:Nat}:∀ {ms:List Int} {ns:List Nat},n∈zY ns ms↔n∈ns/\(n:Int)∉ms
  | [],ns=>by simp [zY]
  | m::ms,ns=>by
    rw [zY,mem_ndrop,fq];simp only [aU,decide_eq_true_eq,not_or];constructor
    . rintro ⟨⟨a,b⟩,c⟩; exact ⟨a,b,c⟩
    . rintro ⟨a,b,c⟩; exact ⟨⟨a,b⟩,c⟩
theorem xn:∀ {ms:List Int} {ns:List Nat},ns.Pairwise (· < ·)->(zY ns ms).Pairwise (· < ·)
  | [],_,h=>h
  | m::ms,ns,h=>show (zY (ns.filter λn:Nat=>decide ((n:Int)≠m)) ms).Pairwise (· < ·) from xn (h.filter _)
theorem vc{n:Nat}:∀ ns:List Nat,Am (nmK ns) (.inl (n:Int))=nmK (ns.filter λk:Nat=>decide ((k:Int)≠(n:Int)))
  | []=>rfl
  | k::ns=>by
    have ih:=vc (n:=n) ns;simp only [Am,nmK] at ih ⊢;by_cases c:(k:Int)=n
    . simp only [aW,dy,c,ne_eq,not_true_eq_false,decide_false,ih];rfl
    . simp only [aW,dy,ne_eq,Sum.inl.injEq,c,not_false_eq_true,decide_true,ih];rfl
theorem we{k:Nat}:∀ {ns:List Nat},(∀ n∈ns,n<k)->valV (nmK ns) (.inl (k:Int))=none
  | [],_=>rfl
  | m::ns,h=>by
    rw [nmK,aW,zV (λc=>absurd (d9 (fm c)) (aP (h m aV)))];exact we λn hn=>h n (az _ hn)
theorem Bb(e:Dd)(b c:Bo):(e.new b c).length<=2:=by
  cases e with
  | cut al n t=>cases al <;> exact ag _
  | glue al n m=>cases al <;> exact dQ _
  | shift al n k=>cases al <;> exact dQ _
  | turn n=>exact dQ _
theorem Same.nn(s:Same H H'){a:Addr}(h:H' a=none):H a=none:=by
  cases e:H a with
  | none=>rfl
  | some o=>rw [s _ _ e] at h; cases h
theorem zI{Q:VK}{xs:List V}(hl:xs.length<=1000)(h:∀ p H2,H p=none->Same H H2->H2 p=some (.tup xs)->Q (.ref p) H2):NewT xs H Q :=
  ⟨EB hl,λp hp=>h p _ hp (zD hp _) zk⟩
def rNeL(X:Cx):R2:=λx y H Q=>∃ a b xs ys bs n,x=.ref a/\y=.ref b/\n<=9/\SqL X.K H a xs/\SqL X.K H b ys/\EqVs X n H xs ys bs/\Q (.bl (!(bs.all id))) H
theorem Em{X:Cx}(hu:X.A.units+64<cLine):OpR X (compareOp .NotEq) (rNeL X):=by
  intro pins s σ H x y v u Q I rx ry h;obtain ⟨a,b,xs,ys,bs,n,rfl,rfl,hn,ha,hb,he,q⟩:=h;cases rx
  cases ry
  obtain ⟨is,js,p1,p2,hz,hj,e⟩:=Hk (A:=X.A) ha hb he I (!2);refine SeqAt.RcNeAt.lists p1 p2 hz (!2) hj X.prog X.w X.xe _ ?_;rw [e];exact ⟨.bl _,H,I,rfl,q⟩
structure Dd.Good(d D:Int)(M:Nat)(ns:List Nat)(f:Nat->Cell)(e:Dd)(n m:Nat):Prop where
  nm:e.names=if e.two then [(n:Int),(m:Int)] else [(n:Int)]
  hn:n∈ns
  hm:m∈ns
  ne:e.two=true->n≠m
  eq:e.two=false->m=n
  ok:e.Ok
  fit:e.Fit d (f n).b (f m).b
  new:∃ k,1<=k/\Bd 30 k/\∀ x∈e.new (f n).b (f m).b,BoD d (D*k) (M+32) x
theorem BoD.mono{d D:Int}{M M':Nat}{b:Bo}(h:BoD d D M b)(l:M<=M'):BoD d D M' b:=⟨h.1.mono l,h.2.mono l⟩
structure Sz(D:Int)(K' M:Nat):Prop where
  d1:1<=D
  bd:Bd K' D
  k:K'<=2050
  m:M<=2300
variable {K':Nat}
theorem Sz.sy{s:Sd}(z:Sz D K' M)(h:So d D M s):SY s:=(h.sk z.d1 z.bd).mono (by have:=z.m; lia) (by have:=z.k; lia)
def fL(L:List Cell)(n:Nat):Cell:=L[n]?.getD ⟨0,0,0,⟨⟨0,0,1⟩,⟨0,0,1⟩⟩⟩
theorem Jy{L:List Cell}{n:Nat}(h:L[n]?=some c):fL L n=c:=by unfold fL; rw [h]; rfl
theorem Kq{C:Addr}{t:TA}{Q:VK}(h:t σ H λvs H1=>∀ x dx,H1 x=none->H1 dx=none->dx≠x->sp (.ref x::(vs++dvs)) (upd (upd H1 dx (.own x)) x (.ins C dx [])) (λv H2=>v=.non/\Q (.ref x) H2) E):Ix C sp dvs E t σ H Q:=h
variable {tn:Bool}
theorem YdAt.mv{C:Addr}{y:Yd}{lg:List V}(h:YdAt C H y d tn cl ns lg)(f:∀ b o,H b=some o->(∃ xs,o=.tup xs)\/b=y.p\/b=y.k\/b=y.l\/b=y.t->H' b=some o):YdAt C H' y d tn cl ns lg :=
  ⟨f _ _ h.o (.inr (.inl rfl)),f _ _ h.k (.inr (.inr (.inl rfl))),f _ _ h.l (.inr (.inr (.inr (.inl rfl)))),f _ _ h.t (.inr (.inr (.inr (.inr rfl)))),h.kt,λc hc=>⟨f _ _ (h.at' c hc).t (.inl ⟨_,rfl⟩),f _ _ (h.at' c hc).w (.inl ⟨_,rfl⟩),f _ _ (h.at' c hc).h (.inl ⟨_,rfl⟩)⟩,h.up,h.lt,h.lc,h.ll⟩
structure Apart(y0 y:Yd)(lo:Addr):Prop where
  kk:y0.k≠y.k
  kt:y0.k≠y.t
  ll:y0.l≠y.l
  tk:y0.t≠y.k
  tt:y0.t≠y.t
  ko:y0.k≠lo
  to:y0.t≠lo
theorem KM(e:Dd)(b c:Bo):1<=(e.new b c).length:=by
  cases e with
  | cut al n t=>cases al <;> exact dQ _
  | glue al n m=>cases al <;> exact ag _
  | shift al n k=>cases al <;> exact ag _
  | turn n=>exact ag _
theorem FJ{ms:List Int}{n:Nat}(up:ns.Pairwise (· < ·))(hn:n∈ns)(hm:(n:Int)∈ms):(zY ns ms).length+1<=ns.length:=by
  have nd:(n::zY ns ms).Nodup:=dj.mpr ⟨λh=>(mem_ndrop.mp h).2 hm,(xn up).imp λhab=>aP hab⟩;exact eU nd λk hk=>by
    rcases aU.mp hk with rfl|hk
    . exact hn
    . exact (mem_ndrop.mp hk).1
theorem DdAt.sameX{p l:Addr}{xs:List V}(h:DdAt H p e)(s:SameX l H H')(e0:H l=some (.lst xs)):DdAt H' p e:=by
  cases e with
  | cut al n t=>obtain ⟨q,h1,h2⟩:=h; exact ⟨q,s.tup h1 e0,s.tup h2 e0⟩
  | glue al n m=>exact s.tup h e0
  | shift al n k=>exact s.tup h e0
  | turn n=>exact s.tup h e0
structure As where
  k:Nat
  ns:List Nat
  g:Nat->Bo
def gN(g:Nat->Bo)(k:Nat)(N:List Bo)(j:Nat):Bo:=if j<k then g j else N[j - k]?.getD ⟨⟨0,0,1⟩,⟨0,0,1⟩⟩
def As.next(s:As)(x:Dd×Nat×Nat):As:=⟨s.k+(x.1.new (s.g x.2.1) (s.g x.2.2)).length,zY s.ns x.1.names++List.range' s.k (x.1.new (s.g x.2.1) (s.g x.2.2)).length,gN s.g s.k (x.1.new (s.g x.2.1) (s.g x.2.2))⟩
def ends(s:As)(es:List (Dd×Nat×Nat)):As:=es.foldl As.next s
def As.st(L:List Cell):As:=⟨L.length,List.range L.length,λn=>(fL L n).b⟩
structure Nms(s:As)(e:Dd)(n m:Nat):Prop where
  nm:e.names=if e.two then [(n:Int),(m:Int)] else [(n:Int)]
  hn:n∈s.ns
  hm:m∈s.ns
  ne:e.two=true->n≠m
  eq:e.two=false->m=n
structure Stp(d:Int)(tn:Bool)(s:As)(x:Dd×Nat×Nat):Prop where
  nms:Nms s x.1 x.2.1 x.2.2
  ok:x.1.Ok
  fit:x.1.Fit d (s.g x.2.1) (s.g x.2.2)
  tn:x.1.isT=true->tn=true
def Walk(d:Int)(tn:Bool)(s:As)(es:List (Dd×Nat×Nat)):Prop:=∀ (i:Nat) (x:Dd×Nat×Nat),es[i]?=some x->Stp d tn (ends s (es.take i)) x
variable {x:Dd×Nat×Nat}
theorem yf{s:As}{es:List (Dd×Nat×Nat)}{i:Nat}(h:es[i]?=some x):ends s (es.take (i+1))=(ends s (es.take i)).next x:=by
  rw [bg,h];show ends s (es.take i++[x])=_;unfold ends;rw [dn];rfl
def Runs(H:Hp)(ps:List Addr)(es:List (Dd×Nat×Nat)):Prop:=ps.length=es.length/\∀ (i:Nat) (p:Addr) (x:Dd×Nat×Nat),ps[i]?=some p->es[i]?=some x->DdAt H p x.1
theorem Runs.same{H H':Hp}{ps:List Addr}{es:List (Dd×Nat×Nat)}(h:Runs H ps es)(s:Same H H'):Runs H' ps es:=⟨h.1,λi p x h1 h2=>(h.2 i p x h1 h2).same s⟩
def YdS(C:Addr)(H:Hp)(y:Yd)(d:Int)(tn:Bool)(s:As)(lg:List V):Prop:=∃ cl,YdAt C H y d tn cl s.ns lg/\cl.length=s.k/\∀ n,n<s.k->∃ c,cl[n]?=some c/\c.b=s.g n
theorem Nms.names_in{s:As}{n m:Nat}(h:Nms s e n m):∀ k∈e.names,∃ i∈s.ns,k=(i:Int):=λk hk=>by
  rw [h.nm] at hk;cases ht:e.two with
  | true =>
    rw [ht,im rfl] at hk;rcases aU.mp hk with rfl|hk
    . exact ⟨n,h.hn,rfl⟩
    . rw [ak.mp hk]; exact ⟨m,h.hm,rfl⟩
  | false =>
    rw [ht,io ⋯] at hk;rw [ak.mp hk]; exact ⟨n,h.hn,rfl⟩
theorem Nms.nodup{s:As}{n m:Nat}(h:Nms s e n m):e.names.Nodup:=by
  rw [h.nm];cases ht:e.two with
  | true =>
    rw [im rfl];have:=h.ne ht;simp
    lia
  | false =>
    rw [io ⋯];simp
theorem Nms.en{s:As}{n m:Nat}(h:Nms s e n m):e.n=(n:Int):=by
  have:=h.nm;cases e <;> simp [Dd.names,Dd.two,Dd.n] at this ⊢
  . exact this
  . exact this.1
  . exact this
  . exact this
theorem Nms.cells{s:As}{n m:Nat}(h:Nms s e n m)(h1:cl[n]?=some c)(h2:cl[m]?=some c'):CellsOf cl e c c':=by
  have hnm:=h.nm;have heq:=h.eq;cases e with
  | glue al a b =>
    simp [Dd.names,Dd.two] at hnm;exact ⟨⟨n,hnm.1,h1⟩,m,hnm.2,h2⟩
  | cut al a t =>
    have:m=n:=heq rfl;subst this;refine ⟨⟨m,h.en,h1⟩,ao (h2.symm.trans h1)⟩
  | shift al a t =>
    have:m=n:=heq rfl;subst this;refine ⟨⟨m,h.en,h1⟩,ao (h2.symm.trans h1)⟩
  | turn a =>
    have:m=n:=heq rfl;subst this;refine ⟨⟨m,h.en,h1⟩,ao (h2.symm.trans h1)⟩
theorem YdS.next{C:Addr}{H':Hp}{y:Yd}{d:Int}{tn:Bool}{s:As}{x:Dd×Nat×Nat}{cl N:List Cell}{lg:List V}(h2:cl.length=s.k)(h3:∀ n,n<s.k->∃ c,cl[n]?=some c/\c.b=s.g n) (hy:YdAt C H' y d tn (cl++N) (zY s.ns x.1.names++List.range' cl.length N.length) lg) (hN:N.map Cell.b=x.1.new (s.g x.2.1) (s.g x.2.2)):YdS C H' y d tn (s.next x) lg:=by
  have hl:N.length=(x.1.new (s.g x.2.1) (s.g x.2.2)).length:=by rw [<-hN,aa]
  rw [h2,hl] at hy;refine ⟨cl++N,hy,by rw [ah,h2,hl]; rfl,λj hj=>?_⟩;have hj:j<s.k+(x.1.new (s.g x.2.1) (s.g x.2.2)).length:=hj;show ∃ c,(cl++N)[j]?=some c/\c.b=gN s.g s.k _ j;by_cases hjl:j<s.k
  . obtain ⟨c,h4,h5⟩:=h3 j hjl;exact ⟨c,by rw [aT (!2)]; exact h4,by unfold gN; rw [im (!2)]; exact h5⟩
  . obtain ⟨t,rfl⟩:∃ t,j=s.k+t:=⟨j - s.k,by lia⟩
    have ht:t<N.length:=by lia
    refine ⟨N[t],by rw [aN (!2),h2,eB]; exact ae ht,?_⟩;unfold gN;rw [io (!2),eB,<-hN,aj,ae ht];rfl
abbrev DL:=List (Dd×Nat×Nat)
theorem Kn{s:As}{es:List (Dd×Nat×Nat)}:(ends s es).k<=s.k+2*es.length:=by
  induction es generalizing s with
  | nil=>exact ag _
  | cons x es ih =>
    have h1:(s.next x).k<=s.k+2:=Nat.add_le_add_left (Bb x.1 _ _) _;have h2:=ih (s:=s.next x);show (ends (s.next x) es).k<=_;rw [ax]
    lia
structure As.Ok(B:Nat)(s:As)(i:Nat):Prop where
  up:s.ns.Pairwise (· < ·)
  lt:∀ n∈s.ns,n<s.k
  ne:s.ns≠[]
  nl:s.ns.length<=B+i
  kl:s.k<=B+2*i
theorem As.Ok.next{B:Nat}{s:As}{i:Nat}{x:Dd×Nat×Nat}(h:As.Ok B s i)(n:Nms s x.1 x.2.1 x.2.2):As.Ok B (s.next x) (i+1):=by
  have l2:=Bb x.1 (s.g x.2.1) (s.g x.2.2);have l1:=KM x.1 (s.g x.2.1) (s.g x.2.2);have hk:=h.kl;have hnl:=h.nl;have dl:=FJ h.up n.hn (show (x.2.1:Int)∈x.1.names by rw [n.nm]; cases x.1.two <;> simp);generalize hN:x.1.new (s.g x.2.1) (s.g x.2.2)=N at l1 l2;have e1:(s.next x).ns=zY s.ns x.1.names++List.range' s.k N.length:=by rw [<-hN]; rfl
  have e2:(s.next x).k=s.k+N.length:=by rw [<-hN]; rfl
  refine ⟨?_,?_,?_,?_,?_⟩
  . rw [e1];refine List.pairwise_append.mpr ⟨xn h.up,gF ..,λn1 h1 n2 h2=>?_⟩;have:=h.lt n1 (mem_ndrop.mp h1).1;have:=cW.mp h2
    lia
  . rw [e1,e2];intro j hj;rcases aB.mp hj with hj|hj
    . have:=h.lt j (mem_ndrop.mp hj).1
      lia
    . have:=cW.mp hj
      lia
  . rw [e1];intro hh;have:=congrArg List.length hh;rw [ah,eC,aY] at this
    lia
  . rw [e1,ah,eC]
    lia
  . rw [e2]
    lia
theorem Runs.sameX{H H':Hp}{l:Addr}{ps:List Addr}{es:DL}{xs:List V}(h:Runs H ps es)(z:SameX l H H')(e:H l=some (.lst xs)):Runs H' ps es:=⟨h.1,λi p x h1 h2=>(h.2 i p x h1 h2).sameX z e⟩
variable {es:DL}
theorem wI{s:As}:ends s (es++[x])=(ends s es).next x:=by
  unfold ends;rw [dn];rfl
theorem EN{s:As}(h:Walk d tn s es)(g:Stp d tn (ends s es) x):Walk d tn s (es++[x]):=λi y hy=>by
  by_cases c:i<es.length
  . rw [aT c] at hy;rw [cr (!2)];exact h i y hy
  . have hl:=(af.mp hy).1;rw [ah] at hl;have:i=es.length:=by simp only [ax,aY] at hl; lia
    subst this;rw [aN (ag _),dU] at hy;have:x=y:=ao hy;subst this;rw [List.take_left];exact g
theorem yF{p:Addr}(h:Runs H ps es)(g:DdAt H p x.1):Runs H (ps++[p]) (es++[x]):=⟨by rw [ah,ah,h.1]; rfl,λi q y h1 h2=>by
  by_cases c:i<ps.length
  . rw [aT c] at h1;rw [aT (by rw [<-h.1]; exact c)] at h2;exact h.2 i q y h1 h2
  . have hl:=(af.mp h1).1;rw [ah] at hl;have:i=ps.length:=by simp only [ax,aY] at hl; lia
    subst this;rw [aN (ag _),dU] at h1;rw [h.1,aN (ag _),dU] at h2;have e1:p=q:=ao h1;have e2:x=y:=ao h2;subst e1;subst e2;exact g⟩
structure Rv(D X Y:Int)(s:Sd):Prop where
  z1:1<=s.z
  g:g3 s.x s.y s.z=1
  x:s.x*D=X*s.z
  y:s.y*D=Y*s.z
theorem So.rv{s:Sd}(h:So d D M s):∃ X Y,Rv D X Y s:=by
  obtain ⟨X,Y,_,_,hx,hy⟩:=h.r;exact ⟨X,Y,h.z1,h.g,hx,hy⟩
theorem Rv.eq{s t:Sd}(hD:D≠0)(h:Rv D X Y s)(h':Rv D X Y t):s=t:=by
  obtain ⟨a1,a2,a3⟩:=zC h.z1 h.g hD h.x h.y;obtain ⟨b1,b2,b3⟩:=zC h'.z1 h'.g hD h'.x h'.y;cases s
  cases t
  simp only at a1 a2 a3 b1 b2 b3;rw [a1,a2,a3,b1,b2,b3]
variable {X' Y':Int}
theorem Rv.tk{s t:Sd}(h:Rv D X Y s)(h':Rv D X' Y' t):Rv D (X - X') (Y - Y') (tkS s t):=by
  have hn:s.z*t.z≠0:=ay (by have:=h.z1; lia) (by have:=h'.z1; lia);have h1:=h.x;have h2:=h.y;have h3:=h'.x;have h4:=h'.y;obtain ⟨r1,r2⟩:=uN (a:=s.x*t.z+-t.x*s.z) (b:=s.y*t.z+-t.y*s.z) (n:=s.z*t.z) (D:=D) (X:=X - X') (Y:=Y - Y') hn (by grind) (by grind);exact ⟨l_n hn,xu hn,r1,r2⟩
theorem Rv.ad{s t:Sd}(h:Rv D X Y s)(h':Rv D X' Y' t):Rv D (X+X') (Y+Y') (adS s t):=by
  have hn:s.z*t.z≠0:=ay (by have:=h.z1; lia) (by have:=h'.z1; lia);have h1:=h.x;have h2:=h.y;have h3:=h'.x;have h4:=h'.y;obtain ⟨r1,r2⟩:=uN (a:=s.x*t.z+t.x*s.z) (b:=s.y*t.z+t.y*s.z) (n:=s.z*t.z) (D:=D) (X:=X+X') (Y:=Y+Y') hn (by grind) (by grind);exact ⟨l_n hn,xu hn,r1,r2⟩
theorem Rv.sh{k:Int}{s:Sd}(h:Rv D X Y s)(k1:1<=k):Rv (D*k) (X*m) (Y*m) (shS s m k):=by
  have hn:s.z*k≠0:=ay (by have:=h.z1; lia) (!2);have h1:=h.x;have h2:=h.y;obtain ⟨r1,r2⟩:=uN (a:=s.x*m) (b:=s.y*m) (n:=s.z*k) (D:=D*k) (X:=X*m) (Y:=Y*m) hn (by grind) (by grind);exact ⟨l_n hn,xu hn,r1,r2⟩
theorem Rv.sc{k:Int}{s:Sd}(h:Rv D X Y s):Rv (D*k) (X*k) (Y*k) s :=
  ⟨h.z1,h.g,by rw [<-am,h.x]; grind,by rw [<-am,h.y]; grind⟩
variable {M':Nat}
theorem KK{w s:Sd}(hD:1<=D)(h:So d D M w)(h':So d D M' s):adS s (tkS w s)=w:=by
  obtain ⟨X,Y,r⟩:=h.rv;obtain ⟨X',Y',r'⟩:=h'.rv;have:=r'.ad (r.tk r');rw [show X'+(X - X')=X by lia,show Y'+(Y - Y')=Y by lia] at this;exact this.eq (!2) r
theorem LO{w s:Sd}(hD:1<=D)(h:So d D M w)(h':So d D M' s):tkS (adS w s) w=s:=by
  obtain ⟨X,Y,r⟩:=h.rv;obtain ⟨X',Y',r'⟩:=h'.rv;have:=(r.ad r').tk r;rw [show X+X' - X=X' by lia,show Y+Y' - Y=Y' by lia] at this;exact this.eq (!2) r'
theorem Gz{k:Int}{w:Sd}(hD:1<=D)(h:So d D M w)(k1:1<=k):shS (shS w 1 k) k 1=w/\shS (shS w k 1) 1 k=w:=by
  obtain ⟨X,Y,r⟩:=h.rv;have hk:D*k≠0:=ay (!2) (!2);have r1:Rv (D*k*1) (X*1*k) (Y*1*k) (shS (shS w 1 k) k 1):=(r.sh (m:=1) k1).sh (m:=k) (!2);have r2:Rv (D*1*k) (X*k*1) (Y*k*1) (shS (shS w k 1) 1 k):=(r.sh (m:=k) (k:=1) (!2)).sh (m:=1) k1;simp only [df] at r1 r2;exact ⟨r1.eq hk r.sc,r2.eq hk r.sc⟩
def Dd.und(m m':Int)(b:Bo):Dd->Dd
  | .cut al _ _=>.glue al m m'
  | .glue al _ _=>.cut al m (if al then b.h else b.w)
  | .shift al _ k=>.shift (!al) m k
  | .turn _=>.turn m
def Dd.puts:Dd->Nat
  | .cut _ _ _=>2
  | _=>1
theorem Dd.puts_new(e:Dd)(b c:Bo):(e.new b c).length=e.puts:=by
  cases e with
  | cut al n s=>cases al <;> rfl
  | glue al n m=>cases al <;> rfl
  | shift al n k=>cases al <;> rfl
  | turn n=>rfl
def undo(s:As)(x:Dd×Nat×Nat)(r:Nat->Nat):Dd×Nat×Nat:=(x.1.und (r s.k:Nat) (r (s.k+1):Nat) (s.g x.2.1),r s.k,if x.1.puts=2 then r (s.k+1) else r s.k)
def ren(r:Nat->Nat)(x:Dd×Nat×Nat)(u j:Nat):Nat:=if x.1.two=true/\j=x.2.2 then u+1 else if j=x.2.1 then u else r j
structure Sim(r:Nat->Nat)(s t:As):Prop where
  mp:∀ n∈s.ns,r n∈t.ns
  on:∀ m∈t.ns,∃ n∈s.ns,r n=m
  inj:∀ n∈s.ns,∀ m∈s.ns,r n=r m->n=m
  g:∀ n∈s.ns,t.g (r n)=s.g n
theorem AQ(m m':Int)(b:Bo)(e:Dd):(e.und m m' b).two=decide (e.puts=2):=by cases e <;> rfl
theorem IT(m m':Int)(b:Bo)(e:Dd):(e.und m m' b).isT=e.isT:=by cases e <;> rfl
theorem Cm(m m':Int)(b:Bo)(e:Dd):(e.und m m' b).puts=if e.two then 2 else 1:=by cases e <;> rfl
theorem tO(m m':Int)(b:Bo)(e:Dd):(e.und m m' b).names=if e.puts=2 then [m,m'] else [m]:=by cases e <;> rfl
theorem puts_le(e:Dd):e.puts=1\/e.puts=2:=by cases e <;> simp [Dd.puts]
theorem yJ(s:As)(x:Dd×Nat×Nat):(s.next x).k=s.k+x.1.puts:=by
  show s.k+_=_;rw [Dd.puts_new]
theorem mem_next{s:As}{j:Nat}:j∈(s.next x).ns↔(j∈s.ns/\(j:Int)∉x.1.names)\/(s.k<=j/\j<s.k+x.1.puts):=by
  show j∈zY s.ns x.1.names++List.range' s.k _↔_;rw [Dd.puts_new,aB,mem_ndrop,cW]
variable {g:Nat->Bo}
theorem wG{k j:Nat}{N:List Bo}(h:j<k):gN g k N j=g j:=by unfold gN; rw [im h]
theorem yk{k j:Nat}{N:List Bo}{b:Bo}(h:N[j]?=some b):gN g k N (k+j)=b:=by
  unfold gN;rw [io (!2),eB,h];rfl
theorem tX{s:As}{n m j:Nat}(h:Nms s e n m):(j:Int)∈e.names↔j=n\/(e.two=true/\j=m):=by
  rw [h.nm];cases e.two with
  | true=>simp; lia
  | false=>simp; lia
variable {t:As}{r:Nat->Nat}
theorem BA{s:As}(hD:1<=D)(st:Stp d tn s x)(so:∀ n∈s.ns,BoD d D M (s.g n))(sn:∀ b∈x.1.new (s.g x.2.1) (s.g x.2.2),BoD d D M b)(sim:Sim r (s.next x) t):(undo s x r).1.new (t.g (undo s x r).2.1) (t.g (undo s x r).2.2)=if x.1.two then [s.g x.2.1,s.g x.2.2] else [s.g x.2.1]:=by
  have hk:∀ j,j<x.1.puts->t.g (r (s.k+j))=gN s.g s.k (x.1.new (s.g x.2.1) (s.g x.2.2)) (s.k+j):=λj hj=>sim.g _ (mem_next.mpr (.inr ⟨by lia,by lia⟩));have o1:=so _ st.nms.hn;have o2:=so _ st.nms.hm;have ft:=st.fit;obtain ⟨e,n,m⟩:=x;dsimp only [undo] at hk o1 o2 ft sn ⊢;generalize s.g n=b at *
  generalize s.g m=c at *
  obtain ⟨bw,bh⟩:=b;obtain ⟨cw,ch⟩:=c;have h0:=hk 0 (by rcases puts_le e with h | h <;> lia);rw [eV] at h0;rw [h0];cases e with
  | cut al n s' =>
    have h1:=hk 1 (by show 1<2; decide);rw [im (show (Dd.cut al n s').puts=2 from rfl),h1];cases al with
    | false =>
      rw [yk (j:=1) rfl];rw [show gN s.g s.k (Dd.new ⟨bw,bh⟩ ⟨cw,ch⟩ (.cut false n s')) s.k=⟨s',bh⟩ from yk (j:=0) rfl];show [(⟨adS s' (tkS bw s'),bh⟩:Bo)]=[⟨bw,bh⟩]
      rw [KK hD o1.1 (sn ⟨s',bh⟩ (by simp [Dd.new])).1]
    | true =>
      rw [yk (j:=1) rfl];rw [show gN s.g s.k (Dd.new ⟨bw,bh⟩ ⟨cw,ch⟩ (.cut true n s')) s.k=⟨bw,s'⟩ from yk (j:=0) rfl];show [(⟨bw,adS s' (tkS bh s')⟩:Bo)]=[⟨bw,bh⟩]
      rw [KK hD o1.2 (sn ⟨bw,s'⟩ (by simp [Dd.new])).2]
  | glue al n' m' =>
    cases al with
    | false =>
      rw [show gN s.g s.k (Dd.new ⟨bw,bh⟩ ⟨cw,ch⟩ (.glue false n' m')) s.k=⟨adS bw cw,bh⟩ from yk (j:=0) rfl];have e:bh=ch:=ft.1;show [(⟨bw,bh⟩:Bo),⟨tkS (adS bw cw) bw,bh⟩]=[⟨bw,bh⟩,⟨cw,ch⟩]
      rw [LO hD o1.1 o2.1,e]
    | true =>
      rw [show gN s.g s.k (Dd.new ⟨bw,bh⟩ ⟨cw,ch⟩ (.glue true n' m')) s.k=⟨bw,adS bh ch⟩ from yk (j:=0) rfl];have e:bw=cw:=ft.1;show [(⟨bw,bh⟩:Bo),⟨bw,tkS (adS bh ch) bh⟩]=[⟨bw,bh⟩,⟨cw,ch⟩]
      rw [LO hD o1.2 o2.2,e]
  | shift al n' k =>
    have k1:1<=k:=ft.1;cases al with
    | false =>
      rw [show gN s.g s.k (Dd.new ⟨bw,bh⟩ ⟨cw,ch⟩ (.shift false n' k)) s.k=⟨shS bw 1 k,shS bh k 1⟩ from yk (j:=0) rfl];show [(⟨shS (shS bw 1 k) k 1,shS (shS bh k 1) 1 k⟩:Bo)]=[⟨bw,bh⟩]
      rw [(Gz hD o1.1 k1).1,(Gz hD o1.2 k1).2]
    | true =>
      rw [show gN s.g s.k (Dd.new ⟨bw,bh⟩ ⟨cw,ch⟩ (.shift true n' k)) s.k=⟨shS bw k 1,shS bh 1 k⟩ from yk (j:=0) rfl];show [(⟨shS (shS bw k 1) 1 k,shS (shS bh 1 k) k 1⟩:Bo)]=[⟨bw,bh⟩]
      rw [(Gz hD o1.1 k1).2,(Gz hD o1.2 k1).1]
  | turn n' =>
    rw [show gN s.g s.k (Dd.new ⟨bw,bh⟩ ⟨cw,ch⟩ (.turn n')) s.k=⟨bh,bw⟩ from yk (j:=0) rfl];rfl
theorem Aw{w s:Sd}(hR:Rt d)(z:Sz D K' M)(hw:So d D M w)(hs:So d D M s)(ht:So d D M (tkS w s)):EV d w s:=by
  have hn1:1<=w.z*s.z:=a9 (by have:=hw.z1; lia) (by have:=hs.z1; lia);refine ⟨z.sy hw,z.sy hs,by rw [hs.up]; decide,?_⟩;have e:sgn d (tkS w s).x (tkS w s).y=sgn d (w.x*s.z - s.x*w.z) (w.y*s.z - s.y*w.z):=by
    refine (yQ hR hn1).trans ?_;rw [show w.x*s.z+-s.x*w.z=w.x*s.z - s.x*w.z by grind,show w.y*s.z+-s.y*w.z=w.y*s.z - s.y*w.z by grind]
  rw [<-e,ht.up];decide
theorem Df{s:As}{f:Nat->Cell}(hR:Rt d)(z:Sz D K' M)(st:Stp d tn s x)(so:∀ n∈s.ns,BoD d D M (s.g n))(sn:∀ b∈x.1.new (s.g x.2.1) (s.g x.2.2),BoD d D M b)(sim:Sim r (s.next x) t)(hf:∀ n∈t.ns,(f n).b=t.g n):(undo s x r).1.Good d D M t.ns f (undo s x r).2.1 (undo s x r).2.2:=by
  have hD:=z.d1;have nw:=BA hD st so sn sim;have p1:=puts_le x.1;have i0:s.k∈(s.next x).ns:=mem_next.mpr (.inr ⟨ag _,by lia⟩);have m0:r s.k∈t.ns:=sim.mp _ i0;have f0:(f (undo s x r).2.1).b=t.g (undo s x r).2.1:=hf _ m0;have m1:(undo s x r).2.2∈t.ns:=by
    show (if x.1.puts=2 then r (s.k+1) else r s.k)∈t.ns;split
    . exact sim.mp _ (mem_next.mpr (.inr ⟨by lia,by lia⟩))
    . exact m0
  have hb:∀ b∈(undo s x r).1.new (f (undo s x r).2.1).b (f (undo s x r).2.2).b,BoD d D M b:=by
    rw [f0,hf _ m1,nw];intro b hb;split at hb
    . rcases aU.mp hb with rfl | hb
      . exact so _ st.nms.hn
      . rw [ak.mp hb]; exact so _ st.nms.hm
    . rw [ak.mp hb]; exact so _ st.nms.hn
  have tso:∀ j,j<x.1.puts->BoD d D M (t.g (r (s.k+j))):=λj hj=>by
    rw [sim.g _ (mem_next.mpr (.inr ⟨by lia,by lia⟩))];have hl:=Dd.puts_new x.1 (s.g x.2.1) (s.g x.2.2);have hj':j<(x.1.new (s.g x.2.1) (s.g x.2.2)).length:=by lia
    show BoD d D M (gN s.g s.k _ (s.k+j));rw [yk (ae hj')];exact sn _ (cM hj')
  have t0:=tso 0 (!2);rw [eV] at t0;have ftx:=st.fit;have okx:=st.ok;have hnn:=st.nms.hn;refine ⟨?_,m0,m1,?_,?_,?_,?_,1,by decide,by decide,λb hb'=>?_⟩
  . show (x.1.und _ _ _).names=_;rw [tO];show _=if (x.1.und _ _ _).two then _ else _
    rw [AQ];rcases p1 with h|h
    . rw [io (!2),io (by simp [h])];rfl
    . rw [im h,im (by simp [h])];show _=[_,((if x.1.puts=2 then r (s.k+1) else r s.k:Nat):Int)]
      rw [im h];rfl
  . intro h2;have h2:(x.1.und _ _ _).two=true:=h2;rw [AQ] at h2;have h2:x.1.puts=2:=by simpa using h2
    show r s.k≠if x.1.puts=2 then r (s.k+1) else r s.k
    rw [im h2];intro c;have:=sim.inj _ i0 _ (mem_next.mpr (.inr ⟨by lia,by lia⟩)) c
    lia
  . intro h2;have h2:(x.1.und _ _ _).two=false:=h2;rw [AQ] at h2;have h2:¬ x.1.puts=2:=by simpa using h2
    show (if x.1.puts=2 then r (s.k+1) else r s.k)=r s.k;rw [io h2]
  . show (x.1.und _ _ _).Ok;have o:=so _ hnn
    revert okx
    cases x.1 with
    | cut al n s'=>exact λ_=>trivial
    | glue al n m =>
      intro _;cases al with
      | false=>exact z.sy o.1
      | true=>exact z.sy o.2
    | shift al n k=>exact id
    | turn n=>exact λ_=>trivial
  . rw [f0,hf _ m1];rw [f0,hf _ m1] at hb;have o:=so _ hnn;have o':=so _ st.nms.hm;have g0:t.g (r s.k)=gN s.g s.k (x.1.new (s.g x.2.1) (s.g x.2.2)) s.k:=sim.g _ i0;have g1:x.1.puts=2->t.g (r (s.k+1))=gN s.g s.k (x.1.new (s.g x.2.1) (s.g x.2.2)) (s.k+1):=λh=>sim.g _ (mem_next.mpr (.inr ⟨by lia,by lia⟩));clear m1 m0 i0 nw f0 hf sim;obtain ⟨e,n,m⟩:=x;dsimp only [undo] at *
    generalize t.g (r s.k)=B at *
    cases e with
    | cut al n' s' =>
      have g1:=g1 rfl;have t1:=tso 1 (by show 1<2; decide);rw [im (show (Dd.cut al n' s').puts=2 from rfl)] at hb ⊢;generalize t.g (r (s.k+1))=C at *
      cases al with
      | false =>
        have q0:B=⟨s',(s.g n).h⟩:=g0.trans (yk (j:=0) rfl);have q1:C=⟨tkS (s.g n).w s',(s.g n).h⟩:=g1.trans (yk (j:=1) rfl);subst q0;subst q1;exact ⟨rfl,z.sy t0.1,z.sy t1.1⟩
      | true =>
        have q0:B=⟨(s.g n).w,s'⟩:=g0.trans (yk (j:=0) rfl);have q1:C=⟨(s.g n).w,tkS (s.g n).h s'⟩:=g1.trans (yk (j:=1) rfl);subst q0;subst q1;exact ⟨rfl,z.sy t0.2,z.sy t1.2⟩
    | glue al n' m' =>
      cases al with
      | false =>
        have hb1:=hb _ (az _ aV);exact Aw hR z t0.1 o.1 hb1.1
      | true =>
        have hb1:=hb _ (az _ aV);exact Aw hR z t0.2 o.2 hb1.2
    | shift al n' k =>
      cases al with
      | false=>exact ⟨ftx.1,ftx.2.1,z.sy t0.1,z.sy t0.2⟩
      | true=>exact ⟨ftx.1,ftx.2.1,z.sy t0.1,z.sy t0.2⟩
    | turn n'=>exact trivial
  . rw [df];exact (hb b hb').mono (!2)
theorem Gw{s:As}(hR:Rt d)(z:Sz D K' M)(st:Stp d tn s x)(so:∀ n∈s.ns,BoD d D M (s.g n))(sn:∀ b∈x.1.new (s.g x.2.1) (s.g x.2.2),BoD d D M b)(sim:Sim r (s.next x) t):Stp d tn t (undo s x r):=by
  have gd:=Df (f:=λn=>⟨0,0,0,t.g n⟩) hR z st so sn sim (λn _=>rfl);exact ⟨⟨gd.nm,gd.hn,gd.hm,gd.ne,gd.eq⟩,gd.ok,gd.fit,λh=>st.tn (by rw [<-h]; exact (IT _ _ _ _).symm)⟩
theorem F5{s:As}(hD:1<=D)(st:Stp d tn s x)(so:∀ n∈s.ns,BoD d D M (s.g n))(sn:∀ b∈x.1.new (s.g x.2.1) (s.g x.2.2),BoD d D M b)(sim:Sim r (s.next x) t)(lt:∀ n∈s.ns,n<s.k)(tl:∀ m∈t.ns,m<t.k):Sim (ren r x t.k) s (t.next (undo s x r)):=by
  have nw:=BA hD st so sn sim;have p1:=puts_le x.1;have nx:∀ j:Nat,(j:Int)∈x.1.names↔j=x.2.1\/(x.1.two=true/\j=x.2.2):=λj=>tX st.nms;have ne:=st.nms.ne;have pu:(undo s x r).1.puts=if x.1.two then 2 else 1:=Cm _ _ _ _
  have un:∀ j:Nat,(j:Int)∈(undo s x r).1.names↔∃ i,s.k<=i/\i<s.k+x.1.puts/\r i=j:=λj=>by
    show (j:Int)∈(x.1.und _ _ _).names↔_;rw [tO];rcases p1 with h|h
    . rw [io (!2),ak,h];constructor
      . intro q;exact ⟨s.k,ag _,by lia,by lia⟩
      . rintro ⟨i,h1,h2,rfl⟩;rw [show i=s.k by lia]
    . rw [im h,aU,ak,h];constructor
      . rintro (q | q)
        . exact ⟨s.k,ag _,by lia,by lia⟩
        . exact ⟨s.k+1,by lia,by lia,by lia⟩
      . rintro ⟨i,h1,h2,rfl⟩;have:i=s.k\/i=s.k+1:=by lia
        rcases this with rfl|rfl
        . exact .inl rfl
        . exact .inr rfl
  have cs:∀ n∈s.ns,(x.1.two=true/\n=x.2.2/\ren r x t.k n=t.k+1)\/(n=x.2.1/\ren r x t.k n=t.k)\/(n∈(s.next x).ns/\ren r x t.k n=r n/\n<s.k/\r n<t.k):=λn hn=>by
    unfold ren;by_cases c1:x.1.two=true/\n=x.2.2
    . exact .inl ⟨c1.1,c1.2,im c1⟩
    . rw [io c1];by_cases c2:n=x.2.1
      . exact .inr (.inl ⟨c2,im c2⟩)
      . have hm:n∈(s.next x).ns:=mem_next.mpr (.inl ⟨hn,λh=>by
          rcases (nx n).mp h with h|h
          . exact c2 h
          . exact c1 h⟩)
        exact .inr (.inr ⟨hm,io c2,lt n hn,tl _ (sim.mp n hm)⟩)
  have tm:∀ j,j∈(t.next (undo s x r)).ns↔(j∈t.ns/\¬ ∃ i,s.k<=i/\i<s.k+x.1.puts/\r i=j)\/(t.k<=j/\j<t.k+if x.1.two then 2 else 1):=λj=>by rw [mem_next,un,pu]
  have tg:∀ j,(t.next (undo s x r)).g j=gN t.g t.k (if x.1.two then [s.g x.2.1,s.g x.2.2] else [s.g x.2.1]) j:=λj=>by rw [<-nw]; rfl
  refine ⟨λn hn=>?_,λm hm=>?_,λn hn m hm e=>?_,λn hn=>?_⟩
  . rw [tm];rcases cs n hn with ⟨h1,h2,h3⟩|⟨h1,h2⟩|⟨h1,h2,h3,h4⟩
    . rw [h3,im h1]; exact .inr (!2)
    . rw [h2];refine .inr ⟨ag _,?_⟩;split <;> lia
    . rw [h2];refine .inl ⟨sim.mp n h1,?_⟩;rintro ⟨i,i1,i2,i3⟩;have:=sim.inj _ (mem_next.mpr (.inr ⟨i1,i2⟩)) _ h1 i3
      lia
  . rw [tm] at hm;rcases hm with ⟨h1,h2⟩|⟨h1,h2⟩
    . obtain ⟨n,hn,e⟩:=sim.on m h1;rcases mem_next.mp hn with ⟨h3,h4⟩|⟨h3,h4⟩
      . refine ⟨n,h3,?_⟩;unfold ren;rw [io (λc=>h4 ((nx n).mpr (.inr c))),io (λc=>h4 ((nx n).mpr (.inl c)))];exact e
      . exact absurd ⟨n,h3,h4,e⟩ h2
    . by_cases c:m=t.k
      . refine ⟨x.2.1,st.nms.hn,?_⟩;unfold ren;rw [io (λq=>ne q.1 q.2),im rfl,c]
      . have ht:x.1.two=true:=by
          cases h:x.1.two with
          | true=>rfl
          | false=>rw [h,io ⋯] at h2; lia
        rw [im ht] at h2;refine ⟨x.2.2,st.nms.hm,?_⟩;unfold ren;rw [im ⟨ht,rfl⟩]
        lia
  . rcases cs n hn with ⟨h1,h2,h3⟩ | ⟨h1,h2⟩ | ⟨h1,h2,h3,h4⟩ <;> rcases cs m hm with ⟨k1,k2,k3⟩ | ⟨k1,k2⟩ | ⟨k1,k2,k3,k4⟩ <;> first | omega | exact sim.inj n h1 m k1 (!2)
  . rw [tg];rcases cs n hn with ⟨h1,h2,h3⟩|⟨h1,h2⟩|⟨h1,h2,h3,h4⟩
    . rw [h3,im h1,yk (j:=1) rfl,h2]
    . rw [h2,h1];split
      . exact yk (j:=0) rfl
      . exact yk (j:=0) rfl
    . rw [h2,wG h4,sim.g n h1];exact wG h3
theorem xo(h:ns.Pairwise (· < ·)):ns.Nodup:=h.imp λhab=>aP hab
theorem BS{s:As}(h:Sim r s t)(us:s.ns.Nodup)(ut:t.ns.Nodup):(s.ns.map r).Perm t.ns:=by
  have hn:(s.ns.map r).Nodup:=gv.mpr (List.Pairwise.imp_of_mem (λ{a b} ha hb hab e=>hab (h.inj a ha b hb e)) us);refine (fJ hn ut).mpr λm=>⟨λhm=>?_,λhm=>?_⟩
  . obtain ⟨n,h1,rfl⟩:=bO.mp hm;exact h.mp n h1
  . obtain ⟨n,h1,e⟩:=h.on m hm;exact bO.mpr ⟨n,h1,e⟩
def rk(ts:List Nat)(m:Nat):Nat:=ts.idxOf m
variable {ts:List Nat}
theorem An{m:Nat}(h:m∈ts):ts[rk ts m]?=some m:=by
  have hl:=dD h;unfold rk;rw [ae hl,List.getElem_idxOf hl]
theorem FI(hn:ts.Nodup){i m:Nat}(h:ts[i]?=some m):rk ts m=i:=by
  have hm:=av h;have hl:=dD hm;have h1:=An hm;exact ((eM hl hn).mp (h1.trans h.symm))
theorem FP(hn:ts.Nodup):ts.map (rk ts)=List.range ts.length:=by
  refine List.ext_getElem? λj=>?_;rw [aj];by_cases hj:j<ts.length
  . rw [dw hj,ae hj];exact congrArg some (FI hn (ae hj))
  . rw [eR (!2),eR (by rw [bQ]; lia)];rfl
theorem Ja{ms:List Nat}(hp:ms.Perm ts)(hn:ts.Nodup):(ms.map (rk ts)).Perm (List.range ts.length):=by
  have:=hp.map (rk ts)
  rwa [FP hn] at this
theorem Fy{ms:List Nat}(hp:ms.Perm ts):(ts.map λn:Nat=>(n:Int)).Perm (ms.map λn:Nat=>(n:Int)):=(hp.map _).symm
theorem Ig(h:ts.Pairwise (· < ·)):(ts.map λn:Nat=>(n:Int)).Pairwise (·<=·):=gv.mpr (h.imp λ{a b} hab=>Int.ofNat_le.mpr (bA hab))
theorem xc{s:As}:(ends s es).k=s.k+(es.map λx=>x.1.puts).sum:=by
  induction es generalizing s with
  | nil=>rfl
  | cons x es ih =>
    show (ends (s.next x) es).k=_;rw [ih,yJ,aW,gG]
    lia
def Rn(kvs:List (Key×V))(ns:List Nat)(r:Nat->Nat):Prop:=∀ n∈ns,valV kvs (.inl (n:Int))=some (.int (r n:Nat))
theorem B6{j n:Nat}(c:j≠n):¬ ((.inl (j:Int):Key)=.inl (n:Int)):=λh=>c (d9 (fm h))
def As.sb(bs:List Bo):As:=⟨bs.length,List.range bs.length,λn=>bs[n]?.getD ⟨⟨0,0,1⟩,⟨0,0,1⟩⟩⟩
theorem FZ(L:List Cell):As.st L=As.sb (L.map Cell.b):=by
  unfold As.st As.sb;rw [aa];congr 1;funext n;rw [aj];unfold fL;cases L[n]? <;> rfl
theorem vL{s:As}{n:Nat}(h:n<s.k):(ends s es).g n=s.g n:=by
  induction es generalizing s with
  | nil=>rfl
  | cons x es ih =>
    show (ends (s.next x) es).g n=_;rw [ih (by rw [yJ]; lia)];exact wG h
theorem vd{s:As}{i:Nat}:ends s es=ends (ends s (es.take i)) (es.drop i):=by
  conv=>lhs; rw [<-eQ i es]
  unfold ends;rw [dn]
theorem Ad{s:As}{i:Nat}:(ends s (es.take i)).k<=(ends s es).k:=by
  rw [vd (es:=es) (i:=i),xc (s:=ends s (es.take i))]
  lia
theorem sim0{s:As}(hn:s.ns.Nodup):Sim (rk s.ns) s (As.sb (s.ns.map s.g)):=by
  have hl:∀ n∈s.ns,rk s.ns n<s.ns.length:=λn h=>dD h;refine ⟨λn h=>?_,λm h=>?_,λn h m k e=>?_,λn h=>?_⟩
  . show _∈List.range (s.ns.map s.g).length;rw [aa];exact bV.mpr (hl n h)
  . have h:m∈List.range (s.ns.map s.g).length:=h;rw [aa] at h;have h:=bV.mp h;exact ⟨s.ns[m],cM h,FI hn (ae h)⟩
  . have h1:=An h;have h2:=An k;rw [e,h2] at h1;exact (ao h1).symm
  . show ((s.ns.map s.g)[rk s.ns n]?).getD _=_;rw [aj,An h];rfl
structure Turned(d:Int)(tn:Bool)(D:Int)(M:Nat)(bs0 bs:List Bo)(es:DL)(qs:List Nat):Prop where
  w:Walk d tn (As.sb bs) es
  b:∀ i,i<=es.length->∀ n∈(ends (As.sb bs) (es.take i)).ns,BoD d D M ((ends (As.sb bs) (es.take i)).g n)
  p:qs.Perm (List.range bs0.length)
  l:(ends (As.sb bs) es).ns.length=bs0.length
  g:∀ k q:Nat,qs[k]?=some q->∃ n,(ends (As.sb bs) es).ns[q]?=some n/\bs0[k]?=some ((ends (As.sb bs) es).g n)
theorem D4{bs0 bs:List Bo}(w:Walk d tn (As.sb bs) es)(b:∀ i,i<=es.length->∀ n∈(ends (As.sb bs) (es.take i)).ns,BoD d D M ((ends (As.sb bs) (es.take i)).g n))(sim:Sim r (As.sb bs0) (ends (As.sb bs) es))(ut:(ends (As.sb bs) es).ns.Nodup):Turned d tn D M bs0 bs es (((List.range bs0.length).map r).map (rk (ends (As.sb bs) es).ns)):=by
  have hp:((List.range bs0.length).map r).Perm (ends (As.sb bs) es).ns:=BS sim (gO (n:=bs0.length)) ut;have hl:=hp.length_eq;rw [aa,bQ] at hl;refine ⟨w,b,?_,hl.symm,λk q hq=>?_⟩
  . have:=Ja hp ut
    rwa [<-hl] at this
  . rw [aj,aj] at hq;obtain ⟨z,hz,rfl⟩:=au.mp hq;obtain ⟨j,hj,rfl⟩:=au.mp hz;have hk:=(af.mp hj).1;rw [bQ] at hk;rw [dw hk] at hj;have hj:k=j:=ao hj;subst hj;have hm:k∈(As.sb bs0).ns:=bV.mpr hk;refine ⟨r k,An (sim.mp k hm),?_⟩;rw [sim.g k hm];show bs0[k]?=some (bs0[k]?.getD _);rw [ae hk];rfl
def deal:List (Key×V)->List Int->Nat->List (Key×V)
  | kvs,[],_=>kvs
  | kvs,m::ms,u=>deal (putK kvs (.inl m) (.int (u:Nat))) ms (u+1)
theorem uV(m:Int):∀ (ms:List Int) (kvs:List (Key×V)) (u:Nat),deal kvs (ms++[m]) u=putK (deal kvs ms u) (.inl m) (.int ((u+ms.length:Nat):Int))
  | [],kvs,u=>rfl
  | a::ms,kvs,u=>by
    show deal (putK kvs (.inl a) (.int (u:Nat))) (ms++[m]) (u+1)=_;rw [uV m ms];show putK (deal (putK kvs (.inl a) (.int (u:Nat))) ms (u+1)) (.inl m) (.int ((u+1+ms.length:Nat):Int))=putK (deal (putK kvs (.inl a) (.int (u:Nat))) ms (u+1)) _ _;rw [show u+1+ms.length=u+(a::ms).length by rw [ax]; lia]
theorem wH:∀ (ms:List Int) (kvs:List (Key×V)) (u:Nat),(deal kvs ms u).length<=kvs.length+ms.length
  | [],kvs,u=>ag _
  | a::ms,kvs,u=>by
    have h1:=wH ms (putK kvs (.inl a) (.int (u:Nat))) (u+1);have h2:=yH kvs (.inl a) (.int (u:Nat));show (deal (putK kvs (.inl a) (.int (u:Nat))) ms (u+1)).length<=_;rw [ax]
    lia
theorem Jn{s:As}{u:Nat}(h:Rn kvs (s.next x).ns r)(nm:Nms s x.1 x.2.1 x.2.2):Rn (deal kvs x.1.names u) s.ns (ren r x u):=by
  intro j hj;have ni:=tX (j:=j) nm;unfold ren;have key:(¬ (j=x.2.1\/(x.1.two=true/\j=x.2.2)))->valV kvs (.inl (j:Int))=some (.int (r j:Nat)):=λc=>h j (mem_next.mpr (.inl ⟨hj,λq=>c (ni.mp q)⟩));rw [nm.nm];cases ht:x.1.two with
  | true =>
    rw [ht] at key;have e:valV (deal kvs (if true=true then [(x.2.1:Int),(x.2.2:Int)] else [(x.2.1:Int)]) u) (.inl (j:Int))=if (.inl (j:Int):Key)=.inl (x.2.2:Int) then some (.int ((u+1:Nat):Int)) else if (.inl (j:Int):Key)=.inl (x.2.1:Int) then some (.int (u:Nat)) else valV kvs (.inl (j:Int)):=by
      show valV (putK (putK kvs (.inl (x.2.1:Int)) (.int (u:Nat))) (.inl (x.2.2:Int)) (.int ((u+1:Nat):Int))) _=_;rw [xF,xF]
    rw [e];by_cases c1:j=x.2.2
    . rw [im (by rw [c1]),im ⟨rfl,c1⟩]
    . rw [io (B6 c1),io (c:=true=true/\j=x.2.2) (λq=>c1 q.2)];by_cases c2:j=x.2.1
      . rw [im (by rw [c2]),im c2]
      . rw [io (B6 c2),io c2];exact key (λq=>by
          rcases q with q|q
          . exact c2 q
          . exact c1 q.2)
  | false =>
    rw [ht] at key;have e:valV (deal kvs (if false=true then [(x.2.1:Int),(x.2.2:Int)] else [(x.2.1:Int)]) u) (.inl (j:Int))=if (.inl (j:Int):Key)=.inl (x.2.1:Int) then some (.int (u:Nat)) else valV kvs (.inl (j:Int)):=by
      show valV (putK kvs (.inl (x.2.1:Int)) (.int (u:Nat))) _=_;rw [xF]
    rw [e,io (c:=false=true/\j=x.2.2) (λq=>by simp at q)];by_cases c2:j=x.2.1
    . rw [im (by rw [c2]),im c2]
    . rw [io (B6 c2),io c2];exact key (λq=>by
        rcases q with q|q
        . exact c2 q
        . simp at q)
theorem names_len{s:As}{n m:Nat}(h:Nms s e n m):e.names.length=if e.two then 2 else 1:=by
  rw [h.nm];split <;> rfl
def TupK(H H':Hp):Prop:=∀ b xs,H b=some (.tup xs)->H' b=some (.tup xs)
theorem DdAt.tk{p:Addr}(h:DdAt H p e)(s:TupK H H'):DdAt H' p e:=by
  cases e with
  | cut al n t=>obtain ⟨q,h1,h2⟩:=h; exact ⟨q,s _ _ h1,s _ _ h2⟩
  | glue al n m=>exact s _ _ h
  | shift al n k=>exact s _ _ h
  | turn n=>exact s _ _ h
theorem Runs.tk{H H':Hp}{ps:List Addr}{es:DL}(h:Runs H ps es)(s:TupK H H'):Runs H' ps es:=⟨h.1,λi p x h1 h2=>(h.2 i p x h1 h2).tk s⟩
theorem DT{s:As}(h:Walk d tn s es):Walk d true s es:=λi x hx=>⟨(h i x hx).nms,(h i x hx).ok,(h i x hx).fit,λ_=>rfl⟩
theorem zT{d:Int}{tn:Bool}{s:As}{es:DL}{B:Nat}(h0:As.Ok B s 0)(hw:Walk d tn s es):∀ i,i<=es.length->As.Ok B (ends s (es.take i)) i
  | 0,_=>h0
  | i+1,h=>by
    have hi:i<es.length:=h;have hx:=ae hi;rw [yf hx];exact (zT h0 hw i (bA hi)).next (hw i _ hx).nms
theorem vz{bs:List Bo}{B:Nat}(h1:1<=bs.length)(h:bs.length<=B):As.Ok B (As.sb bs) 0 :=
  ⟨cg,λn hn=>bV.mp hn,λh=>by
    have:List.range bs.length=[]:=h;rw [eP] at this; lia,by show (List.range bs.length).length<=_; rw [bQ]; lia,by show bs.length<=_; lia⟩
def Ever(d D:Int)(M:Nat)(s:As):Prop:=∀ n,n<s.k->BoD d D M (s.g n)
theorem t9{s:As}(h:Ever d D M (ends s es))(i:Nat):Ever d D M (ends s (es.take i)):=λn hn=>by
  have:=h n (aI hn Ad)
  rwa [vd (es:=es) (i:=i),vL hn] at this
theorem GJ{s:As}(h:Ever d D M (s.next x)):∀ b∈x.1.new (s.g x.2.1) (s.g x.2.2),BoD d D M b:=λb hb=>by
  obtain ⟨j,hj⟩:=dH hb;have hl:=(af.mp hj).1;rw [Dd.puts_new] at hl;have:=h (s.k+j) (by rw [yJ]; lia)
  rwa [show (s.next x).g (s.k+j)=b from yk hj] at this
theorem Ch(es:DL):(es.map λx=>((x.1.puts:Nat):Int)).sum=((es.map λx=>x.1.puts).sum:Nat):=by
  induction es with
  | nil=>rfl
  | cons x es ih =>
    rw [aW,gG,ih,aW,gG]
    lia
theorem HK{n j:Nat}(h:j<n):n - j=(n - 1 - j)+1:=by lia
theorem EI{X:Cx}{Q:VK}{a b:Addr}{ns:List Int}(ha:H a=some (.lst (ns.map V.int)))(hb:H b=some (.lst (ns.map V.int)))(q:Q (.bl false) H):rNeL X (.ref a) (.ref b) H Q:=by
  obtain ⟨a',b',xs,ys,bs,n,e1,e2,hn,h1,h2,h3,h4⟩:=FD (X:=X) (Q:=λv H'=>v=.bl true/\H'=H) ha hb ⟨rfl,rfl⟩;refine ⟨a',b',xs,ys,bs,n,e1,e2,hn,h1,h2,h3,?_⟩;have h5:bs.all id=true:=by
    have:=h4.1;injection this
  rw [h5];exact q
def sdO(D X Y:Int):Sd:=⟨lA X Y D,lB X Y D,lN X Y D⟩
theorem yt(hD:1<=D):Rv D X Y (sdO D X Y):=⟨l_n (!2),xu (!2),l_a,l_b⟩
theorem wA{s:Sd}(hD:1<=D)(h:Rv D X Y s):s=sdO D X Y:=h.eq (!2) (yt hD)
theorem JW(hD:1<=D):adS (sdO D X Y) (sdO D X' Y')=sdO D (X+X') (Y+Y'):=wA hD ((yt hD).ad (yt hD))
theorem Hu(hD:1<=D):tkS (sdO D X Y) (sdO D X' Y')=sdO D (X - X') (Y - Y'):=wA hD ((yt hD).tk (yt hD))
theorem Rv.un{k:Int}{s:Sd}(hk:k≠0)(h:Rv (D*k) (X*k) (Y*k) s):Rv D X Y s :=
  ⟨h.z1,h.g,aG hk (by have:=h.x; grind),aG hk (by have:=h.y; grind)⟩
theorem HU(hD:1<=D):shS (sdO D X Y) m 1=sdO D (X*m) (Y*m):=by
  have:=(yt (D:=D) (X:=X) (Y:=Y) hD).sh (m:=m) (k:=1) ⋯;rw [df] at this;exact wA hD this
theorem Mb(hD:1<=D)(hm:1<=m):shS (sdO D (X*m) (Y*m)) 1 m=sdO D X Y:=by
  have:=(yt (D:=D) (X:=X*m) (Y:=Y*m) hD).sh (m:=1) (k:=m) hm;simp only [df] at this;exact wA hD (this.un (!2))
theorem yR(hR:Rt d)(hD:1<=D)(up:sgn d X Y=1)(bX:Bd M X)(bY:Bd M Y):So d D M (sdO D X Y) :=
  ⟨(yt hD).z1,(yt hD).g,(yQ hR hD).trans up,X,Y,bX,bY,(yt hD).x,(yt hD).y⟩
structure Pc where
  n:Nat
  m:Int
  x:Int
  y:Int
def accX:List Pc->Int
  | []=>0
  | p::ps=>p.m*p.x+accX ps
def accY:List Pc->Int
  | []=>0
  | p::ps=>p.m*p.y+accY ps
theorem yS(p:Pc):∀ ps,accX (ps++[p])=accX ps+p.m*p.x
  | []=>by show p.m*p.x+0=0+_; lia
  | q::ps=>by
    show q.m*q.x+accX (ps++[p])=q.m*q.x+accX ps+_;rw [yS p ps]; lia
theorem yP(p:Pc):∀ ps,accY (ps++[p])=accY ps+p.m*p.y
  | []=>by show p.m*p.y+0=0+_; lia
  | q::ps=>by
    show q.m*q.y+accY (ps++[p])=q.m*q.y+accY ps+_;rw [yP p ps]; lia
def gd1(u t:Nat)(p:Pc):DL:=(Dd.shift false p.n p.m,p.n,p.n)::(if t=0 then [] else [(Dd.glue true ((u+2*t - 1:Nat):Int) ((u+2*t - 2:Nat):Int),u+2*t - 1,u+2*t - 2)])
def gth(u:Nat)(pc:List Pc):Nat->DL
  | 0=>[]
  | t+1=>gth u pc t++(match pc[t]? with | some p=>gd1 u t p | none=>[])
theorem xY{u:Nat}{pc:List Pc}:∀ {t:Nat},t<=pc.length->(gth u pc t).length=2*t - 1
  | 0,_=>rfl
  | t+1,h=>by
    have ht:t<pc.length:=h;show (gth u pc t++_).length=_;rw [ae ht,ah,xY (bA ht)];show _+(gd1 u t pc[t]).length=_;unfold gd1;by_cases c:t=0
    . subst c; rfl
    . rw [io c];simp only [ax,aY]
      lia
structure PcOk(d D px py:Int)(M:Nat)(s:As)(p:Pc):Prop where
  hn:p.n∈s.ns
  m1:1<=p.m
  mb:Bd 1024 p.m
  g:s.g p.n=⟨sdO D (px*p.m) (py*p.m),sdO D p.x p.y⟩
  up:sgn d p.x p.y=1
  bw:Bd M (px*p.m)/\Bd M (py*p.m)
  bh:Bd M p.x/\Bd M p.y
  bm:Bd M (p.m*p.x)/\Bd M (p.m*p.y)
variable {y:Int}
theorem yN{x:Int}(hR:Rt d)(hm:1<=m)(h:sgn d x y=1):sgn d (m*x) (m*y)=1:=(ux hR (k:=1) (m:=m) ⋯ (!2) (by grind) (by grind)).trans h
theorem Ce{d:Int}(hR:Rt d):∀ {ps:List Pc},ps≠[]->(∀ p∈ps,1<=p.m/\sgn d p.x p.y=1)->sgn d (accX ps) (accY ps)=1
  | [p],_,h=>by
    have:=h p aV;show sgn d (p.m*p.x+0) (p.m*p.y+0)=1;rw [cf,cf];exact yN hR this.1 this.2
  | p::q::ps,_,h=>by
    have h1:=h p aV;have h2:=Ce hR (ps:=q::ps) (!1) (λr hr=>h r (az _ hr));exact Ar hR (yN hR h1.1 h1.2) h2
theorem Db{s:As}{n:Nat}{al:Bool}(z:Sz D K' M)(hn:n∈s.ns)(m1:1<=m)(mb:Bd 1024 m)(ow:So d D M (s.g n).w)(oh:So d D M (s.g n).h):Stp d tn s (.shift al n m,n,n) :=
  ⟨⟨rfl,hn,hn,(λh=>nomatch h),λ_=>rfl⟩,⟨m1,mb⟩,⟨m1,mb,z.sy ow,z.sy oh⟩,(λh=>nomatch h)⟩
theorem FW{s:As}{n m:Nat}(z:Sz D K' M)(hn:n∈s.ns)(hm:m∈s.ns)(nm:n≠m)(ew:(s.g n).w=(s.g m).w)(oh:So d D M (s.g n).h)(oh':So d D M (s.g m).h):Stp d tn s (.glue true n m,n,m) :=
  ⟨⟨rfl,hn,hm,λ_=>nm,(λh=>nomatch h)⟩,trivial,⟨ew,z.sy oh,z.sy oh'⟩,(λh=>nomatch h)⟩
theorem yr{s:As}{fs:DL}:ends s (es++fs)=ends (ends s es) fs:=by unfold ends; rw [dn]
structure Stq(d D:Int)(M:Nat)(tn:Bool)(s:As)(x:Dd×Nat×Nat):Prop where
  st:Stp d tn s x
  nw:∀ b∈x.1.new (s.g x.2.1) (s.g x.2.2),BoD d D M b
def WalkB(d D:Int)(M:Nat)(tn:Bool)(s:As)(es:DL):Prop:=∀ (i:Nat) (x:Dd×Nat×Nat),es[i]?=some x->Stq d D M tn (ends s (es.take i)) x
theorem WalkB.walk{s:As}(h:WalkB d D M tn s es):Walk d tn s es:=λi x hx=>(h i x hx).st
theorem xI{s:As}{fs:DL}(h:WalkB d D M tn s es)(g:WalkB d D M tn (ends s es) fs):WalkB d D M tn s (es++fs):=λi x hx=>by
  by_cases c:i<es.length
  . rw [aT c] at hx;rw [cr (!2)];exact h i x hx
  . rw [aN (!2)] at hx;have e:(es++fs).take i=es++fs.take (i - es.length):=by rw [gP,cN (!2)]
    rw [e,yr];exact g _ x hx
theorem xP{s:As}(h:WalkB d D M tn s es)(g:Stq d D M tn (ends s es) x):WalkB d D M tn s (es++[x]):=xI h λi y hy=>by
  have:i=0:=by
    have:=(af.mp hy).1;simp only [ax,aY] at this
    lia
  subst this;have e:x=y:=ao hy;subst e;exact g
structure Gst(d D px py:Int)(M:Nat)(tn:Bool)(s0:As)(pc:List Pc)(t:Nat):Prop where
  w:WalkB d D M tn s0 (gth s0.k pc t)
  k:(ends s0 (gth s0.k pc t)).k=s0.k+(2*t - 1)
  mem:∀ j,j∈(ends s0 (gth s0.k pc t)).ns↔(j∈s0.ns/\∀ i p,i<t->pc[i]?=some p->p.n≠j)\/(0<t/\j=s0.k+2*t - 2)
  g:0<t->(ends s0 (gth s0.k pc t)).g (s0.k+2*t - 2)=⟨sdO D px py,sdO D (accX (pc.take t)) (accY (pc.take t))⟩
theorem Fx{d D px py:Int}{M K':Nat}{tn:Bool}{s0:As}{pc:List Pc}(hR:Rt d)(z:Sz D K' M)(lt:∀ n∈s0.ns,n<s0.k)(hp:∀ p∈pc,PcOk d D px py M s0 p)(nd:(pc.map Pc.n).Nodup)(up:sgn d px py=1)(bp:Bd M px/\Bd M py) (ba:∀ t,Bd M (accX (pc.take t))/\Bd M (accY (pc.take t))):∀ t,t<=pc.length->Gst d D px py M tn s0 pc t
  | 0,_=>⟨λi x h=>by simp [gth] at h,rfl,λj=>by
      show j∈s0.ns↔_;constructor
      . exact λh=>.inl ⟨h,λi p hi=>absurd hi (!2)⟩
      . rintro (h | h)
        . exact h.1
        . lia,λh=>absurd h (!2)⟩
  | t+1,ht=>by
    have ih:=Fx (tn:=tn) hR z lt hp nd up bp ba t (bA ht);have ht':t<pc.length:=ht;have hD:=z.d1;obtain ⟨p,hpt⟩:∃ p,pc[t]?=some p:=⟨_,ae ht'⟩
    have hpm:=av hpt;have pk:=hp p hpm;have eg:gth s0.k pc (t+1)=gth s0.k pc t++gd1 s0.k t p:=by
      show gth s0.k pc t++_=_;rw [hpt]
    have acx:accX (pc.take (t+1))=accX (pc.take t)+p.m*p.x:=by rw [bg,hpt]; exact yS p _
    have acy:accY (pc.take (t+1))=accY (pc.take t)+p.m*p.y:=by rw [bg,hpt]; exact yP p _
    obtain ⟨w,k,mem,g⟩:=ih;have gk:∀ n,n<s0.k->(ends s0 (gth s0.k pc t)).g n=s0.g n:=λn h=>vL h;generalize hs:ends s0 (gth s0.k pc t)=s at *
    have pnk:=lt p.n pk.hn;have hn:p.n∈s.ns:=(mem p.n).mpr (.inl ⟨pk.hn,λi q hi hq c=>by
      have h1:(pc.map Pc.n)[i]?=some p.n:=by rw [aj,hq,<-c]; rfl
      have h2:(pc.map Pc.n)[t]?=some p.n:=by rw [aj,hpt]; rfl
      have:=(eM (i:=i) (by rw [aa]; lia) nd).mp (h1.trans h2.symm)
      lia⟩)
    have hg:s.g p.n=⟨sdO D (px*p.m) (py*p.m),sdO D p.x p.y⟩:=(gk _ pnk).trans pk.g;have upw:sgn d (px*p.m) (py*p.m)=1:=by rw [aq px,aq py]; exact yN hR pk.m1 up
    have st1:Stp d tn s (.shift false p.n p.m,p.n,p.n):=Db z hn pk.m1 pk.mb (by rw [hg]; exact yR hR hD upw pk.bw.1 pk.bw.2) (by rw [hg]; exact yR hR hD pk.up pk.bh.1 pk.bh.2);have nw1:(Dd.shift false p.n p.m).new (s.g p.n) (s.g p.n)=[⟨sdO D px py,sdO D (p.m*p.x) (p.m*p.y)⟩]:=by
      show [(⟨shS (s.g p.n).w 1 p.m,shS (s.g p.n).h p.m 1⟩:Bo)]=_;rw [hg,aq p.m,aq p.m];show [(⟨shS (sdO D (px*p.m) (py*p.m)) 1 p.m,shS (sdO D p.x p.y) p.m 1⟩:Bo)]=_;rw [Mb hD pk.m1,HU hD]
    have w1:WalkB d D M tn s0 (gth s0.k pc t++[(.shift false p.n p.m,p.n,p.n)]):=xP w (by
      rw [hs];refine ⟨st1,λb hb=>?_⟩;have hb:b∈(Dd.shift false p.n p.m).new (s.g p.n) (s.g p.n):=hb;rw [nw1] at hb;rw [ak.mp hb];exact ⟨yR hR hD up bp.1 bp.2,yR hR hD (yN hR pk.m1 pk.up) pk.bm.1 pk.bm.2⟩)
    have e1:ends s0 (gth s0.k pc t++[(Dd.shift false p.n p.m,p.n,p.n)])=s.next (.shift false p.n p.m,p.n,p.n):=by rw [wI,hs]
    have g1:(s.next (.shift false p.n p.m,p.n,p.n)).g s.k=⟨sdO D px py,sdO D (p.m*p.x) (p.m*p.y)⟩:=by
      exact yk (j:=0) (by show ((Dd.shift false p.n p.m).new (s.g p.n) (s.g p.n))[0]?=_; rw [nw1]; rfl)
    have k1:(s.next (.shift false p.n p.m,p.n,p.n)).k=s.k+1:=yJ s _;have m1:∀ j,j∈(s.next (.shift false p.n p.m,p.n,p.n)).ns↔(j∈s.ns/\j≠p.n)\/j=s.k:=λj=>by
      rw [mem_next];show (j∈s.ns/\(j:Int)∉[(p.n:Int)])\/(s.k<=j/\j<s.k+1)↔_;rw [ak];grind
    have lt':∀ i q,i<t+1->pc[i]?=some q->i<t\/q=p:=λi q hi hq=>by
      by_cases c:i<t
      . exact .inl c
      . have:i=t:=by lia
        subst this;exact .inr (ao (hq.symm.trans hpt))
    by_cases c0:t=0
    . subst c0;have eg':gth s0.k pc (0+1)=gth s0.k pc 0++[(.shift false p.n p.m,p.n,p.n)]:=eg;have ss:s=s0:=hs.symm;refine ⟨by rw [eg']; exact w1,by rw [eg',e1,k1,ss],λj=>?_,λ_=>?_⟩
      . rw [eg',e1,m1,ss];grind
      . rw [eg',e1,show s0.k+2*(0+1) - 2=s.k by rw [ss]; lia,g1,acx,acy];rw [show accX (pc.take 0)=0 from rfl,show accY (pc.take 0)=0 from rfl,dC,dC]
    . have eg':gth s0.k pc (t+1)=gth s0.k pc t++[(Dd.shift false p.n p.m,p.n,p.n)]++[(Dd.glue true ((s0.k+2*t - 1:Nat):Int) ((s0.k+2*t - 2:Nat):Int),s0.k+2*t - 1,s0.k+2*t - 2)]:=by
        rw [eg];unfold gd1;rw [io c0,aH];rfl
      have sk:s.k=s0.k+2*t - 1:=by lia
      have hacc:=g (!2);generalize hs1:s.next (.shift false p.n p.m,p.n,p.n)=s1 at *
      have n1:s0.k+2*t - 1∈s1.ns:=(m1 _).mpr (.inr sk.symm);have n2:s0.k+2*t - 2∈s1.ns:=(m1 _).mpr (.inl ⟨(mem _).mpr (.inr ⟨by lia,rfl⟩),by lia⟩);have g1':s1.g (s0.k+2*t - 1)=⟨sdO D px py,sdO D (p.m*p.x) (p.m*p.y)⟩:=by rw [<-sk]; exact g1
      have g2':s1.g (s0.k+2*t - 2)=⟨sdO D px py,sdO D (accX (pc.take t)) (accY (pc.take t))⟩:=by
        rw [<-hs1];exact (wG (!2)).trans hacc
      have upa:sgn d (accX (pc.take t)) (accY (pc.take t))=1:=Ce hR (λc=>by
        have:=congrArg List.length c;rw [aZ,aY] at this
        lia) λq hq=>⟨(hp q (cJ hq)).m1,(hp q (cJ hq)).up⟩
      have st2:Stp d tn s1 (.glue true ((s0.k+2*t - 1:Nat):Int) ((s0.k+2*t - 2:Nat):Int),s0.k+2*t - 1,s0.k+2*t - 2) :=
        FW z n1 n2 (!2) (by rw [g1',g2']) (by rw [g1']; exact yR hR hD (yN hR pk.m1 pk.up) pk.bm.1 pk.bm.2) (by rw [g2']; exact yR hR hD upa (ba t).1 (ba t).2)
      have nw2:(Dd.glue true ((s0.k+2*t - 1:Nat):Int) ((s0.k+2*t - 2:Nat):Int)).new (s1.g (s0.k+2*t - 1)) (s1.g (s0.k+2*t - 2))=[⟨sdO D px py,sdO D (accX (pc.take (t+1))) (accY (pc.take (t+1)))⟩]:=by
        show [(⟨(s1.g (s0.k+2*t - 1)).w,adS (s1.g (s0.k+2*t - 1)).h (s1.g (s0.k+2*t - 2)).h⟩:Bo)]=_;rw [g1',g2',acx,acy];show [(⟨sdO D px py,adS (sdO D (p.m*p.x) (p.m*p.y)) (sdO D (accX (pc.take t)) (accY (pc.take t)))⟩:Bo)]=_;rw [JW hD,fN (p.m*p.x),fN (p.m*p.y)]
      have upb:sgn d (accX (pc.take (t+1))) (accY (pc.take (t+1)))=1:=Ce hR (λc=>by
        have:=congrArg List.length c;rw [aZ,aY] at this
        lia) λq hq=>⟨(hp q (cJ hq)).m1,(hp q (cJ hq)).up⟩
      have w2:=xP w1 (by
        rw [e1];refine ⟨st2,λb hb=>?_⟩;have hb:b∈(Dd.glue true ((s0.k+2*t - 1:Nat):Int) ((s0.k+2*t - 2:Nat):Int)).new (s1.g (s0.k+2*t - 1)) (s1.g (s0.k+2*t - 2)):=hb;rw [nw2] at hb;rw [ak.mp hb];exact ⟨yR hR hD up bp.1 bp.2,yR hR hD upb (ba (t+1)).1 (ba (t+1)).2⟩)
      have e2:=wI (s:=s0) (es:=gth s0.k pc t++[(Dd.shift false p.n p.m,p.n,p.n)]) (x:=(Dd.glue true ((s0.k+2*t - 1:Nat):Int) ((s0.k+2*t - 2:Nat):Int),s0.k+2*t - 1,s0.k+2*t - 2));rw [e1] at e2;have k2:=yJ s1 (Dd.glue true ((s0.k+2*t - 1:Nat):Int) ((s0.k+2*t - 2:Nat):Int),s0.k+2*t - 1,s0.k+2*t - 2);have k2:(s1.next (Dd.glue true ((s0.k+2*t - 1:Nat):Int) ((s0.k+2*t - 2:Nat):Int),s0.k+2*t - 1,s0.k+2*t - 2)).k=s1.k+1:=k2;refine ⟨by rw [eg']; exact w2,by rw [eg',e2,k2]; lia,λj=>?_,λ_=>?_⟩
      . rw [eg',e2,mem_next];show (j∈s1.ns/\(j:Int)∉[((s0.k+2*t - 1:Nat):Int),((s0.k+2*t - 2:Nat):Int)])\/(s1.k<=j/\j<s1.k+1)↔_;rw [aU,ak,m1,mem];have:=lt j;grind
      . rw [eg',e2,show s0.k+2*(t+1) - 2=s1.k by lia];exact yk (j:=0) (by rw [nw2]; rfl)
theorem Hw{a:Nat}{xs ys:List Nat}(h:(xs++ys).Nodup)(n:a∉xs++ys):(xs++([a]++ys)).Nodup:=by
  have hp:(xs++([a]++ys)).Perm (a::(xs++ys)):=by
    rw [List.singleton_append];exact List.perm_middle
  exact hp.nodup_iff.mpr (dj.mpr ⟨n,h⟩)
theorem Hm{a:Nat}{xs:List Nat}(h:xs.Nodup)(n:a∉xs):(xs++[a]).Nodup:=by
  have hp:(xs++[a]).Perm (a::xs):=List.perm_append_singleton a xs;exact hp.nodup_iff.mpr (dj.mpr ⟨n,h⟩)
structure Bx where
  i:Int
  j:Int
  x:Int
  y:Int
structure Bas(d:Int)(M:Nat)(px py qx qy:Int):Prop where
  up:sgn d px py=1
  uq:sgn d qx qy=1
  bp:Bd M px/\Bd M py
  bq:Bd M qx/\Bd M qy
structure BxOk(d px py qx qy:Int)(M0 M:Nat)(b:Bx):Prop where
  i0:0<=b.i
  j0:0<=b.j
  ne:b.i≠0\/b.j≠0
  bi:Bd 1024 b.i
  bj:Bd 1024 b.j
  up:sgn d b.x b.y=1
  bh:Bd M b.x/\Bd M b.y
  bpi:Bd M (px*b.i)/\Bd M (py*b.i)
  bqj:Bd M (qx*b.j)/\Bd M (qy*b.j)
  bw:Bd M (px*b.i+qx*b.j)/\Bd M (py*b.i+qy*b.j)
  bxi:Bd M0 (b.i*b.x)/\Bd M0 (b.i*b.y)
  bxj:Bd M0 (b.j*b.x)/\Bd M0 (b.j*b.y)
def Bx.bo(D px py qx qy:Int)(b:Bx):Bo:=⟨sdO D (px*b.i+qx*b.j) (py*b.i+qy*b.j),sdO D b.x b.y⟩
structure Np where
  ds:DL
  F:List Pc
  O:List Pc
  u:Nat
def np1(D px py:Int)(n:Nat)(hb:List Bx):Nat->Np
  | 0=>⟨[],[],[],n⟩
  | t+1=>match hb[t]? with
    | none=>np1 D px py n hb t
    | some b=>if b.j=0 then ⟨(np1 D px py n hb t).ds,(np1 D px py n hb t).F++[⟨t,b.i,b.x,b.y⟩],(np1 D px py n hb t).O,(np1 D px py n hb t).u⟩
      else if b.i=0 then ⟨(np1 D px py n hb t).ds,(np1 D px py n hb t).F,(np1 D px py n hb t).O++[⟨t,b.j,b.x,b.y⟩],(np1 D px py n hb t).u⟩
      else ⟨(np1 D px py n hb t).ds++[(.cut false t (sdO D (px*b.i) (py*b.i)),t,t)],(np1 D px py n hb t).F++[⟨(np1 D px py n hb t).u,b.i,b.x,b.y⟩],(np1 D px py n hb t).O++[⟨(np1 D px py n hb t).u+1,b.j,b.x,b.y⟩],(np1 D px py n hb t).u+2⟩
def sI(f:Bx->Int):List Bx->Int
  | []=>0
  | b::l=>f b+sI f l
theorem yo(f:Bx->Int)(b:Bx):∀ l,sI f (l++[b])=sI f l+f b
  | []=>by show f b+0=0+_; lia
  | c::l=>by
    show f c+sI f (l++[b])=f c+sI f l+_;rw [yo f b l]; lia
structure PcG(d D px py:Int)(M0 M:Nat)(s:As)(p:Pc):Prop where
  m1:1<=p.m
  mb:Bd 1024 p.m
  lt:p.n<s.k
  g:s.g p.n=⟨sdO D (px*p.m) (py*p.m),sdO D p.x p.y⟩
  up:sgn d p.x p.y=1
  bw:Bd M (px*p.m)/\Bd M (py*p.m)
  bh:Bd M p.x/\Bd M p.y
  bm:Bd M0 (p.m*p.x)/\Bd M0 (p.m*p.y)
theorem PcG.next{d D px py:Int}{M0 M:Nat}{s:As}{p:Pc}(h:PcG d D px py M0 M s p)(x:Dd×Nat×Nat):PcG d D px py M0 M (s.next x) p :=
  ⟨h.m1,h.mb,by rw [yJ]; have:=h.lt; lia,(show gN s.g s.k _ p.n=_ from wG h.lt).trans h.g,h.up,h.bw,h.bh,h.bm⟩
theorem PcG.ends{d D px py:Int}{M0 M:Nat}{s:As}{p:Pc}(h:PcG d D px py M0 M s p)(es:DL):PcG d D px py M0 M (ends s es) p :=
  ⟨h.m1,h.mb,by rw [xc]; have:=h.lt; lia,(vL h.lt).trans h.g,h.up,h.bw,h.bh,h.bm⟩
variable {px py:Int}{M0:Nat}
theorem PcG.ok{s:As}{p:Pc}(h:PcG d D px py M0 M s p)(hM:M0<=M)(hn:p.n∈s.ns):PcOk d D px py M s p:=⟨hn,h.m1,h.mb,h.g,h.up,h.bw,h.bh,h.bm.1.mono hM,h.bm.2.mono hM⟩
structure N1(d D px py qx qy:Int)(M0 M:Nat)(tn:Bool)(s0:As)(n:Nat)(hb:List Bx)(t:Nat)(r:Np):Prop where
  w:WalkB d D M tn s0 r.ds
  k:(ends s0 r.ds).k=r.u
  nu:n<=r.u
  mem:∀ j,j∈(ends s0 r.ds).ns↔(t<=j/\j<n)\/j∈r.F.map Pc.n\/j∈r.O.map Pc.n
  nd:(r.F.map Pc.n++r.O.map Pc.n).Nodup
  ap:∀ j∈r.F.map Pc.n++r.O.map Pc.n,j<r.u/\(j<t\/n<=j)
  okF:∀ p∈r.F,PcG d D px py M0 M (ends s0 r.ds) p
  okO:∀ p∈r.O,PcG d D qx qy M0 M (ends s0 r.ds) p
  aF:accX r.F=sI (λb=>b.i*b.x) (hb.take t)/\accY r.F=sI (λb=>b.i*b.y) (hb.take t)
  aO:accX r.O=sI (λb=>b.j*b.x) (hb.take t)/\accY r.O=sI (λb=>b.j*b.y) (hb.take t)
  len:r.ds.length<=t/\r.F.length<=t/\r.O.length<=t
theorem Ho{d D px py qx qy:Int}{M0 M K':Nat}{tn:Bool}{s0:As}{hb:List Bx}(hR:Rt d)(z:Sz D K' M)(bs:Bas d M px py qx qy)(hk:s0.k=hb.length)(hns:s0.ns=List.range hb.length)(hg:∀ (k:Nat) (b:Bx),hb[k]?=some b->s0.g k=b.bo D px py qx qy) (ok:∀ b∈hb,BxOk d px py qx qy M0 M b):∀ t,t<=hb.length->N1 d D px py qx qy M0 M tn s0 hb.length hb t (np1 D px py hb.length hb t)
  | 0,_=>⟨λi x h=>by simp [np1] at h,hk,ag _,λj=>by
      show j∈s0.ns↔_;rw [hns,bV];simp [np1],by simp [np1],λj hj=>by simp [np1] at hj,λp hp=>by simp [np1] at hp,λp hp=>by simp [np1] at hp,⟨rfl,rfl⟩,⟨rfl,rfl⟩,⟨ag _,ag _,ag _⟩⟩
  | t+1,ht=>by
    have ht':t<hb.length:=ht;have ih:=Ho (tn:=tn) hR z bs hk hns hg ok t (bA ht);obtain ⟨b,hbt⟩:∃ b,hb[t]?=some b:=⟨_,ae ht'⟩
    have bk:=ok b (av hbt);have hD:=z.d1;have e:np1 D px py hb.length hb (t+1)=if b.j=0 then ⟨(np1 D px py hb.length hb t).ds,(np1 D px py hb.length hb t).F++[⟨t,b.i,b.x,b.y⟩],(np1 D px py hb.length hb t).O,(np1 D px py hb.length hb t).u⟩
      else if b.i=0 then ⟨(np1 D px py hb.length hb t).ds,(np1 D px py hb.length hb t).F,(np1 D px py hb.length hb t).O++[⟨t,b.j,b.x,b.y⟩],(np1 D px py hb.length hb t).u⟩
      else ⟨(np1 D px py hb.length hb t).ds++[(.cut false t (sdO D (px*b.i) (py*b.i)),t,t)],(np1 D px py hb.length hb t).F++[⟨(np1 D px py hb.length hb t).u,b.i,b.x,b.y⟩],(np1 D px py hb.length hb t).O++[⟨(np1 D px py hb.length hb t).u+1,b.j,b.x,b.y⟩],(np1 D px py hb.length hb t).u+2⟩:=by
      show (match hb[t]? with | none=>_ | some b=>_)=_;rw [hbt]
    rw [e];generalize np1 D px py hb.length hb t=r at ih;have tk:hb.take (t+1)=hb.take t++[b]:=by rw [bg,hbt]; rfl
    have tmem:t∈(ends s0 r.ds).ns:=(ih.mem t).mpr (.inl ⟨ag _,ht'⟩);have tnot:t∉r.F.map Pc.n++r.O.map Pc.n:=λh=>by have:=(ih.ap t h).2; lia
    have gt:(ends s0 r.ds).g t=b.bo D px py qx qy:=(vL (!2)).trans (hg t b hbt);have tku:t<(ends s0 r.ds).k:=by rw [ih.k]; have:=ih.nu; lia
    obtain ⟨l1,l2,l3⟩:=ih.len;by_cases cj:b.j=0
    . rw [im cj];have bi1:1<=b.i:=by have:=bk.i0; have:=bk.ne; lia
      refine ⟨ih.w,ih.k,ih.nu,λj=>?_,?_,λj hj=>?_,λp hp=>?_,ih.okO,⟨?_,?_⟩,⟨?_,?_⟩,⟨by show r.ds.length<=_; lia,by show (r.F++_).length<=_; rw [ah]; simp only [ax,aY]; lia,by show r.O.length<=_; lia⟩⟩
      . show j∈(ends s0 r.ds).ns↔_\/j∈(r.F++[_]).map Pc.n\/_;rw [ih.mem,ai,aB,aW,cL,ak];show _↔_\/(_\/j=t)\/_;grind
      . show ((r.F++[_]).map Pc.n++r.O.map Pc.n).Nodup;rw [ai,aH];exact Hw ih.nd tnot
      . have hj:j∈(r.F++[_]).map Pc.n++r.O.map Pc.n:=hj;rw [ai,aH,aB,aB,aW,cL,ak] at hj;have hj:j∈r.F.map Pc.n\/j=t\/j∈r.O.map Pc.n:=hj;rcases hj with h|h|h
        . have:=ih.ap j (bP _ h); exact ⟨this.1,by lia⟩
        . have:=ih.nu; exact ⟨by show j<r.u; lia,by lia⟩
        . have:=ih.ap j (a7 _ h); exact ⟨this.1,by lia⟩
      . rcases aB.mp hp with h | h
        . exact ih.okF p h
        . rw [ak.mp h];refine ⟨bi1,bk.bi,tku,?_,bk.up,bk.bpi,bk.bh,bk.bxi⟩;rw [gt];show (⟨sdO D (px*b.i+qx*b.j) (py*b.i+qy*b.j),sdO D b.x b.y⟩:Bo)=_;rw [cj,cQ,cQ,cf,cf]
      . show accX (r.F++[_])=_;rw [yS,ih.aF.1,tk,yo]
      . show accY (r.F++[_])=_;rw [yP,ih.aF.2,tk,yo]
      . show accX r.O=_;rw [ih.aO.1,tk,yo,cj,bS,cf]
      . show accY r.O=_;rw [ih.aO.2,tk,yo,cj,bS,cf]
    . rw [io cj];have bj1:1<=b.j:=by have:=bk.j0; lia
      by_cases ci:b.i=0
      . rw [im ci];refine ⟨ih.w,ih.k,ih.nu,λj=>?_,?_,λj hj=>?_,ih.okF,λp hp=>?_,⟨?_,?_⟩,⟨?_,?_⟩,⟨by show r.ds.length<=_; lia,by show r.F.length<=_; lia,by show (r.O++_).length<=_; rw [ah]; simp only [ax,aY]; lia⟩⟩
        . show j∈(ends s0 r.ds).ns↔_\/_\/j∈(r.O++[_]).map Pc.n;rw [ih.mem,ai,aB,aW,cL,ak];show _↔_\/_\/_\/j=t;grind
        . show (r.F.map Pc.n++(r.O++[_]).map Pc.n).Nodup;rw [ai,<-aH];exact Hm ih.nd tnot
        . have hj:j∈r.F.map Pc.n++(r.O++[_]).map Pc.n:=hj;rw [ai,<-aH,aB,aW,cL,ak] at hj;have hj:j∈r.F.map Pc.n++r.O.map Pc.n\/j=t:=hj;rcases hj with h|h
          . have:=ih.ap j h; exact ⟨this.1,by lia⟩
          . have:=ih.nu; exact ⟨by show j<r.u; lia,by lia⟩
        . rcases aB.mp hp with h | h
          . exact ih.okO p h
          . rw [ak.mp h];refine ⟨bj1,bk.bj,tku,?_,bk.up,bk.bqj,bk.bh,bk.bxj⟩;rw [gt];show (⟨sdO D (px*b.i+qx*b.j) (py*b.i+qy*b.j),sdO D b.x b.y⟩:Bo)=_;rw [ci,cQ,cQ,dC,dC]
        . show accX r.F=_;rw [ih.aF.1,tk,yo,ci,bS,cf]
        . show accY r.F=_;rw [ih.aF.2,tk,yo,ci,bS,cf]
        . show accX (r.O++[_])=_;rw [yS,ih.aO.1,tk,yo]
        . show accY (r.O++[_])=_;rw [yP,ih.aO.2,tk,yo]
      . rw [io ci];have bi1:1<=b.i:=by have:=bk.i0; lia
        have upi:sgn d (px*b.i) (py*b.i)=1:=by rw [aq px,aq py]; exact yN hR bi1 bs.up
        have uqj:sgn d (qx*b.j) (qy*b.j)=1:=by rw [aq qx,aq qy]; exact yN hR bj1 bs.uq
        have upw:sgn d (px*b.i+qx*b.j) (py*b.i+qy*b.j)=1:=Ar hR upi uqj;have so_w:=yR (D:=D) hR hD upw bk.bw.1 bk.bw.2;have so_s:=yR (D:=D) hR hD upi bk.bpi.1 bk.bpi.2;have so_t:=yR (D:=D) hR hD uqj bk.bqj.1 bk.bqj.2;have tke:tkS (sdO D (px*b.i+qx*b.j) (py*b.i+qy*b.j)) (sdO D (px*b.i) (py*b.i))=sdO D (qx*b.j) (qy*b.j):=by
          rw [Hu hD];congr 1 <;> lia
        have stp:Stp d tn (ends s0 r.ds) (.cut false t (sdO D (px*b.i) (py*b.i)),t,t):=by
          refine ⟨⟨rfl,tmem,tmem,(λh=>nomatch h),λ_=>rfl⟩,z.sy so_s,?_,(λh=>nomatch h)⟩;show EV d ((ends s0 r.ds).g t).w _;rw [gt];exact Aw hR z so_w so_s (by show So d D M (tkS (sdO D _ _) _); rw [tke]; exact so_t)
        have e1:ends s0 (r.ds++[(Dd.cut false t (sdO D (px*b.i) (py*b.i)),t,t)])=(ends s0 r.ds).next (.cut false t (sdO D (px*b.i) (py*b.i)),t,t):=wI;have nw:(Dd.cut false t (sdO D (px*b.i) (py*b.i))).new ((ends s0 r.ds).g t) ((ends s0 r.ds).g t)=[⟨sdO D (px*b.i) (py*b.i),sdO D b.x b.y⟩,⟨sdO D (qx*b.j) (qy*b.j),sdO D b.x b.y⟩]:=by
          rw [gt];show [(⟨_,sdO D b.x b.y⟩:Bo),⟨tkS (sdO D (px*b.i+qx*b.j) (py*b.i+qy*b.j)) (sdO D (px*b.i) (py*b.i)),sdO D b.x b.y⟩]=_;rw [tke]
        have w1:=xP ih.w ⟨stp,λc hc=>by
          have hc:c∈(Dd.cut false t (sdO D (px*b.i) (py*b.i))).new ((ends s0 r.ds).g t) ((ends s0 r.ds).g t):=hc;rw [nw] at hc;have so_h:=yR (D:=D) hR hD bk.up bk.bh.1 bk.bh.2;rcases aU.mp hc with rfl|hc
          . exact ⟨so_s,so_h⟩
          . rw [ak.mp hc];exact ⟨so_t,so_h⟩⟩
        have k1:=yJ (ends s0 r.ds) (Dd.cut false t (sdO D (px*b.i) (py*b.i)),t,t);rw [ih.k] at k1;have k1:((ends s0 r.ds).next (Dd.cut false t (sdO D (px*b.i) (py*b.i)),t,t)).k=r.u+2:=k1;have g0:((ends s0 r.ds).next (Dd.cut false t (sdO D (px*b.i) (py*b.i)),t,t)).g r.u=⟨sdO D (px*b.i) (py*b.i),sdO D b.x b.y⟩:=by
          rw [<-ih.k];exact yk (j:=0) (by rw [nw]; rfl)
        have g1:((ends s0 r.ds).next (Dd.cut false t (sdO D (px*b.i) (py*b.i)),t,t)).g (r.u+1)=⟨sdO D (qx*b.j) (qy*b.j),sdO D b.x b.y⟩:=by
          rw [<-ih.k];exact yk (j:=1) (by rw [nw]; rfl)
        have nu:=ih.nu;have unot:∀ j,r.u<=j->j∉r.F.map Pc.n++r.O.map Pc.n:=λj hj h=>by have:=(ih.ap j h).1; lia
        refine ⟨w1,by show (ends s0 (r.ds++_)).k=_; rw [e1,k1],by show _<=r.u+2; lia,λj=>?_,?_,λj hj=>?_,λp hp=>?_,λp hp=>?_,⟨?_,?_⟩,⟨?_,?_⟩,⟨by show (r.ds++_).length<=_; rw [ah]; simp only [ax,aY]; lia,by show (r.F++_).length<=_; rw [ah]; simp only [ax,aY]; lia,by show (r.O++_).length<=_; rw [ah]; simp only [ax,aY]; lia⟩⟩
        . show j∈(ends s0 (r.ds++_)).ns↔_\/j∈(r.F++[_]).map Pc.n\/j∈(r.O++[_]).map Pc.n;rw [e1,mem_next,ih.k,ai,ai,aB,aB,aW,cL,ak,aW,cL,ak,ih.mem];show (_/\(j:Int)∉[(t:Int)])\/(r.u<=j/\j<r.u+2)↔_\/(_\/j=r.u)\/_\/j=r.u+1;rw [ak];grind
        . show ((r.F++[_]).map Pc.n++(r.O++[_]).map Pc.n).Nodup;rw [ai,ai];have h1:(r.F.map Pc.n++([r.u]++r.O.map Pc.n)).Nodup:=Hw ih.nd (unot _ (ag _));have h2:=Hm (a:=r.u+1) h1 (λh=>by
            rcases aB.mp h with h|h
            . exact unot _ (!2) (bP _ h)
            . rcases aB.mp h with h | h
              . rw [ak] at h; lia
              . exact unot _ (!2) (a7 _ h))
          simp only [aH] at h2 ⊢;exact h2
        . have hj:j∈(r.F++[_]).map Pc.n++(r.O++[_]).map Pc.n:=hj;rw [ai,ai,aB,aB,aB,aW,cL,ak,aW,cL,ak] at hj;have hj:(j∈r.F.map Pc.n\/j=r.u)\/j∈r.O.map Pc.n\/j=r.u+1:=hj;show j<r.u+2/\_;rcases hj with (h|h)|h|h
          . have:=ih.ap j (bP _ h); lia
          . lia
          . have:=ih.ap j (a7 _ h); lia
          . lia
        . show PcG d D px py M0 M (ends s0 (r.ds++_)) p;rw [e1];rcases aB.mp hp with h|h
          . exact (ih.okF p h).next _
          . rw [ak.mp h];exact ⟨bi1,bk.bi,by rw [k1]; show r.u<_; lia,g0,bk.up,bk.bpi,bk.bh,bk.bxi⟩
        . show PcG d D qx qy M0 M (ends s0 (r.ds++_)) p;rw [e1];rcases aB.mp hp with h|h
          . exact (ih.okO p h).next _
          . rw [ak.mp h];exact ⟨bj1,bk.bj,by rw [k1]; show r.u+1<_; lia,g1,bk.up,bk.bqj,bk.bh,bk.bxj⟩
        . show accX (r.F++[_])=_;rw [yS,ih.aF.1,tk,yo]
        . show accY (r.F++[_])=_;rw [yP,ih.aF.2,tk,yo]
        . show accX (r.O++[_])=_;rw [yS,ih.aO.1,tk,yo]
        . show accY (r.O++[_])=_;rw [yP,ih.aO.2,tk,yo]
theorem EK{M0:Nat}:∀ {ps:List Pc},(∀ p∈ps,Bd M0 (p.m*p.x)/\Bd M0 (p.m*p.y))->Bd (M0+ps.length) (accX ps)/\Bd (M0+ps.length) (accY ps)
  | [],_=>⟨fH _,fH _⟩
  | p::ps,h=>by
    have h1:=h p aV;have h2:=EK (ps:=ps) λq hq=>h q (az _ hq);rw [ax,<-gE];exact ⟨Bd.add (h1.1.mono (ck _ _)) h2.1,Bd.add (h1.2.mono (ck _ _)) h2.2⟩
def hp1(D px py X Y:Int):List Bo:=if X=0/\Y=0 then [] else [⟨sdO D px py,sdO D X Y⟩]
theorem FH(hR:Rt d){ps:List Pc}(h:∀ p∈ps,1<=p.m/\sgn d p.x p.y=1):hp1 D px py (accX ps) (accY ps)=if ps=[] then [] else [⟨sdO D px py,sdO D (accX ps) (accY ps)⟩]:=by
  unfold hp1;by_cases c:ps=[]
  . subst c;rw [im ⟨rfl,rfl⟩,im rfl]
  . rw [io c,io];rintro ⟨h1,h2⟩;have:=Ce hR c h;rw [h1,h2] at this;exact absurd this (by unfold sgn; simp)
def npl(D px py:Int)(hb:List Bx):DL:=(np1 D px py hb.length hb hb.length).ds++(gth (np1 D px py hb.length hb hb.length).u (np1 D px py hb.length hb hb.length).F (np1 D px py hb.length hb hb.length).F.length++gth ((np1 D px py hb.length hb hb.length).u+(2*(np1 D px py hb.length hb hb.length).F.length - 1)) (np1 D px py hb.length hb hb.length).O (np1 D px py hb.length hb hb.length).O.length)
theorem BI:∀ {xs ys:List Nat},xs.Pairwise (· < ·)->ys.Pairwise (· < ·)->(∀ j,j∈xs↔j∈ys)->xs=ys:=λ{xs ys} hx hy h =>
  gu (λa b _ _ h k=>Nat.le_antisymm h k) (hx.imp bA) (hy.imp bA) ((fJ (xo hx) (xo hy)).mpr h)
theorem Lv{qx qy:Int}{s0:As}{hb:List Bx}(hR:Rt d)(z:Sz D K' M)(bs:Bas d M px py qx qy)(hk:s0.k=hb.length)(hns:s0.ns=List.range hb.length)(hg:∀ (k:Nat) (b:Bx),hb[k]?=some b->s0.g k=b.bo D px py qx qy)(ok:∀ b∈hb,BxOk d px py qx qy M0 M b)(hM:M0+hb.length<=M)(h1:1<=hb.length):WalkB d D M tn s0 (npl D px py hb)/\(npl D px py hb).length<=5*hb.length /\
      (ends s0 (npl D px py hb)).ns.map (ends s0 (npl D px py hb)).g=hp1 D px py (sI (λb=>b.i*b.x) hb) (sI (λb=>b.i*b.y) hb)++hp1 D qx qy (sI (λb=>b.j*b.x) hb) (sI (λb=>b.j*b.y) hb):=by
  have n1:=Ho (tn:=tn) hR z bs hk hns hg ok hb.length (ag _);unfold npl;generalize np1 D px py hb.length hb hb.length=r at n1;obtain ⟨w,k,nu,mem,nd,ap,okF,okO,aF,aO,l1,l2,l3⟩:=n1;rw [ar] at aF aO;have ok0:As.Ok hb.length s0 0:=⟨by rw [hns]; exact cg,λn hn=>by rw [hns] at hn; rw [hk]; exact bV.mp hn,by rw [hns]; intro h; rw [eP] at h; lia,by rw [hns,bQ]; lia,by rw [hk]; lia⟩
  have oks:=zT ok0 w.walk r.ds.length (ag _);rw [ar] at oks;generalize hs:ends s0 r.ds=s at *
  have ndF:(r.F.map Pc.n).Nodup:=(gx.mp nd).1;have ndO:(r.O.map Pc.n).Nodup:=(gx.mp nd).2.1;have dis:∀ j,j∈r.F.map Pc.n->j∈r.O.map Pc.n->False:=λj a b=>(gx.mp nd).2.2 j a j b rfl;have memF:∀ p∈r.F,p.n∈s.ns:=λp hp=>(mem _).mpr (.inr (.inl (bH hp)));have memO:∀ p∈r.O,p.n∈s.ns:=λp hp=>(mem _).mpr (.inr (.inr (bH hp)));have hM0:M0<=M:=by lia
  have accb:∀ (L:List Pc),L.length<=hb.length->(∀ p∈L,Bd M0 (p.m*p.x)/\Bd M0 (p.m*p.y))->∀ t,Bd M (accX (L.take t))/\Bd M (accY (L.take t)):=λL hl h t=>by
    have:=EK (M0:=M0) (ps:=L.take t) λp hp=>h p (cJ hp);have hl2:(L.take t).length<=hb.length:=by rw [aZ]; lia
    exact ⟨this.1.mono (!2),this.2.mono (!2)⟩
  have G1:=Fx (tn:=tn) hR z oks.lt (λp hp=>(okF p hp).ok hM0 (memF p hp)) ndF bs.up bs.bp (accb r.F l2 λp hp=>(okF p hp).bm) r.F.length (ag _);obtain ⟨w1,k1,mem1,g1⟩:=G1;rw [k] at w1 k1 mem1 g1;rw [ar] at g1;have w01:WalkB d D M tn s0 (r.ds++gth r.u r.F r.F.length):=xI w (by rw [hs]; exact w1);have ok1:=zT ok0 w01.walk _ (ag _);rw [ar,yr,hs] at ok1;have okO1:∀ p∈r.O,PcG d D qx qy M0 M (ends s (gth r.u r.F r.F.length)) p:=λp hp=>(okO p hp).ends _;generalize hs1:ends s (gth r.u r.F r.F.length)=s1 at *
  have memO1:∀ p∈r.O,p.n∈s1.ns:=λp hp=>(mem1 _).mpr (.inl ⟨memO p hp,λi q hi hq c=>dis p.n (by rw [<-c]; exact bH (av hq)) (bH hp)⟩);have G2:=Fx (tn:=tn) hR z ok1.lt (λp hp=>(okO1 p hp).ok hM0 (memO1 p hp)) ndO bs.uq bs.bq (accb r.O l3 λp hp=>(okO p hp).bm) r.O.length (ag _);obtain ⟨w2,k2,mem2,g2⟩:=G2;rw [k1] at w2 k2 mem2 g2;rw [ar] at g2;have e:ends s0 (r.ds++(gth r.u r.F r.F.length++gth (r.u+(2*r.F.length - 1)) r.O r.O.length))=ends s1 (gth (r.u+(2*r.F.length - 1)) r.O r.O.length):=by rw [yr,hs,yr,hs1]
  have W:=xI w (by rw [hs]; exact xI w1 (by rw [hs1]; exact w2));have okT:=zT ok0 W.walk _ (ag _);rw [ar,e] at okT;refine ⟨W,?_,?_⟩
  . rw [ah,ah,xY (ag _),xY (ag _)]
    lia
  rw [e];have gst:∀ n,n<s1.k->(ends s1 (gth (r.u+(2*r.F.length - 1)) r.O r.O.length)).g n=s1.g n:=λn h=>vL h;generalize hs2:ends s1 (gth (r.u+(2*r.F.length - 1)) r.O r.O.length)=s2 at *
  have notin:∀ (L:List Pc) (j:Nat),(∀ i p,i<L.length->L[i]?=some p->p.n≠j)->j∉L.map Pc.n:=λL j h hj=>by
    obtain ⟨p,hp,e⟩:=bO.mp hj;obtain ⟨i,hi⟩:=dH hp;exact h i p (af.mp hi).1 hi e
  have char:∀ j,j∈s2.ns↔(0<r.F.length/\j=r.u+2*r.F.length - 2)\/(0<r.O.length/\j=r.u+(2*r.F.length - 1)+2*r.O.length - 2):=λj=>by
    rw [mem2,mem1,mem];constructor
    . rintro (⟨⟨(h | h | h),h2⟩ | h1,h3⟩ | h)
      . lia
      . exact absurd h (notin r.F j h2)
      . exact absurd h (notin r.O j h3)
      . exact .inl h1
      . exact .inr h
    . rintro (h | h)
      . refine .inl ⟨.inr h,λi p hi hp c=>?_⟩;have:=(ap p.n (a7 _ (bH (av hp)))).1
        lia
      . exact .inr h
  have hF:∀ p∈r.F,1<=p.m/\sgn d p.x p.y=1:=λp hp=>⟨(okF p hp).m1,(okF p hp).up⟩
  have hO:∀ p∈r.O,1<=p.m/\sgn d p.x p.y=1:=λp hp=>⟨(okO p hp).m1,(okO p hp).up⟩
  rw [<-aF.1,<-aF.2,<-aO.1,<-aO.2,FH hR hF,FH hR hO];by_cases cF:r.F=[]
  . by_cases cO:r.O=[]
    . have:s2.ns=[]:=BI okT.up List.Pairwise.nil λj=>by rw [char,cF,cO]; simp
      exact absurd this okT.ne
    . have lO:=bM.mpr cO;have lF:r.F.length=0:=by rw [cF]; rfl
      have:s2.ns=[r.u+(2*r.F.length - 1)+2*r.O.length - 2]:=BI okT.up (gH _ _) λj=>by
        rw [char,ak]
        lia
      rw [this,im cF,io cO];show [s2.g _]=_;rw [g2 lO];rfl
  . have lF:=bM.mpr cF;have ga:s2.g (r.u+2*r.F.length - 2)=⟨sdO D px py,sdO D (accX r.F) (accY r.F)⟩:=(gst _ (by rw [k1]; lia)).trans (g1 lF);by_cases cO:r.O=[]
    . have lO:r.O.length=0:=by rw [cO]; rfl
      have:s2.ns=[r.u+2*r.F.length - 2]:=BI okT.up (gH _ _) λj=>by
        rw [char,ak]
        lia
      rw [this,io cF,im cO];show [s2.g _]=_;rw [ga];rfl
    . have lO:=bM.mpr cO;have:s2.ns=[r.u+2*r.F.length - 2,r.u+(2*r.F.length - 1)+2*r.O.length - 2]:=BI okT.up (by simp; lia) λj=>by
        rw [char,aU,ak]
        lia
      rw [this,io cF,io cO];show [s2.g _,s2.g _]=_;rw [ga,g2 lO];rfl
def PcAt(H:Hp)(us:List Addr)(pc:List Pc):Prop:=us.length=pc.length/\∀ (i:Nat) (q:Addr) (p:Pc),us[i]?=some q->pc[i]?=some p->H q=some (.tup [.int (p.n:Int),.int p.m])
variable {us:List Addr}{pc:List Pc}
theorem PcAt.tk(h:PcAt H us pc)(s:TupK H H'):PcAt H' us pc:=⟨h.1,λi q p h1 h2=>s _ _ (h.2 i q p h1 h2)⟩
theorem PcAt.snoc{q:Addr}{p:Pc}(h:PcAt H us pc)(e:H q=some (.tup [.int (p.n:Int),.int p.m])):PcAt H (us++[q]) (pc++[p]):=⟨by rw [ah,ah,h.1]; rfl,λi q' p' h1 h2=>by
  by_cases c:i<us.length
  . rw [aT c] at h1;rw [aT (by rw [<-h.1]; exact c)] at h2;exact h.2 i q' p' h1 h2
  . have hl:=(af.mp h1).1;rw [ah] at hl;have:i=us.length:=by simp only [ax,aY] at hl; lia
    subst this;rw [aN (ag _),dU] at h1;rw [h.1,aN (ag _),dU] at h2;have e1:q=q':=ao h1;have e2:p=p':=ao h2;subst e1;subst e2;exact e⟩
theorem Cf{qs:List Addr}{fs:DL}(h:Runs H ps es)(g:Runs H qs fs):Runs H (ps++qs) (es++fs):=⟨by rw [ah,ah,h.1,g.1],λi p x h1 h2=>by
  by_cases c:i<ps.length
  . rw [aT c] at h1;rw [aT (by rw [<-h.1]; exact c)] at h2;exact h.2 i p x h1 h2
  . rw [aN (!2)] at h1;rw [aN (by rw [<-h.1]; lia),<-h.1] at h2;exact g.2 _ p x h1 h2⟩
theorem Lz(hD:1<=D):tmS m (sdO D X Y)=sdO D (X*m) (Y*m):=by
  have r:=yt (D:=D) (X:=X) (Y:=Y) hD;have z:=r.z1;have n0:(sdO D X Y).z≠0:=by lia
  obtain ⟨r1,r2⟩:=uN (a:=m*(sdO D X Y).x) (b:=m*(sdO D X Y).y) (n:=(sdO D X Y).z) (D:=D) (X:=X*m) (Y:=Y*m) n0 (by have:=r.x; grind) (by have:=r.y; grind);exact wA hD ⟨l_n n0,xu n0,r1,r2⟩
variable {zs:List V}
theorem Lu{Q:VK}{l b:Addr}{xs:List V}(h1:H l=some (.lst xs))(h2:H b=some (.lst zs))(hz:xs.length+zs.length<=1000)(h:∀ p H2,H p=none->Same H H2->H2 p=some (.lst (xs++zs))->Q (.ref p) H2):rCat (.ref l) (.ref b) H Q :=
  ⟨l,b,xs,zs,rfl,rfl,h1,h2,yi hz,λp hp=>h p _ hp (zD hp _) zk⟩
theorem Ko(hD:1<=D)(bX:Bd M X)(bY:Bd M Y)(bD:Bd K' D):SK M K' (sdO D X Y):=⟨(yt hD).z1,(yt hD).g,Bd.fdiv bX _,Bd.fdiv bY _,Bd.fdiv bD _⟩
theorem F9(hD:1<=D):sdO D 0 0=⟨0,0,1⟩:=(wA hD ⟨by decide,by decide +kernel,by simp,by simp⟩).symm
def cn(pl:Nat)(b:Bx):Int:=if pl=0 then b.i else b.j
def hX(pl:Nat)(l:List Bx):Int:=sI (λb=>cn pl b*b.x) l
def hY(pl:Nat)(l:List Bx):Int:=sI (λb=>cn pl b*b.y) l
def bwq(s:B4)(N:Int)(pl:Nat):Sd:=if pl=0 then bw1 s N else bw2 s N
def nrx(s:B4)(N D:Int)(l:List Bx):Nat->List Bo
  | 0=>[]
  | k+1=>nrx s N D l k++(if hX k l=0/\hY k l=0 then [] else [⟨bwq s N k,sdO D (hX k l) (hY k l)⟩])
theorem DQ{k:Int}(hD:1<=D)(hk:1<=k):sdO (D*k) (X*k) (Y*k)=sdO D X Y :=
  (wA (a9 (!2) (!2)) (yt hD).sc).symm
theorem Dy{s:Sd}{N:Int}(z1:1<=s.z)(g:g3 s.x s.y s.z=1)(hN:1<=N)(dv:s.z∣N):s=sdO N (N / s.z*s.x) (N / s.z*s.y):=by
  obtain ⟨t,ht⟩:=dv;have et:N / s.z=t:=by rw [ht]; exact cT _ (!2)
  rw [et];refine wA hN ⟨z1,g,?_,?_⟩
  . rw [ht]; grind
  . rw [ht]; grind
theorem Jz{s:B4}{N E:Int}(hN:1<=N)(hE:1<=E):bw1 s N=sdO (N*E) (s.a*E) (s.b*E)/\bw2 s N=sdO (N*E) (s.c*E) (s.e*E):=⟨(DQ hN hE).symm,(DQ hN hE).symm⟩
theorem Ld{s:B4}{N E:Int}(hN:1<=N)(hE:1<=E)(l:List Bx):nrx s N (N*E) l 2=hp1 (N*E) (s.a*E) (s.b*E) (sI (λb=>b.i*b.x) l) (sI (λb=>b.i*b.y) l)++hp1 (N*E) (s.c*E) (s.e*E) (sI (λb=>b.j*b.x) l) (sI (λb=>b.j*b.y) l):=by
  obtain ⟨b1,b2⟩:=Jz (s:=s) hN hE;show (([]:List Bo)++(if hX 0 l=0/\hY 0 l=0 then [] else [(⟨bwq s N 0,sdO (N*E) (hX 0 l) (hY 0 l)⟩:Bo)]))++(if hX 1 l=0/\hY 1 l=0 then [] else [(⟨bwq s N 1,sdO (N*E) (hX 1 l) (hY 1 l)⟩:Bo)])=_;rw [List.nil_append,show bwq s N 0=bw1 s N from rfl,show bwq s N 1=bw2 s N from rfl,b1,b2];rfl
variable {z:Int}
theorem Eo{E:Int}{k:Nat}(z1:1<=z)(hE:1<=E)(bE:Bd k E)(dv:z∣E):1<=E / z/\Bd k (E / z):=by
  obtain ⟨t,ht⟩:=dv;have et:E / z=t:=by rw [ht]; exact cT _ (!2)
  have t1:1<=t:=by
    refine fk.mp λq=>?_;have:=bI (show (0:Int)<=z by lia) (show t<=0 by lia)
    lia
  rw [et];exact ⟨t1,bE.of_le (by rw [ht,ce]; exact cY _ (!2))⟩
theorem EX{s:B4}{N:Int}{l m:List Bx}(h0:hX 0 l=hX 0 m/\hY 0 l=hY 0 m)(h1:hX 1 l=hX 1 m/\hY 1 l=hY 1 m):nrx s N D l 2=nrx s N D m 2:=by
  show (([]:List Bo)++(if hX 0 l=0/\hY 0 l=0 then [] else [(⟨bwq s N 0,sdO D (hX 0 l) (hY 0 l)⟩:Bo)]))++(if hX 1 l=0/\hY 1 l=0 then [] else [(⟨bwq s N 1,sdO D (hX 1 l) (hY 1 l)⟩:Bo)])=_;rw [h0.1,h0.2,h1.1,h1.2];rfl
def bxD(s:B4)(N D:Int)(b:Bo):Bx:=⟨mny s N 0 b.w,mny s N 1 b.w,D / b.h.z*b.h.x,D / b.h.z*b.h.y⟩
structure BK(d:Int)(s:B4)(N E:Int)(M0 M:Nat)(b:Bo):Prop where
  w:∃ X Y,b.w=sdO N X Y/\Bd 900 X/\Bd 900 Y/\(bxD s N (N*E) b).i=s.i X Y/\(bxD s N (N*E) b).j=s.j X Y
  bo:b=(bxD s N (N*E) b).bo (N*E) (s.a*E) (s.b*E) (s.c*E) (s.e*E)
  ok:BxOk d (s.a*E) (s.b*E) (s.c*E) (s.e*E) M0 M (bxD s N (N*E) b)
theorem La{N E i j:Int}{k:Nat}{s:B4}{w:Sd}(g:GB d k s)(e:w=sdO N X Y)(hN:1<=N)(hE:1<=E)(hi:i=s.i X Y)(hj:j=s.j X Y):w=sdO (N*E) (s.a*E*i+s.c*E*j) (s.b*E*i+s.e*E*j):=by
  obtain ⟨c1,c2⟩:=AV g X Y;rw [hi,hj];refine e.trans ((DQ hN hE).symm.trans ?_);congr 1
  . conv=>lhs; rw [<-c1]
    grind
  . conv=>lhs; rw [<-c2]
    grind
variable {kE kh kw:Nat}
theorem BK.gen{N E:Int}{k:Nat}{s:B4}{b:Bo}(hR:Rt d)(g:GB d k s)(hN:1<=N)(hE:1<=E)(w1:1<=b.w.z)(wg:g3 b.w.x b.w.y b.w.z=1)(wu:sgn d b.w.x b.w.y=1)(wd:b.w.z∣N)(h1:1<=b.h.z)(hg:g3 b.h.x b.h.y b.h.z=1)(hu:sgn d b.h.x b.h.y=1)(hd:b.h.z∣N*E)(nn:∀ pl,0<=mny s N pl b.w)(bE:Bd kE E)(bwx:Bd kw (N / b.w.z*b.w.x))(bwy:Bd kw (N / b.w.z*b.w.y))(bhx:Bd kh (N*E / b.h.z*b.h.x))(bhy:Bd kh (N*E / b.h.z*b.h.y))(l1:kw<=900)(l2:kw+k+2<=1024)(l3:kh<=M)(l4:k+kE+(kw+k+2)+1<=M)(l5:kw+k+2+kh<=M0):BK d s N E M0 M b:=by
  have hD:1<=N*E:=a9 (!2) (!2);have e0:=Dy w1 wg hN wd;have eh:=Dy h1 hg hD hd;have m0:(bxD s N (N*E) b).i=s.i (N / b.w.z*b.w.x) (N / b.w.z*b.w.y):=by show mny s N 0 b.w=_; unfold mny; rw [im rfl]
  have m1:(bxD s N (N*E) b).j=s.j (N / b.w.z*b.w.x) (N / b.w.z*b.w.y):=by show mny s N 1 b.w=_; unfold mny; rw [io ⋯]
  obtain ⟨c1,c2⟩:=KW g bwx bwy;have bi:Bd (kw+k+2) (bxD s N (N*E) b).i:=by rw [m0]; exact c1.mono (!2)
  have bj:Bd (kw+k+2) (bxD s N (N*E) b).j:=by rw [m1]; exact c2.mono (!2)
  have ew:=La (E:=E) g e0 hN hE m0 m1;have p1:Bd (k+kE+(kw+k+2)) (s.a*E*(bxD s N (N*E) b).i):=(g.ba.mul bE).mul bi;have p2:Bd (k+kE+(kw+k+2)) (s.b*E*(bxD s N (N*E) b).i):=(g.bb.mul bE).mul bi;have p3:Bd (k+kE+(kw+k+2)) (s.c*E*(bxD s N (N*E) b).j):=(g.bc.mul bE).mul bj;have p4:Bd (k+kE+(kw+k+2)) (s.e*E*(bxD s N (N*E) b).j):=(g.be.mul bE).mul bj;refine ⟨⟨_,_,e0,bwx.mono l1,bwy.mono l1,m0,m1⟩,?_,nn 0,nn 1,?_,bi.mono l2,bj.mono l2,?_,⟨bhx.mono l3,bhy.mono l3⟩,⟨p1.mono (!2),p2.mono (!2)⟩,⟨p3.mono (!2),p4.mono (!2)⟩,⟨(Bd.add p1 p3).mono (!2),(Bd.add p2 p4).mono (!2)⟩,⟨(bi.mul bhx).mono l5,(bi.mul bhy).mono l5⟩,⟨(bj.mul bhx).mono l5,(bj.mul bhy).mono l5⟩⟩
  . show b=⟨_,_⟩
    rw [<-ew];show b=⟨b.w,sdO (N*E) (N*E / b.h.z*b.h.x) (N*E / b.h.z*b.h.y)⟩
    rw [<-eh]
  . refine Classical.or_iff_not_imp_left.mpr λc1 c2=>?_;have c1:(bxD s N (N*E) b).i=0:=Classical.not_not.mp c1;rw [c1,c2] at ew;simp only [cQ,cf] at ew;rw [F9 hD] at ew;rw [ew] at wu;exact absurd wu (by unfold sgn; simp)
  . show sgn d (N*E / b.h.z*b.h.x) (N*E / b.h.z*b.h.y)=1;obtain ⟨t,ht⟩:=hd;have et:N*E / b.h.z=t:=by rw [ht]; exact cT _ (!2)
    have t1:1<=t:=by
      refine fk.mp λq=>?_;have:=bI (show (0:Int)<=b.h.z by lia) (show t<=0 by lia)
      lia
    rw [et];exact yN hR t1 hu
theorem Jc{E:Int}{k:Nat}{s:B4}(hR:Rt d)(g:GB d k s)(hE:1<=E)(bE:Bd kE E)(l:k+kE<=M):Bas d M (s.a*E) (s.b*E) (s.c*E) (s.e*E) :=
  ⟨by rw [aq s.a,aq s.b]; exact yN hR hE g.p1,by rw [aq s.c,aq s.e]; exact yN hR hE g.q1,⟨(g.ba.mul bE).mono l,(g.bb.mul bE).mono l⟩,⟨(g.bc.mul bE).mono l,(g.be.mul bE).mono l⟩⟩
def nrmD(s:B4)(N E:Int)(L:List Bo):List Bo:=nrx s N (N*E) (L.map (bxD s N (N*E))) 2
theorem LD{N E:Int}{s:B4}{L:List Bo}(h:∀ b∈L,BK d s N E M0 M b):∀ x∈L.map (bxD s N (N*E)),BxOk d (s.a*E) (s.b*E) (s.c*E) (s.e*E) M0 M x:=λx hx=>by
  obtain ⟨b,hb,rfl⟩:=bO.mp hx;exact (h b hb).ok
variable {C:List Cell}
theorem KI{k:Nat}(h:C[k]?=some c):(fL C k)=c:=by
  unfold fL;rw [h];rfl
theorem BO{N E:Int}{s:B4}(tn:Bool)(hR:Rt d)(z:Sz (N*E) K' M)(hN:1<=N)(hE:1<=E)(bas:Bas d M (s.a*E) (s.b*E) (s.c*E) (s.e*E))(hC:∀ c∈C,BK d s N E M0 M c.b)(hM:M0+C.length<=M)(h1:1<=C.length) : WalkB d (N*E) M tn (As.st C) (npl (N*E) (s.a*E) (s.b*E) ((C.map Cell.b).map (bxD s N (N*E))))/\(npl (N*E) (s.a*E) (s.b*E) ((C.map Cell.b).map (bxD s N (N*E)))).length<=5*C.length /\
      (ends (As.st C) (npl (N*E) (s.a*E) (s.b*E) ((C.map Cell.b).map (bxD s N (N*E))))).ns.map (ends (As.st C) (npl (N*E) (s.a*E) (s.b*E) ((C.map Cell.b).map (bxD s N (N*E))))).g=nrmD s N E (C.map Cell.b)/\nrmD s N E (C.map Cell.b)≠[]:=by
  have hB:∀ b∈C.map Cell.b,BK d s N E M0 M b:=λb hb=>by
    obtain ⟨c,hc,rfl⟩:=bO.mp hb;exact hC c hc
  have hl:((C.map Cell.b).map (bxD s N (N*E))).length=C.length:=by rw [aa,aa]
  have st:=Lv (tn:=tn) (s0:=As.st C) hR z bas (hb:=(C.map Cell.b).map (bxD s N (N*E))) hl.symm (by rw [hl]; rfl) (λk x hx=>by
    rw [aj,aj] at hx;obtain ⟨b,hb,rfl⟩:=au.mp hx;obtain ⟨c,hc,rfl⟩:=au.mp hb;show (fL C k).b=_;rw [KI hc];exact (hC c (av hc)).bo) (LD hB) (by rw [hl]; exact hM) (by rw [hl]; exact h1)
  rw [hl] at st;obtain ⟨w,len,en⟩:=st;rw [<-Ld hN hE] at en;refine ⟨w,len,en,λc=>?_⟩;have ok0:As.Ok C.length (As.st C) 0:=⟨cg,λn hn=>bV.mp hn,λh=>by have h:List.range C.length=[]:=h; rw [eP] at h; lia,by show (List.range C.length).length<=_; rw [bQ]; lia,by show C.length<=_; lia⟩
  have okT:=zT ok0 w.walk _ (ag _);rw [ar] at okT;have:(ends (As.st C) (npl (N*E) (s.a*E) (s.b*E) ((C.map Cell.b).map (bxD s N (N*E))))).ns.map (ends (As.st C) (npl (N*E) (s.a*E) (s.b*E) ((C.map Cell.b).map (bxD s N (N*E))))).g=[]:=en.trans c;exact okT.ne (List.map_eq_nil_iff.mp this)
theorem wN{g:Nat->Bo}{n:Nat}:∀ {ns:List Nat},ns.Pairwise (· < ·)->n∈ns->tbs (ns.map g)=(tbs ((ns.filter λk:Nat=>decide ((k:Int)≠(n:Int))).map g)).add (g n).tb
  | k::ns,h,hn=>by
    have h2:=List.pairwise_cons.mp h;by_cases e:k=n
    . subst e;have f:(k::ns).filter (λj:Nat=>decide ((j:Int)≠(k:Int)))=ns:=by
        rw [dy,io (!1)];refine List.filter_eq_self.mpr λj hj=>?_;have:=h2.1 j hj;simp
        lia
      rw [f];show (g k).tb.add (tbs (ns.map g))=_;exact Tb.add_comm ..
    . have hn':n∈ns:=by simpa [bZ e] using hn
      rw [dy,im (by simp; lia)];show (g k).tb.add (tbs (ns.map g))=((g k).tb.add (tbs _)).add (g n).tb;rw [wN h2.2 hn',Tb.add_assoc]
theorem Jf{k:Nat}{N:List Bo}:(List.range' k N.length).map (gN g k N)=N:=by
  refine gQ (!1) λi h1 h2=>?_;rw [dM,fI];unfold gN;rw [io (!2),show k+1*i - k=i by lia,ae h2];rfl
theorem L6{s:As}(h:Stp d tn s x)(ht:x.1.isT=false)(up:s.ns.Pairwise (· < ·))(lt:∀ n∈s.ns,n<s.k)(ob:∀ n∈s.ns,BoD d D M (s.g n)):tbs ((s.next x).ns.map (s.next x).g)=tbs (s.ns.map s.g):=by
  obtain ⟨e,n,m⟩:=x;have h0:=h.nms;have on:=ob n h0.hn;have om:=ob m h0.hm;have key:tbs ((s.next (e,n,m)).ns.map (s.next (e,n,m)).g)=(tbs ((zY s.ns e.names).map s.g)).add (tbs (e.new (s.g n) (s.g m))):=by
    show tbs ((zY s.ns e.names++List.range' s.k (e.new (s.g n) (s.g m)).length).map (gN s.g s.k (e.new (s.g n) (s.g m))))=_;rw [ai,vN,Jf,List.map_congr_left (g:=s.g) λj hj=>wG (lt j (mem_ndrop.mp hj).1)]
  rw [key];clear key;have one:∀ l:List Bo,tbs l=(s.g n).tb->(tbs ((zY s.ns [(n:Int)]).map s.g)).add (tbs l)=tbs (s.ns.map s.g):=λl hl=>by
    rw [hl];exact (wN (g:=s.g) up h0.hn).symm
  have two:∀ b1 b2:Bo,tbs [b1,b2]=b1.tb.add b2.tb:=λb1 b2=>by
    show b1.tb.add (b2.tb.add Tb.zero)=_;rw [Tb.add_comm b2.tb,Tb.zero_add]
  have hnm:=h0.nm;have hfit:=h.fit;have ht:e.isT=false:=ht;have hnm:e.names=if e.two then [(n:Int),(m:Int)] else [(n:Int)]:=hnm
  have hfit:e.Fit d (s.g n) (s.g m):=hfit;cases e with
  | cut al a t =>
    rw [hnm];refine one _ ?_;cases al with
    | false =>
      obtain ⟨_,ss,_,_⟩:=hfit;exact (two _ _).trans (MJ on.1.ne ss.ne)
    | true =>
      obtain ⟨_,ss,_,_⟩:=hfit;exact (two _ _).trans (Mt on.2.ne ss.ne)
  | shift al a k =>
    rw [hnm];have hk:k≠0:=by have:=hfit.1; lia
    refine one _ ?_;cases al with
    | false=>exact (xg _).trans (M8 on.1.ne on.2.ne hk)
    | true=>exact (xg _).trans (M4 on.1.ne on.2.ne hk)
  | turn a=>exact nomatch ht
  | glue al a b =>
    rw [hnm];have nm:n≠m:=h0.ne rfl;have up2:(s.ns.filter λk:Nat=>decide ((k:Int)≠(n:Int))).Pairwise (· < ·):=up.filter _;have hm2:m∈s.ns.filter λk:Nat=>decide ((k:Int)≠(n:Int)):=fq.mpr ⟨h0.hm,by simp; lia⟩;have e1:=wN (g:=s.g) up h0.hn;have e2:=wN (g:=s.g) up2 hm2;show (tbs ((((s.ns.filter λk:Nat=>decide ((k:Int)≠(n:Int))).filter λk:Nat=>decide ((k:Int)≠(m:Int)))).map s.g)).add _=_;rw [e1,e2,Tb.add_assoc];congr 1;rw [Tb.add_comm];cases al with
    | false =>
      obtain ⟨eh,_,_⟩:=hfit;refine (xg _).trans ((M9 on.1.ne om.1.ne).trans ?_);show (Bo.tb _).add (⟨(s.g m).w,(s.g n).h⟩:Bo).tb=(s.g n).tb.add (s.g m).tb;rw [show (⟨(s.g m).w,(s.g n).h⟩:Bo)=s.g m from by rw [eh]]
    | true =>
      obtain ⟨eh,_,_⟩:=hfit;refine (xg _).trans ((MI on.2.ne om.2.ne).trans ?_);show (Bo.tb _).add (⟨(s.g n).w,(s.g m).h⟩:Bo).tb=(s.g n).tb.add (s.g m).tb;rw [show (⟨(s.g n).w,(s.g m).h⟩:Bo)=s.g m from by rw [eh]]
theorem Cb{d D:Int}{M c:Nat}{s:As}{es:DL}(h:WalkB d D M false s es)(ok:As.Ok c s 0)(ob:∀ n∈s.ns,BoD d D M (s.g n)):∀ t,t<=es.length->(∀ n∈(ends s (es.take t)).ns,BoD d D M ((ends s (es.take t)).g n))/\tbs ((ends s (es.take t)).ns.map (ends s (es.take t)).g)=tbs (s.ns.map s.g)
  | 0,_=>⟨ob,rfl⟩
  | t+1,ht=>by
    obtain ⟨ih1,ih2⟩:=Cb h ok ob t (bA ht);have ht':t<es.length:=ht;have hx:es[t]?=some es[t]:=ae ht';have st:=h t _ hx;have okt:=zT ok h.walk t (bA ht);rw [yf hx];generalize ends s (es.take t)=s1 at *
    generalize es[t]=x at *
    refine ⟨λn hn=>?_,?_⟩
    . rcases mem_next.mp hn with ⟨h1,_⟩ | ⟨h1,h2⟩
      . have:(s1.next x).g n=s1.g n:=wG (okt.lt n h1);rw [this];exact ih1 n h1
      . obtain ⟨j,rfl⟩:∃ j,n=s1.k+j:=⟨n - s1.k,by lia⟩
        have hj:j<(x.1.new (s1.g x.2.1) (s1.g x.2.2)).length:=by rw [Dd.puts_new]; lia
        have e:(s1.next x).g (s1.k+j)=(x.1.new (s1.g x.2.1) (s1.g x.2.2))[j]:=yk (ae hj);rw [e];exact st.nw _ (cM hj)
    . refine (L6 (D:=D) (M:=M) st.st ?_ okt.up okt.lt ih1).trans ih2;cases e:x.1.isT with
      | false=>rfl
      | true=>exact nomatch st.st.tn e
theorem ML(h1:1<=C.length):As.Ok C.length (As.st C) 0:=⟨cg,λn hn=>bV.mp hn,λh=>by have h:List.range C.length=[]:=h; rw [eP] at h; lia,by show (List.range C.length).length<=_; rw [bQ]; lia,by show C.length<=_; lia⟩
theorem BK.bod{N E:Int}{s:B4}{b:Bo}(hR:Rt d)(hD:1<=N*E)(h:BK d s N E M0 M b)(wu:sgn d b.w.x b.w.y=1):BoD d (N*E) M b:=by
  have ew:b.w=sdO (N*E) (s.a*E*(bxD s N (N*E) b).i+s.c*E*(bxD s N (N*E) b).j) (s.b*E*(bxD s N (N*E) b).i+s.e*E*(bxD s N (N*E) b).j):=congrArg Bo.w h.bo;have eh:b.h=sdO (N*E) (bxD s N (N*E) b).x (bxD s N (N*E) b).y:=congrArg Bo.h h.bo;have r:=yt (D:=N*E) (X:=s.a*E*(bxD s N (N*E) b).i+s.c*E*(bxD s N (N*E) b).j) (Y:=s.b*E*(bxD s N (N*E) b).i+s.e*E*(bxD s N (N*E) b).j) hD;rw [<-ew] at r;refine ⟨⟨r.z1,r.g,wu,_,_,h.ok.bw.1,h.ok.bw.2,r.x,r.y⟩,?_⟩;rw [eh];exact yR hR hD h.ok.up h.ok.bh.1 h.ok.bh.2
theorem Ck(hD:1<=D):(sdO D X Y).p=Rat.divInt X D/\(sdO D X Y).q=Rat.divInt Y D:=by
  have r:=yt (D:=D) (X:=X) (Y:=Y) hD;have z:=r.z1;exact ⟨ye (!2) (!2) r.x,ye (!2) (!2) r.y⟩
def TbX(s:B4)(E D:Int)(l:List Bx):Tb:=⟨Rat.divInt (s.a*E*hX 0 l+s.c*E*hX 1 l) (D*D),Rat.divInt (s.a*E*hY 0 l+s.c*E*hY 1 l) (D*D),Rat.divInt (s.b*E*hX 0 l+s.e*E*hX 1 l) (D*D),Rat.divInt (s.b*E*hY 0 l+s.e*E*hY 1 l) (D*D)⟩
theorem E8{d N E:Int}{s:B4}{M0 M:Nat}(hD:1<=N*E):∀ {L:List Bo},(∀ b∈L,BK d s N E M0 M b)->tbs L=TbX s E (N*E) (L.map (bxD s N (N*E)))
  | [],_=>by
    unfold TbX;show Tb.zero=_;simp only [hX,hY,sI,cL,cQ,cf,fG];rfl
  | b::L,h=>by
    have hb:=h b aV;have ih:=E8 hD (L:=L) λc hc=>h c (az _ hc);have n0:N*E*(N*E)≠0:=ay (!2) (!2);have ew:b.w=sdO (N*E) (s.a*E*(bxD s N (N*E) b).i+s.c*E*(bxD s N (N*E) b).j) (s.b*E*(bxD s N (N*E) b).i+s.e*E*(bxD s N (N*E) b).j):=congrArg Bo.w hb.bo;have eh:b.h=sdO (N*E) (bxD s N (N*E) b).x (bxD s N (N*E) b).y:=congrArg Bo.h hb.bo;have e1:b.w.p=_:=(congrArg Sd.p ew).trans (Ck hD).1;have e2:b.w.q=_:=(congrArg Sd.q ew).trans (Ck hD).2;have e3:b.h.p=_:=(congrArg Sd.p eh).trans (Ck hD).1;have e4:b.h.q=_:=(congrArg Sd.q eh).trans (Ck hD).2;show b.tb.add (tbs L)=_;rw [ih];unfold TbX;show (⟨b.w.p*b.h.p+_,b.w.p*b.h.q+_,b.w.q*b.h.p+_,b.w.q*b.h.q+_⟩:Tb)=_;rw [e1,e2,e3,e4,<-xU,<-xU,<-xU,<-xU,y9 n0,y9 n0,y9 n0,y9 n0];have cx:∀ pl,hX pl ((b::L).map (bxD s N (N*E)))=cn pl (bxD s N (N*E) b)*(bxD s N (N*E) b).x+hX pl (L.map (bxD s N (N*E))):=λpl=>rfl;have cy:∀ pl,hY pl ((b::L).map (bxD s N (N*E)))=cn pl (bxD s N (N*E) b)*(bxD s N (N*E) b).y+hY pl (L.map (bxD s N (N*E))):=λpl=>rfl;rw [cx,cx,cy,cy,show cn 0 (bxD s N (N*E) b)=(bxD s N (N*E) b).i from rfl,show cn 1 (bxD s N (N*E) b)=(bxD s N (N*E) b).j from rfl];generalize (bxD s N (N*E) b).i=i;generalize (bxD s N (N*E) b).j=j;generalize (bxD s N (N*E) b).x=x;generalize (bxD s N (N*E) b).y=y;generalize hX 0 (L.map (bxD s N (N*E)))=x0;generalize hX 1 (L.map (bxD s N (N*E)))=x1;generalize hY 0 (L.map (bxD s N (N*E)))=y0;generalize hY 1 (L.map (bxD s N (N*E)))=y1;clear cx cy e1 e2 e3 e4 ew eh hb h ih;refine Tb.ext ?_ ?_ ?_ ?_ <;> (dsimp only; congr 1; grind)
variable {x' y':Int}
theorem lin2{k:Nat}{s:B4}{E x:Int}(g:GB d k s)(hE:1<=E)(h1:s.a*E*x+s.c*E*y=s.a*E*x'+s.c*E*y')(h2:s.b*E*x+s.e*E*y=s.b*E*x'+s.e*E*y'):x=x'/\y=y':=by
  have n:E≠0:=by lia
  have a1:s.a*(x - x')+s.c*(y - y')=0:=by
    have:E*(s.a*(x - x')+s.c*(y - y'))=0:=by grind
    rcases dr.mp this with z|z
    . exact absurd z n
    . exact z
  have a2:s.b*(x - x')+s.e*(y - y')=0:=by
    have:E*(s.b*(x - x')+s.e*(y - y'))=0:=by grind
    rcases dr.mp this with z|z
    . exact absurd z n
    . exact z
  have dt:s.a*s.e - s.b*s.c≠0:=by
    rcases g.det with z|z <;> lia
  have b1:(s.a*s.e - s.b*s.c)*(x - x')=0:=by grind
  have b2:(s.a*s.e - s.b*s.c)*(y - y')=0:=by grind
  constructor
  . rcases dr.mp b1 with z | z
    . exact absurd z dt
    . lia
  . rcases dr.mp b2 with z | z
    . exact absurd z dt
    . lia
theorem CG{N E:Int}{s:B4}{k M0':Nat}{L L':List Bo}(g:GB d k s)(hN:1<=N)(hE:1<=E)(h:∀ b∈L,BK d s N E M0 M b)(h':∀ b∈L',BK d s N E M0' M' b)(e:tbs L=tbs L'):nrmD s N E L=nrmD s N E L':=by
  have hD:1<=N*E:=a9 (!2) (!2);have n0:N*E*(N*E)≠0:=ay (!2) (!2);rw [E8 hD h,E8 hD h'] at e;have cut:∀ {a b:Int},Rat.divInt a (N*E*(N*E))=Rat.divInt b (N*E*(N*E))->a=b:=λz=>aG n0 ((cB n0 n0).mp z);obtain ⟨x0,x1⟩:=lin2 g hE (cut (congrArg Tb.a e)) (cut (congrArg Tb.c e));obtain ⟨y0,y1⟩:=lin2 g hE (cut (congrArg Tb.b e)) (cut (congrArg Tb.e e));exact EX ⟨x0,y0⟩ ⟨x1,y1⟩
theorem vS{d D:Int}{M c:Nat}{tn:Bool}{s:As}{es:DL}(h:WalkB d D M tn s es)(ev:Ever d D M s):∀ t,t<=es.length->Ever d D M (ends s (es.take t))
  | 0,_=>ev
  | t+1,ht=>by
    have ih:=vS (c:=c) h ev t (bA ht);have ht':t<es.length:=ht;have hx:es[t]?=some es[t]:=ae ht';have st:=h t _ hx;rw [yf hx];intro n hn;rw [yJ] at hn;generalize ends s (es.take t)=s1 at *
    generalize es[t]=x at *
    by_cases c:n<s1.k
    . have:(s1.next x).g n=s1.g n:=wG c;rw [this];exact ih n c
    . obtain ⟨j,rfl⟩:∃ j,n=s1.k+j:=⟨n - s1.k,by lia⟩
      have hj:j<(x.1.new (s1.g x.2.1) (s1.g x.2.2)).length:=by rw [Dd.puts_new]; lia
      have e:(s1.next x).g (s1.k+j)=(x.1.new (s1.g x.2.1) (s1.g x.2.2))[j]:=yk (ae hj);rw [e];exact st.nw _ (cM hj)
def Dd.rn(r:Nat->Nat):Dd->Dd
  | .cut al n s=>.cut al (r n.toNat:Nat) s
  | .glue al n m=>.glue al (r n.toNat:Nat) (r m.toNat:Nat)
  | .shift al n k=>.shift al (r n.toNat:Nat) k
  | .turn n=>.turn (r n.toNat:Nat)
def rnx(r:Nat->Nat)(x:Dd×Nat×Nat):Dd×Nat×Nat:=(x.1.rn r,r x.2.1,r x.2.2)
structure Led(r:Nat->Nat)(s t:As):Prop where
  mono:∀ i j,i<j->r i<r j
  ns:t.ns=s.ns.map r
  g:∀ n,n<s.k->t.g (r n)=s.g n
  k:∀ i,r (s.k+i)=t.k+i
theorem Led.inj{s:As}(h:Led r s t){i j:Nat}(e:r i=r j):i=j:=by
  rcases gs i j with c|c|c
  . have:=h.mono i j c; lia
  . exact c
  . have:=h.mono j i c; lia
theorem Eb(r:Nat->Nat)(e:Dd):(e.rn r).two=e.two:=by cases e <;> rfl
theorem KD(r:Nat->Nat)(e:Dd):(e.rn r).isT=e.isT:=by cases e <;> rfl
theorem JZ(r:Nat->Nat)(e:Dd)(b c:Bo):(e.rn r).new b c=e.new b c:=by
  cases e with
  | cut al n s=>cases al <;> rfl
  | glue al n m=>cases al <;> rfl
  | shift al n k=>cases al <;> rfl
  | turn n=>rfl
theorem BL{s:As}{n m:Nat}(h:Nms s e n m):(e.rn r).names=if e.two then [((r n:Nat):Int),((r m:Nat):Int)] else [((r n:Nat):Int)]:=by
  have hn:=h.nm;cases e with
  | glue al a b =>
    simp [Dd.names,Dd.two] at hn;obtain ⟨rfl,rfl⟩:=hn;rfl
  | cut al a t =>
    simp [Dd.names,Dd.two,Dd.n] at hn;subst hn;rfl
  | shift al a t =>
    simp [Dd.names,Dd.two,Dd.n] at hn;subst hn;rfl
  | turn a =>
    simp [Dd.names,Dd.two,Dd.n] at hn;subst hn;rfl
theorem uU{s:As}(h:Led r s t)(ns:List Nat)(n:Nat):(ns.map r).filter (λk:Nat=>decide ((k:Int)≠((r n:Nat):Int)))=(ns.filter λk:Nat=>decide ((k:Int)≠(n:Int))).map r:=by
  rw [List.filter_map];congr 1;refine List.filter_congr λk _=>?_;show decide (((r k:Nat):Int)≠((r n:Nat):Int))=decide ((k:Int)≠(n:Int));by_cases c:k=n
  . subst c; simp
  . have:r k≠r n:=λz=>c (h.inj z);rw [iJ (!2),iJ (!2)]
theorem Ip{s:As}{n m:Nat}(h:Led r s t)(hn:Nms s e n m):zY t.ns (e.rn r).names=(zY s.ns e.names).map r:=by
  rw [BL hn,hn.nm,h.ns];cases e.two with
  | true =>
    show ((s.ns.map r).filter _).filter _=((s.ns.filter _).filter _).map r;rw [uU h,uU h]
  | false =>
    show (s.ns.map r).filter _=(s.ns.filter _).map r;rw [uU h]
theorem Led.step{s:As}(h:Led r s t)(lt:∀ n∈s.ns,n<s.k)(st:Stp d tn s x):Stp d tn t (rnx r x)/\Led r (s.next x) (t.next (rnx r x)):=by
  obtain ⟨e,n,m⟩:=x;have n0:=st.nms;have gn:t.g (r n)=s.g n:=h.g n (lt n n0.hn);have gm:t.g (r m)=s.g m:=h.g m (lt m n0.hm);have nw:(rnx r (e,n,m)).1.new (t.g (r n)) (t.g (r m))=e.new (s.g n) (s.g m):=by
    show (e.rn r).new _ _=_;rw [JZ,gn,gm]
  refine ⟨⟨⟨?_,?_,?_,?_,?_⟩,?_,?_,?_⟩,h.mono,?_,?_,?_⟩
  . show (e.rn r).names=if (e.rn r).two then _ else _
    rw [Eb];exact BL n0
  . show r n∈t.ns;rw [h.ns]; exact bH n0.hn
  . show r m∈t.ns;rw [h.ns]; exact bH n0.hm
  . intro z c;exact n0.ne (by rw [<-z]; exact (Eb r e).symm) (h.inj c)
  . intro z;show r m=r n;exact congrArg r (n0.eq (by rw [<-z]; exact (Eb r e).symm))
  . have:=st.ok;show (e.rn r).Ok;cases e <;> exact this
  . have:=st.fit;show (e.rn r).Fit d (t.g (r n)) (t.g (r m));rw [gn,gm];cases e with
    | cut al a s=>cases al <;> exact this
    | glue al a b=>cases al <;> exact this
    | shift al a k=>cases al <;> exact this
    | turn a=>exact this
  . intro z;exact st.tn (by rw [<-z]; exact (KD r e).symm)
  . show zY t.ns (e.rn r).names++List.range' t.k ((e.rn r).new (t.g (r n)) (t.g (r m))).length=(zY s.ns e.names++List.range' s.k (e.new (s.g n) (s.g m)).length).map r;rw [Ip h n0,ai,show (e.rn r).new (t.g (r n)) (t.g (r m))=e.new (s.g n) (s.g m) from nw];congr 1;refine gQ (!1) λi h1 h2=>?_;rw [fI,dM,fI,gI,h.k]
  . intro j hj;show gN t.g t.k ((e.rn r).new (t.g (r n)) (t.g (r m))) (r j)=gN s.g s.k (e.new (s.g n) (s.g m)) j;rw [show (e.rn r).new (t.g (r n)) (t.g (r m))=e.new (s.g n) (s.g m) from nw];have hj:j<s.k+(e.new (s.g n) (s.g m)).length:=hj;have k0:=h.k 0;simp only [eV] at k0;by_cases c:j<s.k
    . have:=h.mono j s.k c;rw [wG c,wG (!2),h.g j c]
    . obtain ⟨i,rfl⟩:∃ i,j=s.k+i:=⟨j - s.k,by lia⟩
      have hi:i<(e.new (s.g n) (s.g m)).length:=by lia
      rw [h.k,yk (ae hi),yk (ae hi)]
  . intro i;show r (s.k+(e.new (s.g n) (s.g m)).length+i)=t.k+((e.rn r).new (t.g (r n)) (t.g (r m))).length+i;rw [show (e.rn r).new (t.g (r n)) (t.g (r m))=e.new (s.g n) (s.g m) from nw,gE,h.k,gE]
theorem FV{s:As}{fs:DL}{B:Nat}(h:Led r s t)(ok:As.Ok B s 0)(w:Walk d tn s fs):Walk d tn t (fs.map (rnx r))/\∀ i,i<=fs.length->Led r (ends s (fs.take i)) (ends t ((fs.map (rnx r)).take i)):=by
  have key:∀ i,i<=fs.length->Led r (ends s (fs.take i)) (ends t ((fs.map (rnx r)).take i)):=λi=>by
    induction i with
    | zero=>exact λ_=>h
    | succ i ih =>
      intro hi;have hi':i<fs.length:=hi;have hx:fs[i]?=some fs[i]:=ae hi';have hx':(fs.map (rnx r))[i]?=some (rnx r fs[i]):=by rw [aj,hx]; rfl
      rw [yf hx,yf hx'];exact ((ih (bA hi)).step (zT ok w i (bA hi)).lt (w i _ hx)).2
  refine ⟨λi y hy=>?_,key⟩;rw [aj] at hy;obtain ⟨x,hx,rfl⟩:=au.mp hy;have hi:=(af.mp hx).1;exact ((key i (bA hi)).step (zT ok w i (bA hi)).lt (w i x hx)).1
theorem walk_app{s:As}{fs:DL}(h:Walk d tn s es)(g:Walk d tn (ends s es) fs):Walk d tn s (es++fs):=λi x hx=>by
  by_cases c:i<es.length
  . rw [aT c] at hx;rw [cr (!2)];exact h i x hx
  . rw [aN (!2)] at hx;have e:(es++fs).take i=es++fs.take (i - es.length):=by rw [gP,cN (!2)]
    rw [e,yr];exact g _ x hx
def nmr(s:As)(i:Nat):Nat:=if i<s.ns.length then s.ns[i]?.getD 0 else s.k+(i - s.ns.length)
theorem led0{s:As}{bs:List Bo}(up:s.ns.Pairwise (· < ·))(lt:∀ n∈s.ns,n<s.k)(hb:s.ns.map s.g=bs):Led (nmr s) (As.sb bs) s:=by
  have hl:bs.length=s.ns.length:=by rw [<-hb,aa]
  have at':∀ i (h:i<s.ns.length),nmr s i=s.ns[i]:=λi h=>by unfold nmr; rw [im h,ae h]; rfl
  refine ⟨λi j hij=>?_,?_,λn hn=>?_,λi=>?_⟩
  . by_cases cj:j<s.ns.length
    . rw [at' i (!2),at' j cj];exact gf.mp up i j (!2) cj hij
    . by_cases ci:i<s.ns.length
      . rw [at' i ci];have:=lt _ (cM ci);unfold nmr;rw [io cj]
        lia
      . unfold nmr;rw [io ci,io cj]
        lia
  . show s.ns=(List.range bs.length).map (nmr s);rw [hl];refine gQ (!1) λi h1 h2=>?_;rw [dM,List.getElem_range,at' i h1]
  . have hn:n<bs.length:=hn;show s.g (nmr s n)=bs[n]?.getD _;rw [at' n (!2),ae hn];subst hb;show _=(s.ns.map s.g)[n]
    rw [dM]
  . show nmr s (bs.length+i)=s.k+i;unfold nmr;rw [io (!2)]
    lia
structure Plan(d:Int)(tn:Bool)(D:Int)(M:Nat)(bs bs':List Bo)(es:DL)(qs:List Nat):Prop where
  w:Walk d tn (As.sb bs) es
  b:∀ i,i<=es.length->∀ n∈(ends (As.sb bs) (es.take i)).ns,BoD d D M ((ends (As.sb bs) (es.take i)).g n)
  p:qs.Perm (List.range bs'.length)
  l:(ends (As.sb bs) es).ns.length=bs'.length
  g:∀ k q:Nat,qs[k]?=some q->∃ n,(ends (As.sb bs) es).ns[q]?=some n/\bs'[k]?=some ((ends (As.sb bs) es).g n)
variable {qs:List Nat}
theorem HY{B:Nat}{bs bs' F:List Bo}{fs:DL}(h1:1<=bs.length)(hB:bs.length<=B)(w:Walk d tn (As.sb bs) es)(wb:∀ i,i<=es.length->∀ n∈(ends (As.sb bs) (es.take i)).ns,BoD d D M ((ends (As.sb bs) (es.take i)).g n))(e:(ends (As.sb bs) es).ns.map (ends (As.sb bs) es).g=F)(T:Turned d tn D M bs' F fs qs) : Plan d tn D M bs bs' (es++fs.map (rnx (nmr (ends (As.sb bs) es)))) qs:=by
  have ok:=zT (vz h1 hB) w es.length (ag _);rw [ar] at ok;have l0:=led0 ok.up ok.lt e;have F1:1<=F.length:=by
    rw [<-e,aa];exact bM.mpr ok.ne
  obtain ⟨w2,key⟩:=FV l0 (vz F1 (ag _)) T.w;have kN:=key fs.length (ag _);rw [ar,show (fs.map (rnx (nmr (ends (As.sb bs) es)))).take fs.length=fs.map (rnx (nmr (ends (As.sb bs) es))) by rw [<-aa (f:=rnx (nmr (ends (As.sb bs) es))),ar]] at kN;have okF:=zT (vz F1 (ag _)) T.w fs.length (ag _);rw [ar] at okF;refine ⟨walk_app w w2,λi hi n hn=>?_,T.p,?_,λk q hq=>?_⟩
  . by_cases c:i<=es.length
    . rw [cr c] at hn ⊢;exact wb i c n hn
    . have et:(es++fs.map (rnx (nmr (ends (As.sb bs) es)))).take i=es++(fs.map (rnx (nmr (ends (As.sb bs) es)))).take (i - es.length):=by rw [gP,cN (!2)]
      rw [ah,aa] at hi;have hj:i - es.length<=fs.length:=by lia
      have kj:=key (i - es.length) hj;have okj:=zT (vz F1 (ag _)) T.w (i - es.length) hj;rw [et,yr] at hn ⊢;rw [kj.ns] at hn;obtain ⟨m,hm,rfl⟩:=bO.mp hn;rw [kj.g m (okj.lt m hm)];exact T.b _ hj m hm
  . rw [yr,kN.ns,aa];exact T.l
  . obtain ⟨n,h1,h2⟩:=T.g k q hq;rw [yr];refine ⟨nmr (ends (As.sb bs) es) n,?_,?_⟩
    . rw [kN.ns,aj,h1]; rfl
    . rw [h2,kN.g n (okF.lt n (av h1))]
theorem FR{f:Int}(hf:1<=f)(hz:1<=z)(h1:f∣D)(h2:z∣D):lcmI f z∣D:=by
  obtain ⟨s,u,v,hs,s1,u1,v1,ez,ez',fu,fv,guv⟩:=BV hf hz;unfold lcmI;rw [<-hs,fu];obtain ⟨t,ht⟩:=h2;have h3:u∣v*t:=by
    obtain ⟨w,hw⟩:=h1;refine ⟨w,dJ (show s≠0 by lia) ?_⟩;have e1:s*(v*t)=D:=by rw [ht,ez',am]
    have e2:s*(u*w)=D:=by rw [hw,ez,am]
    rw [e1,e2]
  have h4:u∣t:=bL.mp (Nat.Coprime.dvd_of_dvd_mul_left (show Nat.gcd u.natAbs v.natAbs=1 from guv) (by rw [<-ce]; exact bL.mpr h3));obtain ⟨w,hw⟩:=h4;exact ⟨w,by rw [ht,hw]; grind⟩
theorem En{D:Int}:∀ (zs:List Int) (f:Int),1<=f->f∣D->(∀ z∈zs,1<=z/\z∣D)->zs.foldl lcmI f∣D
  | [],_,_,h,_=>h
  | z::zs,f,hf,h,hz=>by
    have h1:=hz z aV;exact En zs _ (wk hf h1.1).1 (FR hf h1.1 h h1.2) λu hu=>hz u (az _ hu)
theorem uM:∀ (zs:List Int) (f:Int),1<=f->(∀ z∈zs,1<=z)->1<=zs.foldl lcmI f/\f∣zs.foldl lcmI f/\∀ z∈zs,z∣zs.foldl lcmI f
  | [],_,h,_=>⟨h,dB _,λz hz=>absurd hz (!1)⟩
  | z::zs,f,hf,h=>by
    obtain ⟨a1,a2,a3,_⟩:=wk hf (h z aV);obtain ⟨b1,b2,b3⟩:=uM zs (lcmI f z) a1 λu hu=>h u (az _ hu);exact ⟨b1,aX a2 b2,λu hu=>by
      rcases aU.mp hu with e|e
      . subst e; exact aX a3 b2
      . exact b3 u e⟩
theorem So.dvd{s:Sd}(h:So d D M s)(hD:1<=D):s.z∣D:=by
  obtain ⟨X,Y,_,_,hx,hy⟩:=h.r;rw [(zC h.z1 h.g (show D≠0 by lia) hx hy).2.2];exact ⟨gd X Y D,lN_mul.symm⟩
theorem Bd.dvd_le{k:Nat}{b:Int}(h:Bd k b)(hb:1<=b)(d:a∣b):Bd k a:=by
  obtain ⟨t,ht⟩:=d;refine h.of_le ?_;rw [ht,ce];refine eE _ ?_;have:t≠0:=λz=>by rw [z,cQ] at ht; lia
  lia
theorem So.num{N:Int}{s:Sd}(h:So d D M s)(hD:1<=D)(ND:N∣D)(zN:s.z∣N):Bd M (N / s.z*s.x)/\Bd M (N / s.z*s.y):=by
  obtain ⟨X,Y,bX,bY,hx,hy⟩:=h.r;obtain ⟨t,ht⟩:=ND;obtain ⟨u,hu⟩:=zN;have z1:=h.z1;have eu:N / s.z=u:=by rw [hu]; exact cT _ (!2)
  have t0:t≠0:=λz=>by rw [z,cQ] at ht; lia
  have ex:u*s.x*t=X:=aG (show s.z≠0 by lia) (by rw [<-hx,ht,hu]; grind);have ey:u*s.y*t=Y:=aG (show s.z≠0 by lia) (by rw [<-hy,ht,hu]; grind);rw [eu];exact ⟨bX.of_le (by rw [<-ex,ce (u*s.x)]; exact eE _ (!2)),bY.of_le (by rw [<-ey,ce (u*s.y)]; exact eE _ (!2))⟩
variable {kN:Nat}
theorem So.num2{N E:Int}{s:Sd}(h:So d E M s)(hE:1<=E)(bN:Bd kN N):Bd (kN+M) (N*E / s.z*s.x)/\Bd (kN+M) (N*E / s.z*s.y):=by
  obtain ⟨X,Y,bX,bY,hx,hy⟩:=h.r;obtain ⟨u,hu⟩:=h.dvd hE;have z1:=h.z1;have eu:N*E / s.z=N*u:=by rw [hu,show N*(s.z*u)=s.z*(N*u) by grind]; exact cT _ (!2)
  have ex:u*s.x=X:=aG (show s.z≠0 by lia) (by rw [<-hx,hu]; grind);have ey:u*s.y=Y:=aG (show s.z≠0 by lia) (by rw [<-hy,hu]; grind);rw [eu,am,am,ex,ey];exact ⟨bN.mul bX,bN.mul bY⟩
theorem BK.so{N E:Int}{k Mw Mh:Nat}{s:B4}{b:Bo}(hR:Rt d)(g:GB d k s)(hN:1<=N)(hE:1<=E)(hD:1<=D)(ow:So d D Mw b.w)(wd:b.w.z∣N)(ND:N∣D)(oh:So d E Mh b.h)(sv:s.srv b.w.x b.w.y)(bN:Bd kN N)(bE:Bd kE E)(l1:Mw<=900)(l2:Mw+k+2<=1024)(l3:kN+Mh<=M)(l4:k+kE+(Mw+k+2)+1<=M)(l5:Mw+k+2+(kN+Mh)<=M0):BK d s N E M0 M b:=by
  obtain ⟨n1,n2⟩:=ow.num hD ND wd;obtain ⟨m1,m2⟩:=oh.num2 hE bN;obtain ⟨t1,_⟩:=Eo ow.z1 hN bN wd;exact BK.gen (k:=k) (kw:=Mw) (kh:=kN+Mh) (kE:=kE) hR g hN hE ow.z1 ow.g ow.up wd oh.z1 oh.g oh.up (aX (oh.dvd hE) (bU _ _)) (λpl=>by
    have:=(Ee t1).mpr sv;unfold mny;split
    . exact this.1
    . exact this.2) bE n1 n2 m1 m2 l1 l2 l3 l4 l5
theorem CZ{K:iL}{Q:VK}{a b:Addr}{xs:List V}(h:H a=some (.tup xs))(h':H b=some (.tup ys))(n:xs≠[])(n':ys≠[])(z:xs.length+ys.length<=1000)(q:∀ (p:Addr) (H2:Hp),H p=none->Same H H2->H2 p=some (.tup (xs++ys))->Q (.ref p) H2):Lc K (.ref a) (.ref b) H Q :=
  ⟨a,b,_,_,rfl,rfl,SqT.of h,SqT.of h',n,EB z,λe=>absurd e n',λ_ p hp=>q p _ hp (zD hp _) zk⟩
theorem Ht{K:iL}{Q:VK}{a:Addr}{x y z:V}(h:H a=some (.tup [x,y,z]))(q:∀ (p:Addr) (H2:Hp),Same H H2->H2 p=some (.tup [z])->Q (.ref p) H2):rSlT K (.ref a) (some 2) none H Q :=
  ⟨a,_,rfl,SqT.of h,show ¬ (HT.sIx 3 0 (some 2)=0/\HT.sIx 3 3 none=3) by decide,λp hp=>q p _ (zD hp _) zk⟩
theorem El(e:Dd):inV (.str e.wd) [.str (Str.ofString "beside"),.str (Str.ofString "atop")]=e.two:=by
  cases e with
  | cut al n s =>
    cases al
    . exact (show inV (V.str (Str.ofString "across")) [.str (Str.ofString "beside"),.str (Str.ofString "atop")]=false by decide +kernel)
    . exact (show inV (V.str (Str.ofString "along")) [.str (Str.ofString "beside"),.str (Str.ofString "atop")]=false by decide +kernel)
  | glue al n m =>
    cases al
    . exact (show inV (V.str (Str.ofString "beside")) [.str (Str.ofString "beside"),.str (Str.ofString "atop")]=true by decide +kernel)
    . exact (show inV (V.str (Str.ofString "atop")) [.str (Str.ofString "beside"),.str (Str.ofString "atop")]=true by decide +kernel)
  | shift al n k =>
    cases al
    . exact (show inV (V.str (Str.ofString "stack")) [.str (Str.ofString "beside"),.str (Str.ofString "atop")]=false by decide +kernel)
    . exact (show inV (V.str (Str.ofString "spread")) [.str (Str.ofString "beside"),.str (Str.ofString "atop")]=false by decide +kernel)
  | turn n=>exact (show inV (V.str (Str.ofString "turn")) [.str (Str.ofString "beside"),.str (Str.ofString "atop")]=false by decide +kernel)
def nmI(r:Nat->Nat)(k:Nat):List V:=((List.range k).map λj=>((r j:Nat):Int)).map V.int
theorem Cc{k n:Nat}(h:n<k):atI (nmI r k) (n:Int)=some (.int ((r n:Nat):Int)):=xW (by
  unfold nmI;rw [aj,aj,dw h];rfl)
theorem Go{k:Nat}:nmI r (k+1)=nmI r k++[.int ((r k:Nat):Int)]:=by
  unfold nmI;rw [eI,ai,ai];rfl
def cmT(k:Nat)(t:Tb):Rat:=if k=0 then t.a else if k=1 then t.b else if k=2 then t.c else t.e
theorem Jd{s t:Tb}(h:∀ k,k<4->cmT k s=cmT k t):s=t:=Tb.ext (h 0 ⋯) (h 1 ⋯) (h 2 ⋯) (h 3 ⋯)
theorem LC{p:Addr}{t:Tb}(h:TbAt H p t){i j:Nat}(hi:i<2)(hj:j<2):∃ (xs ys:List V) (rr ff:Addr),H p=some (.tup xs)/\atI xs (0+(i:Int))=some (.ref rr)/\H rr=some (.tup ys)/\atI ys (0+(j:Int))=some (.ref ff)/\H ff=some (.tup [.int (cmT (2*i+j) t).num,.int (cmT (2*i+j) t).den]):=by
  obtain ⟨r0,r1,f0,f1,f2,f3,hp,h0,h1,g0,g1,g2,g3⟩:=h;have i2:i=0\/i=1:=by lia
  have j2:j=0\/j=1:=by lia
  rcases i2 with rfl|rfl <;> rcases j2 with rfl|rfl
  . exact ⟨_,_,r0,f0,hp,rfl,h0,rfl,g0⟩
  . exact ⟨_,_,r0,f1,hp,rfl,h0,rfl,g1⟩
  . exact ⟨_,_,r1,f2,hp,rfl,h1,rfl,g2⟩
  . exact ⟨_,_,r1,f3,hp,rfl,h1,rfl,g3⟩
structure Fu(s t:Tb)(i j:Nat):Prop where
  i2:i<2
  j2:j<2
  eq:∀ k,k<2*i+j->cmT k s=cmT k t
  ne:cmT (2*i+j) s≠cmT (2*i+j) t
structure S19(s:Sd):Prop where
  nz:s.z≠0
  bx:Bd 1900 s.x
  by':Bd 1900 s.y
  bz:Bd 1900 s.z
def pqS(x y:Rat):Sd:=⟨lA (x.num*(y.den:Int)) (y.num*(x.den:Int)) ((x.den:Int)*(y.den:Int)),lB (x.num*(y.den:Int)) (y.num*(x.den:Int)) ((x.den:Int)*(y.den:Int)),lN (x.num*(y.den:Int)) (y.num*(x.den:Int)) ((x.den:Int)*(y.den:Int))⟩
theorem den1(x:Rat):1<=(x.den:Int):=by have:=x.den_pos; lia
theorem uL(x:Rat):Int.gcd x.num (x.den:Int)=1:=x.reduced
theorem S19.p8{s:Sd}(h:S19 s):Bq 8000 s.p:=(EQ h.nz h.bx h.bz).mono ⋯
theorem S19.q8{s:Sd}(h:S19 s):Bq 8000 s.q:=(EQ h.nz h.by' h.bz).mono ⋯
theorem S19.tb{b:Bo}(h:S19 b.w/\S19 b.h):b.tb.Bt 4000 4000:=by
  have w1:=xO h.1.nz h.1.bx h.1.bz;have w2:=xO h.1.nz h.1.by' h.1.bz;have h1:=xO h.2.nz h.2.bx h.2.bz;have h2:=xO h.2.nz h.2.by' h.2.bz;exact ⟨(Br.mul w1 h1).mono ⋯ ⋯,(Br.mul w1 h2).mono ⋯ ⋯,(Br.mul w2 h1).mono ⋯ ⋯,(Br.mul w2 h2).mono ⋯ ⋯⟩
theorem BoD.s19{b:Bo}(h:BoD d D M b)(D1:1<=D)(bD:Bd K' D)(hM:M<=1900)(hK:K'<=1900):S19 b.w/\S19 b.h:=by
  have a:=h.1.sk D1 bD;have c:=h.2.sk D1 bD;exact ⟨⟨h.1.ne,a.bx.mono hM,a.by'.mono hM,a.bz.mono hK⟩,⟨h.2.ne,c.bx.mono hM,c.by'.mono hM,c.bz.mono hK⟩⟩
theorem KU:(tbs ([]:List Bo)).Bt 4000 4000:=by
  have z:Br 4000 4000 0:=⟨fH _,by show Bd 4000 1; exact (uo 1).mono ⋯⟩
  exact ⟨z,z,z,z⟩
theorem FM{bs:List Bo}{b:Bo}(T:Plan d tn D M bs [b] es qs):(ends (As.sb bs) es).ns.map (ends (As.sb bs) es).g=[b]:=by
  have hq:qs=[0]:=by simpa [eI] using T.p
  obtain ⟨n,h1,h2⟩:=T.g 0 0 (by rw [hq]; rfl);have h3:b=(ends (As.sb bs) es).g n:=ao h2;have h4:(ends (As.sb bs) es).ns.length=1:=T.l
  match e:(ends (As.sb bs) es).ns,h4 with
  | [m],_ =>
    rw [e] at h1;have h5:m=n:=ao h1;rw [aW,cL,h3,h5]
structure Wh(d N E:Int)(kx kw kh:Nat)(b:Bo):Prop where
  w:So d N kw b.w
  x:Bd kx b.w.x/\Bd kx b.w.y
  h:So d E kh b.h
structure LkB(kx kN kw kE kh M:Nat):Prop where
  x1:1<=kx
  c1:kx<=690
  c2:kN<=690
  c3:kw<=900
  c4:kw+kx+3<=1024
  c5:kx+1+kE+(kw+kx+3)+1<=M
  c6:kw+kx+3+(kN+kh)+20<=M
  c7:M<=2300
  c8:kN+kE<=2050
theorem Wh.s19{N E:Int}{kx:Nat}{b:Bo}(h:Wh d N E kx kw kh b)(N1:1<=N)(bN:Bd kN N)(E1:1<=E)(bE:Bd kE E)(l1:kx<=1900)(l2:kN<=1900)(l3:kh<=1900)(l4:kE<=1900):S19 b.w/\S19 b.h:=by
  have a:=h.w.sk N1 bN;have c:=h.h.sk E1 bE;exact ⟨⟨h.w.ne,h.x.1.mono l1,h.x.2.mono l1,a.bz.mono l2⟩,⟨h.h.ne,c.bx.mono l3,c.by'.mono l3,c.bz.mono l4⟩⟩
theorem Hl{R:List Cell}(ok:∀ x∈R,S19 x.b.w/\S19 x.b.h)(l:R.length<=2)(i:Nat)(hi:i<R.length):(tbs ((R.take i).map Cell.b)).Bt 4000 4000:=by
  match i,R,hi,l with
  | 0,R,_,_=>exact KU
  | 1,c::R,_,_ =>
    show (tbs [c.b]).Bt 4000 4000;rw [xg];exact S19.tb (ok c aV)
  | i+2,R,hi,l=>lia
def eu(w h:Nat):List (Nat×Nat) :=
  if c:w=0\/h=0 then [] else if w<h then (w,h / w)::eu w (h % w) else (h,w / h)::eu (w % h) h
termination_by w+h
decreasing_by
  . have:=bR h (show 0<w by lia)
    lia
  . have:=bR w (show 0<h by lia)
    lia
variable {h w:Nat}
theorem yG(c:w=0\/h=0):eu w h=[]:=by
  rw [eu,dif_pos c]
theorem wF(w0:0<w)(c:w<h):eu w h=(w,h / w)::eu w (h % w):=by
  conv=>lhs; rw [eu,dif_neg (!2),im c]
theorem xT(h0:0<h)(c:h<=w):eu w h=(h,w / h)::eu (w % h) h:=by
  conv=>lhs; rw [eu,dif_neg (!2),io (!2)]
def tot:List (Nat×Nat)->Nat
  | []=>0
  | e::l=>e.2+tot l
theorem wn(l m:List (Nat×Nat)):tot (l++m)=tot l+tot m:=by
  induction l with
  | nil=>show tot m=0+tot m; lia
  | cons e l ih=>show e.2+tot (l++m)=e.2+tot l+tot m; lia
theorem Bu:∀ (n w h:Nat),w+h<=n->(eu w h).length<=n
  | 0,w,h,hn=>by
    rw [yG (!2)];exact bJ _
  | n+1,w,h,hn=>by
    by_cases c:w=0\/h=0
    . rw [yG c];exact bJ _
    by_cases l:w<h
    . rw [wF (!2) l,ax];have hm:=bR h (show 0<w by lia);have:=Bu n w (h % w) (!2)
      lia
    . rw [xT (!2) (!2),ax];have hm:=bR w (show 0<h by lia);have:=Bu n (w % h) h (!2)
      lia
theorem IE:∀ (n w h:Nat),w+h<=n->∀ e∈eu w h,e.1<=max w h
  | 0,w,h,hn,e,he=>by
    rw [yG (!2)] at he;exact absurd he (!1)
  | n+1,w,h,hn,e,he=>by
    by_cases c:w=0\/h=0
    . rw [yG c] at he;exact absurd he (!1)
    by_cases l:w<h
    . rw [wF (!2) l] at he;have hm:=bR h (show 0<w by lia);rcases aU.mp he with rfl|he
      . show w<=_
        lia
      . have:=IE n w (h % w) (!2) e he
        lia
    . rw [xT (!2) (!2)] at he;have hm:=bR w (show 0<h by lia);rcases aU.mp he with rfl|he
      . show h<=_
        lia
      . have:=IE n (w % h) h (!2) e he
        lia
structure StC where
  a:Addr
  w:Str
  s:Nat
  m:Nat
def StC.v(t:StC):V:=.ref t.a
def StC.pr(t:StC):Nat×Nat:=(t.s,t.m)
abbrev StC.At(H:Hp)(t:StC):Prop:=H t.a=some (.tup [.str t.w,.int (t.s:Int),.int (t.m:Int)])
abbrev StC.Al(H:Hp)(t:StC):Prop:=H t.a=some (.lst [.int (t.s:Int),.int (t.m:Int)])
structure CuC where
  a:Addr
  w:Str
  p:Addr
  s:Sd
def CuC.v(t:CuC):V:=.ref t.a
structure CuC.At(H:Hp)(u:CuC):Prop where
  t:H u.a=some (.tup [.str u.w,.ref u.p])
  d:SdAt H u.p u.s
theorem BN{α:Type}{f:α->V}{L:List α}{i:Nat}{y:V}(h:(L.map f)[i]?=some y):∃ c,y=f c/\c∈L/\L[i]?=some c:=by
  rw [aj] at h;cases e:L[i]? with
  | none=>rw [e] at h; cases h
  | some c =>
    rw [e] at h;exact ⟨c,(ao h).symm,av e,rfl⟩
theorem wO{α β:Type}{f:α->β}{L:List α}{i:Nat}{c:α}(h:L[i]?=some c):(L.take (i+1)).map f=(L.take i).map f++[f c]:=by
  rw [bg,h,ai];rfl
theorem Gr{α:Type}{f:α->Nat×Nat}(T:List α)(i:Nat):tot ((T.take i).map f)<=tot (T.map f):=by
  induction T generalizing i with
  | nil=>rw [List.take_nil]; exact ag _
  | cons t T ih =>
    cases i with
    | zero=>exact bJ _
    | succ i =>
      have:=ih i;show (f t).2+tot ((T.take i).map f)<=(f t).2+tot (T.map f)
      lia
def flat(f:Nat->Sd):List (Nat×Nat)->List Sd
  | []=>[]
  | e::l=>List.replicate e.2 (f e.1)++flat f l
theorem Fi(f:Nat->Sd)(l:List (Nat×Nat))(e:Nat×Nat):flat f (l++[e])=flat f l++List.replicate e.2 (f e.1):=by
  induction l with
  | nil=>show List.replicate e.2 (f e.1)++[]=[]++_; simp
  | cons x l ih=>show List.replicate x.2 (f x.1)++flat f (l++[e])=List.replicate x.2 (f x.1)++flat f l++_; rw [ih,aH]
theorem wM(f:Nat->Sd)(l:List (Nat×Nat)):(flat f l).length=tot l:=by
  induction l with
  | nil=>rfl
  | cons e l ih=>show (List.replicate e.2 (f e.1)++flat f l).length=e.2+tot l; rw [ah,db,ih]
theorem Gi{α:Type}(k:Nat)(x:α):(List.replicate k [x]).flatten=List.replicate k x:=by
  induction k with
  | zero=>rfl
  | succ k ih=>rw [b9,dE,ih,b9]; rfl
theorem Jw{Q:VK}{l:Addr}{k:Nat}{x:V}(h:H l=some (.lst [x]))(hk:k<=400)(q:∀ p H2,Same H H2->H2 p=some (.lst (List.replicate k x))->Q (.ref p) H2):rRep (.ref l) (.int (k:Int)) H Q:=by
  refine ⟨l,k,[x],rfl,rfl,h,by lia,by lia,?_,λp hp=>q p _ (zD hp _) ?_⟩
  . exact yi (by simp only [ax,aY]; lia)
  . rw [zk,Int.toNat_natCast,Gi]
theorem BQ{Q:VK}{l b:Addr}{xs:List V}(h:H l=some (.lst xs))(h2:H b=some (.lst zs))(hz:xs.length+zs.length<=1000)(q:∀ H2,SameX l H H2->H2 l=some (.lst (xs++zs))->Q .non H2):DW (.ref l) [.ref b] H Q :=
  ⟨l,b,xs,zs,rfl,rfl,h,h2,yi hz,q _ (λb o e n=>by rw [zm n]; exact e) zk⟩
def frS(s:Sd)(w h:Int):Sd:=⟨lA (s.x*w) (s.y*w) (s.z*h),lB (s.x*w) (s.y*w) (s.z*h),lN (s.x*w) (s.y*w) (s.z*h)⟩
def unS(s:Sd)(h:Int):Sd:=⟨lA s.x s.y (s.z*h),lB s.x s.y (s.z*h),lN s.x s.y (s.z*h)⟩
variable {b':Int}
theorem sd_low{b n a' n':Int}(hn:n≠0)(hn':n'≠0)(ea:a*n'=a'*n)(eb:b*n'=b'*n):(⟨lA a b n,lB a b n,lN a b n⟩:Sd)=⟨lA a' b' n',lB a' b' n',lN a' b' n'⟩:=by
  obtain ⟨h1,h2,h3⟩:=Ao hn hn' ea eb;rw [h1,h2,h3]
theorem MN{s:Sd}{u h:Int}(hz:s.z≠0)(hh:h≠0):tmS u (unS s h)=frS s u h:=by
  have hn:s.z*h≠0:=ay hz hh;have e1:=l_a (a:=s.x) (b:=s.y) (n:=s.z*h);have e2:=l_b (a:=s.x) (b:=s.y) (n:=s.z*h);have n1:=l_n (a:=s.x) (b:=s.y) hn;refine sd_low (n:=lN s.x s.y (s.z*h)) (!2) hn ?_ ?_
  . show u*lA s.x s.y (s.z*h)*(s.z*h)=s.x*u*lN s.x s.y (s.z*h);rw [am,e1];grind
  . show u*lB s.x s.y (s.z*h)*(s.z*h)=s.y*u*lN s.x s.y (s.z*h);rw [am,e2];grind
theorem Mu{s:Sd}{u h:Int}(hz:s.z≠0)(hh:h≠0):(⟨lA (s.x*lA u 0 h+d*s.y*lB u 0 h) (s.x*lB u 0 h+s.y*lA u 0 h) (s.z*lN u 0 h),lB (s.x*lA u 0 h+d*s.y*lB u 0 h) (s.x*lB u 0 h+s.y*lA u 0 h) (s.z*lN u 0 h),lN (s.x*lA u 0 h+d*s.y*lB u 0 h) (s.x*lB u 0 h+s.y*lA u 0 h) (s.z*lN u 0 h)⟩:Sd)=frS s u h:=by
  have e1:=l_a (a:=u) (b:=0) (n:=h);have e2:=l_b (a:=u) (b:=0) (n:=h);have n1:=l_n (a:=u) (b:=0) hh;have b0:lB u 0 h=0:=by
    rw [bS] at e2;rcases dr.mp e2 with z|z
    . exact z
    . exact absurd z hh
  rw [b0];refine sd_low (ay hz (!2)) (ay hz hh) ?_ ?_
  . clear n1 e2 b0;grind
  . clear n1 e2 b0;grind
theorem FS{s:Sd}{w h:Int}(hz:s.z≠0)(hN:s.x*s.x - d*s.y*s.y≠0)(h1:1<=h)(hg:g3 w 0 h=1) : w=lA ((frS s w h).x*lA (s.z*s.x) (-s.z*s.y) (s.x*s.x - d*s.y*s.y)+d*(frS s w h).y*lB (s.z*s.x) (-s.z*s.y) (s.x*s.x - d*s.y*s.y)) ((frS s w h).x*lB (s.z*s.x) (-s.z*s.y) (s.x*s.x - d*s.y*s.y)+(frS s w h).y*lA (s.z*s.x) (-s.z*s.y) (s.x*s.x - d*s.y*s.y)) ((frS s w h).z*lN (s.z*s.x) (-s.z*s.y) (s.x*s.x - d*s.y*s.y))
   /\0=lB ((frS s w h).x*lA (s.z*s.x) (-s.z*s.y) (s.x*s.x - d*s.y*s.y)+d*(frS s w h).y*lB (s.z*s.x) (-s.z*s.y) (s.x*s.x - d*s.y*s.y)) ((frS s w h).x*lB (s.z*s.x) (-s.z*s.y) (s.x*s.x - d*s.y*s.y)+(frS s w h).y*lA (s.z*s.x) (-s.z*s.y) (s.x*s.x - d*s.y*s.y)) ((frS s w h).z*lN (s.z*s.x) (-s.z*s.y) (s.x*s.x - d*s.y*s.y))
   /\h=lN ((frS s w h).x*lA (s.z*s.x) (-s.z*s.y) (s.x*s.x - d*s.y*s.y)+d*(frS s w h).y*lB (s.z*s.x) (-s.z*s.y) (s.x*s.x - d*s.y*s.y)) ((frS s w h).x*lB (s.z*s.x) (-s.z*s.y) (s.x*s.x - d*s.y*s.y)+(frS s w h).y*lA (s.z*s.x) (-s.z*s.y) (s.x*s.x - d*s.y*s.y)) ((frS s w h).z*lN (s.z*s.x) (-s.z*s.y) (s.x*s.x - d*s.y*s.y)):=by
  have hn:s.z*h≠0:=ay hz (!2);have f1:(frS s w h).x*(s.z*h)=s.x*w*(frS s w h).z:=l_a;have f2:(frS s w h).y*(s.z*h)=s.y*w*(frS s w h).z:=l_b;have f3:1<=(frS s w h).z:=l_n hn;have i1:=l_a (a:=s.z*s.x) (b:=-s.z*s.y) (n:=s.x*s.x - d*s.y*s.y);have i2:=l_b (a:=s.z*s.x) (b:=-s.z*s.y) (n:=s.x*s.x - d*s.y*s.y);have i3:=l_n (a:=s.z*s.x) (b:=-s.z*s.y) hN;generalize (frS s w h).x=fx at *
  generalize (frS s w h).y=fy at *
  generalize (frS s w h).z=fz at *
  obtain ⟨ua,ub⟩:=F0 (x:=w) (y:=0) (z:=h) (x':=s.x) (y':=s.y) (z':=s.z) (d:=d) hz hN (show fx*(h*s.z)=(w*s.x+d*0*s.y)*fz by clear i1 i2 i3 hN; grind) (show fy*(h*s.z)=(w*s.y+0*s.x)*fz by clear i1 i2 i3 hN; grind) i1 i2;exact zC h1 hg (ay (!2) (!2)) ua ub
theorem Lo(hg:Nat.gcd w h=1):g3 (w:Int) 0 (h:Int)=1:=by
  unfold g3;simp [Int.gcd];rw [Nat.gcd_comm];exact hg
theorem Bj:∀ (n w h:Nat),w+h<=n->∀ e∈eu w h,1<=e.2
  | n,w,h,hn=>by
    by_cases c:w=0\/h=0
    . rw [yG c];exact λe he=>absurd he (!1)
    . match n,hn with
      | 0,hn=>lia
      | n+1,hn =>
        by_cases k:w<h
        . rw [wF (!2) k];have hm:=bR h (show 0<w by lia);intro e he;rcases aU.mp he with rfl|he
          . exact h8 (!2) (!2)
          . exact Bj n w (h % w) (!2) e he
        . rw [xT (!2) (!2)];have hm:=bR w (show 0<h by lia);intro e he;rcases aU.mp he with rfl|he
          . exact h8 (!2) (!2)
          . exact Bj n (w % h) h (!2) e he
theorem AE:∀ (l:List (Nat×Nat)),(∀ e∈l,1<=e.2)->l.length<=tot l
  | [],_=>bJ _
  | e::l,h=>by
    have h1:=h e aV;have h2:=AE l λx hx=>h x (az _ hx);show l.length+1<=e.2+tot l
    lia
inductive Sq:Nat->Nat->List (Bool×Nat)->Prop
  | one {w:Nat} {al:Bool}:0<w->Sq w w [(al,w)]
  | al {w h:Nat} {l:List (Bool×Nat)}:0<w->w<h->Sq w (h - w) l->Sq w h ((true,w)::l)
  | ac {w h:Nat} {l:List (Bool×Nat)}:0<h->h<w->Sq (w - h) h l->Sq w h ((false,h)::l)
variable {l:List (Bool×Nat)}
theorem Sq.ne(s:Sq w h l):l≠[]:=by cases s <;> exact λz=>nomatch z
theorem Sq.pos(s:Sq w h l):0<w/\0<h:=by
  cases s with
  | one h=>exact ⟨h,h⟩
  | al h1 h2 _=>exact ⟨h1,by lia⟩
  | ac h1 h2 _=>exact ⟨by lia,h1⟩
def euW(w h:Nat):List (Bool×Nat×Nat) :=
  if c:w=0\/h=0 then [] else if w<h then (true,w,h / w)::euW w (h % w) else (false,h,w / h)::euW (w % h) h
termination_by w+h
decreasing_by
  . have:=bR h (show 0<w by lia)
    lia
  . have:=bR w (show 0<h by lia)
    lia
theorem vt(c:w=0\/h=0):euW w h=[]:=by
  rw [euW,dif_pos c]
theorem Dl(w0:0<w)(c:w<h):euW w h=(true,w,h / w)::euW w (h % w):=by
  conv=>lhs; rw [euW,dif_neg (!2),im c]
theorem DP(h0:0<h)(c:h<=w):euW w h=(false,h,w / h)::euW (w % h) h:=by
  conv=>lhs; rw [euW,dif_neg (!2),io (!2)]
theorem Bn:∀ (n w h:Nat),w+h<=n->(euW w h).map (λe=>e.2)=eu w h
  | n,w,h,hn=>by
    by_cases c:w=0\/h=0
    . rw [vt c,yG c]; rfl
    . match n,hn with
      | 0,hn=>lia
      | n+1,hn =>
        by_cases k:w<h
        . have hm:=bR h (show 0<w by lia);rw [Dl (!2) k,wF (!2) k,aW,Bn n w (h % w) (!2)]
        . have hm:=bR w (show 0<h by lia);rw [DP (!2) (!2),xT (!2) (!2),aW,Bn n (w % h) h (!2)]
def xy:List (Bool×Nat×Nat)->List (Bool×Nat)
  | []=>[]
  | e::l=>List.replicate e.2.2 (e.1,e.2.1)++xy l
theorem Ef{w r:Nat}{L:List (Bool×Nat)}(w0:0<w):∀ (k:Nat),(r=0/\L=[]/\0<k)\/Sq w r L->Sq w (k*w+r) (List.replicate k (true,w)++L)
  | 0,h=>by
    rcases h with ⟨_,_,h⟩|h
    . exact absurd h ⋯
    . rw [Nat.zero_mul,Nat.zero_add]; exact h
  | k+1,h=>by
    have e:(k+1)*w+r=w+(k*w+r):=by rw [ia,gI]; lia
    rw [e,b9,List.cons_append];by_cases c:k*w+r=0
    . have r0:r=0:=by lia
      have k0:k=0:=by
        cases k with
        | zero=>rfl
        | succ k=>rw [ia,gI] at c; lia
      subst r0 k0;rcases h with ⟨_,rfl,_⟩|h
      . rw [c,eV]; exact .one w0
      . exact absurd h.pos.2 ⋯
    . refine .al w0 (!2) ?_;rw [show w+(k*w+r) - w=k*w+r by lia];exact Ef w0 k (h.imp (λ⟨z1,z2,_⟩=>⟨z1,z2,by
        cases k with
        | zero=>rw [z1] at c; lia
        | succ k=>lia⟩) id)
theorem EL{h r:Nat}{L:List (Bool×Nat)}(h0:0<h):∀ (k:Nat),(r=0/\L=[]/\0<k)\/Sq r h L->Sq (k*h+r) h (List.replicate k (false,h)++L)
  | 0,z=>by
    rcases z with ⟨_,_,z⟩|z
    . exact absurd z ⋯
    . rw [Nat.zero_mul,Nat.zero_add]; exact z
  | k+1,z=>by
    have e:(k+1)*h+r=h+(k*h+r):=by rw [ia,gI]; lia
    rw [e,b9,List.cons_append];by_cases c:k*h+r=0
    . have r0:r=0:=by lia
      have k0:k=0:=by
        cases k with
        | zero=>rfl
        | succ k=>rw [ia,gI] at c; lia
      subst r0 k0;rcases z with ⟨_,rfl,_⟩|z
      . rw [c,eV]; exact .one h0
      . exact absurd z.pos.1 ⋯
    . refine .ac h0 (!2) ?_;rw [show h+(k*h+r) - h=k*h+r by lia];exact EL h0 k (z.imp (λ⟨z1,z2,_⟩=>⟨z1,z2,by
        cases k with
        | zero=>rw [z1] at c; lia
        | succ k=>lia⟩) id)
theorem Gg:∀ (n w h:Nat),w+h<=n->0<w->0<h->Sq w h (xy (euW w h))
  | n,w,h,hn,w0,h0=>by
    match n,hn with
    | 0,hn=>lia
    | n+1,hn =>
      by_cases k:w<h
      . have hm:=bR h w0;rw [Dl w0 k];have e:=Nat.div_add_mod' h w;conv=>arg 2; rw [<-e]
        refine Ef w0 (h / w) ?_;by_cases z:h % w=0
        . exact .inl ⟨z,by rw [z,vt (.inr rfl)]; rfl,h8 (!2) w0⟩
        . exact .inr (Gg n w (h % w) (!2) w0 (!2))
      . have hm:=bR w h0;rw [DP h0 (!2)];have e:=Nat.div_add_mod' w h;conv=>arg 1; rw [<-e]
        refine EL h0 (w / h) ?_;by_cases z:w % h=0
        . exact .inl ⟨z,by rw [z,vt (.inl rfl)]; rfl,h8 (!2) h0⟩
        . exact .inr (Gg n (w % h) h (!2) (!2) h0)
def cutD(f:Nat->Sd):Nat->Nat->List (Bool×Nat)->DL
  | _,_,[]=>[]
  | k,n,(al,u)::l=>(.cut al n (f u),n,n)::cutD f (k+2) (k+1) l
theorem tL{s:As}(h:Stp d tn s x)(g:Walk d tn (s.next x) es):Walk d tn s (x::es) :=
  walk_app (es:=[x]) (λi y hy=>by
    match i,hy with
    | 0,hy =>
      have:x=y:=ao hy;rw [<-this];exact h) g
structure Un(d:Int)(f:Nat->Sd)(K:Nat):Prop where
  sy:∀ u,0<u->u<=K->SY (f u)/\sgn d (f u).x (f u).y=1
  tk:∀ a b,b<a->a<=K->tkS (f a) (f b)=f (a - b)
theorem JC{s t:Sd}(hR:Rt d)(s1:1<=s.z)(t1:1<=t.z)(h:sgn d (tkS s t).x (tkS s t).y=1):0<sgn d (s.x*t.z - t.x*s.z) (s.y*t.z - t.y*s.z):=by
  have e:sgn d (tkS s t).x (tkS s t).y=sgn d (s.x*t.z+-t.x*s.z) (s.y*t.z+-t.y*s.z):=yQ hR (a9 (!2) (!2));rw [e] at h;rw [show s.x*t.z - t.x*s.z=s.x*t.z+-t.x*s.z by rw [cH]; lia,show s.y*t.z - t.y*s.z=s.y*t.z+-t.y*s.z by rw [cH]; lia,h];decide
theorem Gu{f:Nat->Sd}{K:Nat}(hR:Rt d)(U:Un d f K)(tn:Bool)(q:Sq w h l):∀ (s:As) (n:Nat) (A:List Nat),w<=K->h<=K->s.ns=A++[n]->(∀ a∈A,a<n)->n<s.k->s.g n=⟨f w,f h⟩ -> Walk d tn s (cutD f s.k n l.dropLast)/\∃ B,(ends s (cutD f s.k n l.dropLast)).ns=A++B/\B.map (ends s (cutD f s.k n l.dropLast)).g=l.map (λe=>(⟨f e.2,f e.2⟩:Bo))/\∀ a,a<n->(ends s (cutD f s.k n l.dropLast)).g a=s.g a:=by
  have step:∀ (al:Bool) (u w' h':Nat) (l:List (Bool×Nat)) (s:As) (n:Nat) (A:List Nat),s.ns=A++[n]->(∀ a∈A,a<n)->n<s.k->Stp d tn s (.cut al n (f u),n,n)->(Dd.cut al n (f u)).new (s.g n) (s.g n)=[⟨f u,f u⟩,⟨f w',f h'⟩]->l≠[] ->
      (∀ (s:As) (n:Nat) (A:List Nat),s.ns=A++[n]->(∀ a∈A,a<n)->n<s.k->s.g n=⟨f w',f h'⟩->Walk d tn s (cutD f s.k n l.dropLast)/\∃ B,(ends s (cutD f s.k n l.dropLast)).ns=A++B/\B.map (ends s (cutD f s.k n l.dropLast)).g=l.map (λe=>(⟨f e.2,f e.2⟩:Bo))/\∀ a,a<n->(ends s (cutD f s.k n l.dropLast)).g a=s.g a) ->
      Walk d tn s (cutD f s.k n ((al,u)::l).dropLast)/\∃ B,(ends s (cutD f s.k n ((al,u)::l).dropLast)).ns=A++B/\B.map (ends s (cutD f s.k n ((al,u)::l).dropLast)).g=((al,u)::l).map (λe=>(⟨f e.2,f e.2⟩:Bo))/\∀ a,a<n->(ends s (cutD f s.k n ((al,u)::l).dropLast)).g a=s.g a:=by
    intro al u w' h' l s n A hs hA hn st hnew hl ih;have hd:((al,u)::l).dropLast=(al,u)::l.dropLast:=List.dropLast_cons_of_ne_nil hl;rw [hd];show Walk d tn s ((.cut al n (f u),n,n)::cutD f (s.k+2) (s.k+1) l.dropLast)/\_;have nk:(s.next (.cut al n (f u),n,n)).k=s.k+2:=yJ _ _;have ns':(s.next (.cut al n (f u),n,n)).ns=(A++[s.k])++[s.k+1]:=by
      show zY s.ns [(n:Int)]++List.range' s.k ((Dd.cut al n (f u)).new (s.g n) (s.g n)).length=_;rw [hnew,hs];have:zY (A++[n]) [(n:Int)]=A:=by
        show (A++[n]).filter (λm:Nat=>decide ((m:Int)≠(n:Int)))=A;rw [List.filter_append,List.filter_eq_self.mpr (λa ha=>by have:=hA a ha; simp; lia)];simp
      rw [this,aH];rfl
    have g1:(s.next (.cut al n (f u),n,n)).g (s.k+1)=⟨f w',f h'⟩:=by
      show gN s.g s.k ((Dd.cut al n (f u)).new (s.g n) (s.g n)) (s.k+1)=_;rw [hnew];exact yk rfl
    have g0:(s.next (.cut al n (f u),n,n)).g s.k=⟨f u,f u⟩:=by
      show gN s.g s.k ((Dd.cut al n (f u)).new (s.g n) (s.g n)) (s.k+0)=_;rw [hnew];exact yk rfl
    have gl:∀ a,a<s.k->(s.next (.cut al n (f u),n,n)).g a=s.g a:=λa ha=>wG ha;obtain ⟨w1,B,e1,e2,e3⟩:=ih (s.next (.cut al n (f u),n,n)) (s.k+1) (A++[s.k]) ns' (λa ha=>by
      rcases aB.mp ha with ha|ha
      . have:=hA a ha; lia
      . rw [ak.mp ha]; lia) (by rw [nk]; lia) g1
    rw [nk] at w1 e1 e2 e3;refine ⟨tL st w1,s.k::B,?_,?_,λa ha=>?_⟩
    . show (ends (s.next _) (cutD f (s.k+2) (s.k+1) l.dropLast)).ns=_;rw [e1,aH];rfl
    . show (s.k::B).map (ends (s.next _) (cutD f (s.k+2) (s.k+1) l.dropLast)).g=_;rw [aW,aW,e2,e3 s.k (!2),g0]
    . show (ends (s.next _) (cutD f (s.k+2) (s.k+1) l.dropLast)).g a=_;rw [e3 a (!2),gl a (!2)]
  have fit:∀ {a b:Nat},0<b->b<a->a<=K->EV d (f a) (f b):=λ{a b} b0 ba aK=>by
    obtain ⟨x1,x2⟩:=U.sy a (!2) aK;obtain ⟨y1,y2⟩:=U.sy b b0 (!2);have z:=U.sy (a - b) (!2) (!2);exact ⟨x1,y1,by rw [y2]; decide,JC hR x1.z1 y1.z1 (by rw [U.tk a b ba aK]; exact z.2)⟩
  induction q with
  | @one w al w0 =>
    intro s n A wK _ hs hA hn hg;show Walk d tn s []/\_;refine ⟨λi x hx=>by simp at hx,[n],hs,?_,λa _=>rfl⟩;show [s.g n]=_;rw [hg];rfl
  | @al w h l w0 wh q ih =>
    intro s n A wK hK hs hA hn hg;have mem:n∈s.ns:=by rw [hs]; exact a7 _ (ak.mpr rfl)
    refine step true w w (h - w) l s n A hs hA hn ⟨⟨rfl,mem,mem,?_,λ_=>rfl⟩,(U.sy w w0 wK).1,by rw [hg]; exact fit w0 wh hK,λz=>nomatch z⟩ ?_ q.ne (λs n A=>ih s n A wK (!2))
    . exact λz=>nomatch z
    . rw [hg];show [(⟨f w,f w⟩:Bo),⟨f w,tkS (f h) (f w)⟩]=_;rw [U.tk h w wh hK]
  | @ac w h l h0 hw q ih =>
    intro s n A wK hK hs hA hn hg;have mem:n∈s.ns:=by rw [hs]; exact a7 _ (ak.mpr rfl)
    refine step false h (w - h) h l s n A hs hA hn ⟨⟨rfl,mem,mem,?_,λ_=>rfl⟩,(U.sy h h0 hK).1,by rw [hg]; exact fit h0 hw wK,λz=>nomatch z⟩ ?_ q.ne (λs n A=>ih s n A (!2) hK)
    . exact λz=>nomatch z
    . rw [hg];show [(⟨f h,f h⟩:Bo),⟨tkS (f w) (f h),f h⟩]=_;rw [U.tk w h hw wK]
def StC.t3 (t:StC):Bool×Nat×Nat:=(decide (t.w="along"),t.s,t.m)
def CuC.t2 (c:CuC):Bool×Sd:=(decide (c.w="along"),c.s)
theorem vT:∀ (l:List (Bool×Nat×Nat)) (e:Bool×Nat×Nat),xy (l++[e])=xy l++List.replicate e.2.2 (e.1,e.2.1)
  | [],e=>by show List.replicate _ _++[]=_; rw [bG]; rfl
  | x::l,e=>by
    show List.replicate _ _++xy (l++[e])=(List.replicate _ _++xy l)++_;rw [vT l e,aH]
def uX(t:Tb):Int:=t.a.num*t.e.num*(t.b.den:Int)*(t.c.den:Int) - t.b.num*t.c.num*(t.a.den:Int)*(t.e.den:Int)
theorem slant_eq{t:Tb}:uX t=0↔t.a*t.e=t.b*t.c:=by
  have r:∀ x y:Rat,x*y=Rat.divInt (x.num*y.num) ((x.den:Int)*(y.den:Int)):=λx y=>by
    rw [xU,fR,fR]
  have n:∀ x y:Rat,(x.den:Int)*(y.den:Int)≠0:=λx y=>ay (by have:=den1 x; lia) (by have:=den1 y; lia);rw [r,r t.b t.c,cB (n _ _) (n _ _)];unfold uX;rw [<-am,<-am]
  lia
theorem Fn(b:Bo):uX (tbs [b])=0:=slant_eq.mpr (by
  rw [xg];show b.w.p*b.h.p*(b.w.q*b.h.q)=b.w.p*b.h.q*(b.w.q*b.h.p)
  grind)
structure CI where
  q:Nat
  f:Nat->Sd
  l:List (Bool×Nat)
def oneD(k:Nat)(x:CI):DL:=(.shift false x.q 1,x.q,x.q)::cutD x.f (k+1) k x.l.dropLast
def kAll(k:Nat):List CI->Nat
  | []=>k
  | x::r=>kAll (k+1+2*(x.l.length - 1)) r
def cutAll(k:Nat):List CI->DL
  | []=>[]
  | x::r=>oneD k x++cutAll (k+1+2*(x.l.length - 1)) r
theorem Af(x:CI):∀ (k:Nat) (l:List CI),kAll k (l++[x])=kAll k l+1+2*(x.l.length - 1)
  | _,[]=>rfl
  | k,y::l=>Af x _ l
theorem vm(x:CI):∀ (k:Nat) (l:List CI),cutAll k (l++[x])=cutAll k l++oneD (kAll k l) x
  | _,[]=>by show oneD _ x++[]=[]++_; rw [bG]; rfl
  | k,y::l=>by
    show oneD k y++cutAll _ (l++[x])=(oneD k y++cutAll _ l)++_;rw [vm x _ l,aH];rfl
theorem vQ(f:Nat->Sd)(e:Bool×Nat):∀ (k n:Nat) (l:List (Bool×Nat)),cutD f k n (l++[e])=cutD f k n l++[(.cut e.1 ((if l=[] then n else k+2*l.length - 1:Nat):Int) (f e.2),if l=[] then n else k+2*l.length - 1,if l=[] then n else k+2*l.length - 1)]
  | _,_,[]=>rfl
  | k,n,x::l=>by
    show _::cutD f (k+2) (k+1) (l++[e])=_::(cutD f (k+2) (k+1) l++_);rw [vQ f e (k+2) (k+1) l,io (show ¬ (x::l=[]) from λz=>nomatch z)];by_cases c:l=[]
    . subst c; rfl
    . rw [io c,show k+2+2*l.length - 1=k+2*(x::l).length - 1 by rw [ax]; lia]
theorem Fh(f:Nat->Sd)(e:Bool×Nat)(k:Nat)(l:List (Bool×Nat)):cutD f (k+1) k (l++[e])=cutD f (k+1) k l++[(.cut e.1 ((k+2*l.length:Nat):Int) (f e.2),k+2*l.length,k+2*l.length)]:=by
  rw [vQ];have:(if l=[] then k else k+1+2*l.length - 1)=k+2*l.length:=by
    by_cases c:l=[]
    . rw [im c,c]; rfl
    . rw [io c]; lia
  rw [this]
theorem Bz(f:Nat->Sd):∀ (k n:Nat) (l:List (Bool×Nat)),(cutD f k n l).length=l.length
  | _,_,[]=>rfl
  | k,n,x::l=>by show (cutD f (k+2) (k+1) l).length+1=l.length+1; rw [Bz f _ _ l]
theorem Ls{s:Sd}{K:Nat}(hR:Rt d)(ok:SK 600 600 s)(up:sgn d s.x s.y=1)(h1:1<=h)(bh:Bd 300 (h:Int))(bK:Bd 300 (K:Int)):Un d (λu=>frS s (u:Int) (h:Int)) K:=by
  have z1:=ok.z1;have hD:1<=s.z*(h:Int):=a9 (!2) (!2);refine ⟨λu u0 uK=>?_,λa b ba aK=>?_⟩
  . have bu:Bd 300 (u:Int):=bK.of_le (!2);refine ⟨⟨l_n (!2),xu (!2),Bd.fdiv ((ok.bx.mul bu).mono ⋯) _,Bd.fdiv ((ok.by'.mul bu).mono ⋯) _,Bd.fdiv ((ok.bz.mul bh).mono ⋯) _⟩,?_⟩;show sgn d (lA _ _ _) (lB _ _ _)=1;rw [yQ hR hD,aq s.x,aq s.y,yU hR (!2)];exact up
  . have e:=Hu (D:=s.z*(h:Int)) (X:=s.x*(a:Int)) (Y:=s.y*(a:Int)) (X':=s.x*(b:Int)) (Y':=s.y*(b:Int)) hD;refine e.trans ?_;show sdO _ _ _=sdO (s.z*(h:Int)) (s.x*((a - b:Nat):Int)) (s.y*((a - b:Nat):Int));rw [show ((a - b:Nat):Int)=(a:Int) - (b:Int) by lia,dR,dR]
theorem wS:∀ (l:List (Bool×Nat×Nat)),(xy l).length=tot (l.map λe=>e.2)
  | []=>rfl
  | e::l=>by
    show (List.replicate _ _++xy l).length=e.2.2+tot (l.map λe=>e.2);rw [ah,db,wS l]
theorem GG{f:Nat->Sd}{K:Nat}(hR:Rt d)(U:Un d f K)(id1:∀ u,shS (f u) 1 1=f u)(tn:Bool)(q:Sq w h l)(wK:w<=K)(hK:h<=K)(s:As)(n:Nat)(hn:n∈s.ns)(lt:∀ a∈s.ns,a<s.k)(hg:s.g n=⟨f w,f h⟩) : Walk d tn s (oneD s.k ⟨n,f,l⟩)/\∃ B,(ends s (oneD s.k ⟨n,f,l⟩)).ns=zY s.ns [(n:Int)]++B/\B.map (ends s (oneD s.k ⟨n,f,l⟩)).g=l.map (λe=>(⟨f e.2,f e.2⟩:Bo))/\∀ a,a<s.k->(ends s (oneD s.k ⟨n,f,l⟩)).g a=s.g a:=by
  obtain ⟨w0,h0⟩:=q.pos;have b1:Bd 1024 (1:Int):=(uo 1).mono ⋯;have st:Stp d tn s (.shift false (n:Int) 1,n,n):=⟨⟨rfl,hn,hn,(λz=>nomatch z),λ_=>rfl⟩,⟨by decide,b1⟩,by
    show 1<=(1:Int)/\Bd 1024 1/\SY (s.g n).w/\SY (s.g n).h;rw [hg];exact ⟨by decide,b1,(U.sy w w0 wK).1,(U.sy h h0 hK).1⟩,(λz=>nomatch z)⟩
  have nk:(s.next (.shift false (n:Int) 1,n,n)).k=s.k+1:=yJ _ _;have ns':(s.next (.shift false (n:Int) 1,n,n)).ns=zY s.ns [(n:Int)]++[s.k]:=rfl;have g1:(s.next (.shift false (n:Int) 1,n,n)).g s.k=⟨f w,f h⟩:=by
    show gN s.g s.k [⟨shS (s.g n).w 1 1,shS (s.g n).h 1 1⟩] (s.k+0)=_;rw [hg,id1,id1];exact yk rfl
  obtain ⟨w1,B,e1,e2,e3⟩:=Gu hR U tn q (s.next (.shift false (n:Int) 1,n,n)) s.k (zY s.ns [(n:Int)]) wK hK ns' (λa ha=>lt a (mem_ndrop.mp ha).1) (by rw [nk]; lia) g1;rw [nk] at w1 e1 e2 e3;exact ⟨tL st w1,B,e1,e2,λa ha=>(e3 a ha).trans (wG ha)⟩
theorem MG{s:Sd}(z1:1<=s.z)(h1:1<=h)(u:Nat):shS (frS s (u:Int) (h:Int)) 1 1=frS s (u:Int) (h:Int):=by
  have:=HU (D:=s.z*(h:Int)) (X:=s.x*(u:Int)) (Y:=s.y*(u:Int)) (m:=1) (a9 (!2) (!2));rw [df,df] at this;exact this
theorem JJ{p:Addr}(h:H p=some (.tup [.int 1,.int 1])):Fq H p 1:=h
theorem Ci(hR:Rt d):sgn d 1 0=1:=by unfold sgn; simp
theorem B1(N:Nat)(h:1<=N):frS ⟨1,0,1⟩ (N:Int) 1=⟨(N:Int),0,1⟩:=by
  obtain ⟨a,b,c⟩:=zC (x:=(N:Int)) (y:=0) (z:=1) (a:=1*(N:Int)) (b:=0*(N:Int)) (n:=1*1) ⋯ (by unfold g3; simp) ⋯ (!2) (!2);unfold frS;rw [<-a,<-b,<-c]
theorem pq_N{x:Rat}{N:Nat}(h:x=((N:Int):Rat)):pqS x 0=⟨(N:Int),0,1⟩:=by
  have e1:x.num=(N:Int):=by rw [h]; rfl
  have e2:x.den=1:=by rw [h]; rfl
  obtain ⟨a,b,c⟩:=zC (x:=(N:Int)) (y:=0) (z:=1) (a:=x.num*((0:Rat).den:Int)) (b:=(0:Rat).num*(x.den:Int)) (n:=(x.den:Int)*((0:Rat).den:Int)) ⋯ (by unfold g3; simp) (by rw [e2]; decide) (by rw [e1,e2]; show (N:Int)*(((1:Nat):Int)*1)=(N:Int)*1*1; lia) (by rw [e2]; show (0:Int)*_=0*_*1; lia);unfold pqS;rw [<-a,<-b,<-c]
theorem Na:pqS 1 0=⟨1,0,1⟩:=pq_N (N:=1) rfl
theorem Jb{N:Nat}(h:1<=N):eu N 1=[(1,N)]:=by
  rw [xT ⋯ h,Nat.div_one,Nat.mod_one,yG (.inl rfl)]
theorem DA:SK 600 600 ⟨1,0,1⟩:=⟨by decide,by decide +kernel,by decide +kernel,by decide +kernel,by decide +kernel⟩
theorem so_N(hR:Rt d){N:Nat}(h1:1<=N)(h2:N<=401):So d 1 10 ⟨(N:Int),0,1⟩:=⟨Int.le_refl 1,by unfold g3; simp,by show sgn d (N:Int) 0=1; rw [vp (!2) ⋯,im (!2)],(N:Int),0,zw (B:=401) (!2) (!2) ⋯,by decide +kernel,by lia,by lia⟩
theorem tb_N{N:Nat}:(tbs [(⟨⟨(N:Int),0,1⟩,⟨1,0,1⟩⟩:Bo)])=⟨((N:Int):Rat),0,0,0⟩:=by
  rw [xg];have e1:(⟨(N:Int),0,1⟩:Sd).p=((N:Int):Rat):=by show Rat.divInt (N:Int) 1=_; rw [Rat.divInt_eq_div]; grind
  have e2:(⟨(N:Int),0,1⟩:Sd).q=0:=fG 1;have e3:(⟨1,0,1⟩:Sd).p=1:=by show Rat.divInt 1 1=_; rw [Rat.divInt_eq_div]; grind
  have e4:(⟨1,0,1⟩:Sd).q=0:=fG 1;refine Tb.ext ?_ ?_ ?_ ?_
  . show (⟨(N:Int),0,1⟩:Sd).p*(⟨1,0,1⟩:Sd).p=_;rw [e1,e3]; grind
  . show (⟨(N:Int),0,1⟩:Sd).p*(⟨1,0,1⟩:Sd).q=_;rw [e4]; grind
  . show (⟨(N:Int),0,1⟩:Sd).q*(⟨1,0,1⟩:Sd).p=_;rw [e2]; grind
  . show (⟨(N:Int),0,1⟩:Sd).q*(⟨1,0,1⟩:Sd).q=_;rw [e2]; grind
def JD(K:iL):List V->Hp->VK->Prop:=λxs H Q=>∃ (a C p:Addr) (cl:List Addr),xs=[.ref a,.ref p]/\H a=some (ExcO a C)/\H p=some (.tup (cl.map V.ref))/\XOk K C/\(∀ c∈cl,W.kitOne K (.ref C) (.ref c)=some false)/\Q (.bl false) H
theorem tJ:∀ {cl:List Addr} {its:List Value},Vals (cl.map V.ref) its->its=cl.map Value.ref
  | [],_,.nil=>rfl
  | c::cl,_,.cons r rs=>by
    rw [tJ rs];cases r
    rfl
theorem Cq{K:iL}{t:Value}:∀ {cl:List Addr},(∀ c∈cl,W.kitOne K t (.ref c)=some false)->W.kitAny K t (cl.map Value.ref)=some false
  | [],_=>rfl
  | c::cl,h=>by
    show (match W.kitOne K t (.ref c) with | some true=>some true | some false=>W.kitAny K t (cl.map Value.ref) | none=>none)=some false;rw [h c aV];exact Cq λx hx=>h x (az _ hx)
theorem uw{X:Cx}:yx X (.builtin "isinstance") (JD X.K):=by
  intro pins s σ H xs us Q I r h;obtain ⟨a,C,p,cl,rfl,ea,ep,k,hc,q⟩:=h;obtain ⟨u,v,rfl,ru,rv⟩:=Vals.two r;cases ru
  cases rv
  obtain ⟨its,rs,⟨o,eo,oc,n,od⟩,_⟩:=I.tuple (SqT.of ep);have ei:=tJ rs;obtain ⟨c1,d1,t1,sl⟩:=o;simp only at oc od;subst oc od;obtain ⟨po,_,_⟩:=(show ObjOk X.prog X.w H s.heap a (ExcO a C) from I.hok a _ ea)
  exact W.kia_tup (Bp k) I.kIn po eo (by rw [ei]; exact Cq hc) (λz=>nomatch z) λtk=>⟨.bl false,H,I.tok tk,rfl,q⟩
variable {vs:List V}
theorem GX{K:iL}{Q:VK}{a C p:Addr}{cl:List Addr}(ea:H a=some (ExcO a C))(k:XOk K C)(ep:H p=some (.tup vs))(ev:vs=cl.map V.ref)(hc:∀ c∈cl,W.kitOne K (.ref C) (.ref c)=some false)(q:Q (.bl false) H):JD K [.ref a,.ref p] H Q:=⟨a,C,p,cl,rfl,ea,by rw [ep,ev],k,hc,q⟩
structure LOb(d:Int)(k:Nat)(s:Sd):Prop where
  z1:1<=s.z
  g:g3 s.x s.y s.z=1
  up:sgn d s.x s.y=1
  bx:Bd k s.x
  by':Bd k s.y
  bz:Bd 890 s.z
structure LsB(d:Int)(k:Nat)(H:Hp)(p:Addr)(L:List Ln):Prop where
  l:H p=some (.lst (L.map Ln.v))
  at':∀ c∈L,SdAt H c.p c.s
  ok:∀ c∈L,LOb d k c.s
theorem LsB.same{k:Nat}{p:Addr}{L:List Ln}(h:LsB d k H p L)(s:Same H H'):LsB d k H' p L:=⟨s _ _ h.l,λc hc=>s _ _ (h.at' c hc),h.ok⟩
theorem Lf{k:Nat}{L:List Ln}(ok:∀ c∈L,LOb d k c.s):∀ z∈L.map (λc=>c.s.z),1<=z/\Bd 890 z:=λz hz=>by
  obtain ⟨c,hc,e⟩:=bO.mp hz;subst e;exact ⟨(ok c hc).z1,(ok c hc).bz⟩
theorem FU{k:Nat}{L:List Ln}(ok:∀ c∈L,LOb d k c.s)(hb:Bd 890 (cbs (L.map λc=>c.s.z)))(i:Nat):1<=cbs ((L.take i).map λc=>c.s.z)/\Bd 890 (cbs ((L.take i).map λc=>c.s.z)):=by
  have z1:∀ z∈L.map (λc=>c.s.z),1<=z:=λz hz=>(Lf ok z hz).1;have a:1<=cbs ((L.take i).map λc:Ln=>c.s.z):=(uM ((L.take i).map λc:Ln=>c.s.z) 1 ⋯ λz hz=>z1 z (by rw [List.map_take] at hz; exact cJ hz)).1;have e:cbs (L.map λc=>c.s.z)=((L.drop i).map λc=>c.s.z).foldl lcmI (cbs ((L.take i).map λc=>c.s.z)):=by
    conv=>lhs; rw [<-eQ i L,ai]
    unfold cbs;rw [dn]
  obtain ⟨b1,b2,_⟩:=uM ((L.drop i).map λc:Ln=>c.s.z) (cbs ((L.take i).map λc:Ln=>c.s.z)) a λz hz=>z1 z (by rw [List.map_drop] at hz; exact List.mem_of_mem_drop hz);rw [<-e] at b1 b2;exact ⟨a,Bd.dvd_le hb b1 b2⟩
theorem Iq{k:Nat}{L:List Ln}(ok:∀ c∈L,LOb d k c.s):(∀ u∈L.map Ln.u,sgn d u.1 u.2=1)/\∀ u∈L.map Ln.u,Bd k u.1/\Bd k u.2:=by
  constructor
  . intro u hu;obtain ⟨c,hc,e⟩:=bO.mp hu;subst e;exact (ok c hc).up
  . intro u hu;obtain ⟨c,hc,e⟩:=bO.mp hu;subst e;exact ⟨(ok c hc).bx,(ok c hc).by'⟩
theorem IS{k:Nat}{L:List Ln}(ok:∀ c∈L,LOb d k c.s)(i:Nat):∀ c∈L.take i,LOb d k c.s:=λc hc=>ok c (cJ hc)
theorem II{i j:Int}(h:m=i\/m=j)(h1:m<=i)(h2:m<=j):m<0↔¬ (0<=i/\0<=j):=by lia
inductive P0(vs:List V)(H:Hp)(Q:VK)(E:XK):Prop
  | mk (i:Int) (_:vs=[.int i]) (_:Q (.bl true) H):P0 vs H Q E
theorem CJ{i:Int}{Q:VK}(q:Q (.bl true) H):P0 ([.int i]++[]) H Q E:=⟨i,rfl,q⟩
local macro_rules | `(tactic| walk_at "rd")=>`(tactic| with_reducible refine CJ ?_)
inductive P1(vs:List V)(H:Hp)(Q:VK)(E:XK):Prop
  | mk (a b:Int) (_:vs=[.int a,.int b]) (_:Bd 8192 b) (_:Q (.int (Int.gcd a b:Nat)) H):P1 vs H Q E
theorem wE{b:Int}{Q:VK}(hb:Bd 8192 b)(q:Q (.int (Int.gcd a b:Nat)) H):P1 ([.int a,.int b]++[]) H Q E:=⟨a,b,rfl,hb,q⟩
local macro_rules | `(tactic| walk_at "rd")=>`(tactic| ((with_reducible refine wE ?_ ?_); focus (walk_at "b8")))
inductive P2(vs:List V)(H:Hp)(Q:VK)(E:XK):Prop
  | mk (g n:Int) (_:vs=[.int g,.int n]) (_:Q (.int (if n<0 then -g else g)) H):P2 vs H Q E
theorem vB{g n:Int}{Q:VK}(q:Q (.int (if n<0 then -g else g)) H):P2 ([.int g,.int n]++[]) H Q E:=⟨g,n,rfl,q⟩
local macro_rules | `(tactic| walk_at "rd")=>`(tactic| with_reducible refine vB ?_)
inductive P3(vs:List V)(H:Hp)(Q:VK)(E:XK):Prop
  | mk {d a b:Int} (_:vs=[.int d,.int a,.int b]) (_:Bd 64 d) (_:Bd 8000 a) (_:Bd 8000 b) (_:Q (.bl (decide (0<sgn d a b))) H):P3 vs H Q E
abbrev xZ:=@P3.mk
inductive P4(vs:List V)(H:Hp)(Q:VK)(E:XK):Prop
  | mk (p p':Addr) (x y z x' y' z':Int) (_:vs=[.ref p,.ref p']) (_:H p=some (.tup [.int x,.int y,.int z])) (_:H p'=some (.tup [.int x',.int y',.int z'])) (_:(Bd 900 x/\Bd 900 y/\Bd 900 x'/\Bd 900 y')) (_:Q (.int (x*y' - y*x')) H):P4 vs H Q E
variable {p':Addr}{z':Int}
theorem vb{p:Addr}{x:Int}{Q:VK}(h1:H p=some (.tup [.int x,.int y,.int z]))(h2:H p'=some (.tup [.int x',.int y',.int z']))(b1:Bd 900 x)(b2:Bd 900 y)(b3:Bd 900 x')(b4:Bd 900 y')(q:Q (.int (x*y' - y*x')) H):P4 ([.ref p,.ref p']++[]) H Q E:=⟨p,p',x,y,z,x',y',z',rfl,h1,h2,⟨b1,b2,b3,b4⟩,q⟩
inductive P5(vs:List V)(H:Hp)(Q:VK)(E:XK):Prop
  | mk {a:Addr} {us:List Addr} {pc:List Pc} {u:Nat} (_:vs=[.ref a,.int (u:Int)]) (_:H a=some (.lst (us.map V.ref))) (_:PcAt H us pc) (_:pc.length<=100) (_:u<=1000) (_:(∀ (r:Addr) (ps:List Addr) (H':Hp),Same H H'->H r=none->H' r=some (.lst (ps.map V.ref))->Runs H' ps (gth u pc pc.length)->Q (.ref r) H')):P5 vs H Q E
abbrev vo:=@P5.mk
inductive P6(vs:List V)(H:Hp)(Q:VK)(E:XK):Prop
  | mk {p:Addr} {e:Dd} (_:vs=[.ref p]) (_:DdAt H p e) (_:∀ (r:Addr) (H':Hp),Same H H'->H r=none->H' r=some (.lst (e.names.map V.int))->Q (.ref r) H'):P6 vs H Q E
abbrev yV:=@P6.mk
inductive P7(vs:List V)(H:Hp)(Q:VK)(E:XK):Prop
  | mk {p:Addr} {e:Dd} (_:vs=[.ref p]) (_:DdAt H p e) (_:Q (.int (e.puts:Nat)) H):P7 vs H Q E
abbrev z9:=@P7.mk
inductive P8(vs:List V)(H:Hp)(Q:VK)(E:XK):Prop
  | mk {c:Cell} (_:vs=[.ref c.p]) (_:c.At H) (_:∀ (r:Addr) (H':Hp),Same H H'->H r=none->Cell.At H' ⟨r,c.ph,c.pw,⟨c.b.h,c.b.w⟩⟩->Q (.ref r) H'):P8 vs H Q E
abbrev yI:=@P8.mk
inductive P9(vs:List V)(H:Hp)(Q:VK)(E:XK):Prop
  | mk {a:Addr} {ms ts:List Nat} (_:vs=[.ref a]) (_:H a=some (.lst ((ms.map λn:Nat=>(n:Int)).map V.int))) (_:ms.Perm ts) (_:ts.Pairwise (· < ·)) (_:ts.length<64) (_:(∀ (r:Addr) (H':Hp),Same H H'->H r=none->H' r=some (.lst (((ms.map (rk ts)).map λn:Nat=>(n:Int)).map V.int))->Q (.ref r) H')):P9 vs H Q E
abbrev AJ:=@P9.mk
inductive P10(vs:List V)(H:Hp)(Q:VK)(E:XK):Prop
  | mk {p a:Addr} {e:Dd} {r:Nat->Nat} {k:Nat} (_:vs=[.ref p,.ref a]) (_:DdAt H p e) (_:e.isT=false) (_:H a=some (.lst (nmI r k))) (_:(∀ m∈e.names,∃ n,n<k/\m=((n:Nat):Int))) (_:(∀ (b:Addr) (H':Hp),Same H H'->H b=none->DdAt H' b (e.rn r)->Q (.ref b) H')):P10 vs H Q E
abbrev tF:=@P10.mk
inductive P11(vs:List V)(H:Hp)(Q:VK)(E:XK):Prop
  | mk {p:Addr} {t:Tb} (_:vs=[.ref p]) (_:TbAt H p t) (_:∀ (r:Addr) (H':Hp),Same H H'->TbAt H' r (t.tr)->Q (.ref r) H'):P11 vs H Q E
abbrev Lp:=@P11.mk
inductive P12(vs:List V)(H:Hp)(Q:VK)(E:XK):Prop
  | mk {p:Addr} {t:Tb} (_:vs=[.ref p]) (_:TbAt H p t) (_:t.Bt 3000 3000) (_:Q (.int (uX t)) H):P12 vs H Q E
abbrev Iv:=@P12.mk
inductive P13(vs:List V)(H:Hp)(Q:VK)(E:XK):Prop
  | mk {p p':Addr} {s t:Tb} (_:vs=[.ref p,.ref p']) (_:TbAt H p s) (_:TbAt H p' t) (_:(s=t->Q .non H)) (_:(∀ (r:Addr) (H':Hp) (i j:Nat),Same H H'->H' r=some (.tup [.int (i:Int),.int (j:Int)])->Fu s t i j->Q (.ref r) H')):P13 vs H Q E
abbrev vC:=@P13.mk
inductive P14(cs:Cs)(vs:List V)(H:Hp)(Q:VK)(E:XK):Prop
  | mk {w h:Nat} (_:vs=[.int (w:Int),.int (h:Int)]) (_:(Bd 900 (w:Int)/\Bd 900 (h:Int))) (_:(tot (eu w h)<=400->∀ (r:Addr) (H':Hp) (T:List StC),Same H H'->H' r=some (.lst (T.map StC.v))->(∀ t∈T,t.At H')->T.map StC.pr=eu w h->(T.map StC.t3=euW w h/\∀ t∈T,t.w="along"\/t.w="across")->Q (.ref r) H')) (_:(400<tot (eu w h)->(∀ H',Same H H'->E (.ref cs.TooMany) none H'))):P14 cs vs H Q E
abbrev FY:=@P14.mk
inductive P15(K:iL)(vs:List V)(H:Hp)(Q:VK)(E:XK):Prop
  | mk {p:Addr} {ns:List Int} {k:Int} (_:vs=[.ref p,.int k]) (_:SqL K H p (ns.map V.int)) (_:0<=k) (_:∀ c:Int,Q (.int c) H):P15 K vs H Q E
abbrev Bh:=@P15.mk
inductive P16(vs:List V)(H:Hp)(Q:VK)(E:XK):Prop
  | mk {c k:Int} (_:vs=[.int c,.int k]) (_:0<=k) (_:k<=1000) (_:∀ r:Int,0<=r->r<2147483629->Q (.int r) H):P16 vs H Q E
abbrev wy:=@P16.mk
inductive P17(vs:List V)(H:Hp)(Q:VK)(E:XK):Prop
  | mk {a b:Int} (_:vs=[.int a,.int b]) (_:0<=a) (_:0<=b) (_:Q (.int (Int.gcd a b:Nat)) H):P17 vs H Q E
abbrev vx:=@P17.mk
inductive P18(vs:List V)(H:Hp)(Q:VK)(E:XK):Prop
  | mk (d:Int) (p p':Addr) (f g f' g':Int) (_:vs=[.int d,.ref p,.ref p']) (_:H p=some (.tup [.int f,.int g])) (_:H p'=some (.tup [.int f',.int g'])) (_:Rt d) (_:(Bd 700 f/\Bd 700 g/\Bd 700 f'/\Bd 700 g')) (_:Q (.bl (decide (0<sgn d (f*g') (f'*g)))) H):P18 vs H Q E
theorem wq{p:Addr}{f g f' g':Int}{Q:VK}(h:H p=some (.tup [.int f,.int g])/\H p'=some (.tup [.int f',.int g'])/\Rt d/\(Bd 700 f/\Bd 700 g/\Bd 700 f'/\Bd 700 g'))(q:Q (.bl (decide (0<sgn d (f*g') (f'*g)))) H):P18 ([.int d,.ref p,.ref p']++[]) H Q E:=⟨d,p,p',f,g,f',g',rfl,h.1,h.2.1,h.2.2.1,h.2.2.2,q⟩
inductive P19(vs:List V)(H:Hp)(Q:VK)(E:XK):Prop
  | mk {w h:Nat} (_:vs=[.int (w:Int),.int (h:Int)]) (_:(w<=900/\h<=90)) (_:∀ (r:Addr) (H':Hp) (T:List StC),Same H H'->H' r=some (.lst (T.map StC.v))->(∀ t∈T,t.Al H')->T.map StC.pr=eu w h->Q (.ref r) H'):P19 vs H Q E
abbrev AG:=@P19.mk
inductive P20(cs:Cs)(vs:List V)(H:Hp)(Q:VK)(E:XK):Prop
  | mk (p dx hp:Addr) (d:Int) (tn:Bool) (cl:List Cell) (_:vs=[.ref p,.int d,.ref hp,.bl tn]) (_:H p=some (.ins cs.Yard dx [])) (_:H hp=some (.lst (cl.map Cell.v))) (_:(∀ c∈cl,c.At H)) (_:cl.length<=60) (_:∀ (y:Yd) (H':Hp),y.p=p->y.dx=dx->(∀ b o,H b=some o->b≠p->H' b=some o)->YdAt cs.Yard H' y d tn cl (List.range cl.length) []->H y.k=none->H y.l=none->H y.t=none->Q .non H'):P20 cs vs H Q E
theorem vj{cs:Cs}{x hp:Addr}{H1:Hp}{Q:VK}(hv:vs=[.ref x,.int d,.ref hp,.bl tn])(n1:H1 x=none)(n2:H1 dx=none)(hh:H1 hp=some (.lst (cl.map Cell.v)))(hat:∀ c∈cl,c.At H1)(hl:cl.length<=60)(q:∀ (y:Yd) (H':Hp),y.p=x->Same H1 H'->YdAt cs.Yard H' y d tn cl (List.range cl.length) []->H1 y.k=none->H1 y.l=none->H1 y.t=none->Q .non H') : P20 cs vs (upd (upd H1 dx (.own x)) x (.ins cs.Yard dx [])) Q E:=by
  subst hv;have k:∀ b o,H1 b=some o->(upd (upd H1 dx (.own x)) x (.ins cs.Yard dx [])) b=some o:=λb o e=>by
    rw [zm (zc e n1),zm (zc e n2)]; exact e
  have nn:∀ b,(upd (upd H1 dx (.own x)) x (.ins cs.Yard dx [])) b=none->H1 b=none:=λb h=>by
    cases e:H1 b with
    | none=>rfl
    | some o=>rw [k b o e] at h; cases h
  exact ⟨x,dx,hp,d,tn,cl,rfl,zk,k _ _ hh,λc hc=>⟨k _ _ (hat c hc).t,k _ _ (hat c hc).w,k _ _ (hat c hc).h⟩,hl,λy H' e1 _ fr hy h1 h2 h3=>q y H' e1 (λb o e=>fr b o (k b o e) (zc e n1)) hy (nn _ h1) (nn _ h2) (nn _ h3)⟩
inductive P21(cs:Cs)(vs:List V)(H:Hp)(Q:VK)(E:XK):Prop
  | mk {y:Yd} {d:Int} {tn:Bool} {cl:List Cell} {ns:List Nat} {lg:List V} {n:Nat} {c:Cell} (_:vs=[.ref y.p,.int (n:Int)]) (_:YdAt cs.Yard H y d tn cl ns lg) (_:cl[n]?=some c) (_:Q (.ref c.p) H):P21 cs vs H Q E
abbrev wc:=@P21.mk
inductive P22(cs:Cs)(vs:List V)(H:Hp)(Q:VK)(E:XK):Prop
  | mk {y:Yd} {d:Int} {tn:Bool} {cl:List Cell} {ns:List Nat} {lg:List V} (_:vs=[.ref y.p]) (_:YdAt cs.Yard H y d tn cl ns lg) (_:∀ (r:Addr) (H':Hp) (ps:List Addr),Same H H'->H r=none->H' r=some (.lst (ps.map V.ref))->Prs cl ns H' ps->Q (.ref r) H'):P22 cs vs H Q E
abbrev uv:=@P22.mk
inductive P23(vs:List V)(H:Hp)(Q:VK)(E:XK):Prop
  | mk (a b n:Int) (_:vs=[.int a,.int b,.int n]) (_:n≠0) (_:Bd 8000 n) (_:(Bd 8192 a/\Bd 8192 b)) (_:∀ p H',Same H H'->H' p=some (.tup [.int (lA a b n),.int (lB a b n),.int (lN a b n)])->Q (.ref p) H'):P23 vs H Q E
theorem zO{b n:Int}{Q:VK}(e:vs=[.int a,.int b,.int n])(hn:n≠0)(hb:Bd 8000 n)(q:∀ p H',Same H H'->H' p=some (.tup [.int (lA a b n),.int (lB a b n),.int (lN a b n)])->Q (.ref p) H')(ha8:Bd 8192 a:=by walk_at "b8")(hb8:Bd 8192 b:=by walk_at "b8"):P23 vs H Q E:=⟨a,b,n,e,hn,hb,⟨ha8,hb8⟩,q⟩
inductive P24(vs:List V)(H:Hp)(Q:VK)(E:XK):Prop
  | mk (t b:Int) (_:vs=[.int t,.int b]) (_:b≠0) (_:Bd 8000 b) (_:∀ (r:Addr) (H':Hp),Same H H'->H' r=some (.tup [.int (fT t b),.int (fB t b)])->Q (.ref r) H'):P24 vs H Q E
theorem wm{t b:Int}{Q:VK}(e:vs=[.int t,.int b])(hn:b≠0)(hb:Bd 8000 b)(q:∀ (r:Addr) (H':Hp),Same H H'->H' r=some (.tup [.int (fT t b),.int (fB t b)])->Q (.ref r) H'):P24 vs H Q E:=⟨t,b,e,hn,hb,q⟩
inductive P25(vs:List V)(H:Hp)(Q:VK)(E:XK):Prop
  | mk (p p':Addr) (t b t' b':Int) (_:vs=[.ref p,.ref p']) (_:H p=some (.tup [.int t,.int b])) (_:H p'=some (.tup [.int t',.int b'])) (_:1<=b) (_:1<=b') (_:Int.gcd t b=1) (_:Int.gcd t' b'=1) (_:(Bd 3900 t/\Bd 3900 b/\Bd 3900 t'/\Bd 3900 b')) (_:∀ (r:Addr) (H':Hp),Same H H'->H' r=some (.tup [.int (lA (t*b') (t'*b) (b*b')),.int (lB (t*b') (t'*b) (b*b')),.int (lN (t*b') (t'*b) (b*b'))])->Q (.ref r) H'):P25 vs H Q E
theorem xX{p:Addr}{t b t':Int}{Q:VK}(h1:H p=some (.tup [.int t,.int b]))(h2:H p'=some (.tup [.int t',.int b']))(n1:1<=b)(n2:1<=b')(k1:Int.gcd t b=1)(k2:Int.gcd t' b'=1)(b1:Bd 3900 t)(b2:Bd 3900 b)(b3:Bd 3900 t')(b4:Bd 3900 b')(q:∀ (r:Addr) (H':Hp),Same H H'->H' r=some (.tup [.int (lA (t*b') (t'*b) (b*b')),.int (lB (t*b') (t'*b) (b*b')),.int (lN (t*b') (t'*b) (b*b'))])->Q (.ref r) H'):P25 ([.ref p,.ref p']++[]) H Q E:=⟨p,p',t,b,t',b',rfl,h1,h2,n1,n2,k1,k2,⟨b1,b2,b3,b4⟩,q⟩
inductive P26(K:iL)(vs:List V)(H:Hp)(Q:VK)(E:XK):Prop
  | mk (p q:Addr) (x y z x' y' z':Int) (_:vs=[.ref p,.ref q]) (_:SqT K H p [.int x,.int y,.int z]) (_:H q=some (.tup [.int x',.int y',.int z'])) (_:1<=z) (_:1<=z') (_:g3 x y z=1) (_:g3 x' y' z'=1) (_:(Bd 3900 x/\Bd 3900 y/\Bd 3900 z/\Bd 3900 x'/\Bd 3900 y'/\Bd 3900 z')) (_:∀ (r:Addr) (H':Hp),Same H H'->H' r=some (.tup [.int (lA (x*z'+x'*z) (y*z'+y'*z) (z*z')),.int (lB (x*z'+x'*z) (y*z'+y'*z) (z*z')),.int (lN (x*z'+x'*z) (y*z'+y'*z) (z*z'))])->Q (.ref r) H'):P26 K vs H Q E
theorem CY{K:iL}{p:Addr}{x:Int}{Q:VK}(h1:SqT K H p [.int x,.int y,.int z])(h2:H p'=some (.tup [.int x',.int y',.int z']))(n1:1<=z)(n2:1<=z')(k1:g3 x y z=1)(k2:g3 x' y' z'=1)(b1:Bd 3900 x)(b2:Bd 3900 y)(b3:Bd 3900 z)(b4:Bd 3900 x')(b5:Bd 3900 y')(b6:Bd 3900 z')(q:∀ (r:Addr) (H':Hp),Same H H'->H' r=some (.tup [.int (lA (x*z'+x'*z) (y*z'+y'*z) (z*z')),.int (lB (x*z'+x'*z) (y*z'+y'*z) (z*z')),.int (lN (x*z'+x'*z) (y*z'+y'*z) (z*z'))])->Q (.ref r) H'):P26 K ([.ref p,.ref p']++[]) H Q E:=⟨p,p',x,y,z,x',y',z',rfl,h1,h2,n1,n2,k1,k2,⟨b1,b2,b3,b4,b5,b6⟩,q⟩
inductive P27(K:iL)(vs:List V)(H:Hp)(Q:VK)(E:XK):Prop
  | mk (d:Int) (p p':Addr) (x y z x' y' z':Int) (_:vs=[.int d,.ref p,.ref p']) (_:SqT K H p [.int x,.int y,.int z]) (_:SqT K H p' [.int x',.int y',.int z']) (_:Bd 64 d) (_:(Bd 2500 x/\Bd 2500 y/\Bd 2500 z/\Bd 2500 x'/\Bd 2500 y'/\Bd 2500 z')) (_:Q (.bl (decide (0<sgn d (x'*z - x*z') (y'*z - y*z')))) H):P27 K vs H Q E
theorem AW{K:iL}{p:Addr}{x:Int}{Q:VK}(h1:SqT K H p [.int x,.int y,.int z])(h2:H p'=some (.tup [.int x',.int y',.int z']))(hd:Bd 64 d)(b1:Bd 2500 x)(b2:Bd 2500 y)(b3:Bd 2500 z)(b4:Bd 2500 x')(b5:Bd 2500 y')(b6:Bd 2500 z')(q:Q (.bl (decide (0<sgn d (x'*z - x*z') (y'*z - y*z')))) H):P27 K ([.int d,.ref p,.ref p']++[]) H Q E:=⟨d,p,p',x,y,z,x',y',z',rfl,h1,SqT.of h2,hd,⟨b1,b2,b3,b4,b5,b6⟩,q⟩
theorem GD{K:iL}{p:Addr}{x:Int}{Q:VK}(h1:SqT K H p [.int x,.int y,.int z])(h2:SqT K H p' [.int x',.int y',.int z'])(hd:Bd 64 d)(b1:Bd 2500 x)(b2:Bd 2500 y)(b3:Bd 2500 z)(b4:Bd 2500 x')(b5:Bd 2500 y')(b6:Bd 2500 z')(q:Q (.bl (decide (0<sgn d (x'*z - x*z') (y'*z - y*z')))) H):P27 K ([.int d,.ref p,.ref p']++[]) H Q E:=⟨d,p,p',x,y,z,x',y',z',rfl,h1,h2,hd,⟨b1,b2,b3,b4,b5,b6⟩,q⟩
inductive P28(vs:List V)(H:Hp)(Q:VK)(E:XK):Prop
  | mk (d d':Int) (p r1 r2 o:Addr) (s:B4) (N x y:Int) (_:vs=[.int d,.ref p,.ref o]) (_:BsAt H p r1 r2 s N) (_:H o=some (.tup [.int (lA x y N),.int (lB x y N),.int (lN x y N)])) (_:1<=N) (_:Bd 900 N) (_:GB d' 900 s) (_:(Bd 900 x/\Bd 900 y)) (_:∀ (r:Addr) (H':Hp),Same H H'->H' r=some (.tup [.int (s.i x y),.int (s.j x y)])->Q (.ref r) H'):P28 vs H Q E
variable {r1 r2:Addr}
theorem BD{d':Int}{p o:Addr}{s:B4}{N x:Int}{Q:VK}(h:BsAt H p r1 r2 s N)(ho:H o=some (.tup [.int (lA x y N),.int (lB x y N),.int (lN x y N)]))(hN:1<=N)(hb:Bd 900 N)(g:GB d' 900 s)(bx:Bd 900 x)(by':Bd 900 y)(q:∀ (r:Addr) (H':Hp),Same H H'->H' r=some (.tup [.int (s.i x y),.int (s.j x y)])->Q (.ref r) H'):P28 ([.int d,.ref p,.ref o]++[]) H Q E:=⟨d,d',p,r1,r2,o,s,N,x,y,rfl,h,ho,hN,hb,g,⟨bx,by'⟩,q⟩
inductive P29(K:iL)(vs:List V)(H:Hp)(Q:VK)(E:XK):Prop
  | mk {d:Int} {k:Nat} {p:Addr} {L:List Ln} (_:vs=[.ref p]) (_:LsB d k H p L) (_:L.length<=40) (_:Bd 890 (cbs (L.map λc=>c.s.z))) (_:Q (.int (cbs (L.map λc=>c.s.z))) H):P29 K vs H Q E
abbrev wR:=@P29.mk
inductive P30(cs:Cs)(vs:List V)(H:Hp)(Q:VK)(E:XK):Prop
  | mk {y:Yd} {d:Int} {tn:Bool} {cl:List Cell} {ns:List Nat} {lg:List V} {p a:Addr} {e:Dd} {n:Nat} {c:Cell} {m m':Int} (_:vs=[.ref y.p,.ref p,.ref a]) (_:YdAt cs.Yard H y d tn cl ns lg) (_:DdAt H p e) (_:H a=some (.lst (if e.puts=2 then [.int m,.int m'] else [.int m]))) (_:e.n=(n:Int)) (_:cl[n]?=some c) (_:(∀ (r:Addr) (H':Hp),Same H H'->H r=none->DdAt H' r (e.und m m' c.b)->Q (.ref r) H')):P30 cs vs H Q E
abbrev Fm:=@P30.mk
inductive P31(vs:List V)(H:Hp)(Q:VK)(E:XK):Prop
  | mk {pl:Addr} {ps:List Addr} {bs:List Bo} {es:DL} {d:Int} {tn:Bool} (_:vs=[.int ((bs.length:Nat):Int),.ref pl]) (_:1<=bs.length) (_:bs.length<=30) (_:H pl=some (.lst (ps.map V.ref))) (_:ps.length<=150) (_:Runs H ps es) (_:Walk d tn (As.sb bs) es) (_:(∀ (r:Addr) (H':Hp),Same H H'->H r=none->H' r=some (.lst (((ends (As.sb bs) es).ns.map λn:Nat=>(n:Int)).map V.int))->Q (.ref r) H')):P31 vs H Q E
abbrev vA:=@P31.mk
inductive P32(K:iL)(vs:List V)(H:Hp)(Q:VK)(E:XK):Prop
  | mk (p p':Addr) (x y:Rat) (_:vs=[.ref p,.ref p']) (_:Fs K H p x) (_:Fq H p' y) (_:(Bq 8000 x/\Bq 8000 y)) (_:∀ (r:Addr) (H':Hp),Same H H'->Fq H' r (x+y)->Q (.ref r) H'):P32 K vs H Q E
theorem va{K:iL}{p:Addr}{x y:Rat}{Q:VK}(h1:Fs K H p x)(h2:Fq H p' y)(b1:Bq 8000 x)(b2:Bq 8000 y)(q:∀ (r:Addr) (H':Hp),Same H H'->Fq H' r (x+y)->Q (.ref r) H'):P32 K ([.ref p,.ref p']++[]) H Q E:=⟨p,p',x,y,rfl,h1,h2,⟨b1,b2⟩,q⟩
theorem Ka{K:iL}{p:Addr}{x y:Rat}{Q:VK}(h1:Fq H p x)(h2:Fq H p' y)(b1:Bq 8000 x)(b2:Bq 8000 y)(q:∀ (r:Addr) (H':Hp),Same H H'->Fq H' r (x+y)->Q (.ref r) H'):P32 K ([.ref p,.ref p']++[]) H Q E:=va (SqT.of h1) h2 b1 b2 q
inductive P33(vs:List V)(H:Hp)(Q:VK)(E:XK):Prop
  | mk (p p':Addr) (x y:Rat) (_:vs=[.ref p,.ref p']) (_:Fq H p x) (_:Fq H p' y) (_:(Bq 8000 x/\Bq 8000 y)) (_:∀ (r:Addr) (H':Hp),Same H H'->Fq H' r (x*y)->Q (.ref r) H'):P33 vs H Q E
theorem wf{p:Addr}{x y:Rat}{Q:VK}(h1:Fq H p x)(h2:Fq H p' y)(b1:Bq 8000 x)(b2:Bq 8000 y)(q:∀ (r:Addr) (H':Hp),Same H H'->Fq H' r (x*y)->Q (.ref r) H'):P33 ([.ref p,.ref p']++[]) H Q E:=⟨p,p',x,y,rfl,h1,h2,⟨b1,b2⟩,q⟩
inductive P34(K:iL)(vs:List V)(H:Hp)(Q:VK)(E:XK):Prop
  | mk {p:Addr} {ns:List Int} (_:vs=[.ref p]) (_:SqL K H p (ns.map V.int)) (_:∀ (d:Int) (H':Hp),Rt d->Same H H'->Q (.int d) H'):P34 K vs H Q E
abbrev A0:=@P34.mk
inductive P35(vs:List V)(H:Hp)(Q:VK)(E:XK):Prop
  | mk (n:Int) (g:Bool) (_:vs=[.int n,.bl g]) (_:(0<=n/\n<2147483629)) (_:∀ (r:Addr) (H':Hp) (t b:Int),Same H H'->H' r=some (.tup [.int t,.int b])->1<=b->Int.gcd t b=1->Bd 110 t->Bd 110 b->Q (.ref r) H'):P35 vs H Q E
theorem xk{n:Int}{g:Bool}{Q:VK}(n0:0<=n)(n1:n<2147483629)(q:∀ (r:Addr) (H':Hp) (t b:Int),Same H H'->H' r=some (.tup [.int t,.int b])->1<=b->Int.gcd t b=1->Bd 110 t->Bd 110 b->Q (.ref r) H'):P35 ([.int n,.bl g]++[]) H Q E:=⟨n,g,rfl,⟨n0,n1⟩,q⟩
inductive P36(K:iL)(vs:List V)(H:Hp)(Q:VK)(E:XK):Prop
  | mk {w h:Nat} (_:vs=[.int (w:Int),.int (h:Int)]) (_:(w<=900/\h<=90)) (_:(∀ (r:Addr) (H':Hp),Same H H'->H' r=some (.lst ((if tot (eu w h)<=400 then [((tot (eu w h):Nat):Int)] else []).map V.int))->Q (.ref r) H')):P36 K vs H Q E
abbrev CM:=@P36.mk
inductive P37(cs:Cs)(vs:List V)(H:Hp)(Q:VK)(E:XK):Prop
  | mk {y:Yd} {d:Int} {tn:Bool} {cl:List Cell} {ns:List Nat} {lg:List V} {a:Addr} {ms:List Int} (_:vs=[.ref y.p,.ref a]) (_:YdAt cs.Yard H y d tn cl ns lg) (_:H a=some (.lst (ms.map V.int))) (_:(∀ m∈ms,∃ n∈ns,m=(n:Int))) (_:ms.Nodup) (_:ms.length<=2) (_:Q .non H):P37 cs vs H Q E
abbrev xL:=@P37.mk
inductive P38(vs:List V)(H:Hp)(Q:VK)(E:XK):Prop
  | mk {p:Addr} {a b n:Int} (_:vs=[.ref p]) (_:H p=some (.tup [.int a,.int b,.int n])) (_:n≠0) (_:Bd 8000 n) (_:∀ (r r1 r2:Addr) (H':Hp),Same H H'->H' r=some (.tup [.ref r1,.ref r2])->H' r1=some (.tup [.int (fT a n),.int (fB a n)])->H' r2=some (.tup [.int (fT b n),.int (fB b n)])->Q (.ref r) H'):P38 vs H Q E
abbrev D9:=@P38.mk
inductive P39(vs:List V)(H:Hp)(Q:VK)(E:XK):Prop
  | mk (p q:Addr) (x y z x' y' z':Int) (_:vs=[.ref p,.ref q]) (_:H p=some (.tup [.int x,.int y,.int z])) (_:H q=some (.tup [.int x',.int y',.int z'])) (_:1<=z) (_:1<=z') (_:g3 x y z=1) (_:g3 x' y' z'=1) (_:(Bd 3900 x/\Bd 3900 y/\Bd 3900 z/\Bd 3900 x'/\Bd 3900 y'/\Bd 3900 z')) (_:∀ (r:Addr) (H':Hp),Same H H'->H' r=some (.tup [.int (lA (x*z'+-x'*z) (y*z'+-y'*z) (z*z')),.int (lB (x*z'+-x'*z) (y*z'+-y'*z) (z*z')),.int (lN (x*z'+-x'*z) (y*z'+-y'*z) (z*z'))])->Q (.ref r) H'):P39 vs H Q E
theorem AB{p:Addr}{x:Int}{Q:VK}(h1:H p=some (.tup [.int x,.int y,.int z]))(h2:H p'=some (.tup [.int x',.int y',.int z']))(n1:1<=z)(n2:1<=z')(k1:g3 x y z=1)(k2:g3 x' y' z'=1)(b1:Bd 3900 x)(b2:Bd 3900 y)(b3:Bd 3900 z)(b4:Bd 3900 x')(b5:Bd 3900 y')(b6:Bd 3900 z')(q:∀ (r:Addr) (H':Hp),Same H H'->H' r=some (.tup [.int (lA (x*z'+-x'*z) (y*z'+-y'*z) (z*z')),.int (lB (x*z'+-x'*z) (y*z'+-y'*z) (z*z')),.int (lN (x*z'+-x'*z) (y*z'+-y'*z) (z*z'))])->Q (.ref r) H'):P39 ([.ref p,.ref p']++[]) H Q E:=⟨p,p',x,y,z,x',y',z',rfl,h1,h2,n1,n2,k1,k2,⟨b1,b2,b3,b4,b5,b6⟩,q⟩
inductive P40(vs:List V)(H:Hp)(Q:VK)(E:XK):Prop
  | mk (d:Int) (p p':Addr) (x y z x' y' z':Int) (_:vs=[.int d,.ref p,.ref p']) (_:H p=some (.tup [.int x,.int y,.int z])) (_:H p'=some (.tup [.int x',.int y',.int z'])) (_:Bd 64 d) (_:(Bd 1990 x/\Bd 1990 y/\Bd 1990 z/\Bd 1990 x'/\Bd 1990 y'/\Bd 1990 z')) (_:z≠0) (_:z'≠0) (_:∀ (r:Addr) (H':Hp),Same H H'->H' r=some (.tup [.int (lA (x*x'+d*y*y') (x*y'+y*x') (z*z')),.int (lB (x*x'+d*y*y') (x*y'+y*x') (z*z')),.int (lN (x*x'+d*y*y') (x*y'+y*x') (z*z'))])->Q (.ref r) H'):P40 vs H Q E
theorem Au{p:Addr}{x:Int}{Q:VK}(h1:H p=some (.tup [.int x,.int y,.int z]))(h2:H p'=some (.tup [.int x',.int y',.int z']))(hd:Bd 64 d)(b1:Bd 1990 x)(b2:Bd 1990 y)(b3:Bd 1990 z)(b4:Bd 1990 x')(b5:Bd 1990 y')(b6:Bd 1990 z')(n1:z≠0)(n2:z'≠0)(q:∀ (r:Addr) (H':Hp),Same H H'->H' r=some (.tup [.int (lA (x*x'+d*y*y') (x*y'+y*x') (z*z')),.int (lB (x*x'+d*y*y') (x*y'+y*x') (z*z')),.int (lN (x*x'+d*y*y') (x*y'+y*x') (z*z'))])->Q (.ref r) H'):P40 ([.int d,.ref p,.ref p']++[]) H Q E:=⟨d,p,p',x,y,z,x',y',z',rfl,h1,h2,hd,⟨b1,b2,b3,b4,b5,b6⟩,n1,n2,q⟩
inductive P41(vs:List V)(H:Hp)(Q:VK)(E:XK):Prop
  | mk {d N:Int} (_:vs=[.int d,.int N]) (_:1<=N) (_:Bd 900 N) (_:∀ (p' r1' r2':Addr) (H':Hp),Same H H'->BsAt H' p' r1' r2' b4 N->Q (.ref p') H'):P41 vs H Q E
abbrev Ae:=@P41.mk
inductive P42(vs:List V)(H:Hp)(Q:VK)(E:XK):Prop
  | mk {p:Addr} {s:Sd} (_:vs=[.ref p]) (_:SdAt H p s) (_:SK 2400 2100 s) (_:∀ H',Same H H'->Q (.bl true) H'):P42 vs H Q E
abbrev AO:=@P42.mk
inductive P43(vs:List V)(H:Hp)(Q:VK)(E:XK):Prop
  | mk {c c':Cell} (_:vs=[.ref c.p,.ref c'.p]) (_:c.At H) (_:c'.At H) (_:c.b.h=c'.b.h) (_:SY c.b.w) (_:SY c'.b.w) (_:∀ (c1:Cell) (H':Hp),Same H H'->H c1.p=none->c1.At H'->c1.b=⟨adS c.b.w c'.b.w,c.b.h⟩->Q (.ref c1.p) H'):P43 vs H Q E
abbrev xz:=@P43.mk
inductive P44(vs:List V)(H:Hp)(Q:VK)(E:XK):Prop
  | mk {c:Cell} {k:Int} (_:vs=[.ref c.p,.int k]) (_:c.At H) (_:1<=k) (_:Bd 1024 k) (_:SY c.b.w) (_:SY c.b.h) (_:∀ (c1:Cell) (H':Hp),Same H H'->H c1.p=none->c1.At H'->c1.b=⟨shS c.b.w 1 k,shS c.b.h k 1⟩->Q (.ref c1.p) H'):P44 vs H Q E
abbrev tZ:=@P44.mk
inductive P45(vs:List V)(H:Hp)(Q:VK)(E:XK):Prop
  | mk {pl ml:Addr} {ps ms:List Addr} {bs F:List Bo} {es fs:DL} {d:Int} {tn:Bool} (_:vs=[.int ((bs.length:Nat):Int),.ref pl,.ref ml]) (_:1<=bs.length) (_:bs.length<=30) (_:H pl=some (.lst (ps.map V.ref))) (_:ps.length<=150) (_:Runs H ps es) (_:Walk d tn (As.sb bs) es) (_:H ml=some (.lst (ms.map V.ref))) (_:ms.length<=400) (_:Runs H ms fs) (_:(ends (As.sb bs) es).ns.map (ends (As.sb bs) es).g=F) (_:Walk d false (As.sb F) fs) (_:(∀ (b:Addr) (qs:List Addr) (H':Hp),Same H H'->H b=none->H' b=some (.lst ((ps++qs).map V.ref))->Runs H' (ps++qs) (es++fs.map (rnx (nmr (ends (As.sb bs) es))))->Q (.ref b) H')):P45 vs H Q E
abbrev vV:=@P45.mk
inductive P46(vs:List V)(H:Hp)(Q:VK)(E:XK):Prop
  | mk (p p':Addr) (x y:Rat) (_:vs=[.ref p,.ref p']) (_:Fq H p x) (_:Fq H p' y) (_:(Bq 8000 x/\Bq 8000 y)) (_:∀ (r:Addr) (H':Hp),Same H H'->Fq H' r (x - y)->Q (.ref r) H'):P46 vs H Q E
theorem Jq{p:Addr}{x y:Rat}{Q:VK}(h1:Fq H p x)(h2:Fq H p' y)(b1:Bq 8000 x)(b2:Bq 8000 y)(q:∀ (r:Addr) (H':Hp),Same H H'->Fq H' r (x - y)->Q (.ref r) H'):P46 ([.ref p,.ref p']++[]) H Q E:=⟨p,p',x,y,rfl,h1,h2,⟨b1,b2⟩,q⟩
inductive P47(vs:List V)(H:Hp)(Q:VK)(E:XK):Prop
  | mk (p p':Addr) (x y:Rat) (_:vs=[.ref p,.ref p']) (_:Fq H p x) (_:Fq H p' y) (_:y.num≠0) (_:(Bq 8000 x/\Bq 8000 y)) (_:∀ (r:Addr) (H':Hp),Same H H'->Fq H' r (x*y⁻¹)->Q (.ref r) H'):P47 vs H Q E
theorem c_by{p:Addr}{x y:Rat}{Q:VK}(h1:Fq H p x)(h2:Fq H p' y)(b1:Bq 8000 x)(b2:Bq 8000 y)(hy:y.num≠0)(q:∀ (r:Addr) (H':Hp),Same H H'->Fq H' r (x*y⁻¹)->Q (.ref r) H'):P47 ([.ref p,.ref p']++[]) H Q E:=⟨p,p',x,y,rfl,h1,h2,hy,⟨b1,b2⟩,q⟩
inductive P48(K:iL)(vs:List V)(H:Hp)(Q:VK)(E:XK):Prop
  | mk {p p':Addr} {s t:Tb} (_:vs=[.ref p,.ref p']) (_:(∃ r0 r1 f0 f1 f2 f3:Addr,TbS K H p r0 r1 f0 f1 f2 f3 s)) (_:TbAt H p' t) (_:s.Bt 4000 4000) (_:t.Bt 4000 4000) (_:∀ (r:Addr) (H':Hp),Same H H'->TbAt H' r (s.add t)->Q (.ref r) H'):P48 K vs H Q E
abbrev CN:=@P48.mk
inductive P49(vs:List V)(H:Hp)(Q:VK)(E:XK):Prop
  | mk {d n:Int} (_:vs=[.int d,.int n,.bl false]) (_:(0<=n/\n<2147483629)) (_:Rt d) (_:∀ (r r1 r2:Addr) (H':Hp) (t b t' b':Int),Same H H'->H' r=some (.tup [.ref r1,.ref r2])->H' r1=some (.tup [.int t,.int b])->H' r2=some (.tup [.int t',.int b'])->(1<=b/\1<=b')->(Int.gcd t b=1/\Int.gcd t' b'=1)->(Bd 110 t/\Bd 110 b/\Bd 110 t'/\Bd 110 b')->sgn d (t*b') (t'*b)=1->Q (.ref r) H'):P49 vs H Q E
abbrev Av:=@P49.mk
inductive P50(vs:List V)(H:Hp)(Q:VK)(E:XK):Prop
  | mk (d:Int) (p p':Addr) (x y z x' y' z':Int) (_:vs=[.int d,.ref p,.ref p']) (_:H p=some (.tup [.int x,.int y,.int z])) (_:H p'=some (.tup [.int x',.int y',.int z'])) (_:Bd 64 d) (_:(Bd 900 x/\Bd 900 y/\Bd 900 z/\Bd 600 x'/\Bd 600 y'/\Bd 600 z')) (_:z≠0) (_:x'*x' - d*y'*y'≠0) (_:¬ (x'=0/\y'=0)) (_:∀ (r:Addr) (H':Hp),Same H H'->H' r=some (.tup [.int (lA (x*(lA (z'*x') (-z'*y') (x'*x' - d*y'*y'))+d*y*(lB (z'*x') (-z'*y') (x'*x' - d*y'*y'))) (x*(lB (z'*x') (-z'*y') (x'*x' - d*y'*y'))+y*(lA (z'*x') (-z'*y') (x'*x' - d*y'*y'))) (z*(lN (z'*x') (-z'*y') (x'*x' - d*y'*y')))),.int (lB (x*(lA (z'*x') (-z'*y') (x'*x' - d*y'*y'))+d*y*(lB (z'*x') (-z'*y') (x'*x' - d*y'*y'))) (x*(lB (z'*x') (-z'*y') (x'*x' - d*y'*y'))+y*(lA (z'*x') (-z'*y') (x'*x' - d*y'*y'))) (z*(lN (z'*x') (-z'*y') (x'*x' - d*y'*y')))),.int (lN (x*(lA (z'*x') (-z'*y') (x'*x' - d*y'*y'))+d*y*(lB (z'*x') (-z'*y') (x'*x' - d*y'*y'))) (x*(lB (z'*x') (-z'*y') (x'*x' - d*y'*y'))+y*(lA (z'*x') (-z'*y') (x'*x' - d*y'*y'))) (z*(lN (z'*x') (-z'*y') (x'*x' - d*y'*y'))))])->Q (.ref r) H'):P50 vs H Q E
theorem GH{p:Addr}{x:Int}{Q:VK}(h1:H p=some (.tup [.int x,.int y,.int z]))(h2:H p'=some (.tup [.int x',.int y',.int z']))(hd:Bd 64 d)(b1:Bd 900 x)(b2:Bd 900 y)(b3:Bd 900 z)(b4:Bd 600 x')(b5:Bd 600 y')(b6:Bd 600 z')(n1:z≠0)(n2:x'*x' - d*y'*y'≠0)(n3:¬ (x'=0/\y'=0))(q:∀ (r:Addr) (H':Hp),Same H H'->H' r=some (.tup [.int (lA (x*(lA (z'*x') (-z'*y') (x'*x' - d*y'*y'))+d*y*(lB (z'*x') (-z'*y') (x'*x' - d*y'*y'))) (x*(lB (z'*x') (-z'*y') (x'*x' - d*y'*y'))+y*(lA (z'*x') (-z'*y') (x'*x' - d*y'*y'))) (z*(lN (z'*x') (-z'*y') (x'*x' - d*y'*y')))),.int (lB (x*(lA (z'*x') (-z'*y') (x'*x' - d*y'*y'))+d*y*(lB (z'*x') (-z'*y') (x'*x' - d*y'*y'))) (x*(lB (z'*x') (-z'*y') (x'*x' - d*y'*y'))+y*(lA (z'*x') (-z'*y') (x'*x' - d*y'*y'))) (z*(lN (z'*x') (-z'*y') (x'*x' - d*y'*y')))),.int (lN (x*(lA (z'*x') (-z'*y') (x'*x' - d*y'*y'))+d*y*(lB (z'*x') (-z'*y') (x'*x' - d*y'*y'))) (x*(lB (z'*x') (-z'*y') (x'*x' - d*y'*y'))+y*(lA (z'*x') (-z'*y') (x'*x' - d*y'*y'))) (z*(lN (z'*x') (-z'*y') (x'*x' - d*y'*y'))))])->Q (.ref r) H'):P50 ([.int d,.ref p,.ref p']++[]) H Q E:=⟨d,p,p',x,y,z,x',y',z',rfl,h1,h2,hd,⟨b1,b2,b3,b4,b5,b6⟩,n1,n2,n3,q⟩
inductive P51(vs:List V)(H:Hp)(Q:VK)(E:XK):Prop
  | mk {d:Int} {p r1 r2:Addr} {s:B4} {N:Int} (_:vs=[.int d,.ref p]) (_:BsAt H p r1 r2 s N) (_:Rt d) (_:1<=N) (_:Bd 900 N) (_:GB d 900 s) (_:∀ (p' r1' r2':Addr) (H':Hp),Same H H'->BsAt H' p' r1' r2' (s.nx d) N->Q (.ref p') H'):P51 vs H Q E
abbrev AY:=@P51.mk
inductive P52(vs:List V)(H:Hp)(Q:VK)(E:XK):Prop
  | mk {d m:Int} {p:Addr} {s:Sd} (_:vs=[.int d,.int m,.ref p]) (_:SdAt H p s) (_:Bd 64 d) (_:Bd 1024 m) (_:SK 900 900 s) (_:∀ (r:Addr) (H':Hp),Same H H'->SdAt H' r (tmS m s)->Q (.ref r) H'):P52 vs H Q E
abbrev wx:=@P52.mk
inductive P53(vs:List V)(H:Hp)(Q:VK)(E:XK):Prop
  | mk {p:Addr} {e:Dd} (_:vs=[.ref p]) (_:DdAt H p e) (_:e.Ok) (_:∀ H',Same H H'->Q (.bl true) H'):P53 vs H Q E
abbrev Ex:=@P53.mk
inductive P54(vs:List V)(H:Hp)(Q:VK)(E:XK):Prop
  | mk {d:Int} {c:Cell} {p:Addr} {s:Sd} (_:vs=[.int d,.ref c.p,.ref p]) (_:c.At H) (_:SdAt H p s) (_:Bd 64 d) (_:SY c.b.w) (_:SY s) (_:0<sgn d s.x s.y) (_:0<sgn d (c.b.w.x*s.z - s.x*c.b.w.z) (c.b.w.y*s.z - s.y*c.b.w.z)) (_:∀ (r:Addr) (c1 c2:Cell) (H':Hp),Same H H'->H r=none->H' r=some (.lst [.ref c1.p,.ref c2.p])->c1.At H'->c2.At H'->c1.b=⟨s,c.b.h⟩->c2.b=⟨tkS c.b.w s,c.b.h⟩->Q (.ref r) H'):P54 vs H Q E
abbrev ww:=@P54.mk
inductive P55(vs:List V)(H:Hp)(Q:VK)(E:XK):Prop
  | mk {c:Cell} (_:vs=[.ref c.p]) (_:c.At H) (_:(S19 c.b.w/\S19 c.b.h)) (_:∀ (r:Addr) (H':Hp),Same H H'->TbAt H' r (c.b.tb)->Q (.ref r) H'):P55 vs H Q E
abbrev ug:=@P55.mk
inductive P56(vs:List V)(H:Hp)(Q:VK)(E:XK):Prop
  | mk {p:Addr} {t:Tb} (_:vs=[.ref p]) (_:TbAt H p t) (_:t.Bt 3000 3000) (_:0<t.a.num) (_:uX t=0) (_:Q .non H):P56 vs H Q E
abbrev wW:=@P56.mk
inductive P57(K:iL)(vs:List V)(H:Hp)(Q:VK)(E:XK):Prop
  | mk {d:Int} {p:Addr} {t:Tb} {N:Nat} (_:vs=[.int d,.ref p]) (_:TbAt H p t) (_:t.Bt 400 400) (_:Rt d) (_:1<=N) (_:t.a=((N:Int):Rat)) (_:t.b=0) (_:t.e=0) (_:(∀ (r pc pw ph:Addr) (H':Hp),Same H H'->H r=none->H' r=some (.lst [.ref pc])->Cell.At H' ⟨pc,pw,ph,⟨⟨(N:Int),0,1⟩,⟨1,0,1⟩⟩⟩->Q (.ref r) H')):P57 K vs H Q E
abbrev vJ:=@P57.mk
inductive P58(vs:List V)(H:Hp)(Q:VK)(E:XK):Prop
  | mk {d n:Int} (_:vs=[.int d,.int n]) (_:(0<=n/\n<2147483629)) (_:Rt d) (_:∀ (r:Addr) (H':Hp) (s:Sd),Same H H'->SdAt H' r s->SK 230 230 s->sgn d s.x s.y=1->Q (.ref r) H'):P58 vs H Q E
abbrev uJ:=@P58.mk
inductive P59(K:iL)(vs:List V)(H:Hp)(Q:VK)(E:XK):Prop
  | mk {d:Int} {p:Addr} {L:List Ln} {k:Nat} (_:vs=[.int d,.ref p]) (_:LsB d 700 H p L) (_:Rt d) (_:L.length<=40) (_:Fst d (L.map Ln.u) k) (_:Bd 890 (cbs (L.map λc=>c.s.z))) (_:∀ (p' r1 r2:Addr) (H':Hp),Same H H'->BsAt H' p' r1 r2 (st d k) (cbs (L.map λc=>c.s.z))->Q (.ref p') H'):P59 K vs H Q E
abbrev DM:=@P59.mk
inductive P60(vs:List V)(H:Hp)(Q:VK)(E:XK):Prop
  | mk {d d':Int} {p pb r1 r2:Addr} {s':B4} {N D px py:Int} {C:List Cell} {hb:List Bx} (_:vs=[.int d,.ref p,.ref pb]) (_:H p=some (.lst (C.map Cell.v))) (_:(∀ c∈C,c.At H)) (_:BsAt H pb r1 r2 s' N) (_:1<=N) (_:Bd 900 N) (_:GB d' 900 s') (_:C.length=hb.length) (_:hb.length<=60) (_:Bd 64 d) (_:1<=D) (_:bw1 s' N=sdO D px py) (_:SK 900 900 (bw1 s' N)) (_:(∀ (k:Nat) (c:Cell) (b:Bx),C[k]?=some c->hb[k]?=some b->∃ X Y,c.b.w=sdO N X Y/\Bd 900 X/\Bd 900 Y/\b.i=s'.i X Y/\b.j=s'.j X Y/\Bd 1024 b.i)) (_:(∀ (r:Addr) (ps:List Addr) (H':Hp),Same H H'->H r=none->H' r=some (.lst (ps.map V.ref))->Runs H' ps (npl D px py hb)->Q (.ref r) H')):P60 vs H Q E
abbrev uj:=@P60.mk
inductive P61(K:iL)(vs:List V)(H:Hp)(Q:VK)(E:XK):Prop
  | mk {p:Addr} {L:List Cell} (_:vs=[.ref p]) (_:H p=some (.lst (L.map Cell.v))) (_:(∀ x∈L,x.At H)) (_:(∀ x∈L,S19 x.b.w/\S19 x.b.h)) (_:(∀ i,i<L.length->(tbs ((L.take i).map Cell.b)).Bt 4000 4000)) (_:1<=L.length) (_:(∀ (r:Addr) (H':Hp),Same H H'->TbAt H' r (tbs (L.map Cell.b))->Q (.ref r) H')):P61 K vs H Q E
abbrev AR:=@P61.mk
inductive P62(cs:Cs)(vs:List V)(H:Hp)(Q:VK)(E:XK):Prop
  | mk {d:Int} {c:Cell} {w h:Nat} (_:vs=[.int d,.ref c.p]) (_:c.At H) (_:SK 600 600 c.b.h) (_:sgn d c.b.h.x c.b.h.y=1) (_:Rt d) (_:(1<=w/\1<=h)) (_:(Bd 300 (w:Int)/\Bd 300 (h:Int))) (_:Nat.gcd w h=1) (_:c.b.w=frS c.b.h (w:Int) (h:Int)) (_:(tot (eu w h)<=400->∀ (r:Addr) (H':Hp) (C:List CuC),Same H H'->H' r=some (.lst (C.map CuC.v))->(∀ x∈C,x.At H')->C.map CuC.s=flat (λu=>frS c.b.h (u:Int) (h:Int)) (eu w h)->(C.map CuC.t2=(xy (euW w h)).map (λe=>(e.1,frS c.b.h (e.2:Int) (h:Int)))/\∀ x∈C,x.w="along"\/x.w="across")->Q (.ref r) H')) (_:(400<tot (eu w h)->(∀ H',Same H H'->E (.ref cs.TooMany) none H'))):P62 cs vs H Q E
abbrev HS:=@P62.mk
inductive P63(cs:Cs)(vs:List V)(H:Hp)(Q:VK)(E:XK):Prop
  | mk {y:Yd} {d:Int} {tn:Bool} {cl:List Cell} {ns:List Nat} {lg:List V} {p a:Addr} {e:Dd} {c c':Cell} (_:vs=[.ref y.p,.ref p,.ref a]) (_:YdAt cs.Yard H y d tn cl ns lg) (_:DdAt H p e) (_:H a=some (.lst (if e.two then [.ref c.p,.ref c'.p] else [.ref c.p]))) (_:c.At H) (_:c'.At H) (_:Bd 64 d) (_:e.Fit d c.b c'.b) (_:(∀ (r:Addr) (N:List Cell) (H':Hp),Same H H'->H r=none->H' r=some (.lst (N.map Cell.v))->(∀ x∈N,x.At H')->N.map Cell.b=e.new c.b c'.b->Q (.ref r) H')):P63 cs vs H Q E
abbrev uR:=@P63.mk
inductive P64(cs:Cs)(vs:List V)(H:Hp)(Q:VK)(E:XK):Prop
  | mk {d:Int} {c:Cell} {w h:Nat} (_:vs=[.int d,.ref c.p]) (_:c.At H) (_:SK 600 600 c.b.h) (_:sgn d c.b.h.x c.b.h.y=1) (_:Rt d) (_:(1<=w/\1<=h)) (_:(Bd 300 (w:Int)/\Bd 300 (h:Int))) (_:Nat.gcd w h=1) (_:c.b.w=frS c.b.h (w:Int) (h:Int)) (_:(tot (eu w h)<=400->∀ (r:Addr) (H':Hp) (C:List Cell),Same H H'->H' r=some (.lst (C.map Cell.v))->(∀ x∈C,x.At H')->C.map Cell.b=(flat (λu=>frS c.b.h (u:Int) (h:Int)) (eu w h)).map (λs=>(⟨s,s⟩:Bo))->Q (.ref r) H')) (_:(400<tot (eu w h)->(∀ H',Same H H'->E (.ref cs.TooMany) none H'))):P64 cs vs H Q E
abbrev wt:=@P64.mk
inductive P65(cs:Cs)(vs:List V)(H:Hp)(Q:VK)(E:XK):Prop
  | mk {d:Int} {pb pp:Addr} {Bs:List Cell} {xs:List CI} (_:vs=[.int d,.ref pb,.ref pp]) (_:H pb=some (.lst (Bs.map Cell.v))) (_:(∀ c∈Bs,c.At H)) (_:H pp=some (.lst ((xs.map λx=>((x.q:Nat):Int)).map V.int))) (_:(Bs.length=xs.length/\Bs.length<=2)) (_:Rt d) (_:(∀ (k:Nat) (c:Cell) (x:CI),Bs[k]?=some c->xs[k]?=some x->∃ w h:Nat,SK 600 600 c.b.h/\sgn d c.b.h.x c.b.h.y=1/\(1<=w/\1<=h)/\(Bd 300 (w:Int)/\Bd 300 (h:Int))/\Nat.gcd w h=1/\c.b.w=frS c.b.h (w:Int) (h:Int)/\tot (eu w h)<=400/\x.f=(λu:Nat=>frS c.b.h (u:Int) (h:Int))/\x.l=xy (euW w h))) (_:(∀ (r:Addr) (H':Hp) (ps:List Addr),Same H H'->H r=none->H' r=some (.lst (ps.map V.ref))->Runs H' ps (cutAll Bs.length xs)->Q (.ref r) H')):P65 cs vs H Q E
abbrev CV:=@P65.mk
inductive P66(cs:Cs)(vs:List V)(H:Hp)(Q:VK)(E:XK):Prop
  | mk {y:Yd} {d:Int} {tn:Bool} {cl:List Cell} {ns:List Nat} {lg:List V} {p:Addr} {e:Dd} {c c':Cell} (_:vs=[.ref y.p,.ref p]) (_:YdAt cs.Yard H y d tn cl ns lg) (_:DdAt H p e) (_:e.Ok) (_:(∀ m∈e.names,∃ n∈ns,m=(n:Int))) (_:e.names.Nodup) (_:(e.isT=true->tn=true)) (_:CellsOf cl e c c') (_:e.Fit d c.b c'.b) (_:Bd 64 d) (_:cl.length<=398) (_:lg.length<=199) (_:(∀ (N:List Cell) (H':Hp),YdAt cs.Yard H' y d tn (cl++N) (zY ns e.names++List.range' cl.length N.length) (lg++[.ref p])->N.map Cell.b=e.new c.b c'.b->(∀ b o,H b=some o->b≠y.k->b≠y.l->b≠y.t->H' b=some o)->Q .non H')):P66 cs vs H Q E
abbrev Ey:=@P66.mk
inductive P67(cs:Cs)(vs:List V)(H:Hp)(Q:VK)(E:XK):Prop
  | mk {hp pl:Addr} {d:Int} {tn:Bool} {L:List Cell} {ps:List Addr} {es:DL} (_:vs=[.int d,.ref hp,.ref pl,.bl tn]) (_:H hp=some (.lst (L.map Cell.v))) (_:(∀ c∈L,c.At H)) (_:L.length<=30) (_:H pl=some (.lst (ps.map V.ref))) (_:ps.length<=150) (_:Bd 64 d) (_:Runs H ps es) (_:Walk d tn (As.st L) es) (_:(∀ (y:Yd) (H':Hp),Same H H'->YdS cs.Yard H' y d tn (ends (As.st L) es) (ps.map V.ref)->Q (.ref y.p) H')):P67 cs vs H Q E
abbrev uS:=@P67.mk
inductive P68(cs:Cs)(vs:List V)(H:Hp)(Q:VK)(E:XK):Prop
  | mk {hp pl:Addr} {d:Int} {tn:Bool} {L:List Cell} {ps:List Addr} {es:DL} {D0:Int} {K' M:Nat} (_:vs=[.int d,.ref hp,.ref pl]) (_:H hp=some (.lst (L.map Cell.v))) (_:(∀ c∈L,c.At H)) (_:1<=L.length) (_:L.length<=20) (_:H pl=some (.lst (ps.map V.ref))) (_:ps.length<=100) (_:Rt d) (_:Runs H ps es) (_:Walk d tn (As.st L) es) (_:Sz D0 K' M) (_:Ever d D0 M (ends (As.st L) es)) (_:(∀ (r a b:Addr) (ps':List Addr) (es':DL) (qs:List Nat) (H':Hp),Same H H'->H' r=some (.tup [.ref a,.ref b])->H a=none->H b=none->a≠b->H' a=some (.lst (ps'.map V.ref))->H' b=some (.lst ((qs.map λn:Nat=>(n:Int)).map V.int))->Runs H' ps' es'->es'.length=es.length->Turned d tn D0 M (L.map Cell.b) ((ends (As.st L) es).ns.map (ends (As.st L) es).g) es' qs->Q (.ref r) H')):P68 cs vs H Q E
abbrev LL:=@P68.mk
inductive P69(cs:Cs)(vs:List V)(H:Hp)(Q:VK)(E:XK):Prop
  | mk {d N0 Eh:Int} {p1 p2:Addr} {C1 C2:List Cell} {kx kN kw kE kh M:Nat} (_:vs=[.int d,.ref p1,.ref p2]) (_:H p1=some (.lst (C1.map Cell.v))) (_:H p2=some (.lst (C2.map Cell.v))) (_:(∀ c∈C1,c.At H)) (_:(∀ c∈C2,c.At H)) (_:(∀ c∈C1,Wh d N0 Eh kx kw kh c.b)) (_:(∀ x∈C1,S19 x.b.w/\S19 x.b.h)) (_:(∀ i,i<C1.length->(tbs ((C1.take i).map Cell.b)).Bt 4000 4000)) (_:(tbs (C1.map Cell.b)=tbs (C2.map Cell.b)->∀ c∈C2,Wh d N0 Eh kx kw kh c.b)) (_:(∀ x∈C2,S19 x.b.w/\S19 x.b.h)) (_:(∀ i,i<C2.length->(tbs ((C2.take i).map Cell.b)).Bt 4000 4000)) (_:LkB kx kN kw kE kh M) (_:(1<=N0/\Bd kN N0)) (_:(1<=Eh/\Bd kE Eh)) (_:(1<=C1.length/\C1.length<=20)) (_:(1<=C2.length/\C2.length<=20)) (_:Rt d) (_:(tbs (C1.map Cell.b)=tbs (C2.map Cell.b)->∀ (r pl pp:Addr) (H':Hp) (ps:List Addr) (es:DL) (qs:List Nat) (D':Int),Same H H'->H' r=some (.tup [.str (Str.ofString "plan"),.ref pl,.ref pp])->H pl=none->H pp=none->pl≠pp->H' pl=some (.lst (ps.map V.ref))->Runs H' ps es->ps.length<=5*(C1.length+C2.length)->H' pp=some (.lst ((qs.map λn:Nat=>(n:Int)).map V.int))->Sz D' (kN+kE) M->Plan d false D' M (C1.map Cell.b) (C2.map Cell.b) es qs->Q (.ref r) H')) (_:(∀ (r:Addr) (H':Hp) (i j:Nat),Same H H'->H' r=some (.tup [.str (Str.ofString "apart"),.int (i:Int),.int (j:Int)])->Fu (tbs (C1.map Cell.b)) (tbs (C2.map Cell.b)) i j->Q (.ref r) H')):P69 cs vs H Q E
abbrev KH:=@P69.mk
inductive P70(K:iL)(cs:Cs)(vs:List V)(H:Hp)(Q:VK)(E:XK):Prop
  | mk {d:Int} {p:Addr} {c:Cell} {N:Nat} (_:vs=[.int d,.ref p]) (_:H p=some (.lst [c.v])) (_:c.At H) (_:c.b=⟨⟨(N:Int),0,1⟩,⟨1,0,1⟩⟩) (_:(1<=N/\N<=401)) (_:Rt d) (_:(N<=400->∀ (r pl ph:Addr) (H':Hp) (C:List Cell),Same H H'->H' r=some (.tup [.str (Str.ofString "squares"),.ref pl,.ref ph])->H' ph=some (.lst (C.map Cell.v))->C.length=N->Q (.ref r) H')) (_:(400<N->(∀ H',Same H H'->E (.ref cs.TooMany) none H'))):P70 K cs vs H Q E
abbrev Dp:=@P70.mk
inductive P71(K:iL)(cs:Cs)(vs:List V)(H:Hp)(Q:VK)(E:XK):Prop
  | mk {d:Int} {c:Cell} {wh:Bool} {w h N:Nat} (_:vs=[.int d,.ref c.p,.bl wh]) (_:c.At H) (_:Rt d) (_:1<=N) (_:((wh=false/\SK 600 600 c.b.h/\sgn d c.b.h.x c.b.h.y=1/\(1<=w/\1<=h)/\(Bd 300 (w:Int)/\Bd 300 (h:Int))/\Nat.gcd w h=1/\c.b.w=frS c.b.h (w:Int) (h:Int)/\N=tot (eu w h))\/(wh=true/\c.b=⟨⟨(N:Int),0,1⟩,⟨1,0,1⟩⟩/\N<=401))) (_:(∀ (r:Addr) (H':Hp),Same H H'->H' r=some (.lst ((if N<=400 then [(N:Int)] else []).map V.int))->Q (.ref r) H')):P71 K cs vs H Q E
abbrev yw:=@P71.mk
theorem C4:FnScope ["thing"] ["thing"] (defScope S1):=by walk_at "sc"
theorem C6:FnScope ["one","other","pair","rest"] ["one","other"] (defScope S2):=by walk_at "sc"
theorem C7:FnScope ["divisor","bottom"] ["divisor","bottom"] (defScope S3):=by walk_at "sc"
theorem C8:FnScope ["d","a","b"] ["d","a","b"] (defScope S15):=by walk_at "sc"
theorem C9:FnScope ["one","other"] ["one","other"] (defScope S20):=by walk_at "sc"
theorem C10:FnScope ["pieces","unused","deeds","place","piece","fresh"] ["pieces","unused"] (defScope S26):=by walk_at "sc"
theorem C11:FnScope ["deed"] ["deed"] (defScope S29):=by walk_at "sc"
theorem C12:FnScope ["deed"] ["deed"] (defScope S30):=by walk_at "sc"
theorem C13:FnScope ["one"] ["one"] (defScope S31):=by walk_at "sc"
theorem C14:FnScope ["names","places","place","name"] ["names"] (defScope S37):=by walk_at "sc"
theorem C15:FnScope ["deed","names"] ["deed","names"] (defScope S40):=by walk_at "sc"
theorem C16:FnScope ["one"] ["one"] (defScope S48):=by walk_at "sc"
theorem C17:FnScope ["one","straight","across"] ["one"] (defScope S50):=by walk_at "sc"
theorem C18:FnScope ["one","other","row","column"] ["one","other"] (defScope S51):=by walk_at "sc"
theorem C19:FnScope ["width","height","found","room","strip"] ["width","height"] (defScope S53):=by walk_at "sc"
theorem C20:FnScope ["_law_script","_law_k"] ["_law_script","_law_k"] (defScope S60):=by walk_at "sc"
theorem C21:FnScope ["_law_cell_here","_law_k"] ["_law_cell_here","_law_k"] (defScope S61):=by walk_at "sc"
theorem C22:FnScope ["_law_one","_law_other"] ["_law_one","_law_other"] (defScope S62):=by walk_at "sc"
theorem C23:FnScope ["_law_d","_law_first","_law_second","_law_a","_law_b"] ["_law_d","_law_first","_law_second"] (defScope S65):=by walk_at "sc"
theorem C24:FnScope ["_law_wide","_law_high","_law_found","_law_many"] ["_law_wide","_law_high"] (defScope S68):=by walk_at "sc"
theorem C25:FnScope ["self","d","heap","turning"] ["self","d","heap","turning"] (defScope S72):=by walk_at "sc"
theorem C26:FnScope ["self","name"] ["self","name"] (defScope S76):=by walk_at "sc"
theorem C27:FnScope ["self"] ["self"] (defScope S77):=by walk_at "sc"
theorem C28:FnScope ["a","b","n","divisor"] ["a","b","n"] (defScope S7):=by walk_at "sc"
theorem C29:FnScope ["top","bottom","divisor"] ["top","bottom"] (defScope S8):=by walk_at "sc"
theorem C30:FnScope ["f","g","shared"] ["f","g"] (defScope S10):=by walk_at "sc"
theorem C31:FnScope ["one","other","shared","ahead","behind","a","b","left"] ["one","other"] (defScope S11):=by walk_at "sc"
theorem C32:FnScope ["d","one","other"] ["d","one","other"] (defScope S16):=by walk_at "sc"
theorem C33:FnScope ["d","base","one","p","q","bottom"] ["d","base","one"] (defScope S21):=by walk_at "sc"
theorem C34:FnScope ["lengths","bottom","one"] ["lengths"] (defScope S22):=by walk_at "sc"
theorem C35:FnScope ["yard","deed","names","word"] ["yard","deed","names"] (defScope S36):=by walk_at "sc"
theorem C36:FnScope ["many","plan","lying","unused","deed","name"] ["many","plan"] (defScope S39):=by walk_at "sc"
theorem C37:FnScope ["one","other","shared","top","left"] ["one","other"] (defScope S42):=by walk_at "sc"
theorem C38:FnScope ["one","other","first","second"] ["one","other"] (defScope S44):=by walk_at "sc"
theorem C39:FnScope ["_law_script","_law_d"] ["_law_script"] (defScope S63):=by walk_at "sc"
theorem C40:FnScope ["_law_number","_law_great","_law_top","_law_bottom","_law_share"] ["_law_number","_law_great"] (defScope S64):=by walk_at "sc"
theorem C41:FnScope ["_law_wide","_law_high","_law_many"] ["_law_wide","_law_high"] (defScope S70):=by walk_at "sc"
theorem C42:FnScope ["self","names","name"] ["self","names"] (defScope S74):=by walk_at "sc"
theorem C43:FnScope ["one"] ["one"] (defScope S9):=by walk_at "sc"
theorem C44:FnScope ["one","other"] ["one","other"] (defScope S12):=by walk_at "sc"
theorem C45:FnScope ["d","one","other"] ["d","one","other"] (defScope S13):=by walk_at "sc"
theorem C46:FnScope ["d","n"] ["d","n"] (defScope S17):=by walk_at "sc"
theorem C47:FnScope ["thing"] ["thing"] (defScope S27):=by walk_at "sc"
theorem C48:FnScope ["one","other"] ["one","other"] (defScope S33):=by walk_at "sc"
theorem C49:FnScope ["one","many","width","height"] ["one","many"] (defScope S34):=by walk_at "sc"
theorem C50:FnScope ["many","plan","more","names","unused","deeds","deed","name"] ["many","plan","more"] (defScope S41):=by walk_at "sc"
theorem C51:FnScope ["one","other"] ["one","other"] (defScope S43):=by walk_at "sc"
theorem C52:FnScope ["one","other"] ["one","other"] (defScope S45):=by walk_at "sc"
theorem C53:FnScope ["one","other"] ["one","other"] (defScope S49):=by walk_at "sc"
theorem C54:FnScope ["_law_d","_law_number","_law_great","_law_first","_law_second"] ["_law_d","_law_number","_law_great"] (defScope S66):=by walk_at "sc"
theorem C55:FnScope ["d","one","other","bottom"] ["d","one","other"] (defScope S14):=by walk_at "sc"
theorem C56:FnScope ["d","base","p","q"] ["d","base"] (defScope S18):=by walk_at "sc"
theorem C57:FnScope ["d","many","one"] ["d","many","one"] (defScope S24):=by walk_at "sc"
theorem C58:FnScope ["thing"] ["thing"] (defScope S28):=by walk_at "sc"
theorem C59:FnScope ["d","one","at"] ["d","one","at"] (defScope S32):=by walk_at "sc"
theorem C60:FnScope ["one","widths","heights"] ["one"] (defScope S47):=by walk_at "sc"
theorem C61:FnScope ["whole","first","second","last"] ["whole"] (defScope S57):=by walk_at "sc"
theorem C62:FnScope ["d","whole","first","second","share","one","left"] ["d","whole"] (defScope S58):=by walk_at "sc"
theorem C63:FnScope ["_law_d","_law_number","_law_width"] ["_law_d","_law_number"] (defScope S67):=by walk_at "sc"
theorem C64:FnScope ["d","lengths","base","one","tops","bottom"] ["d","lengths"] (defScope S23):=by walk_at "sc"
theorem C65:FnScope ["d","heap","base","deeds","firsts","others","unused","name","one","pair","stacking"] ["d","heap","base"] (defScope S25):=by walk_at "sc"
theorem C66:FnScope ["heap","whole","one"] ["heap"] (defScope S46):=by walk_at "sc"
theorem C67:FnScope ["d","one","ratio","unit","found","word","side","many"] ["d","one"] (defScope S54):=by walk_at "sc"
theorem C68:FnScope ["self","deed","boards","word"] ["self","deed","boards"] (defScope S75):=by walk_at "sc"
theorem C69:FnScope ["d","board"] ["d","board"] (defScope S55):=by walk_at "sc"
theorem C70:FnScope ["d","boards","places","deeds","unused","place","one","rest","cut"] ["d","boards","places"] (defScope S56):=by walk_at "sc"
theorem C71:FnScope ["self","deed","names","fresh","name","one"] ["self","deed"] (defScope S73):=by walk_at "sc"
theorem C72:FnScope ["d","heap","plan","turning","yard","deed"] ["d","heap","plan","turning"] (defScope S35):=by walk_at "sc"
theorem C73:FnScope ["d","heap","plan","yard","ends","renamed","place","named","unused","behind","deeds","deed","ahead","name"] ["d","heap","plan"] (defScope S38):=by walk_at "sc"
theorem C74:FnScope ["d","one","other","place","base","returning","plan"] ["d","one","other"] (defScope S52):=by walk_at "sc"
theorem C75:FnScope ["d","heap","whole","measure","boards","told","one","made"] ["d","heap"] (defScope S59):=by walk_at "sc"
theorem C76:FnScope ["_law_d","_law_one","_law_whole_heap","_law_told_here","_law_found","e"] ["_law_d","_law_one","_law_whole_heap"] (defScope S69):=by walk_at "sc"
theorem C77:FnScope ["_law_script","_law_d","_law_k","_law_number","_law_wide","_law_high","_law_height","_law_one","_law_other"] ["_law_script"] (defScope S71):=by walk_at "sc"
section
variable (P:Program)(w:World)(K:iL)(mg:Str->Option Value)(base:Heap)
abbrev O2x:=Own P w K mg base 1 "with_sign_of" ["divisor","bottom"] [] P2
abbrev O1x:=Own P w K mg base 1 "common_divisor" ["one","other"] [] P1
abbrev O0x:=Own P w K mg base 1 "is_whole" ["thing"] [] P0
abbrev O24x:=Own P w K mg base 1 "names_taken" ["deed"] [] P6
abbrev O25x:=Own P w K mg base 1 "count_put" ["deed"] [] P7
abbrev O56x:=Own P w K mg base 1 "_law_mixed" ["_law_cell_here","_law_k"] [] P16
abbrev O4x:=Own P w K mg base 2 "fraction" ["top","bottom"] [] P24
abbrev O7x:=Own P w K mg base 2 "added" ["one","other"] [] (P26 K)
abbrev O3x:=Own P w K mg base 2 "length" ["a","b","n"] [] P23
abbrev O37x:=Own P w K mg base 2 "plus" ["one","other"] [] (P32 K)
abbrev O39x:=Own P w K mg base 2 "times" ["one","other"] [] P33
abbrev O9x:=Own P w K mg base 3 "timed" ["d","one","other"] [] P40
abbrev O12x:=Own P w K mg base 2 "under" ["d","one","other"] [] (P27 K)
abbrev O8x:=Own P w K mg base 3 "taken" ["one","other"] [] P39
abbrev O38x:=Own P w K mg base 3 "minus" ["one","other"] [] P46
abbrev O6x:=Own P w K mg base 2 "by_parts" ["f","g"] [] P25
abbrev O16x:=Own P w K mg base 2 "counts" ["d","base","one"] [] P28
abbrev O19x:=Own P w K mg base 4 "times_over" ["d","many","one"] [] P52
abbrev O49x (cs:Cs):=OwnX P w K mg base 5 "cuts" ["d","one"] [] (P62 cs)
abbrev O36x:=Own P w K mg base 3 "followed" ["many","plan","more"] [] P45
abbrev O41x:=Own P w K mg base 5 "table" ["heap"] [] (P61 K)
abbrev O50x (cs:Cs):=OwnX P w K mg base 6 "squares_of" ["d","board"] [] (P64 cs)
end
variable {f:Addr}{fd:FuncData}{its:List Value}
section
variable {P:Program}{w:World}{K:iL}{mg:Str->Option Value}{base:Heap}{cs:Cs}
theorem K0(F:Fun K "is_whole" "is_whole" S1 f fd)(B:Bl mg)  :FnOk P w K mg base CX0 1 f fd ["thing"] P0:=by
  refine F.okA C4 λcdv A outer s H vs Q E hr h=>?_;obtain ⟨i,rfl,q⟩:=h;refine ⟨_,(zd (zi (Dh (zq yz rfl B.isinstance zL (pa2 (pv 0) (xR (v:=.ty "int") rfl B.int HD rfl))) (BU (Ll (zq yz rfl B.isinstance zL (pa2 (pv 0) (xR (v:=.ty "bool") rfl B.bool Jo rfl)))))))),?_⟩;walk_at "s";walk_at "r";exact q
theorem K1(F:Fun K "common_divisor" "common_divisor" S2 f fd)(B:Bl mg)(g_GREAT_BITS:TopI mg "GREAT_BITS" (8192)) :FnOk P w K mg base CX0 1 f fd ["one","other"] P1:=by
  obtain ⟨u_GREAT_BITS,m_GREAT_BITS,r_GREAT_BITS⟩:=g_GREAT_BITS;refine F.okA C6 λcdv A outer s H vs Q E hr h=>?_;obtain ⟨a,b,rfl,hb,q⟩:=h;refine ⟨_,(za (zu (zj xw (JR PySem.F.plainAttrs_int PySem.F.slot_int_bit_length PySem.F.type_int_bit_length Ij (pv 1)) (zA (v:=.int (8192)) rfl m_GREAT_BITS r_GREAT_BITS) (zp _)) FA zn) (za (xK PassesOwn.never (zj Ea (pv 1) ze (zp _)) (za (ps_s 3 C6.nd (zg IJ (pv 0) (pv 1))) (za (ps_s 0 C6.nd (pv 1)) (zd (ps_s 1 C6.nd (pv 3)))))) (zd (zi (zq tY rfl B.abs HV (pa1 (pv 0))))))),?_⟩;walk_at "s";exists if_d (λc=>absurd c (Im hb)) (λ_=>?_);exists Gq (λσ' H'=>E3 λ(x y:Int) (r:Option V)=>A3 (σ'=[vI x,vI y,none,r]) (H'=H) (Int.gcd x y=Int.gcd a b)) (λσ' _=>match σ' with | [_,some (.int y),_,_]=>y.natAbs | _=>0) ⟨a,b,none,rfl,rfl,rfl⟩ ?_ ?_
  . rintro σ' H' ⟨x,y,r,rfl,rfl,hg⟩;exists AI (λc=>?_) (λc=>?_)
    . walk_at "r";exact ⟨⟨y,x.fmod y,_,rfl,rfl,(GO x y).trans hg⟩,ID c⟩
    . walk_at "r";have e:(if x<0 then -x else x)=((Int.gcd a b:Nat):Int):=by
        rw [<-hg,c,Int.gcd_zero_right];split <;> lia
      rw [e];exact q
  . intro σ H Q Q' hq h;obtain ⟨v,e,hs,k,e2,z⟩:=h;exact ⟨v,e,hs,k,e2,hq _ _ z⟩
theorem K2(F:Fun K "with_sign_of" "with_sign_of" S3 f fd)(B:Bl mg)  :FnOk P w K mg base CX0 1 f fd ["divisor","bottom"] P2:=by
  refine F.okA C7 λcdv A outer s H vs Q E hr h=>?_;obtain ⟨g,n,rfl,q⟩:=h;refine ⟨_,(zd (zi (uy (zj vF (pv 1) ze (zp _)) (Ac wp (pv 0)) (pv 0)))),?_⟩;walk_at "s";exists if_d (λc=>?_) (λc=>?_)
  . walk_at "r";rw [im c] at q;exact q
  . walk_at "r";rw [io c] at q;exact q
theorem K3(F:Fun K "is_above_nought" "is_above_nought" S15 f fd)(B:Bl mg)  :FnOk P w K mg base CX0 1 f fd ["d","a","b"] P3:=by
  refine F.okA C8 λcdv A outer s H vs Q E hr h=>?_;obtain @⟨d,a,b,rfl,hd,ha,hb,q⟩:=h;refine ⟨_,(za (zu (PW.pt (yD (zj Do (pv 1) ze (zp _)) (yg (zj Do (pv 2) ze (zp _))))) (zd (zi (Mi (yh xw (pv 1) ze (zp _)) (BU (yh xw (pv 2) ze (zp _)))))) zn) (za (zu (PW.pt (yD (zj GC (pv 1) ze (zp _)) (yg (zj GC (pv 2) ze (zp _))))) (zd (zi yY)) zn) (za (zu (zj xw (pv 1) ze (zp _)) (zd (zi (yh xw (zg zl (pv 1) (pv 1)) (zg zl (zg zl (pv 0) (pv 2)) (pv 2)) (zp _)))) zn) (zd (zi (yh xw (zg zl (zg zl (pv 0) (pv 2)) (pv 2)) (zg zl (pv 1) (pv 1)) (zp _))))))),?_⟩;walk_at "s";exists if_d (λc1=>?_) (λc1=>?_)
  . exists if_d (λc2=>?_) (λc2=>?_)
    . exists if_d (λc3=>?_) (λc3=>?_)
      . exact bl_q (Eq.symm (iJ (by unfold sgn; rw [im ⟨c1,c2⟩,im (!2)]; decide))) q
      . walk_at "r";exact bl_q (decide_eq_decide.mpr (by unfold sgn; rw [im ⟨c1,c2⟩]; split <;> lia)) q
    . exists if_d (λc3=>?_) (λc3=>?_)
      . exists if_d (λc4=>?_) (λc4=>?_)
        . walk_at "r";exact bl_q (Eq.symm (il (by unfold sgn; rw [io (!2),im ⟨c3,c4⟩]; decide))) q
        . lia
      . exists if_d (λc4=>?_) (λc4=>?_)
        . walk_at "r";exact bl_q (decide_eq_decide.mpr (by unfold sgn; rw [io (!2),io (!2),im c4]; split <;> lia)) q
        . lia
  . exists if_d (λc3=>?_) (λc3=>?_)
    . exists if_d (λc4=>?_) (λc4=>?_)
      . walk_at "r";exact bl_q (Eq.symm (il (by unfold sgn; rw [io (!2),im ⟨c3,c4⟩]; decide))) q
      . exists if_d (λc5=>?_) (λc5=>?_)
        . lia
        . walk_at "r";exact bl_q (decide_eq_decide.mpr (by unfold sgn; rw [io (!2),io (!2),io c5]; split <;> lia)) q
    . lia
theorem K4(F:Fun K "crossed" "crossed" S20 f fd)(B:Bl mg)  :FnOk P w K mg base CX0 1 f fd ["one","other"] P4:=by
  refine F.okA C9 λcdv A outer s H vs Q E hr h=>?_;obtain ⟨p,p',x,y,z,x',y',z',rfl,h1,h2,⟨b1,b2,b3,b4⟩,q⟩:=h;refine ⟨_,(zd (zi (zg yC (zg zl (pit 0) (pit 1)) (zg zl (pit 0) (pit 1))))),?_⟩;walk_at "s";walk_at "r";exact q
theorem K5(F:Fun K "gathering" "gathering" S26 f fd)(B:Bl mg)  :FnOk P w K mg base CX0 1 f fd ["pieces","unused"] P5:=by
  refine F.okA C10 λcdv A outer s H vs Q E hr h=>?_;obtain @⟨a,us,pc,u,rfl,ha,hp,hl,hu,q⟩:=h;refine ⟨_,(za (ps_s 2 C10.nd (zx z5)) (za (zQ PassesOwn.never rfl (uh rfl B.enumerate (pa1 (pv 0))) (vY (n:=2) rfl (zU (pg_n 3 C10.nd) (zU (pg_n 4 C10.nd) xQ))) (za (zH (yW aM aQ aR zB (pv 2) (pa1 (zo (pa3 zG (pit 4) (pit 4)))))) (zd (zu (zj xw (pv 3) ze (zp _)) (za (ps_s 5 C10.nd (zg yC (zg zK (pv 1) (zq zy rfl B.len br (pa1 (pv 2)))) ze)) (zd (zH (yW aM aQ aR zB (pv 2) (pa1 (zo (pa3 zG (pv 5) (zg yC (pv 5) ze)))))))) zn)))) (zd (zi (pv 2))))),?_⟩;walk_at "s";exists zE (!1) λD H1 nD s1 e1=>?_;have ha1:=s1 _ _ ha;have aD:a≠D:=zc ha nD;exists B3 ?_;exists ⟨a,_,rfl,SqL.of ha1,wJ (K:=K) (a:=a) (xs:=us.map V.ref) (λi σ H'=>E4 λv1 v2 v3 ps=>A4 (σ=[vR a,vI (u:Int),vR D,v1,v2,v3]) (H' D=some (.lst (ps.map V.ref))) (Runs H' ps (gth u pc i)) (∀ b o,H1 b=some o->b≠D->H' b=some o)) ⟨_,_,_,[],rfl,e1,⟨rfl,λi p x h=>by simp at h⟩,λb o e _=>e⟩ (λi σ H' _ z'=>by obtain ⟨_,_,_,_,_,_,_,z⟩:=z'; exact SqL.of (z _ _ ha1 aD)) ?_ ?_⟩
  . rintro i x T σ H' hi hT ⟨v1,v2,v3,ps,rfl,eD,hrun,fr⟩;have hi':=(af.mp hi).1;rw [aa,hp.1] at hi';rw [aj] at hi;obtain ⟨qa,hq,rfl⟩:=au.mp hi;obtain ⟨p,hpi⟩:∃ p,pc[i]?=some p:=⟨_,ae hi'⟩
    have hqt:=s1 _ _ (hp.2 i qa p hq hpi);have hqt3:=fr _ _ hqt (zW hqt e1 (λz=>nomatch z));have hgl:=xY (u:=u) (pc:=pc) (t:=i) (bA hi');have hpl:ps.length=2*i - 1:=hrun.1.trans hgl;have eg:gth u pc (i+1)=gth u pc i++gd1 u i p:=by
      show gth u pc i++_=_;rw [hpi]
    rw [eg];have tkT:TupK H' (upd H' T (.tup [.int (i:Int),.ref qa])):=λb xs e=>by rw [zm (zc e hT)]; exact e
    have eD':(upd H' T (.tup [.int (i:Int),.ref qa])) D=some (.lst (ps.map V.ref)):=by rw [zm (zc eD hT)]; exact eD
    have eT:(upd H' T (.tup [.int (i:Int),.ref qa])) T=some (.tup [.int (i:Int),.ref qa]):=zk;have hqt4:=tkT _ _ hqt3;have frT:∀ b o,H1 b=some o->b≠D->(upd H' T (.tup [.int (i:Int),.ref qa])) b=some o:=λb o e n=>by rw [zm (zc (fr b o e n) hT)]; exact fr b o e n
    have hrunT:=hrun.tk tkT;generalize upd H' T (.tup [.int (i:Int),.ref qa])=G at eT eD' frT hqt4 hrunT ⊢;exists zI (!1) λt1 G1 n1 g1 f1=>?_;have eD1:=g1 _ _ eD';exists zt eD1 (by rw [aa]; lia) λG2 x2 e2=>?_;have f2:=x2.tup f1 eD1;have hrun2:Runs G2 (ps++[t1]) (gth u pc i++[(Dd.shift false p.n p.m,p.n,p.n)]):=yF ((hrunT.same g1).sameX x2 eD1) f2;have fr2:∀ b o,H1 b=some o->b≠D->G2 b=some o:=λb o e n=>x2 _ _ (g1 _ _ (frT b o e n)) n;have e2:G2 D=some (.lst ((ps++[t1]).map V.ref)):=by rw [ai]; exact e2
    walk_at "r";by_cases c0:i=0
    . refine if_d (λc=>absurd c (!2)) (λ_=>?_);exists ⟨_,_,_,ps++[t1],rfl,e2,?_,fr2⟩;unfold gd1;rw [im c0];exact hrun2
    . refine if_d (λ_=>?_) (λc=>absurd (!2) c);have hlen:((((ps++[t1]).map V.ref).length:Nat):Int)=((2*i:Nat):Int):=by
        rw [aa,ah,hpl];simp only [ax,aY]
        lia
      walk_at "r";rw [hlen];exists zI (!1) λt2 G3 n3 g3 f3=>?_;have e23:=g3 _ _ e2;exists zt e23 (by rw [aa,ah]; simp only [ax,aY]; lia) λG4 x4 e4=>?_;have f4:=x4.tup f3 e23;exists ⟨_,_,_,ps++[t1]++[t2],rfl,by rw [ai]; exact e4,?_,λb o e n=>x4 _ _ (g3 _ _ (fr2 b o e n)) n⟩;have:gth u pc i++gd1 u i p=gth u pc i++[(Dd.shift false p.n p.m,p.n,p.n)]++[(Dd.glue true ((u+2*i - 1:Nat):Int) ((u+2*i - 2:Nat):Int),u+2*i - 1,u+2*i - 2)]:=by
        unfold gd1;rw [io c0,aH];rfl
      rw [this];refine yF ((hrun2.same g3).sameX x4 e23) ?_;rw [show (u:Int)+((2*i:Nat):Int) - 1=((u+2*i - 1:Nat):Int) by lia,show ((u+2*i - 1:Nat):Int) - 1=((u+2*i - 2:Nat):Int) by lia] at f4;exact f4
  rintro σ H5 ⟨v1,v2,v3,ps,rfl,eD,hrun,fr⟩;rw [aa,hp.1] at hrun;walk_at "r";exact q D ps H5 (λb o e=>fr _ _ (s1 _ _ e) (zc e nD)) nD eD hrun
theorem K6(F:Fun K "names_taken" "names_taken" S29 f fd)(B:Bl mg)(g_GLUINGS:TopT K mg "GLUINGS" [.str "beside",.str "atop"]) :FnOk P w K mg base CX0 1 f fd ["deed"] P6:=by
  obtain ⟨a_GLUINGS,m_GLUINGS,q_GLUINGS⟩:=g_GLUINGS;refine F.okA C11 λcdv A outer s H vs Q E hr h=>?_;obtain @⟨p,e,rfl,he,q⟩:=h;refine ⟨_,(zd (zi (uy (zj yA (pit 0) (zA (v:=.ref a_GLUINGS) rfl m_GLUINGS rfl) (by with_unfolding_all rfl)) (zx (pa2 (pit 0) (pit 0))) (zx (pa1 (pit 0)))))),?_⟩;walk_at "s";cases e with
  | cut al n s =>
    obtain ⟨pq,h0,hs⟩:=he;cases al
    all_goals
      simp [DdAt,Dd.wd] at h0;exists ⟨_,_,rfl,.inr (q_GLUINGS H),rfl,rfl,?_⟩;rw [show (if false=true then !inV _ _ else inV _ _)=false from by decide +kernel];exists zE (!1) λr H1 hr s1 e1=>?_;exact q r H1 s1 hr e1
  | glue al n m =>
    have h0:=he;cases al
    all_goals
      simp [DdAt,Dd.wd] at h0;exists ⟨_,_,rfl,.inr (q_GLUINGS H),rfl,rfl,?_⟩;rw [show (if false=true then !inV _ _ else inV _ _)=true from by decide +kernel];exists zE (!1) λr H1 hr s1 e1=>?_;exact q r H1 s1 hr e1
  | shift al n k =>
    have h0:=he;cases al
    all_goals
      simp [DdAt,Dd.wd] at h0;exists ⟨_,_,rfl,.inr (q_GLUINGS H),rfl,rfl,?_⟩;rw [show (if false=true then !inV _ _ else inV _ _)=false from by decide +kernel];exists zE (!1) λr H1 hr s1 e1=>?_;exact q r H1 s1 hr e1
  | turn n =>
    have h0:=he;have h0:H p=some (.tup [.str (Str.ofString "turn"),.int n]):=h0;exists ⟨_,_,rfl,.inr (q_GLUINGS H),rfl,rfl,?_⟩;rw [show (if false=true then !inV _ _ else inV _ _)=false from by decide +kernel];exists zE (!1) λr H1 hr s1 e1=>?_;exact q r H1 s1 hr e1
theorem K7(F:Fun K "count_put" "count_put" S30 f fd)(B:Bl mg)(g_CUTS:TopT K mg "CUTS" [.str "across",.str "along"]) :FnOk P w K mg base CX0 1 f fd ["deed"] P7:=by
  obtain ⟨a_CUTS,m_CUTS,q_CUTS⟩:=g_CUTS;refine F.okA C12 λcdv A outer s H vs Q E hr h=>?_;obtain @⟨p,e,rfl,he,q⟩:=h;refine ⟨_,(zd (zi (uy (zj yA (pit 0) (zA (v:=.ref a_CUTS) rfl m_CUTS rfl) (by with_unfolding_all rfl)) ze ze))),?_⟩;walk_at "s";cases e with
  | cut al n s =>
    obtain ⟨pq,h0,hs⟩:=he;cases al
    all_goals
      simp [DdAt,Dd.wd] at h0;exists ⟨_,_,rfl,.inr (q_CUTS H),rfl,rfl,?_⟩;rw [show (if false=true then !inV _ _ else inV _ _)=true from by decide +kernel];walk_at "r";exact q
  | glue al n m =>
    have h0:=he;cases al
    all_goals
      simp [DdAt,Dd.wd] at h0;exists ⟨_,_,rfl,.inr (q_CUTS H),rfl,rfl,?_⟩;rw [show (if false=true then !inV _ _ else inV _ _)=false from by decide +kernel];walk_at "r";exact q
  | shift al n k =>
    have h0:=he;cases al
    all_goals
      simp [DdAt,Dd.wd] at h0;exists ⟨_,_,rfl,.inr (q_CUTS H),rfl,rfl,?_⟩;rw [show (if false=true then !inV _ _ else inV _ _)=false from by decide +kernel];walk_at "r";exact q
  | turn n =>
    have h0:=he;have h0:H p=some (.tup [.str (Str.ofString "turn"),.int n]):=h0;exists ⟨_,_,rfl,.inr (q_CUTS H),rfl,rfl,?_⟩;rw [show (if false=true then !inV _ _ else inV _ _)=false from by decide +kernel];walk_at "r";exact q
theorem K8(F:Fun K "turned" "turned" S31 f fd)(B:Bl mg)  :FnOk P w K mg base CX0 1 f fd ["one"] P8:=by
  refine F.okA C13 λcdv A outer s H vs Q E hr h=>?_;obtain @⟨c,rfl,hc,q⟩:=h;refine ⟨_,(zd (zi (zo (pa2 (pit 0) (pit 0))))),?_⟩;walk_at "s";have ct:=hc.t;exists zI (!1) λr H1 hr s1 e1=>?_;exact q r H1 s1 hr ⟨e1,s1 _ _ hc.h,s1 _ _ hc.w⟩
theorem K9(F:Fun K "places_of" "places_of" S37 f fd)(B:Bl mg)  :FnOk P w K mg base CX0 1 f fd ["names"] P9:=by
  refine F.okA C14 λcdv A outer s H vs Q E hr h=>?_;obtain @⟨a,ms,ts,rfl,ha,hp,up,hl,q⟩:=h;refine ⟨_,(za (ps_s 1 C14.nd B0) (za (zQ PassesOwn.never rfl (uh rfl B.enumerate (pa1 (zq CH rfl B.sorted Fw (pa1 (pv 0))))) (vY (n:=2) rfl (zU (pg_n 2 C14.nd) (zU (pg_n 3 C14.nd) xQ))) (zd (wT (uc hr) (pv 1) (pv 3) (pv 2) rfl))) (zd (zi (yj ["name"] [1] rfl (zJ (pv 0)) (λ_ _ _ _ _=>(pg_n 0 (show List.Nodup (α:=Str) ["name","places"] by decide +kernel))) (λ_ _ _ _ _=>zP) (λ_ _ _ _ _=>(AL (uc hr) (pv 1) (pv 0) (λ_ _=>rfl)))))))),?_⟩;walk_at "s";have hml:=hp.length_eq;have hnd:=xo up;exists DX λD H1 nD s1 e1=>?_;exists B3 ?_;exists IU (s1 _ _ ha) (Fy hp) (Ig up) (by rw [aa]; lia) λb H2 nb s2 e2=>?_;have e12:=s2 _ _ e1;have bD:b≠D:=bZ (zc e1 nb);exists ⟨b,_,rfl,SqL.of e2,wJ (K:=K) (a:=b) (xs:=(ts.map λn:Nat=>(n:Int)).map V.int) (λi σ H'=>E3 λv1 v2 kvs=>A5 (σ=[vR a,vR D,v1,v2]) (H' D=some (.dK kvs)) (kvs.length<=i) (Rn kvs (ts.take i) (rk ts)) (∀ b o,H2 b=some o->b≠D->H' b=some o)) ⟨_,_,[],rfl,e12,ag _,λn hn=>by simp at hn,λb o e _=>e⟩ (λi σ H' _ z'=>by obtain ⟨_,_,_,_,_,_,_,z⟩:=z'; exact SqL.of (z _ _ e2 bD)) ?_ ?_⟩
  . rintro i x T σ H' hi hT ⟨v1,v2,kvs,rfl,eD,hkl,hR,fr⟩;have hi':=(af.mp hi).1;rw [aj,aj] at hi;obtain ⟨z,hz,rfl⟩:=au.mp hi;obtain ⟨n,hn,rfl⟩:=au.mp hz;have eD':(upd H' T (.tup [.int (i:Int),.int (n:Int)])) D=some (.dK kvs):=by rw [zm (zc eD hT)]; exact eD
    have eT:(upd H' T (.tup [.int (i:Int),.int (n:Int)])) T=some (.tup [.int (i:Int),.int (n:Int)]):=zk;have frT:∀ b o,H2 b=some o->b≠D->(upd H' T (.tup [.int (i:Int),.int (n:Int)])) b=some o:=λb o e n=>by rw [zm (zc (fr b o e n) hT)]; exact fr b o e n
    generalize upd H' T (.tup [.int (i:Int),.int (n:Int)])=G at eT eD' frT ⊢;exists ⟨D,_,rfl,DPut.k (k:=.inl (n:Int)) eD' (aI (show _<1000 by simp only [aa] at hi'; lia) (!3)),?_⟩;refine ⟨_,_,_,rfl,zk,bW (yH ..) (!2),λj hj=>?_,λb o e n=>by rw [zm n]; exact frT b o e n⟩;rw [xF];rw [bg,hn] at hj;by_cases c:j=n
    . subst c;rw [im rfl,FI hnd hn]
    . have cj:¬ ((.inl (j:Int):Key)=.inl (n:Int)):=λh=>c (d9 (fm h));rw [io cj];refine hR j ?_;rcases aB.mp hj with h|h
      . exact h
      . exact absurd (by simpa using h) c
  rintro σ H3 ⟨v1,v2,kvs,rfl,eD,hkl,hR,fr⟩;rw [aa,aa,ar] at hR;have s3:Same H H3:=λb o e=>fr _ _ (s2 _ _ (s1 _ _ e)) (zc e nD);exists y6 ?_;walk_at "r";have ha3:=s3 _ _ ha;refine ⟨a,rfl,⟨_,SqL.of ha3⟩,λO hO=>yq (K:=K) (a:=a) (ys:=(ms.map λn:Nat=>(n:Int)).map V.int) (λi xs σ' H'=>E1 λ(v:Option V)=>A4 (σ'=[v,vR D]) (xs=(((ms.take i).map (rk ts)).map λn:Nat=>(n:Int)).map V.int) (H' O=some (.lst xs)) (SameX O H3 H')) ⟨none,rfl,rfl,zk,λb o e n=>by rw [zm n]; exact e⟩ (λi xs σ' H' _ z=>by obtain ⟨v,_,_,_,z⟩:=z; exact SqL.of (z _ _ ha3 (zc ha3 hO))) ?_ ?_⟩
  . rintro i x xs σ' H' hi ⟨v,rfl,rfl,eO,sx⟩;have hi':=(af.mp hi).1;rw [aj,aj] at hi;obtain ⟨z,hz,rfl⟩:=au.mp hi;obtain ⟨n,hn,rfl⟩:=au.mp hz;have hD':=sx _ _ eD (zc eD hO);have hmt:=hp.mem_iff.mp (av hn);exists ⟨D,_,rfl,DGet.k (k:=.inl (n:Int)) hD' |> (λz=>by rw [hR n hmt] at z; exact z),?_⟩;exists zt eO (by simp only [aa,aZ] at hi' ⊢; lia) λH5 x5 e5=>?_;refine xv hi' ⟨_,rfl,rfl,?_,sx.trans x5⟩;rw [bg,hn,ai,ai,ai];exact e5
  rintro xs σ' H5 ⟨v,rfl,rfl,eO,sx⟩;rw [aa,aa,ar] at eO;refine q O H5 (λb o e=>sx _ _ (s3 _ _ e) (zc (s3 _ _ e) hO)) ?_ eO;exact Same.nn s3 hO
theorem K10(F:Fun K "with_names" "with_names" S40 f fd)(B:Bl mg)(g_GLUINGS:TopT K mg "GLUINGS" [.str "beside",.str "atop"]) :FnOk P w K mg base CX0 1 f fd ["deed","names"] P10:=by
  obtain ⟨a_GLUINGS,m_GLUINGS,q_GLUINGS⟩:=g_GLUINGS;refine F.okA C15 λcdv A outer s H vs Q E hr h=>?_;obtain @⟨p,a,e,r,k,rfl,he,nT,ha,hn,q⟩:=h;refine ⟨_,(za (zu (zj yA (pit 0) (zA (v:=.ref a_GLUINGS) rfl m_GLUINGS rfl) (by with_unfolding_all rfl)) (zd (zi (zo (pa3 (pit 0) (pe_i ix_list (pv 1) (pit 0)) (pe_i ix_list (pv 1) (pit 0)))))) zn) (zd (zi (zg IY (zo (pa2 (pit 0) (pe_i ix_list (pv 1) (pit 0)))) (BZ Km (pv 0) (Er ze) Dj))))),?_⟩;walk_at "s";cases e with
  | glue al n m =>
    have h0:H p=some (.tup [.str (Dd.glue al n m).wd,.int n,.int m]):=he;obtain ⟨n',n1,rfl⟩:=hn n (by simp [Dd.names]);obtain ⟨m',m1,rfl⟩:=hn m (by simp [Dd.names]);exists ⟨_,_,rfl,.inr (q_GLUINGS H),rfl,rfl,?_⟩;rw [show (if false=true then !inV _ _ else inV _ _)=true from El (.glue al n' m')];exists wV ha (Cc n1) ?_;exists wV ha (Cc m1) ?_;exists zI (!1) λb H1 nb s1 e1=>?_;exact q b H1 s1 nb e1
  | cut al n s =>
    obtain ⟨pq,h0,hs⟩:=he;obtain ⟨n',n1,rfl⟩:=hn n (by simp [Dd.names,Dd.n]);exists ⟨_,_,rfl,.inr (q_GLUINGS H),rfl,rfl,?_⟩;rw [show (if false=true then !inV _ _ else inV _ _)=false from El (.cut al n' s)];exists wV ha (Cc n1) ?_;exists zr (!1) λt1 H1 s1 e1=>?_;have h1:=s1 _ _ h0;exists Ht h1 λt2 H2 s2 e2=>?_;refine CZ (s2 _ _ e1) e2 (!1) (!1) (!1) λb H3 nb s3 e3=>?_;exact q b H3 ((s1.trans s2).trans s3) (Same.nn (s1.trans s2) nb) ⟨pq,e3,((s1.trans s2).trans s3) _ _ hs⟩
  | shift al n k' =>
    have h0:H p=some (.tup [.str (Dd.shift al n k').wd,.int n,.int k']):=he;obtain ⟨n',n1,rfl⟩:=hn n (by simp [Dd.names,Dd.n]);exists ⟨_,_,rfl,.inr (q_GLUINGS H),rfl,rfl,?_⟩;rw [show (if false=true then !inV _ _ else inV _ _)=false from El (.shift al n' k')];exists wV ha (Cc n1) ?_;exists zr (!1) λt1 H1 s1 e1=>?_;have h1:=s1 _ _ h0;exists Ht h1 λt2 H2 s2 e2=>?_;refine CZ (s2 _ _ e1) e2 (!1) (!1) (!1) λb H3 nb s3 e3=>?_;exact q b H3 ((s1.trans s2).trans s3) (Same.nn (s1.trans s2) nb) e3
  | turn n=>exact nomatch nT
theorem K11(F:Fun K "over" "over" S48 f fd)(B:Bl mg)  :FnOk P w K mg base CX0 1 f fd ["one"] P11:=by
  refine F.okA C16 λcdv A outer s H vs Q E hr h=>?_;obtain @⟨p,t,rfl,⟨r0,r1,f0,f1,f2,f3,⟨hp,h0,h1,g0,g1,g2,g3'⟩⟩,q⟩:=h;refine ⟨_,(zd (zi (zo (pa2 (zo (pa2 (pe_i ix_tup (pit 0) ze) (pe_i ix_tup (pit 0) ze))) (zo (pa2 (pe_i ix_tup (pit 0) ze) (pe_i ix_tup (pit 0) ze))))))),?_⟩;walk_at "s";exists zr (!1) λu0 H1 s1 e1=>?_;have hp:=s1 _ _ hp;have h0:=s1 _ _ h0;have h1:=s1 _ _ h1;have g0:=s1 _ _ g0;have g1:=s1 _ _ g1;have g2:=s1 _ _ g2;have g3':=s1 _ _ g3';exists zr (!1) λu1 H2 s2 e2=>?_;refine zr (!1) λu H3 s3 e3=>?_;exact q u H3 ((s1.trans s2).trans s3) ⟨u0,u1,f0,f2,f1,f3,e3,s3 _ _ (s2 _ _ e1),s3 _ _ e2,s3 _ _ (s2 _ _ g0),s3 _ _ (s2 _ _ g2),s3 _ _ (s2 _ _ g1),s3 _ _ (s2 _ _ g3')⟩
theorem K12(F:Fun K "slant" "slant" S50 f fd)(B:Bl mg)  :FnOk P w K mg base CX0 1 f fd ["one"] P12:=by
  refine F.okA C17 λcdv A outer s H vs Q E hr h=>?_;obtain @⟨p,t,rfl,⟨r0,r1,f0,f1,f2,f3,⟨hp,h0,h1,g0,g1,g2,g3'⟩⟩,bt,q⟩:=h;refine ⟨_,(za (ps_s 1 C17.nd (zg zl (zg zl (zg zl (pe_i ix_tup (pe_i ix_tup (pit 0) ze) ze) (pe_i ix_tup (pe_i ix_tup (pit 0) ze) ze)) (pe_i ix_tup (pe_i ix_tup (pit 0) ze) ze)) (pe_i ix_tup (pe_i ix_tup (pit 0) ze) ze))) (za (ps_s 2 C17.nd (zg zl (zg zl (zg zl (pe_i ix_tup (pe_i ix_tup (pit 0) ze) ze) (pe_i ix_tup (pe_i ix_tup (pit 0) ze) ze)) (pe_i ix_tup (pe_i ix_tup (pit 0) ze) ze)) (pe_i ix_tup (pe_i ix_tup (pit 0) ze) ze))) (zd (zi (zg yC (pv 1) (pv 2)))))),?_⟩;walk_at "s";have a1:Bd 3000 t.a.num:=bt.a.1;have a2:Bd 3000 (t.a.den:Int):=bt.a.2;have b1:Bd 3000 t.b.num:=bt.b.1;have b2:Bd 3000 (t.b.den:Int):=bt.b.2;have c1:Bd 3000 t.c.num:=bt.c.1;have c2:Bd 3000 (t.c.den:Int):=bt.c.2;have e1:Bd 3000 t.e.num:=bt.e.1;have e2:Bd 3000 (t.e.den:Int):=bt.e.2;walk_at "r";exact q
theorem K13(F:Fun K "first_unlike" "first_unlike" S51 f fd)(B:Bl mg)  :FnOk P w K mg base CX0 1 f fd ["one","other"] P13:=by
  refine F.okA C18 λcdv A outer s H vs Q E hr h=>?_;obtain @⟨p,p',s,t,rfl,h1,h2,qn,q⟩:=h;refine ⟨_,(za (zQ PassesOwn.never rfl (xa rfl B.range (pa1 ze)) (pg_n 2 C18.nd) (zd (zQ PassesOwn.never rfl (xa rfl B.range (pa1 ze)) (pg_n 3 C18.nd) (zd (zu (zj (DJ hr.units) (pe_i ix_tup (pe_i ix_tup (pv 0) (pv 2)) (pv 3)) (pe_i ix_tup (pe_i ix_tup (pv 1) (pv 2)) (pv 3)) (zp _)) (zd (zi (zo (pa2 (pv 2) (pv 3))))) zn))))) (zd (zi vq))),?_⟩;walk_at "s";exists EA ?_;exists ⟨2,rfl,by decide,by decide,xb (lo:=0) (n:=2) (λi σ H'=>E2 λv v'=>A3 (σ=[vR p,vR p',v,v']) (H'=H) (∀ k,k<2*i->cmT k s=cmT k t)) ⟨_,_,rfl,rfl,λk hk=>absurd hk (!2)⟩ ?_ ?_⟩
  . rintro i σ H' hi ⟨v,v',rfl,rfl,eqs⟩;exists EA ?_;exists ⟨2,rfl,by decide,by decide,xb (lo:=0) (n:=2) (λj σ H2=>E1 λv'=>A3 (σ=[vR p,vR p',vI (0+(i:Int)),v']) (H2=H') (∀ k,k<2*i+j->cmT k s=cmT k t)) ⟨_,rfl,rfl,eqs⟩ ?_ ?_⟩
    . rintro j σ H2 hj ⟨v',rfl,rfl,eqs⟩;obtain ⟨xs,ys,rr,ff,a1,a2,a3,a4,a5⟩:=LC h1 hi hj;obtain ⟨xs',ys',rr',ff',b1,b2,b3,b4,b5⟩:=LC h2 hi hj;exists Cu a1 a2 ?_;exists Cu a3 a4 ?_;exists Cu b1 b2 ?_;exists Cu b3 b4 ?_;exists M7 a5 b5 ?_;exists AI (λc=>?_) (λc=>?_)
      . exists zr (!1) λr H3 s3 e3=>?_;rw [dC,dC] at e3;exact q r H3 i j s3 e3 ⟨hi,hj,eqs,λz=>c (by rw [z]; exact ⟨rfl,rfl⟩)⟩
      . exists ⟨_,rfl,rfl,λk hk=>?_⟩;by_cases z:k<2*i+j
        . exact eqs k z
        . rw [show k=2*i+j by lia];exact Rat.ext c.1 (d9 c.2)
    . rintro σ H2 ⟨v',rfl,rfl,eqs⟩;walk_at "r";exact ⟨_,_,rfl,rfl,λk hk=>eqs k (!2)⟩
  rintro σ H' ⟨v,v',rfl,rfl,eqs⟩;walk_at "r";exact qn (Jd λk hk=>eqs k (!2))
theorem K14(F:Fun K "strips" "strips" S53 f fd)(B:Bl mg)(X:Xs K mg cs)(g_MOST:TopI mg "MOST" (400)) :FnOk P w K mg base (CXe P w) 1 f fd ["width","height"] (P14 cs):=by
  obtain ⟨u_MOST,m_MOST,r_MOST⟩:=g_MOST;refine F.okXA C19 λcdv A outer s H vs Q E hr h=>?_;obtain @⟨w,h,rfl,hb,q,qe⟩:=h;refine ⟨_,(za (ps_s 2 C19.nd (zx z5)) (za (ps_s 3 C19.nd (zA (v:=.int (400)) rfl m_MOST r_MOST)) (za (xK PassesOwn.leaving (PW.pt (yD (zj xw (pv 0) ze (zp _)) (yg (zj xw (pv 1) ze (zp _))))) (za (vZ (zu (zj vF (pv 0) (pv 1) (zp _)) (za (ps_s 4 C19.nd (zo (pa3 zG (pv 0) (zg zz (pv 1) (pv 0))))) (zd (ps_s 1 C19.nd (zg zX (pv 1) (pv 0))))) (za (ps_s 4 C19.nd (zo (pa3 zG (pv 1) (zg zz (pv 0) (pv 1))))) (zd (ps_s 0 C19.nd (zg zX (pv 0) (pv 1))))))) (za (ps_s 3 C19.nd (zg yC (pv 3) (pit 4))) (za (zu (zj vF (pv 3) ze (zp _)) (zd (Bw tM X.o_TooMany X.m_TooMany rfl rfl)) zn) (zd (zH (yW aM aQ aR zB (pv 2) (pa1 (pv 4))))))))) (zd (zi (pv 2)))))),?_⟩;walk_at "s";obtain ⟨bw0,bh0⟩:=hb;have epos:=Bj _ w h (ag _);exists zE (!1) λl H1 fl s1 e1=>?_;exists AN (λσ' H'=>E7 λ(w' h':Nat) (T:List StC) (x y rm:Int) (v:Option V)=>A10 ((rm+(tot (T.map StC.pr):Int)=400/\0<=rm)) (σ'=[vI x,vI y,vR l,vI rm,v]) (x=(w':Int)) (y=(h':Int)) ((w'<=w/\h'<=h)) (T.map StC.pr++eu w' h'=eu w h) ((T.map StC.t3++euW w' h'=euW w h/\∀ t∈T,t.w="along"\/t.w="across")) (H' l=some (.lst (T.map StC.v))) (SameX l H1 H') (∀ t∈T,t.At H')) (λσ' _=>match σ' with | some (.int a)::some (.int b)::_=>a.toNat+b.toNat | _=>0) ⟨w,h,[],_,_,_,_,⟨rfl,by decide⟩,rfl,rfl,rfl,⟨ag _,ag _⟩,rfl,⟨rfl,λt ht=>absurd ht (!1)⟩,e1,λb o e _=>e,λt ht=>absurd ht (!1)⟩ ?_;rintro σ' H' ⟨w',h',T,x,y,rm,v,⟨hrm,rm0⟩,rfl,rfl,rfl,⟨b1,b2⟩,hT,⟨hT3,hTw⟩,el,sx,hA⟩;exists if_d (λc1=>?_) (λc1=>?_)
  . exists if_d (λc2=>?_) (λc2=>?_)
    . have cw:CFp (h':Int) (w':Int):=⟨by lia,a8 (bw0.of_le (!2):Bd 900 (w':Int)).log ⋯⟩
      have ch:CFp (w':Int) (h':Int):=⟨by lia,a8 (bh0.of_le (!2):Bd 900 (h':Int)).log ⋯⟩
      refine wgo ?_;exists CP (T:=λσ2 H2=>E5 λ(x y:Int) (w2 h2:Nat) (t:StC)=>A9 (σ2=[vI x,vI y,vR l,vI rm,vR t.a]) (x=(w2:Int)) (y=(h2:Int)) (Same H' H2) (t.At H2) ((eu w' h'=t.pr::eu w2 h2/\euW w' h'=t.t3::euW w2 h2/\(t.w="along"\/t.w="across"))) (w2+h2<w'+h') (w2<=w) (h2<=h)) ?_ ?_
      . exists if_d (λc3=>?_) (λc3=>?_)
        . exists zr (!1) λp2 H2 s2 e2=>?_;walk_at "r";exact ⟨_,_,w',h' % w',⟨p2,"along",w',h' / w'⟩,rfl,rfl,rfl,s2,e2,⟨wF (!2) (!2),Dl (!2) (!2),.inl rfl⟩,by have:=bR h' (show 0<w' by lia); lia,by lia,by have:=bR h' (show 0<w' by lia); lia⟩
        . exists zr (!1) λp2 H2 s2 e2=>?_;walk_at "r";exact ⟨_,_,w' % h',h',⟨p2,"across",h',w' / h'⟩,rfl,rfl,rfl,s2,e2,⟨xT (!2) (!2),DP (!2) (!2),.inr rfl⟩,by have:=bR w' (show 0<h' by lia); lia,by have:=bR w' (show 0<h' by lia); lia,by lia⟩
      rintro σ2 H2 ⟨x,y,w2,h2,t,rfl,rfl,rfl,s2,et,⟨heu,heu3,htw⟩,hlt,k1,k2⟩;rw [heu] at hT;rw [heu3] at hT3;have htot:tot (T.map StC.pr)+(t.m+tot (eu w2 h2))=tot (eu w h):=by
        rw [<-hT,wn];rfl
      have el2:=s2 _ _ el;exists if_d (λc=>?_) (λc=>?_)
      . walk_at "r";exact qe (!2) H2 (λb o e=>s2 _ _ (sx _ _ (s1 _ _ e) (zc e fl)))
      exists zt el2 (by
        rw [aa];have h1:=congrArg List.length hT;rw [ah,aa] at h1;have h2:=AE (T.map StC.pr) (λe he=>epos e (by rw [<-hT]; exact bP _ he));rw [aa] at h2
        lia) λH3 sx3 e3=>?_
      exists ⟨⟨w2,h2,T++[t],_,_,_,_,⟨?_,by lia⟩,rfl,rfl,rfl,⟨k1,k2⟩,?_,⟨by rw [ai,aH]; exact hT3,λu hu=>(aB.mp hu).elim (hTw u) (λz=>by rw [ak.mp z]; exact htw)⟩,?_,(sx.trans (s2.sameX l)).trans sx3,λu hu=>?_⟩,?_⟩
      . rw [ai,wn];show rm - (t.m:Int)+((tot (T.map StC.pr)+(t.m+0):Nat):Int)=400
        lia
      . rw [ai,aH];exact hT
      . rw [ai];exact e3
      . rcases aB.mp hu with hu | hu
        . exact sx3.tup (s2 _ _ (hA u hu)) el2
        . have hu:u=t:=by simpa using hu
          subst hu;exact sx3.tup et el2
      . show (w2:Int).toNat+(h2:Int).toNat<(w':Int).toNat+(h':Int).toNat
        lia
    . walk_at "r";have hnil:eu w' h'=[]:=yG (!2);rw [hnil,bG] at hT;rw [vt (!2),bG] at hT3;exact q (by rw [<-hT]; lia) l H' T (λb o e=>sx b o (s1 b o e) (zc e fl)) el hA hT ⟨hT3,hTw⟩
  . walk_at "r";have hnil:eu w' h'=[]:=yG (!2);rw [hnil,bG] at hT;rw [vt (!2),bG] at hT3;exact q (by rw [<-hT]; lia) l H' T (λb o e=>sx b o (s1 b o e) (zc e fl)) el hA hT ⟨hT3,hTw⟩
theorem K15(F:Fun K "_law_cell" "_law_cell" S60 f fd)(B:Bl mg)  :FnOk P w K mg base CX0 1 f fd ["_law_script","_law_k"] (P15 K):=by
  refine F.okA C20 λcdv A outer s H vs Q E hr h=>?_;obtain @⟨p,ns,k,rfl,hS,hk,q⟩:=h;refine ⟨_,(za (zu (zj vF (pv 1) (zq zy rfl B.len br (pa1 (pv 0))) (zp _)) (zd (zi (pe_i ix_list (pv 0) (pv 1)))) zn) (zd (zi ze))),?_⟩;walk_at "s";exists ⟨p,_,rfl,.inl hS,?_⟩;exists if_d (λc=>?_) (λc=>?_)
  . walk_at "r";rw [aa] at c;obtain ⟨d,hd,e⟩:=HP (xs:=ns) (i:=k) hk c;exact ⟨p,_,_,_,rfl,rfl,hS,e,q d⟩
  . walk_at "r";exact q 0
theorem K16(F:Fun K "_law_mixed" "_law_mixed" S61 f fd)(B:Bl mg)  :FnOk P w K mg base CX0 1 f fd ["_law_cell_here","_law_k"] P16:=by
  refine F.okA C21 λcdv A outer s H vs Q E hr h=>?_;obtain @⟨c,k,rfl,k0,k1,q⟩:=h;refine ⟨_,(zd (zi (zg zX (zg zl (zg zK (zg zX (pv 0) ze) ze) (zg zK ze (zg zl (zg zl ze (pv 1)) (pv 1)))) ze))),?_⟩;walk_at "s";have kb:Bd 20 k:=uO 20 (!2) (!2) ⋯;have cb:Bd 40 (c % 2147483647):=zw (B:=2147483647) (!2) (!2) (!3);walk_at "r";exact q _ (cP _ ⋯) (dc _ ⋯)
theorem K17(F:Fun K "_law_divisor" "_law_divisor" S62 f fd)(B:Bl mg)  :FnOk P w K mg base CX0 1 f fd ["_law_one","_law_other"] P17:=by
  refine F.okA C22 λcdv A outer s H vs Q E hr h=>?_;obtain @⟨a,b,rfl,ha,hb,q⟩:=h;refine ⟨_,(za (xK PassesOwn.never (zj Ea (pv 1) ze (zp _)) (zd (KR (i:=0) (j:=1) rfl C22.nd rfl rfl ⋯ rfl rfl (pa2 (pv 1) (zg zX (pv 0) (pv 1))) rfl))) (zd (zi (pv 0)))),?_⟩;walk_at "s";exists AN (λσ' H'=>E2 λ(x y:Int)=>A5 (σ'=[vI x,vI y]) (H'=H) (0<=x) (0<=y) (Int.gcd x y=Int.gcd a b)) (λσ' _=>match σ' with | [_,some (.int y)]=>y.natAbs | _=>0) ⟨a,b,rfl,rfl,ha,hb,rfl⟩ ?_;rintro σ' H' ⟨x,y,rfl,rfl,hx,hy,hg⟩;exists AI (λc=>?_) (λc=>?_)
  . have y0':0<y:=by lia
    refine wgo ?_;exists ⟨⟨y,x % y,rfl,rfl,hy,cP _ (!2),(Gm x y).trans hg⟩,?_⟩;have h1:=cP x (show y≠0 by lia);have h2:=dc x y0';show (x % y).natAbs<y.natAbs
    lia
  . exists MB ?_ q;rw [<-hg,c,Int.gcd_zero_right]
    lia
theorem vP{b:Int}(hR:Rt d)(n1:¬ (0<=a/\0<=b))(n2:¬ (a<=0/\b<=0)):decide (decide (0<a)=decide (d*b*b<a*a))=decide (0<sgn d a b):=by
  by_cases ha0:0<a
  . rw [Dr ha0 (!2),iJ ha0];by_cases z:d*b*b<a*a
    . rw [iJ z,im z]; rfl
    . rw [il z,io z]; rfl
  . rw [D5 (!2) (!2),il ha0];have ne:a*a≠d*b*b:=λe=>by
      have:=irr hR e
      lia
    by_cases z:d*b*b<a*a
    . rw [iJ z,io (show ¬ a*a<d*b*b by lia)]; rfl
    . rw [il z,im (show a*a<d*b*b by lia)]; rfl
theorem K18(F:Fun K "_law_above" "_law_above" S65 f fd)(B:Bl mg)  :FnOk P w K mg base CX0 1 f fd ["_law_d","_law_first","_law_second"] P18:=by
  refine F.okA C23 λcdv A outer s H vs Q E hr h=>?_;obtain ⟨d,p,p',f,g,f',g',rfl,h1,h2,hR,⟨b1,b2,b3,b4⟩,q⟩:=h;refine ⟨_,(za (ps_s 3 C23.nd (zg zl (pit 1) (pit 2))) (za (ps_s 4 C23.nd (zg zl (pit 2) (pit 1))) (za (zu (PW.pt (yD (zj Do (pv 3) ze (zp _)) (yg (zj Do (pv 4) ze (zp _))))) (zd (zi (yh xw (zg zK (pv 3) (pv 4)) ze (zp _)))) zn) (za (zu (PW.pt (yD (zj GC (pv 3) ze (zp _)) (yg (zj GC (pv 4) ze (zp _))))) (zd (zi yY)) zn) (zd (zi (yh z8 (yh xw (pv 3) ze (zp _)) (yh xw (zg zl (pv 3) (pv 3)) (zg zl (zg zl (pv 0) (pv 4)) (pv 4)) (zp _)) (zp _)))))))),?_⟩;walk_at "s";have dlo:=hR.lo;have dhi:=hR.hi;have hd:Bd 64 d:=zw (B:=99) (!2) hR.hi (!3);have ba:Bd 1400 (f*g'):=b1.mul b4;have bb:Bd 1400 (f'*g):=b3.mul b2;exists if_d (λc1=>?_) (λc1=>?_)
  . exists if_d (λc2=>?_) (λc2=>?_)
    . walk_at "r";exact bl_q (decide_eq_decide.mpr (by rw [vp c1 c2]; split <;> lia)) q
    . exists if_d (λc3=>?_) (λc3=>?_)
      . exists if_d (λc4=>?_) (λc4=>?_)
        . walk_at "r";exact bl_q (Eq.symm (il (by rw [Cn (!2) c3 c4]; decide))) q
        . lia
      . walk_at "r";exact bl_q (vP hR (!2) (!2)) q
  . exists if_d (λc3=>?_) (λc3=>?_)
    . exists if_d (λc4=>?_) (λc4=>?_)
      . walk_at "r";exact bl_q (Eq.symm (il (by rw [Cn (!2) c3 c4]; decide))) q
      . walk_at "r";exact bl_q (vP hR (!2) (!2)) q
    . lia
theorem K19(F:Fun K "_law_cuts" "_law_cuts" S68 f fd)(B:Bl mg)  :FnOk P w K mg base CX0 1 f fd ["_law_wide","_law_high"] P19:=by
  refine F.okA C24 λcdv A outer s H vs Q E hr h=>?_;obtain @⟨w,h,rfl,⟨hw4,hh4⟩,q⟩:=h;refine ⟨_,(za (ps_s 2 C24.nd (zx z5)) (za (xK PassesOwn.never (PW.pt (yD (zj xw (pv 0) ze (zp _)) (yg (zj xw (pv 1) ze (zp _))))) (zd (zu (zj vF (pv 0) (pv 1) (zp _)) (za (ps_s 3 C24.nd (zg zz (pv 1) (pv 0))) (za (ps_s 1 C24.nd (zg yC (pv 1) (zg zl (pv 3) (pv 0)))) (zd (zH (yW aM aQ aR zB (pv 2) (pa1 (zx (pa2 (pv 0) (pv 3))))))))) (za (ps_s 3 C24.nd (zg zz (pv 0) (pv 1))) (za (ps_s 0 C24.nd (zg yC (pv 0) (zg zl (pv 3) (pv 1)))) (zd (zH (yW aM aQ aR zB (pv 2) (pa1 (zx (pa2 (pv 1) (pv 3)))))))))))) (zd (zi (pv 2))))),?_⟩;walk_at "s";exists zE (!1) λl H1 fl s1 e1=>?_;exists AN (λσ' H'=>E6 λ(w' h':Nat) (T:List StC) (x y:Int) (v:Option V)=>A8 (σ'=[vI x,vI y,vR l,v]) (x=(w':Int)) (y=(h':Int)) ((w'<=900/\h'<=90)) (T.map StC.pr++eu w' h'=eu w h) (H' l=some (.lst (T.map StC.v))) (SameX l H1 H') (∀ t∈T,t.Al H'/\t.a≠l)) (λσ' _=>match σ' with | some (.int a)::some (.int b)::_=>a.toNat+b.toNat | _=>0) ⟨w,h,[],_,_,_,rfl,rfl,rfl,⟨hw4,hh4⟩,rfl,e1,λb o e _=>e,λt ht=>absurd ht (!1)⟩ ?_;rintro σ' H' ⟨w',h',T,x,y,v,rfl,rfl,rfl,⟨b1,b2⟩,hT,el,sx,hA⟩;have tl:T.length<=990:=by
    have h1:=congrArg List.length hT;rw [ah,aa] at h1;have h2:=Bu _ w h (ag _)
    lia
  have step:∀ (H2 H3:Hp) (t:StC),Same H' H2->H' t.a=none->t.Al H2->SameX l H2 H3->SameX l H1 H3/\∀ u∈T++[t],u.Al H3/\u.a≠l:=λH2 H3 t s2 f2 et sx3=>by
    refine ⟨(sx.trans (s2.sameX l)).trans sx3,λu hu=>?_⟩;rcases aB.mp hu with hu|hu
    . exact ⟨sx3 _ _ (s2 _ _ (hA u hu).1) (hA u hu).2,(hA u hu).2⟩
    . have hu:u=t:=by simpa using hu
      subst hu;have ne:u.a≠l:=bZ (zc el f2);exact ⟨sx3 _ _ et ne,ne⟩
  exists if_d (λc1=>?_) (λc1=>?_)
  . exists if_d (λc2=>?_) (λc2=>?_)
    . have cw:CFp (h':Int) (w':Int):=⟨by lia,a8 (zw (k:=20) (B:=900) (!2) (!2) ⋯:Bd 20 (w':Int)).log ⋯⟩
      have ch:CFp (w':Int) (h':Int):=⟨by lia,a8 (zw (k:=20) (B:=900) (!2) (!2) ⋯:Bd 20 (h':Int)).log ⋯⟩
      have bw:Bd 20 (w':Int):=zw (B:=900) (!2) (!2) ⋯;have bh:Bd 20 (h':Int):=zw (B:=900) (!2) (!2) ⋯;refine wgo ?_;exists if_d (λc3=>?_) (λc3=>?_)
      . have hlt:w'<h':=by lia
        have hm:=bR h' (show 0<w' by lia);have heu:=wF (w:=w') (h:=h') (!2) hlt;have hsub:(h':Int) - (h':Int) / (w':Int)*(w':Int)=((h' % w':Nat):Int):=by
          have e:=ii (h':Int) (w':Int);rw [aq] at e;rw [<-e];rfl
        exists zE (!1) λp2 H2 f2 s2 e2=>?_;have el2:=s2 _ _ el;exists zt el2 (by rw [aa]; lia) λH3 sx3 e3=>?_;obtain ⟨z1,z2⟩:=step H2 H3 ⟨p2,"",w',h' / w'⟩ s2 f2 e2 sx3;exists ⟨⟨w',h' % w',T++[⟨p2,"",w',h' / w'⟩],_,_,_,rfl,rfl,hsub,⟨by lia,by lia⟩,?_,?_,z1,z2⟩,?_⟩
        . rw [ai,aH,<-hT,heu];rfl
        . rw [ai];exact e3
        . show (w':Int).toNat+((h':Int) - (h':Int) / (w':Int)*(w':Int)).toNat<(w':Int).toNat+(h':Int).toNat;rw [hsub]
          lia
      . have hlt:h'<=w':=by lia
        have hm:=bR w' (show 0<h' by lia);have heu:=xT (w:=w') (h:=h') (!2) hlt;have hsub:(w':Int) - (w':Int) / (h':Int)*(h':Int)=((w' % h':Nat):Int):=by
          have e:=ii (w':Int) (h':Int);rw [aq] at e;rw [<-e];rfl
        exists zE (!1) λp2 H2 f2 s2 e2=>?_;have el2:=s2 _ _ el;exists zt el2 (by rw [aa]; lia) λH3 sx3 e3=>?_;obtain ⟨z1,z2⟩:=step H2 H3 ⟨p2,"",h',w' / h'⟩ s2 f2 e2 sx3;exists ⟨⟨w' % h',h',T++[⟨p2,"",h',w' / h'⟩],_,_,_,rfl,hsub,rfl,⟨by lia,by lia⟩,?_,?_,z1,z2⟩,?_⟩
        . rw [ai,aH,<-hT,heu];rfl
        . rw [ai];exact e3
        . show ((w':Int) - (w':Int) / (h':Int)*(h':Int)).toNat+(h':Int).toNat<(w':Int).toNat+(h':Int).toNat;rw [hsub]
          lia
    . walk_at "r";have hnil:eu w' h'=[]:=yG (!2);rw [hnil,bG] at hT;exact q l H' T (λb o e=>sx b o (s1 b o e) (zc e fl)) el (λt ht=>(hA t ht).1) hT
  . walk_at "r";have hnil:eu w' h'=[]:=yG (!2);rw [hnil,bG] at hT;exact q l H' T (λb o e=>sx b o (s1 b o e) (zc e fl)) el (λt ht=>(hA t ht).1) hT
theorem K20(F:FunD K "__init__" "Yard.__init__" S72 f fd its)(B:Bl mg)(X:Xs K mg cs) :FnOk P w K mg base CX0 1 f fd ["self","d","heap","turning"] (P20 cs):=by
  refine F.okA C25 λcdv A outer s H vs Q E hr h=>?_;obtain ⟨p,dx,hp,d,tn,cl,rfl,h0,hh,hat,hlen,q⟩:=h;refine ⟨_,(za (Ap (pv 0) (pv 1) rfl) (za (Ap (pv 0) (pv 3) rfl) (za (Ap (pv 0) (yE uZ rfl B.list Ax (pa1 (pv 2))) rfl) (za (Ap (pv 0) (yE (vO rfl) rfl B.dict ED (pa1 (yj ["name"] [] rfl (xa rfl B.range (pa1 (zq zy rfl B.len br (pa1 (pv 2))))) (λ_ _ _ _ _=>(pg_n 0 (show List.Nodup (α:=Str) ["name"] by decide +kernel))) (λ_ _ _ _ _=>zP) (λ_ _ _ _ _=>(zo (pa2 (pv 0) yY)))))) rfl) (zd (Ap (pv 0) (zx z5) rfl)))))),?_⟩;walk_at "s";exists tD h0 X.c_Yard X.n_Yard_root (!1) λH1 x1 e1=>?_;exists tD e1 X.c_Yard X.n_Yard_turning (yM (!1)) λH2 x2 e2=>?_;have np:hp≠p:=zW hh h0 (λz=>nomatch z);have hh2:=x2 _ _ (x1 _ _ hh np) np;exists DV hh2 λk H3 nk s3 ek=>?_;have e3:=s3 _ _ e2;have kp:k≠p:=zW ek e3 (λz=>nomatch z);exists tD e3 X.c_Yard X.n_Yard_known (yM (yM (!1))) λH4 x4 e4=>?_;have ek4:=x4 _ _ ek kp;have hh4:=x4 _ _ (s3 _ _ hh2) np;exists uP ?_;exists ⟨_,rfl,by simp only [aa]; lia,by simp only [aa]; lia,λD hD=>xq (lo:=0) (n:=((cl.map Cell.v).length:Int).toNat) (λi xs σ' H'=>E2 λ(v:Option V) (ps:List Addr)=>A6 (σ'=[v]) (xs=ps.map V.ref) (ps.length=i) (H' D=some (.lst xs)) (SameX D H4 H') (∀ (j:Nat) (p':Addr),ps[j]?=some p'->H' p'=some (.tup [.int (j:Int),.bl true]))) ⟨none,[],rfl,rfl,rfl,zk,λb o e n=>by rw [zm n]; exact e,by simp⟩ ?_ ?_⟩
  . rintro i xs σ' H' hi ⟨v,ps,rfl,rfl,hl,eD,sx,hps⟩;exists zI (!1) λr H5 hr s5 e5=>?_;walk_at "r";have hi':i<61:=by simp only [aa] at hi; lia
    refine zt (s5 _ _ eD) (by rw [aa]; lia) λH6 x6 e6=>?_;have rD:r≠D:=zW e5 (s5 _ _ eD) (λz=>nomatch z);refine xv hi ⟨_,ps++[r],rfl,rfl,by rw [ah,hl]; rfl,by rw [ai]; exact e6,sx.trans ((SameX.of s5).trans x6),?_⟩;intro j p' hj;by_cases c:j<ps.length
    . rw [aT c] at hj;have:=hps j p' hj;exact x6.tup (s5 _ _ this) (s5 _ _ eD)
    . rw [aN (!2)] at hj;have hj1:=(af.mp hj).1;have j0:j - ps.length=0:=by simpa using hj1
      rw [j0] at hj;injection hj with hj;subst hj;have:j=i:=by lia
      subst this;have:=x6.tup e5 (s5 _ _ eD);simpa using this
  . rintro xs σ' H' ⟨v,ps,rfl,rfl,hl,eD,sx,hps⟩;have s5:Same H4 H':=λb o e=>sx b o e (zc e hD);have hl:ps.length=cl.length:=by rw [hl]; simp
    exists Fr (kvs:=nmK (List.range cl.length)) eD (by simp [nmK,hl]) (λi p' kv h1 h2=>?_) (tQ cg) (by simp [nmK]; lia) λl H6 nl s6 el=>?_
    . have h3:=hps i p' h1;have hi:=(af.mp h1).1;rw [nmK,aj,dw (!2)] at h2;injection h2 with h2;rw [<-h2];exact h3
    have e6:=s6 _ _ (s5 _ _ e4);have lp:l≠p:=zW el e6 (λz=>nomatch z);exists tD e6 X.c_Yard X.n_Yard_lying (yM (yM (yM (!1)))) λH7 x7 e7=>?_;exists zE (!1) λt H8 nt s8 et=>?_;have e8:=s8 _ _ e7;have tp:t≠p:=zW et e8 (λz=>nomatch z);exists tD e8 X.c_Yard X.n_Yard_done (yM (yM (yM (yM (!1))))) λH9 x9 e9=>?_;have ek7:=x7 _ _ (s6 _ _ (s5 _ _ ek4)) kp;have xx:SameX p H H9:=x1.trans (x2.trans ((SameX.of s3).trans (x4.trans ((SameX.of (s5.trans s6)).trans (x7.trans ((SameX.of s8).trans x9))))));have pn:∀ {b:Addr} {G:Hp},SameX p H G->b≠p->G b=none->H b=none:=λ{b G} x n g=>by
      cases e:H b with
      | none=>rfl
      | some o=>rw [x _ _ e n] at g; cases g
    refine q ⟨p,dx,k,l,t⟩ H9 rfl rfl xx ⟨e9,x9 _ _ (s8 _ _ ek7) kp,x9 _ _ (s8 _ _ (x7 _ _ el lp)) lp,x9 _ _ et tp,zc ek7 nt,λc hc=>?_,cg,λn hn=>bV.mp hn,by lia,by simp⟩ (pn (x1.trans x2) kp nk) (pn (x1.trans (x2.trans ((SameX.of s3).trans (x4.trans (SameX.of s5))))) lp nl) (pn (x1.trans (x2.trans ((SameX.of s3).trans (x4.trans ((SameX.of (s5.trans s6)).trans x7))))) tp nt);have hc:=hat c hc;exact ⟨xx _ _ hc.t (zW hc.t h0 (λz=>nomatch z)),xx _ _ hc.w (zW hc.w h0 (λz=>nomatch z)),xx _ _ hc.h (zW hc.h h0 (λz=>nomatch z))⟩
theorem K21(F:Fun K "board_ever" "Yard.board_ever" S76 f fd)(B:Bl mg)(X:Xs K mg cs) :FnOk P w K mg base CX0 1 f fd ["self","name"] (P21 cs):=by
  refine F.okA C26 λcdv A outer s H vs Q E hr h=>?_;obtain @⟨y,d,tn,cl,ns,lg,n,c,rfl,hy,hc,q⟩:=h;refine ⟨_,(zd (zi (pe_i ix_list (yn (K:=K) rfl (pv 0) rfl) (pv 1)))),?_⟩;walk_at "s";exists ⟨_,_,_,_,_,rfl,hy.o,X.c_Yard,X.n_Yard_known,rfl,?_⟩;exists wV hy.k (v:=c.v) (xW (by rw [aj,hc]; rfl)) ?_;walk_at "r";exact q
theorem K22(F:Fun K "boards" "Yard.boards" S77 f fd)(B:Bl mg)(X:Xs K mg cs) :FnOk P w K mg base CX0 1 f fd ["self"] (P22 cs):=by
  refine F.okA C27 λcdv A outer s H vs Q E hr h=>?_;obtain @⟨y,d,tn,cl,ns,lg,rfl,hy,q⟩:=h;refine ⟨_,(zd (zi (FT ["name"] [0] rfl (IV (yn (K:=K) rfl (pv 0) rfl)) (λ_ _ _ _ _=>(pg_n 0 (show List.Nodup (α:=Str) ["name","self"] by decide +kernel))) (λ_ _ _ _ _=>zP) (λ_ _ _ _ _=>(zo (pa2 (pv 0) (pe_i (r:=rIxL K) ix_list (yn (K:=K) rfl (pv 1) rfl) (pv 0)))))))),?_⟩;walk_at "s";refine i_ret ?_;refine IR ?_;exists ⟨_,_,_,_,_,rfl,hy.o,X.c_Yard,X.n_Yard_lying,rfl,?_⟩;refine ⟨y.l,nmK ns,rfl,hy.l,λob nf D hD=>Ew (d:=y.l) (ob:=ob) (kvs:=nmK ns) (λi xs σ' H'=>E1 λ(v:Option V)=>A5 (σ'=[v,vR y.p]) ((∃ ps:List Addr,xs=ps.map V.ref/\ps.length=i/\∀ (j:Nat) (p:Addr),ps[j]?=some p->∃ n c,ns[j]?=some n/\cl[n]?=some c/\H' p=some (.tup [.int (n:Int),.ref c.p]))) (H' D=some (.lst xs)) (H' y.l=some (.frz ob (.dK (nmK ns)))) (∀ b o,H b=some o->b≠y.l->H' b=some o)) ?_ (λi xs σ' H' _ z=>by obtain ⟨_,_,_,_,z,_⟩:=z; exact z) ?_ ?_⟩
  . have nl:D≠y.l:=λc=>by rw [c,zk] at hD; cases hD
    have hD':H D=none:=by rw [zm nl] at hD; exact hD
    exact ⟨none,rfl,⟨[],rfl,rfl,by simp⟩,zk,by rw [zm (bZ nl),zk],λb o e n=>by rw [zm (zc e hD'),zm n]; exact e⟩
  . rintro i kv xs σ' H' hi ⟨v,rfl,⟨ps,rfl,hl,hps⟩,eD,el,sx⟩;have nl0:D≠y.l:=λc=>by rw [c,zk] at hD; cases hD
    have hD':H D=none:=by rw [zm nl0] at hD; exact hD
    rw [nmK,aj] at hi;obtain ⟨n,hn,rfl⟩:=au.mp hi;have hlt:=hy.lt n (av hn);obtain ⟨c,hc⟩:∃ c,cl[n]?=some c:=⟨_,ae hlt⟩
    have nl:∀ {b:Addr} {o:HO},H b=some o->(∀ k,o≠.dK k)->b≠y.l:=λe h z=>by rw [z,hy.l] at e; injection e with e; exact h _ e.symm
    have eo:=sx _ _ hy.o (nl hy.o (λ_ z=>nomatch z));have ek:=sx _ _ hy.k (nl hy.k (λ_ z=>nomatch z));exists ⟨_,_,_,_,_,rfl,eo,X.c_Yard,X.n_Yard_known,rfl,?_⟩;exists wV ek (v:=c.v) (xW (by rw [aj,hc]; rfl)) ?_;have hi3:=(af.mp hn).1;have l1:=EZ hy.up hy.lt;have l2:=hy.lc;exists zI (!1) λr H5 hr s5 e5=>?_;walk_at "r";have eD5:=s5 _ _ eD;refine zt eD5 (by rw [aa]; lia) λH3 x3 e3=>?_;refine xv (by simp only [nmK,aa]; exact hi3) ⟨_,rfl,⟨ps++[r],rfl,by rw [ah,hl]; rfl,?_⟩,by rw [ai]; exact e3,x3 _ _ (s5 _ _ el) (zW (s5 _ _ el) eD5 (λz=>nomatch z)),λb o e n=>x3 _ _ (s5 _ _ (sx b o e n)) (zc e hD')⟩;intro j p' hj;by_cases cj:j<ps.length
    . rw [aT cj] at hj;obtain ⟨n',c',h1,h2,h3⟩:=hps j p' hj;exact ⟨n',c',h1,h2,x3.tup (s5 _ _ h3) eD5⟩
    . rw [aN (!2)] at hj;have hj1:=(af.mp hj).1;have j0:j - ps.length=0:=by simpa using hj1
      rw [j0] at hj;injection hj with hj;subst hj;have:j=i:=by lia
      subst this;exact ⟨n,c,hn,hc,x3.tup e5 eD5⟩
  . rintro xs σ' H' ⟨v,rfl,⟨ps,rfl,hl,hps⟩,eD,el,sx⟩;have nl0:D≠y.l:=λc=>by rw [c,zk] at hD; cases hD
    have hD':H D=none:=by rw [zm nl0] at hD; exact hD
    refine ⟨y.l,ob,nmK ns,nf,el,?_⟩;refine q D _ ps (λb o e=>?_) hD' (by rw [zm nl0]; exact eD) ⟨by rw [hl,nmK,aa],λj p' hj=>?_⟩;rotate_left
    . obtain ⟨n',c',h1,h2,h3⟩:=hps j p' hj;exact ⟨n',c',h1,h2,by rw [zm (zW h3 el (λz=>nomatch z))]; exact h3⟩
    by_cases c:b=y.l
    . rw [c,zk]; rw [c,hy.l] at e; exact e
    . rw [zm c]; exact sx b o e c
theorem K23(F:FunD K "length" "length" S7 f fd its)(B:Bl mg)(o2x:O2x P w K mg base)(o1x:O1x P w K mg base)(o0x:O0x P w K mg base):FnOk P w K mg base CX0 2 f fd ["a","b","n"] P23:=by
  refine F.okA C28 λcdv A outer s H vs Q E hr h=>?_;obtain ⟨a,b,n,rfl,hn,hb,⟨ha8,hb8⟩,q⟩:=h;refine ⟨_,(za (zu (y4 (PW.pt (yD (yb (zf o0x hr rfl (pa1 (pv 0)))) (yD (yb (zf o0x hr rfl (pa1 (pv 1)))) (yg (yb (zf o0x hr rfl (pa1 (pv 2))))))))) (zd yv) zn) (za (zu (zj z8 (pv 2) ze (zp _)) (zd yv) zn) (za (ps_s 3 C28.nd (zf o2x hr rfl (pa2 (zf o1x hr rfl (pa2 (zf o1x hr rfl (pa2 (pv 2) (pv 0))) (pv 1))) (pv 2)))) (zd (zi (zo (pa3 (zg zM (pv 0) (pv 3)) (zg zM (pv 1) (pv 3)) (zg zM (pv 2) (pv 3))))))))),?_⟩;walk_at "s";have hc:∀ x,CFd x (gd a b n):=λx=>⟨KG hn,a8 (KP hn hb).log ⋯⟩
  exists if_d (λc=>absurd c hn) (λ_=>?_);walk_at "r"
  . exact zr (!1) λp H' s e=>q p H' s e
  all_goals exact hc _
theorem K24(F:FunD K "fraction" "fraction" S8 f fd its)(B:Bl mg)(o2x:O2x P w K mg base)(o1x:O1x P w K mg base):FnOk P w K mg base CX0 2 f fd ["top","bottom"] P24:=by
  refine F.okA C29 λcdv A outer s H vs Q E hr h=>?_;obtain ⟨t,b,rfl,hn,hb,q⟩:=h;refine ⟨_,(za (ps_s 2 C29.nd (zf o2x hr rfl (pa2 (zf o1x hr rfl (pa2 (pv 0) (pv 1))) (pv 1)))) (zd (zi (zo (pa2 (zg zM (pv 0) (pv 2)) (zg zM (pv 1) (pv 2))))))),?_⟩;walk_at "s";have hc:∀ x,CFd x (fg t b):=λx=>⟨Md hn,a8 (MZ hn hb).log ⋯⟩
  walk_at "r"
  . exact zr (!1) λp H' s e=>q p H' s e
  all_goals exact hc _
theorem K25(F:Fun K "by_parts" "by_parts" S10 f fd)(B:Bl mg)(o1x:O1x P w K mg base):FnOk P w K mg base CX0 2 f fd ["f","g"] P25:=by
  refine F.okA C30 λcdv A outer s H vs Q E hr h=>?_;obtain ⟨p,p',t,b,t',b',rfl,h1,h2,n1,n2,k1,k2,⟨b1,b2,b3,b4⟩,q⟩:=h;refine ⟨_,(za (ps_s 2 C30.nd (zf o1x hr rfl (pa2 (pit 0) (pit 1)))) (zd (zi (zo (pa3 (zg zl (pit 0) (zg zM (pit 1) (pv 2))) (zg zl (pit 1) (zg zM (pit 0) (pv 2))) (zg zl (zg zM (pit 0) (pv 2)) (pit 1))))))),?_⟩;walk_at "s";obtain ⟨as1,ea,eb,en⟩:=tw n1 n2 k1 k2;have gb:Bd 3900 (aS b b'):=vf (!2) b2;have hs:∀ t,CFd t (aS b b'):=λt=>⟨by lia,a8 gb.log ⋯⟩
  rw [<-ea,<-eb,<-en] at q;walk_at "r"
  . exact zr (!1) λr H' s e=>q r H' s e
  all_goals exact hs _
theorem K26(F:Fun K "added" "added" S11 f fd)(B:Bl mg)(o1x:O1x P w K mg base):FnOk P w K mg base CX0 2 f fd ["one","other"] (P26 K):=by
  refine F.okA C31 λcdv A outer s H vs Q E hr h=>?_;obtain ⟨p,p',x,y,z,x',y',z',rfl,h1,h2,n1,n2,k1,k2,⟨b1,b2,b3,b4,b5,b6⟩,q⟩:=h;refine ⟨_,(za (ps_s 2 C31.nd (zf o1x hr rfl (pa2 (pit 0) (pit 1)))) (za (ps_s 3 C31.nd (zg zM (pit 1) (pv 2))) (za (ps_s 4 C31.nd (zg zM (pit 0) (pv 2))) (za (ps_s 5 C31.nd (zg zK (zg zl (pit 0) (pv 3)) (zg zl (pit 1) (pv 4)))) (za (ps_s 6 C31.nd (zg zK (zg zl (pit 0) (pv 3)) (zg zl (pit 1) (pv 4)))) (za (ps_s 7 C31.nd (zf o1x hr rfl (pa2 (zf o1x hr rfl (pa2 (pv 2) (pv 5))) (pv 6)))) (zd (zi (zo (pa3 (zg zM (pv 5) (pv 7)) (zg zM (pv 6) (pv 7)) (zg zl (pv 4) (zg zM (pit 1) (pv 7))))))))))))),?_⟩;walk_at "s";obtain ⟨as1,al1,ea,eb,en⟩:=IK n1 n2 k1 k2;have gb:Bd 3900 (aS z z'):=vf (!2) b3;have lb:Bd 3900 (aL x y z x' y' z'):=vf (by have:=cI (aA x z x' z') (show aS z z'≠0 by lia); lia) (vf (!2) gb);have ba8:Bd 8192 (aA x z x' z'):=Bd.mono (Bd.add (k:=7800) (b1.mul (b6.fdiv _)) (b4.mul (b3.fdiv _))) ⋯;have bb8:Bd 8192 (aA y z y' z'):=Bd.mono (Bd.add (k:=7800) (b2.mul (b6.fdiv _)) (b5.mul (b3.fdiv _))) ⋯;have hs:∀ t,CFd t (aS z z'):=λt=>⟨by lia,a8 gb.log ⋯⟩
  have hl:∀ t,CFd t (aL x y z x' y' z'):=λt=>⟨by lia,a8 lb.log ⋯⟩
  rw [<-ea,<-eb,<-en] at q;walk_at "r"
  . exact zr (!1) λr H' s e=>q r H' s e
  all_goals first | exact hs _ | exact hl _
theorem K27(F:Fun K "under" "under" S16 f fd)(B:Bl mg)(o11x:Own P w K mg base 1 "is_above_nought" ["d","a","b"] [] P3):FnOk P w K mg base CX0 2 f fd ["d","one","other"] (P27 K):=by
  refine F.okA C32 λcdv A outer s H vs Q E hr h=>?_;obtain ⟨d,p,p',x,y,z,x',y',z',rfl,h1,h2,hd,⟨b1,b2,b3,b4,b5,b6⟩,q⟩:=h;refine ⟨_,(zd (zi (zf o11x hr rfl (pa3 (pv 0) (zg yC (zg zl (pit 2) (pit 1)) (zg zl (pit 1) (pit 2))) (zg yC (zg zl (pit 2) (pit 1)) (zg zl (pit 1) (pit 2))))))),?_⟩;walk_at "s";walk_at "r";exact xZ rfl hd ((Bd.sub (b4.mul b3) (b1.mul b6)).mono ⋯) ((Bd.sub (b5.mul b3) (b2.mul b6)).mono ⋯) q
theorem K28(F:Fun K "counts" "counts" S21 f fd)(B:Bl mg)(o15x:Own P w K mg base 1 "crossed" ["one","other"] [] P4):FnOk P w K mg base CX0 2 f fd ["d","base","one"] P28:=by
  refine F.okA C33 λcdv A outer s H vs Q E hr h=>?_;obtain ⟨d,d',p,r1,r2,o,s,N,x,y,rfl,⟨h0,h1,h2⟩,ho,hN,hb,g,⟨bx,by'⟩,q⟩:=h;refine ⟨_,(za (ps_s 3 C33.nd (pit 1)) (za (ps_s 4 C33.nd (pit 1)) (za (ps_s 5 C33.nd (zg zl (pit 2) (zf o15x hr rfl (pa2 (pv 3) (pv 4))))) (zd (zi (zo (pa2 (zg zM (zg zl (zf o15x hr rfl (pa2 (pv 2) (pv 4))) (pit 3)) (pv 5)) (zg zM (zg zl (zf o15x hr rfl (pa2 (pv 3) (pv 2))) (pit 4)) (pv 5))))))))),?_⟩;walk_at "s";obtain ⟨b0,ci,cj⟩:=MT (x:=x) (y:=y) g hN;have k1:Bd 900 (lA s.a s.b N):=g.ba.fdiv _;have k2:Bd 900 (lB s.a s.b N):=g.bb.fdiv _;have k3:Bd 900 (lN s.a s.b N):=hb.fdiv _;have k4:Bd 900 (lA s.c s.e N):=g.bc.fdiv _;have k5:Bd 900 (lB s.c s.e N):=g.be.fdiv _;have k6:Bd 900 (lN s.c s.e N):=hb.fdiv _;have k7:Bd 900 (lA x y N):=bx.fdiv _;have k8:Bd 900 (lB x y N):=by'.fdiv _;have k9:Bd 900 (lN x y N):=hb.fdiv _;have bb:Bd 4000 (lN x y N*(lA s.a s.b N*lB s.c s.e N - lB s.a s.b N*lA s.c s.e N)):=Bd.mono (k9.mul ((k1.mul k5).sub (k2.mul k4))) ⋯;have hc:∀ t,CFd t (lN x y N*(lA s.a s.b N*lB s.c s.e N - lB s.a s.b N*lA s.c s.e N)):=λt=>⟨b0,a8 bb.log ⋯⟩
  rw [<-ci,<-cj] at q;exists vb h1 h2 k1 k2 k4 k5 ?_;exists vb ho h2 k7 k8 k4 k5 ?_;walk_at "r"
  . refine vb h1 ho k1 k2 k7 k8 ?_;walk_at "r"
    . exact zr (!1) λr H' s' e=>q r H' s' e
    exact hc _
  all_goals exact hc _
theorem K29(F:Fun K "common_bottom" "common_bottom" S22 f fd)(B:Bl mg)(o1x:O1x P w K mg base):FnOk P w K mg base CX0 2 f fd ["lengths"] (P29 K):=by
  refine F.okA C34 λcdv A outer s H vs Q E hr h=>?_;obtain @⟨d,k,p,L,rfl,hL,hlen,hNb,q⟩:=h;refine ⟨_,(za (ps_s 1 C34.nd ze) (za (zQ PassesOwn.never rfl (zJ (pv 0)) (pg_n 2 C34.nd) (zd (ps_s 1 C34.nd (zg zl (zg zM (pv 1) (zf o1x hr rfl (pa2 (pv 1) (pit 2)))) (pit 2))))) (zd (zi (pv 1))))),?_⟩;walk_at "s";exists yK ?_;exists ⟨p,rfl,⟨_,SqL.of hL.l⟩,zS (K:=K) (a:=p) (xs:=L.map Ln.v) (λi σ H'=>∃ (v:Option V),σ=[vR p,vI (cbs ((L.take i).map λc=>c.s.z)),v]/\H'=H) ⟨none,rfl,rfl⟩ (λi σ H' _ z'=>by obtain ⟨_,_,e⟩:=z'; exact by rw [e]; exact SqL.of hL.l) ?_ ?_⟩
  . rintro i y σ H' hi ⟨v,rfl,rfl⟩;obtain ⟨c,rfl,hc,hic⟩:=LU hi;have e0:=hL.at' c hc;have ok:=hL.ok c hc;have bz:=ok.bz;have z1:=ok.z1;obtain ⟨f1,fb⟩:=FU hL.ok hNb i;have hn:0<Int.gcd (cbs ((L.take i).map λc=>c.s.z)) c.s.z:=cI _ (!2);have gb:Bd 890 ((Int.gcd (cbs ((L.take i).map λc=>c.s.z)) c.s.z:Nat):Int):=vf (!2) fb;have hcf:∀ t,CFd t ((Int.gcd (cbs ((L.take i).map λc=>c.s.z)) c.s.z:Nat):Int):=λt=>⟨by lia,a8 gb.log ⋯⟩
    walk_at "r"
    . exact ⟨some (.ref c.p),by rw [AD hic,F6]; rfl,rfl⟩
    all_goals exact hcf _
  . rintro σ H' ⟨v,rfl,rfl⟩;rw [aa,ar];walk_at "r";exact q
theorem K30(F:Fun K "undoing" "undoing" S36 f fd)(B:Bl mg)(o72x:OwnM P w K mg base CX0 cs.Yard 1 "board_ever" ["self","name"] [] (P21 cs)):FnOk P w K mg base CX0 2 f fd ["yard","deed","names"] (P30 cs):=by
  refine F.okA C35 λcdv A outer s H vs Q E hr h=>?_;obtain @⟨y,d,tn,cl,ns,lg,p,a,e,n,c,m,m',rfl,hy,he,ha,hn,hc,q⟩:=h;refine ⟨_,(za (ps_s 3 C35.nd (pit 1)) (za (zu (zj z8 (pv 3) zG (zp _)) (zd (zi (zo (pa3 zG (pil 2) (pil 2))))) zn) (za (zu (zj z8 (pv 3) zG (zp _)) (zd (zi (zo (pa3 zG (pil 2) (pil 2))))) zn) (za (zu (zj z8 (pv 3) zG (zp _)) (zd (zi (zo (pa3 zG (pil 2) (pe_i ix_tup (wQ o72x tK hr (pv 0) (pa1 (pit 1))) ze))))) zn) (za (zu (zj z8 (pv 3) zG (zp _)) (zd (zi (zo (pa3 zG (pil 2) (pe_i ix_tup (wQ o72x tK hr (pv 0) (pa1 (pit 1))) ze))))) zn) (za (zu (zj z8 (pv 3) zG (zp _)) (zd (zi (zo (pa3 zG (pil 2) (pit 1))))) zn) (za (zu (zj z8 (pv 3) zG (zp _)) (zd (zi (zo (pa3 zG (pil 2) (pit 1))))) zn) (zd (zi (zo (pa2 zG (pil 2)))))))))))),?_⟩;walk_at "s";cases e with
  | cut al n1 s' =>
    obtain ⟨pq,h0,hs⟩:=he;have ga:al=al:=rfl;cases al
    all_goals
      simp [DdAt,Dd.wd] at h0;have ha:H a=some (.lst [.int m,.int m']):=ha;first
       | have:false=false:=ga
       | (walk_at "r"
          refine ifn ?_)
      exists if_d (λ_=>?_) (λc=>absurd rfl c);exists zI (!1) λr H1 nr s1 e1=>?_;exact q r H1 s1 nr e1
  | glue al n1 m1 =>
    have h0:=he;have ga:al=al:=rfl;cases al
    all_goals
      simp [DdAt,Dd.wd] at h0;have ha:H a=some (.lst [.int m]):=ha;first
       | have:false=false:=ga
       | (walk_at "r"
          refine ifn ?_)
      exists ifn ?_;exists ifn ?_;exists if_d (λ_=>?_) (λc=>absurd rfl c);walk_at "r";have hn:n1=(n:Int):=hn;subst hn;refine ⟨_,_,_,rfl,hy.o,rfl,?_⟩;exists wc rfl hy hc ?_;have hc':=hy.at' c (av hc);have ht:=hc'.t;exists zI (!1) λr H1 nr s1 e1=>?_;first
       | (have:false=false:=ga
          exact q r H1 s1 nr ⟨c.pw,e1,s1 _ _ hc'.w⟩)
       | exact q r H1 s1 nr ⟨c.ph,e1,s1 _ _ hc'.h⟩
  | shift al n1 k =>
    have h0:=he;have ga:al=al:=rfl;cases al
    all_goals
      simp [DdAt,Dd.wd] at h0;have ha:H a=some (.lst [.int m]):=ha;first
       | have:false=false:=ga
       | (walk_at "r"
          refine ifn ?_)
      exists ifn ?_;exists ifn ?_;exists ifn ?_;exists ifn ?_;exists if_d (λ_=>?_) (λc=>absurd rfl c);exists zI (!1) λr H1 nr s1 e1=>?_;exact q r H1 s1 nr e1
  | turn n1 =>
    have h0:=he;have h0:H p=some (.tup [.str (Str.ofString "turn"),.int n1]):=h0;have ha:H a=some (.lst [.int m]):=ha;exists ifn ?_;exists ifn ?_;exists ifn ?_;exists ifn ?_;exists ifn ?_;exists ifn ?_;exists zI (!1) λr H1 nr s1 e1=>?_;exact q r H1 s1 nr e1
theorem K31(F:Fun K "names_behind" "names_behind" S39 f fd)(B:Bl mg)(o24x:O24x P w K mg base)(o25x:O25x P w K mg base):FnOk P w K mg base CX0 2 f fd ["many","plan"] P31:=by
  refine F.okA C36 λcdv A outer s H vs Q E hr h=>?_;obtain @⟨pl,ps,bs,es,d,tn,rfl,b1,b30,hpl,plen,hr',hw,q⟩:=h;refine ⟨_,(za (ps_s 2 C36.nd (yE (vO rfl) rfl B.dict ED (pa1 (yj ["name"] [] rfl (xa rfl B.range (pa1 (pv 0))) (λ_ _ _ _ _=>(pg_n 0 (show List.Nodup (α:=Str) ["name"] by decide +kernel))) (λ_ _ _ _ _=>zP) (λ_ _ _ _ _=>(zo (pa2 (pv 0) yY))))))) (za (ps_s 3 C36.nd (pv 0)) (za (zQ PassesOwn.never rfl (zJ (pv 1)) (pg_n 4 C36.nd) (za (zQ PassesOwn.never rfl (zJ (zf o24x hr rfl (pa1 (pv 4)))) (pg_n 5 C36.nd) (zd (zH (Cj (pv 2) (pv 5) ⟨rfl,rfl,rfl,rfl⟩)))) (za (zQ PassesOwn.never rfl (xN rfl B.range (pa2 (pv 3) (zg zK (pv 3) (zf o25x hr rfl (pa1 (pv 4)))))) (pg_n 5 C36.nd) (zd (wT (uc hr) (pv 2) (pv 5) yY rfl))) (zd (ps_s 3 C36.nd (zg zK (pv 3) (zf o25x hr rfl (pa1 (pv 4))))))))) (zd (zi (yE (EM rfl) rfl B.list Ax (pa1 (pv 2)))))))),?_⟩;walk_at "s";exists uP ?_;exists ⟨_,rfl,by lia,by lia,λD hD=>xq (lo:=0) (n:=((bs.length:Nat):Int).toNat) (λi xs σ' H'=>E2 λ(v:Option V) (zs:List Addr)=>A6 (σ'=[v]) (xs=zs.map V.ref) (zs.length=i) (H' D=some (.lst xs)) (SameX D H H') (∀ (j:Nat) (p':Addr),zs[j]?=some p'->H' p'=some (.tup [.int (j:Int),.bl true]))) ⟨none,[],rfl,rfl,rfl,zk,λb o e n=>by rw [zm n]; exact e,by simp⟩ ?_ ?_⟩
  . rintro i xs σ' H' hi ⟨v,zs,rfl,rfl,hl,eD,sx,hzs⟩;exists zI (!1) λr H5 hr s5 e5=>?_;walk_at "r";have hi':i<61:=by lia
    refine zt (s5 _ _ eD) (by rw [aa]; lia) λH6 x6 e6=>?_;have rD:r≠D:=zW e5 (s5 _ _ eD) (λz=>nomatch z);refine xv hi ⟨_,zs++[r],rfl,rfl,by rw [ah,hl]; rfl,by rw [ai]; exact e6,sx.trans ((SameX.of s5).trans x6),?_⟩;intro j p' hj;by_cases c:j<zs.length
    . rw [aT c] at hj;have:=hzs j p' hj;exact x6.tup (s5 _ _ this) (s5 _ _ eD)
    . rw [aN (!2)] at hj;have hj1:=(af.mp hj).1;have j0:j - zs.length=0:=by simpa using hj1
      rw [j0] at hj;injection hj with hj;subst hj;have:j=i:=by lia
      subst this;have:=x6.tup e5 (s5 _ _ eD);simpa using this
  . rintro xs σ' H' ⟨v,zs,rfl,rfl,hl,eD,sx,hzs⟩;have s5:Same H H':=λb o e=>sx b o e (zc e hD);have hl:zs.length=bs.length:=by rw [hl]; lia
    exists Fr (kvs:=nmK (List.range bs.length)) eD (by simp [nmK,hl]) (λi p' kv h1 h2=>?_) (tQ cg) (by simp [nmK]; lia) λl H6 nl s6 el=>?_
    . have h3:=hzs i p' h1;have hi:=(af.mp h1).1;rw [nmK,aj,dw (!2)] at h2;injection h2 with h2;rw [<-h2];exact h3
    have hpl6:=(s5.trans s6) _ _ hpl;have npl:pl≠l:=zc (s5 _ _ hpl) nl;have hn0:H l=none:=Same.nn s5 nl;have oks:=zT (vz b1 b30) hw;have hel:es.length<=150:=by rw [<-hr'.1]; exact plen
    exists yK ?_;exists ⟨pl,rfl,⟨_,SqL.of hpl6⟩,zS (K:=K) (a:=pl) (xs:=ps.map V.ref) (λi σ G=>E2 λv4 v5=>A3 (σ=[vI ((bs.length:Nat):Int),vR pl,vR l,vI ((ends (As.sb bs) (es.take i)).k:Nat),v4,v5]) (G l=some (.dK (nmK (ends (As.sb bs) (es.take i)).ns))) (∀ b o,H6 b=some o->b≠l->G b=some o)) ⟨_,_,rfl,el,λb o e _=>e⟩ (λi σ G _ z'=>by obtain ⟨_,_,_,_,z⟩:=z'; exact SqL.of (z _ _ hpl6 npl)) ?_ ?_⟩
    . rintro i x σ G hi ⟨v4,v5,rfl,elG,fr⟩;rw [aj] at hi;obtain ⟨p,hp',rfl⟩:=au.mp hi;have hie:i<es.length:=by rw [<-hr'.1]; exact (af.mp hp').1
      obtain ⟨e,n,m,hx⟩:∃ e n m,es[i]?=some (e,n,m):=⟨_,_,_,ae hie⟩
      have st:=hw i _ hx;have sG:Same H G:=λb o z=>fr _ _ ((s5.trans s6) _ _ z) (zc z hn0);have he:=(hr'.2 i p _ hp' hx).same sG;have oki:=oks i (bA hie);have klb:=oki.kl;have nk:=yJ (ends (As.sb bs) (es.take i)) (e,n,m);rw [yf hx];have hsn:(ends (As.sb bs) (es.take i)).next (e,n,m)=⟨(ends (As.sb bs) (es.take i)).k+e.puts,zY (ends (As.sb bs) (es.take i)).ns e.names++List.range' (ends (As.sb bs) (es.take i)).k e.puts,((ends (As.sb bs) (es.take i)).next (e,n,m)).g⟩:=by
        show (⟨_,_,_⟩:As)=_;rw [Dd.puts_new];rfl
      rw [hsn];generalize ((ends (As.sb bs) (es.take i)).next (e,n,m)).g=gg at *
      generalize ends (As.sb bs) (es.take i)=s at *
      have pu:=puts_le e;have he:DdAt G p e:=he;exists yK ?_;exists yV rfl he λa H2 s2 na ea=>?_;have el2:=s2 _ _ elG;have al:a≠l:=bZ (zc elG na);exists ⟨a,rfl,⟨_,SqL.of ea⟩,zS (K:=K) (a:=a) (xs:=e.names.map V.int) (λj σ G2=>E1 λv5=>A3 (σ=[vI ((bs.length:Nat):Int),vR pl,vR l,vI (s.k:Nat),vR p,v5]) (G2 l=some (.dK (nmK (zY s.ns (e.names.take j))))) (SameX l H2 G2)) ⟨_,rfl,el2,λb o e _=>e⟩ (λj σ G2 _ z'=>by obtain ⟨_,_,_,z⟩:=z'; exact SqL.of (z _ _ ea al)) ?_ ?_⟩
      . rintro j y σ G2 hj ⟨w5,rfl,elj,sxj⟩;rw [aj] at hj;obtain ⟨nm,hm',rfl⟩:=au.mp hj;obtain ⟨n',hn',rfl⟩:=st.nms.names_in nm (av hm');have hn':n'∈s.ns:=hn';have hnd:e.names.Nodup:=st.nms.nodup;have hni:(n':Int)∉e.names.take j:=by
          intro hh;obtain ⟨k,hk⟩:=dH hh;have hk1:=(af.mp hk).1;rw [aZ] at hk1;rw [dS (!2)] at hk;have:=(eM (i:=k) (!2) hnd).mp (hk.trans hm'.symm)
          lia
        exists ⟨l,rfl,.inl ⟨_,.inl elj⟩,?_⟩;exists ⟨_,.inl (n':Int),_,elj,rfl,wP (mem_ndrop.mpr ⟨hn',hni⟩),?_⟩;refine ⟨_,rfl,?_,λb o e n=>by rw [zm n]; exact sxj b o e n⟩;rw [zk,vc,bg,hm',show ((some (n':Int)).toList)=[(n':Int)] from rfl,wl]
      rintro σ H3 ⟨w5,rfl,el3,sx3⟩;rw [aa,ar] at el3;have fr3:∀ b o,G b=some o->b≠l->H3 b=some o:=λb o z n=>sx3 _ _ (s2 _ _ z) n;have he3:DdAt H3 p e:=he.tk λb xs z=>fr3 _ _ z (zW z elG (λq=>nomatch q));have dl:=EZ (xn (ms:=e.names) oki.up) (λn h=>oki.lt n (mem_ndrop.mp h).1);exists AU ?_;exists z9 rfl he3 ?_;exists ⟨(s.k:Int),(s.k:Int)+(e.puts:Nat),rfl,⟨by lia,by lia,by lia,by lia⟩,xb (lo:=(s.k:Int)) (n:=((s.k:Int)+(e.puts:Nat) - (s.k:Int)).toNat) (λj σ G2=>E1 λv5=>A3 (σ=[vI ((bs.length:Nat):Int),vR pl,vR l,vI (s.k:Nat),vR p,v5]) (G2 l=some (.dK (nmK (zY s.ns e.names++List.range' s.k j)))) (SameX l H3 G2)) ⟨_,rfl,by simpa using el3,λb o e _=>e⟩ ?_ ?_⟩
      . rintro j σ G2 hj ⟨w6,rfl,elj,sxj⟩;walk_at "r";rw [show (s.k:Int)+(j:Int)=((s.k+j:Nat):Int) by lia];refine ⟨l,_,rfl,DPut.k (k:=.inl ((s.k+j:Nat):Int)) elj (by simp only [nmK,aa,ah,eC]; exact aI (show _<1000 by lia) (!3)),?_⟩;refine ⟨_,rfl,?_,λb o e n=>by rw [zm n]; exact sxj b o e n⟩;rw [zk,BF _ (we (λn hn=>?_))]
        . rw [List.range'_concat,<-aH];simp [nmK]
        . rcases aB.mp hn with hn | hn
          . have:=oki.lt n (mem_ndrop.mp hn).1
            lia
          . have:=cW.mp hn
            lia
      rintro σ H4 ⟨w6,rfl,el4,sx4⟩;rw [show ((s.k:Int)+(e.puts:Nat) - (s.k:Int)).toNat=e.puts by lia] at el4;have he4:DdAt H4 p e:=he3.tk λb xs z=>sx4 _ _ z (zW z el3 (λq=>nomatch q));exists z9 rfl he4 ?_;walk_at "r";exact ⟨_,_,by rw [show (s.k:Int)+(e.puts:Nat)=((s.k+e.puts:Nat):Int) by lia],el4,λb o z n=>sx4 _ _ (fr3 _ _ (fr _ _ z n) n) n⟩
    rintro σ G ⟨v4,v5,rfl,elG,fr⟩;rw [aa,hr'.1,ar] at elG;have okN:=oks es.length (ag _);rw [ar] at okN;have nlN:=okN.nl;exists Jx (ns:=(ends (As.sb bs) es).ns.map λn:Nat=>(n:Int)) elG (by simp [nmK]) (by simp only [nmK,aa]; lia) λr H7 nr s7 e7=>?_;exact q r H7 (λb o z=>s7 _ _ (fr _ _ ((s5.trans s6) _ _ z) (zc z hn0))) (by
      cases z:H r with
      | none=>rfl
      | some o=>rw [fr _ _ ((s5.trans s6) _ _ z) (zc z hn0)] at nr; cases nr) e7
theorem K32(F:Fun K "plus" "plus" S42 f fd)(B:Bl mg)(o1x:O1x P w K mg base):FnOk P w K mg base CX0 2 f fd ["one","other"] (P32 K):=by
  refine F.okA C37 λcdv A outer s H vs Q E hr h=>?_;obtain ⟨p,p',x,y,rfl,h1,h2,⟨⟨b1,b2⟩,⟨b3,b4⟩⟩,q⟩:=h;refine ⟨_,(za (ps_s 2 C37.nd (zf o1x hr rfl (pa2 (pit 0) (pit 1)))) (za (ps_s 3 C37.nd (zg zK (zg zl (pit 0) (zg zz (pit 1) (pv 2))) (zg zl (pit 1) (zg zz (pit 0) (pv 2))))) (za (ps_s 4 C37.nd (zf o1x hr rfl (pa2 (pv 3) (pv 2)))) (zd (zi (zo (pa2 (zg zz (pv 3) (pv 4)) (zg zl (zg zz (pit 0) (pv 2)) (zg zz (pit 1) (pv 4)))))))))),?_⟩;walk_at "s";have hs:(0:Int)<(Int.gcd x.den y.den:Nat):=z4 (a:=(x.den:Int)) (den_pos y);have hl:(0:Int)<(Int.gcd (plT x.num x.den y.num y.den) (Int.gcd x.den y.den:Nat):Nat):=z4 (!2);have ks:Bd 8000 ((Int.gcd x.den y.den:Nat):Int):=Ah (y3 y) b4;have kl:Bd 8000 ((Int.gcd (plT x.num x.den y.num y.den) (Int.gcd x.den y.den:Nat):Nat):Int):=Ah (!2) ks;have hcs:∀ z,CFp z ((Int.gcd x.den y.den:Nat):Int):=λz=>⟨hs,a8 ks.log ⋯⟩
  have hcl:∀ z,CFp z ((Int.gcd (plT x.num x.den y.num y.den) (Int.gcd x.den y.den:Nat):Nat):Int):=λz=>⟨hl,a8 kl.log ⋯⟩
  unfold plT at hcl;have c1:=hcs y.den;have c2:=hcl y.den;walk_at "r";exact zr (!1) λr H' s e=>q r H' s (IX e)
theorem K33(F:Fun K "times" "times" S44 f fd)(B:Bl mg)(o1x:O1x P w K mg base):FnOk P w K mg base CX0 2 f fd ["one","other"] P33:=by
  refine F.okA C38 λcdv A outer s H vs Q E hr h=>?_;obtain ⟨p,p',x,y,rfl,h1,h2,⟨⟨b1,b2⟩,⟨b3,b4⟩⟩,q⟩:=h;refine ⟨_,(za (ps_s 2 C38.nd (zf o1x hr rfl (pa2 (pit 0) (pit 1)))) (za (ps_s 3 C38.nd (zf o1x hr rfl (pa2 (pit 1) (pit 0)))) (zd (zi (zo (pa2 (zg zl (zg zz (pit 0) (pv 2)) (zg zz (pit 1) (pv 3))) (zg zl (zg zz (pit 0) (pv 3)) (zg zz (pit 1) (pv 2))))))))),?_⟩;walk_at "s";have hs:(0:Int)<(Int.gcd x.num y.den:Nat):=z4 (den_pos y);have hl:(0:Int)<(Int.gcd y.num x.den:Nat):=z4 (den_pos x);have ks:Bd 8000 ((Int.gcd x.num y.den:Nat):Int):=Ah (y3 y) b4;have kl:Bd 8000 ((Int.gcd y.num x.den:Nat):Int):=Ah (y3 x) b2;have hcs:∀ z,CFp z ((Int.gcd x.num y.den:Nat):Int):=λz=>⟨hs,a8 ks.log ⋯⟩
  have hcl:∀ z,CFp z ((Int.gcd y.num x.den:Nat):Int):=λz=>⟨hl,a8 kl.log ⋯⟩
  have c1:=hcs y.den;have c2:=hcl y.den;walk_at "r";exact zr (!1) λr H' s e=>q r H' s (FQ e)
theorem K34(F:Fun K "_law_root" "_law_root" S63 f fd)(B:Bl mg)(o56x:O56x P w K mg base)(o55x:Own P w K mg base 1 "_law_cell" ["_law_script","_law_k"] [] (P15 K)):FnOk P w K mg base CX0 2 f fd ["_law_script"] (P34 K):=by
  refine F.okA C39 λcdv A outer s H vs Q E hr h=>?_;obtain @⟨p,ns,rfl,hS,q⟩:=h;refine ⟨_,(za (ps_s 1 C39.nd (zg zK ze (zg zX (zf o56x hr rfl (pa2 (zf o55x hr rfl (pa2 (pv 0) ze)) ze)) ze))) (za (zu (zj yA (pv 1) (zx (zv ze (zv ze (zv ze (zv ze (zv ze (zv ze (zv ze (zv ze z5))))))))) (by with_unfolding_all rfl)) (zd (zi (zg zK (pv 1) ze))) zn) (zd (zi (pv 1))))),?_⟩;walk_at "s";exists Bh rfl hS ⋯ λc0=>?_;exists wy rfl ⋯ ⋯ λx x0 x1=>?_;exists yl (!1) λl2 H2 s2 e2=>?_;refine Ml e2 rfl rfl ?_;rw [IG];have hsq:∀ t:Int,sqs.contains t=true↔(t=4\/t=9\/t=16\/t=25\/t=36\/t=49\/t=64\/t=81):=λt=>by simp [sqs]
  walk_at "r";by_cases c:sqs.contains (2+x % 98)=true
  . rw [c];have h:=(hsq _).mp c;walk_at "r";exact q _ H2 (LR (!2) (!2)) s2
  . have h:=mt (hsq (2+x % 98)).mpr c;rw [Bool.not_eq_true] at c;rw [c];walk_at "r";exact q _ H2 (LR (!2) (!2)) s2
theorem MH{i:Int}(h0:0<=i)(h1:i<7):∃ r:Int,atI [V.int 1,V.int 1,V.int 2,V.int 3,V.int 4,V.int 6,V.int 12] i=some (.int r)/\1<=r/\r<=12:=by
  have h:i=0\/i=1\/i=2\/i=3\/i=4\/i=5\/i=6:=by lia
  rcases h with h|h|h|h|h|h|h <;> subst h
  . exact ⟨1,rfl,by decide,by decide⟩
  . exact ⟨1,rfl,by decide,by decide⟩
  . exact ⟨2,rfl,by decide,by decide⟩
  . exact ⟨3,rfl,by decide,by decide⟩
  . exact ⟨4,rfl,by decide,by decide⟩
  . exact ⟨6,rfl,by decide,by decide⟩
  . exact ⟨12,rfl,by decide,by decide⟩
theorem K35(F:Fun K "_law_fraction" "_law_fraction" S64 f fd)(B:Bl mg)(o57x:Own P w K mg base 1 "_law_divisor" ["_law_one","_law_other"] [] P17):FnOk P w K mg base CX0 2 f fd ["_law_number","_law_great"] P35:=by
  refine F.okA C40 λcdv A outer s H vs Q E hr h=>?_;obtain ⟨n,g,rfl,⟨n0,n1⟩,q⟩:=h;refine ⟨_,(za (ps_s 2 C40.nd (zg yC (zg zX (zg zz (pv 0) ze) ze) ze)) (za (ps_s 3 C40.nd (pe_i ix_list (zx (zv ze (zv ze (zv ze (zv ze (zv ze (zv ze (zv ze z5)))))))) (zg zX (pv 0) ze))) (za (vZ (zu (PW.pt (yD (yb (pv 1)) (yg (zj z8 (zg zX (zg zz (pv 0) ze) ze) ze (zp _))))) (za (ps_s 2 C40.nd (zg zl (zg yC (zg zl (pv 0) ze) (zg AT ze ze)) (zg zK (zg AT ze ze) (zg zX (pv 0) ze)))) (zd (ps_s 3 C40.nd (zg zK ze (zg zX (zg zl (pv 0) ze) (zg AT ze ze)))))) zn)) (za (ps_s 4 C40.nd (zf o57x hr rfl (pa2 (zq tY rfl B.abs HV (pa1 (pv 2))) (pv 3)))) (zd (zi (zo (pa2 (zg zz (pv 2) (pv 4)) (zg zz (pv 3) (pv 4)))))))))),?_⟩;walk_at "s";have e12:(10:Int) ^ (12:Int).toNat=1000000000000:=by decide +kernel
  have e18:(10:Int) ^ (18:Int).toNat=1000000000000000000:=by decide +kernel
  have nb:Bd 32 n:=zw (B:=2147483629) n0 (!2) (!3);exists yl (!1) λl H1 s1 e1=>?_;walk_at "r";obtain ⟨r,hr,r0,r1⟩:=MH (i:=n % 7) (!2) (!2);refine wV e1 hr ?_;exists CP (T:=λσ' H2=>E2 λ(t b:Int)=>A5 (σ'=[vI n,some (.bl g),vI t,vI b,none]) (H2=H1) (1<=b) (Bd 110 t) (Bd 110 b)) ?_ ?_
  . have same:∃ (t b:Int),([vI n,some (.bl g),vI (n / 7 % 41 - 20),vI r,none]:L2.St)=[vI n,some (.bl g),vI t,vI b,none]/\H1=H1/\1<=b/\Bd 110 t/\Bd 110 b:=⟨_,_,rfl,rfl,r0,uO _ (!2) (!2) ⋯,uO _ (!2) (!2) ⋯⟩
    walk_at "r";cases g with
    | false =>
      walk_at "r";obtain ⟨t',b',q1,q2,q3,q4,q5⟩:=same;exact ⟨t',b',q1,q2,q3,q4,q5⟩
    | true =>
      exists if_d (λc=>?_) (λc=>?_)
      . walk_at "r";have m0:=cP (n*69621) (b:=1000000000000) ⋯;have m1:=dc (n*69621) (b:=1000000000000) ⋯;rw [e12,e18];have k1:Bd 63 (n*465661287 - 1000000000000000000):=Bd.sub (k:=62) (Bd.mono (nb.mul (uo 465661287)) (!3)) (!3);have k2:Bd 42 (1000000000000+n % 7919):=zw (B:=1000000007919) (!2) (!2) (!3);exact ⟨_,_,rfl,rfl,by lia,Bd.mono (k1.mul k2) ⋯,zw (B:=1000000000000) (!2) (!2) (!3)⟩
      . walk_at "r";obtain ⟨t',b',q1,q2,q3,q4,q5⟩:=same;exact ⟨t',b',q1,q2,q3,q4,q5⟩
  rintro σ' H2 ⟨t,b,rfl,rfl,hb,bt,bb⟩;have ha:0<=(if t<0 then -t else t):=by split <;> lia
  have hg:Int.gcd (if t<0 then -t else t) b=Int.gcd t b:=by
    split
    . exact gJ
    . rfl
  exists vx rfl ha (!2) ?_;rw [hg];have gp:=z4 (a:=t) hb;have gb:Bd 110 ((Int.gcd t b:Nat):Int):=Ah (!2) bb;have hc:∀ x,CFp x ((Int.gcd t b:Nat):Int):=λx=>⟨gp,a8 gb.log ⋯⟩
  have c1:=hc t;exists zr (!1) λp H3 s3 e3=>?_;exact q p H3 _ _ (s1.trans s3) e3 (xp hb gp (bC ..)) (xJ hb) (HI bt gp) (HI bb gp)
theorem K36(F:Fun K "_law_due" "_law_due" S70 f fd)(B:Bl mg)(o63x:Own P w K mg base 1 "_law_cuts" ["_law_wide","_law_high"] [] P19):FnOk P w K mg base CX0 2 f fd ["_law_wide","_law_high"] (P36 K):=by
  refine F.okA C41 λcdv A outer s H vs Q E hr h=>?_;obtain @⟨w,h,rfl,hb,q⟩:=h;refine ⟨_,(za (ps_s 2 C41.nd (zq (vn rfl) rfl B.sum DI (pa1 (yj ["_law_row"] [] rfl (zJ (zf o63x hr rfl (pa2 (pv 0) (pv 1)))) (λ_ _ _ _ _=>(pg_n 0 (show List.Nodup (α:=Str) ["_law_row"] by decide +kernel))) (λ_ _ _ _ _=>zP) (λ_ _ _ _ _=>(pe_i (r:=rIxL K) ix_list (pv 0) ze)))))) (za (zu (zj xw (pv 2) ze (zp _)) (zd (zi (zx z5))) zn) (zd (zi (zx (pa1 (pv 2))))))),?_⟩;walk_at "s";exists y6 ?_;exists AG rfl hb λp H1 T s1 e1 hA hT=>?_;have lT:T.length<=990:=by
    have h1:=congrArg List.length hT;rw [aa] at h1;have:=Bu _ w h (ag _)
    lia
  refine ⟨p,rfl,⟨_,SqL.of e1⟩,λD hD=>yq (K:=K) (a:=p) (ys:=T.map StC.v) (λi xs σ' H'=>E1 λ(v:Option V)=>A4 (σ'=[v]) (xs=((T.take i).map λt=>((t.m:Nat):Int)).map V.int) (H' D=some (.lst xs)) (SameX D H1 H')) ⟨none,rfl,rfl,zk,λb o e n=>by rw [zm n]; exact e⟩ (λi xs σ' H' _ z=>by obtain ⟨_,_,_,_,z⟩:=z; exact SqL.of (z _ _ e1 (zc e1 hD))) ?_ ?_⟩
  . rintro i x xs σ' H' hi ⟨v,rfl,rfl,eD,sx⟩;have hi':=(af.mp hi).1;obtain ⟨t,hx,htT,hti⟩:=BN hi;have hx:x=.ref t.a:=hx;subst hx;have et:H' t.a=some (.lst [.int (t.s:Int),.int (t.m:Int)]):=sx _ _ (hA t htT) (zc (hA t htT) hD);exists zt eD (by rw [aa,aa,aZ]; lia) λH4 sx4 e4=>?_;refine xv hi' ⟨_,rfl,?_,e4,sx.trans sx4⟩;rw [dq,hti,ai,ai];rfl
  rintro xs σ' H2 ⟨v,rfl,rfl,eD,sx⟩;rw [aa,ar] at eD;have s2:Same H1 H2:=λb o e=>sx b o e (zc e hD);have sm:(T.map λt=>((t.m:Nat):Int)).sum=((tot (eu w h):Nat):Int):=by
    rw [<-hT];clear lT hA e1 hT eD sx;induction T with
    | nil=>rfl
    | cons t T ih =>
      rw [aW,gG,ih];show ((t.m:Nat):Int)+_=((t.m+tot (T.map StC.pr):Nat):Int)
      lia
  exists Ic (SqL.of eD) ?_;rw [sm];exists if_d (λc=>?_) (λc=>?_)
  . exists yl (!1) λr3 H3 s3 e3=>?_;exact q r3 H3 ((s1.trans s2).trans s3) (by rw [e3,io (!2)]; rfl)
  . exists yl (!1) λr3 H3 s3 e3=>?_;exact q r3 H3 ((s1.trans s2).trans s3) (by rw [e3,im (!2)]; rfl)
theorem K37(F:Fun K "check_names" "Yard.check_names" S74 f fd)(B:Bl mg)(X:Xs K mg cs)(o0x:O0x P w K mg base):FnOk P w K mg base CX0 2 f fd ["self","names"] (P37 cs):=by
  refine F.okA C42 λcdv A outer s H vs Q E hr h=>?_;obtain @⟨y,d,tn,cl,ns,lg,a,ms,rfl,hy,ha,hm,hn,hl,q⟩:=h;refine ⟨_,(za (zQ PassesOwn.never rfl (zJ (pv 1)) (pg_n 2 C42.nd) (zd (zu (PW.pt (AC (y4 (yb (zf o0x hr rfl (pa1 (pv 2))))) (v9 (L7 (Fc (uc hr) (pv 2) (yn (K:=K) rfl (pv 0) rfl)))))) (zd yv) zn))) (zd (zu (PW.pt (yD (zj z8 (zq zy rfl B.len br (pa1 (pv 1))) ze (zp _)) (yg (zj z8 (pil 1) (pil 1) (zp _))))) (zd yv) zn))),?_⟩;walk_at "s";refine Nc ?_;refine yK ?_;exists ⟨a,rfl,⟨_,SqL.of ha⟩,zS (K:=K) (a:=a) (xs:=ms.map V.int) (λi σ H'=>∃ v,σ=[vR y.p,vR a,v]/\H'=H) ⟨none,rfl,rfl⟩ (λi σ H' _ z'=>by obtain ⟨_,_,e⟩:=z'; exact by rw [e]; exact SqL.of ha) ?_ ?_⟩
  . rintro i x σ H' hi ⟨v,rfl,rfl⟩;obtain ⟨m,hm',rfl⟩:=bO.mp (av hi);obtain ⟨n,hn',rfl⟩:=hm m hm';exists ⟨_,_,_,_,_,rfl,hy.o,X.c_Yard,X.n_Yard_lying,rfl,?_⟩;refine ⟨y.l,_,rfl,DGet.k (k:=.inl (n:Int)) hy.l,?_⟩;rw [wP hn',show (!(some (V.bl true)).isSome)=false from rfl];walk_at "r";exact ⟨_,rfl,rfl⟩
  . rintro σ H' ⟨v,rfl,rfl⟩;walk_at "r";rcases ms with _|⟨m1,_|⟨m2,_|⟨m3,ms⟩⟩⟩
    . refine if_d (λc=>absurd c (!1)) (λ_=>?_);walk_at "r";exact q
    . refine if_d (λc=>absurd c (!1)) (λ_=>?_);walk_at "r";exact q
    . have ha:H' a=some (.lst [.int m1,.int m2]):=ha;refine if_d (λ_=>?_) (λc=>absurd (!1) c);walk_at "r";have ne:m1≠m2:=by simpa using hn
      refine if_d (λc=>absurd c ne) (λ_=>?_);walk_at "r";exact q
    . simp at hl
theorem K38(F:Fun K "parts" "parts" S9 f fd)(B:Bl mg)(o4x:O4x P w K mg base):FnOk P w K mg base CX0 3 f fd ["one"] P38:=by
  refine F.okA C43 λcdv A outer s H vs Q E hr h=>?_;obtain @⟨p,a,b,n,rfl,h1,hn,hb,q⟩:=h;refine ⟨_,(zd (zi (zo (pa2 (zf o4x hr rfl (pa2 (pit 0) (pit 0))) (zf o4x hr rfl (pa2 (pit 0) (pit 0))))))),?_⟩;walk_at "s";exists wm rfl hn hb λr1 H1 s1 e1=>?_;have h1':=s1 _ _ h1;exists wm rfl hn hb λr2 H2 s2 e2=>?_;walk_at "r";exact zr (!1) λr H' s e=>q r r1 r2 H' ((s1.trans s2).trans s) e (s _ _ (s2 _ _ e1)) (s _ _ e2)
theorem K39(F:Fun K "taken" "taken" S12 f fd)(B:Bl mg)(o7x:O7x P w K mg base):FnOk P w K mg base CX0 3 f fd ["one","other"] P39:=by
  refine F.okA C44 λcdv A outer s H vs Q E hr h=>?_;obtain ⟨p,p',x,y,z,x',y',z',rfl,h1,h2,n1,n2,k1,k2,⟨b1,b2,b3,b4,b5,b6⟩,q⟩:=h;refine ⟨_,(zd (zi (zf o7x hr rfl (pa2 (pv 0) (zo (pa3 (Ac wp (pit 1)) (Ac wp (pit 1)) (pit 1))))))),?_⟩;walk_at "s";exists zr (!1) λt H2 s2 e2=>?_;walk_at "r";exact CY (K:=K) (SqT.of (s2 _ _ h1)) e2 n1 n2 k1 (by rw [JS]; exact k2) b1 b2 b3 b4.neg b5.neg b6 λr H' s' e'=>q r H' (s2.trans s') e'
theorem K40(F:Fun K "timed" "timed" S13 f fd)(B:Bl mg)(o3x:O3x P w K mg base):FnOk P w K mg base CX0 3 f fd ["d","one","other"] P40:=by
  refine F.okA C45 λcdv A outer s H vs Q E hr h=>?_;obtain ⟨d,p,p',x,y,z,x',y',z',rfl,h1,h2,hd,⟨b1,b2,b3,b4,b5,b6⟩,n1,n2,q⟩:=h;refine ⟨_,(zd (zi (zf o3x hr rfl (pa3 (zg zK (zg zl (pit 1) (pit 2)) (zg zl (zg zl (pv 0) (pit 1)) (pit 2))) (zg zK (zg zl (pit 1) (pit 2)) (zg zl (pit 1) (pit 2))) (zg zl (pit 1) (pit 2)))))),?_⟩;walk_at "s";walk_at "r";exact zO rfl (ay n1 n2) (Bd.mono (b3.mul b6) ⋯) q (Mz hd b1 b2 b4 b5 ⋯) (Mm b1 b2 b4 b5 ⋯)
theorem K41(F:Fun K "first_base" "first_base" S17 f fd)(B:Bl mg)(o3x:O3x P w K mg base):FnOk P w K mg base CX0 3 f fd ["d","n"] P41:=by
  refine F.okA C46 λcdv A outer s H vs Q E hr h=>?_;obtain @⟨d,N,rfl,hN,hb,q⟩:=h;refine ⟨_,(zd (zi (zo (pa2 (zf o3x hr rfl (pa3 ze ze (pv 1))) (zf o3x hr rfl (pa3 ze ze (pv 1))))))),?_⟩;walk_at "s";exists zO rfl (!2) (hb.mono ⋯) λr1 H1 s1 e1=>?_;exists zO rfl (!2) (hb.mono ⋯) λr2 H2 s2 e2=>?_;walk_at "r";exact zr (!1) λp H' s e=>q p r1 r2 H' ((s1.trans s2).trans s) ⟨e,s _ _ (s2 _ _ e1),s _ _ e2⟩
theorem K42(F:Fun K "is_length" "is_length" S27 f fd)(B:Bl mg)(o3x:O3x P w K mg base)(o0x:O0x P w K mg base):FnOk P w K mg base CX0 3 f fd ["thing"] P42:=by
  refine F.okA C47 λcdv A outer s H vs Q E hr h=>?_;obtain @⟨p,s,rfl,h1,ok,q⟩:=h;refine ⟨_,(za (zu (PW.pt (AC (y4 (yb (zq yz rfl B.isinstance zL (pa2 (pv 0) (xR (v:=.ty "tuple") rfl B.tuple uk rfl))))) (v9 (zj Ea (zq zy rfl B.len br (pa1 (pv 0))) ze (zp _))))) (zd (zi yY)) zn) (za (zu (PW.pt (AC (y4 (yb (zq (Dg rfl) rfl B.all Kk (pa1 (yj ["number"] [] rfl (Hr (pv 0)) (λ_ _ _ _ _=>(pg_n 0 (show List.Nodup (α:=Str) ["number"] by decide +kernel))) (λ_ _ _ _ _=>zP) (λ_ _ _ _ _=>(zf o0x hr rfl (pa1 (pv 0))))))))) (v9 (zj vF (pit 0) ze (zp _))))) (zd (zi yY)) zn) (zd (zi (yh (HG hr.units) (zf o3x hr rfl (pa3 (pit 0) (pit 0) (pit 0))) (pv 0) (zp _)))))),?_⟩;walk_at "s";have z1:=ok.z1;exists Gv (by rfl) ?_;exists Dk ?_;exists ⟨p,rfl,⟨_,SqT.of h1⟩,λD hD=>Cd (ys:=[V.int s.x,V.int s.y,V.int s.z]) (λi ys σ' H'=>(∃ v,σ'=[v])/\ys=([V.int s.x,V.int s.y,V.int s.z].take i).map (λ_=>V.bl true)/\H' D=some (.lst ys)/\SameX D H H') ⟨⟨none,rfl⟩,rfl,zk,λb o e n=>by rw [zm n]; exact e⟩ (λi ys σ' H' _ p=>SqT.of (p.2.2.2 _ _ h1 (zc h1 hD))) ?_ ?_⟩
  . rintro i x ys σ' H' hi ⟨⟨v,rfl⟩,rfl,eD,sx⟩;obtain ⟨n,rfl⟩:∃ n:Int,x=.int n:=by
      have:=av hi;simp only [aU,gR,or_false] at this;rcases this with rfl|rfl|rfl <;> exact ⟨_,rfl⟩
    have hi3:=(af.mp hi).1;exists zt eD (by rw [aa,aZ]; simp only [ax,aY] at hi3 ⊢; lia) λH3 sx3 e3=>?_;refine xv hi3 ⟨⟨_,rfl⟩,rfl,?_,sx.trans sx3⟩;rw [bg,hi,ai];exact e3
  . rintro ys σ' H' ⟨_,rfl,eD,sx⟩;have s':Same H H':=λb o e=>sx b o e (zc e hD);have h1':=s' _ _ h1;have eD':H' D=some (.lst ([true,true,true].map V.bl)):=eD;exists JX (SqL.of eD') ?_;rw [show ([true,true,true]:List Bool).all id=true from rfl];exists if_d (λc=>absurd c (!2)) (λ_=>?_);exists zO rfl ok.ne (ok.bz.mono ⋯) (λr H2 s2 e2=>?_) (ok.bx.mono ⋯) (ok.by'.mono ⋯);exists M6 e2 (s2 _ _ h1') ?_;exact bl_q (iJ (GE ok.z1 ok.g)) (q H2 (s'.trans s2))
theorem K43(F:Fun K "glued_beside" "glued_beside" S33 f fd)(B:Bl mg)(o7x:O7x P w K mg base):FnOk P w K mg base CX0 3 f fd ["one","other"] P43:=by
  refine F.okA C48 λcdv A outer s H vs Q E hr h=>?_;obtain @⟨c,c',rfl,hc,hc',eh,okw,oks,q⟩:=h;refine ⟨_,(za (zu (zj (DJ hr.units) (pit 0) (pit 1) (zp _)) (zd yv) zn) (zd (zi (zo (pa2 (zf o7x hr rfl (pa2 (pit 0) (pit 1))) (pit 0)))))),?_⟩;walk_at "s";have ct:=hc.t;have ct':=hc'.t;have cw:H c.pw=some (.tup [.int c.b.w.x,.int c.b.w.y,.int c.b.w.z]):=hc.w;have cw':H c'.pw=some (.tup [.int c'.b.w.x,.int c'.b.w.y,.int c'.b.w.z]):=hc'.w;have ch:H c.ph=some (.tup [.int c.b.h.x,.int c.b.h.y,.int c.b.h.z]):=hc.h;have ch':H c'.ph=some (.tup [.int c'.b.h.x,.int c'.b.h.y,.int c'.b.h.z]):=hc'.h;exists MC ch ch' ?_;rw [eh];exists AI (λc=>absurd ⟨rfl,rfl,rfl⟩ c) (λ_=>?_);exists CY (K:=K) (SqT.of cw) cw' okw.z1 oks.z1 okw.g oks.g (okw.bx.mono ⋯) (okw.by'.mono ⋯) (okw.bz.mono ⋯) (oks.bx.mono ⋯) (oks.by'.mono ⋯) (oks.bz.mono ⋯) λr2 H2 s2 e2=>?_;have ct2:=s2 _ _ ct;exists zI (!1) λr3 H3 hr3 s3 e3=>?_;exact q ⟨r3,r2,c.ph,⟨adS c.b.w c'.b.w,c.b.h⟩⟩ H3 (s2.trans s3) (Same.nn s2 hr3) ⟨e3,s3 _ _ e2,s3 _ _ (s2 _ _ hc.h)⟩ rfl
theorem K44(F:Fun K "stacked" "stacked" S34 f fd)(B:Bl mg)(o3x:O3x P w K mg base):FnOk P w K mg base CX0 3 f fd ["one","many"] P44:=by
  refine F.okA C49 λcdv A outer s H vs Q E hr h=>?_;obtain @⟨c,k,rfl,hc,k1,bk,okw,okh,q⟩:=h;refine ⟨_,(za (ps_s 2 C49.nd (pit 0)) (za (ps_s 3 C49.nd (pit 0)) (zd (zi (zo (pa2 (zf o3x hr rfl (pa3 (pit 2) (pit 2) (zg zl (pit 2) (pv 1)))) (zf o3x hr rfl (pa3 (zg zl (pit 3) (pv 1)) (zg zl (pit 3) (pv 1)) (pit 3))))))))),?_⟩;walk_at "s";have ct:=hc.t;have cw:H c.pw=some (.tup [.int c.b.w.x,.int c.b.w.y,.int c.b.w.z]):=hc.w;have ch:H c.ph=some (.tup [.int c.b.h.x,.int c.b.h.y,.int c.b.h.z]):=hc.h;have m1:IntMulOk c.b.w.z k:=Bd.ok okw.bz bk (!3);have m2:IntMulOk c.b.h.x k:=Bd.ok okh.bx bk (!3);have m3:IntMulOk c.b.h.y k:=Bd.ok okh.by' bk (!3);have bz:Bd 3124 (c.b.w.z*k):=okw.bz.mul bk;have bx:Bd 3424 (c.b.h.x*k):=okh.bx.mul bk;have by2:Bd 3424 (c.b.h.y*k):=okh.by'.mul bk;exists zO rfl (ay okw.ne (!2)) (bz.mono ⋯) (λr1 H1 s1 e1=>?_) (okw.bx.mono ⋯) (okw.by'.mono ⋯);have ch1:=s1 _ _ ch;exists zO rfl okh.ne (okh.bz.mono ⋯) (λr2 H2 s2 e2=>?_) (bx.mono ⋯) (by2.mono ⋯);exists zI (!1) λr3 H3 hr3 s3 e3=>?_;refine q ⟨r3,r1,r2,⟨shS c.b.w 1 k,shS c.b.h k 1⟩⟩ H3 ((s1.trans s2).trans s3) (Same.nn (s1.trans s2) hr3) ⟨e3,?_,?_⟩ rfl
  . have:=s3 _ _ (s2 _ _ e1);simpa only [SdAt,shS,df] using this
  . have:=s3 _ _ e2;simpa only [SdAt,shS,df] using this
theorem K45(F:Fun K "followed" "followed" S41 f fd)(B:Bl mg)(o34x:Own P w K mg base 2 "names_behind" ["many","plan"] [] P31)(o35x:Own P w K mg base 1 "with_names" ["deed","names"] [] P10)(o25x:O25x P w K mg base):FnOk P w K mg base CX0 3 f fd ["many","plan","more"] P45:=by
  refine F.okA C50 λcdv A outer s H vs Q E hr h=>?_;obtain @⟨pl,ml,ps,ms,bs,F,es,fs,d,tn,rfl,b1,b30,hpl,plen,hr',hw,hml,mlen,hm,eF,hwF,q⟩:=h;refine ⟨_,(za (ps_s 3 C50.nd (zf o34x hr rfl (pa2 (pv 0) (pv 1)))) (za (ps_s 4 C50.nd (zg zK (pv 0) (zq (vn rfl) rfl B.sum DI (pa1 (yj ["deed"] [] rfl (zJ (pv 1)) (λ_ _ _ _ _=>(pg_n 0 (show List.Nodup (α:=Str) ["deed"] by decide +kernel))) (λ_ _ _ _ _=>zP) (λ_ _ _ _ _=>(zf o25x hr rfl (pa1 (pv 0))))))))) (za (ps_s 5 C50.nd (yE uZ rfl B.list Ax (pa1 (pv 1)))) (za (zQ PassesOwn.never rfl (zJ (pv 2)) (pg_n 6 C50.nd) (za (zH (yW aM aQ aR zB (pv 5) (pa1 (zf o35x hr rfl (pa2 (pv 6) (pv 3)))))) (za (zQ PassesOwn.never rfl (xN rfl B.range (pa2 (pv 4) (zg zK (pv 4) (zf o25x hr rfl (pa1 (pv 6)))))) (pg_n 7 C50.nd) (zd (zH (yW aM aQ aR zB (pv 3) (pa1 (pv 7)))))) (zd (ps_s 4 C50.nd (zg zK (pv 4) (zf o25x hr rfl (pa1 (pv 6))))))))) (zd (zi (pv 5))))))),?_⟩;walk_at "s";have okN:=zT (vz b1 b30) hw es.length (ag _);rw [ar] at okN;have klN:=okN.kl;have hel:es.length<=150:=by rw [<-hr'.1]; exact plen
  have hfl:fs.length<=400:=by rw [<-hm.1]; exact mlen
  have l0:=led0 okN.up okN.lt eF;have F1:1<=F.length:=by
    rw [<-eF,aa];exact bM.mpr okN.ne
  have okF:=zT (vz F1 (ag _)) hwF;have lF:F.length<=180:=by
    rw [<-eF,aa];have:=okN.nl
    lia
  exists vA rfl b1 b30 hpl plen hr' hw λa H1 s1 na ea=>?_;have e0:((ends (As.sb bs) es).ns.map λn:Nat=>(n:Int)).map V.int=nmI (nmr (ends (As.sb bs) es)) F.length:=by
    unfold nmI;congr 1;rw [l0.ns,ik];rfl
  rw [e0] at ea;have hpl1:=s1 _ _ hpl;exists y6 ?_;exists ⟨pl,rfl,⟨_,SqL.of hpl1⟩,λO hO=>yq (K:=K) (a:=pl) (ys:=ps.map V.ref) (λi xs σ' H'=>E1 λ(v:Option V)=>A4 (σ'=[v]) (xs=((es.take i).map λx=>((x.1.puts:Nat):Int)).map V.int) (H' O=some (.lst xs)) (SameX O H1 H')) ⟨none,rfl,rfl,zk,λb o e n=>by rw [zm n]; exact e⟩ (λi xs σ' H' _ z=>by obtain ⟨v,_,_,_,z⟩:=z; exact SqL.of (z _ _ hpl1 (zc hpl1 hO))) ?_ ?_⟩
  . rintro i x xs σ' H' hi ⟨v,rfl,rfl,eO,sx⟩;have hi':=(af.mp hi).1;rw [aj] at hi;obtain ⟨p,hp',rfl⟩:=au.mp hi;have hie:i<es.length:=by rw [<-hr'.1]; exact (af.mp hp').1
    have hx:=ae hie;have he:=((hr'.2 i p _ hp' hx).same s1).same (λb o e=>sx b o e (zc e hO));exists z9 rfl he ?_;exists zt eO (by simp only [aa,aZ]; lia) λH5 x5 e5=>?_;refine xv hi' ⟨_,rfl,rfl,?_,sx.trans x5⟩;rw [bg,hx,ai,ai];exact e5
  rintro xs σ' H2 ⟨v,rfl,rfl,eO2,sx2⟩;have s2:Same H1 H2:=λb o e=>sx2 b o e (zc e hO);rw [aa,hr'.1,ar] at eO2;exists Ic (SqL.of eO2) ?_;have hsum:((bs.length:Nat):Int)+(es.map λx=>((x.1.puts:Nat):Int)).sum=((ends (As.sb bs) es).k:Nat):=by
    rw [Ch,xc];show _=((bs.length+_:Nat):Int)
    lia
  walk_at "r";rw [hsum];have s12:=s1.trans s2;refine DV (s12 _ _ hpl) λD H3 nD s3 eD=>?_;have ea3:=s3 _ _ (s2 _ _ ea);have aD:a≠D:=zc (s2 _ _ ea) nD;have hml3:=(s12.trans s3) _ _ hml;have mlD:ml≠D:=zc (s12 _ _ hml) nD;have mla:ml≠a:=zc hml na;have hD0:H D=none:=Same.nn s12 nD;exists yK ?_;exists ⟨ml,rfl,⟨_,SqL.of hml3⟩,zS (K:=K) (a:=ml) (xs:=ms.map V.ref) (λi σ H'=>E3 λ(v6 v7:Option V) (qs:List Addr)=>A4 (σ=[vI ((bs.length:Nat):Int),vR pl,vR ml,vR a,vI (((ends (As.sb bs) es).k+((ends (As.sb F) (fs.take i)).k - F.length):Nat):Int),vR D,v6,v7]) ((H' D=some (.lst ((ps++qs).map V.ref))/\Runs H' (ps++qs) (es++(fs.take i).map (rnx (nmr (ends (As.sb bs) es))))/\qs.length=i)) (H' a=some (.lst (nmI (nmr (ends (As.sb bs) es)) (ends (As.sb F) (fs.take i)).k))) (∀ b o,H3 b=some o->b≠D->b≠a->H' b=some o)) ⟨none,none,[],?_,⟨by rw [bG]; exact eD,by rw [bG]; show Runs H3 ps (es++[]); rw [bG]; exact hr'.same (s12.trans s3),rfl⟩,ea3,λb o e _ _=>e⟩ (λi σ H' _ z'=>by obtain ⟨_,_,_,_,_,_,z⟩:=z'; exact SqL.of (z _ _ hml3 mlD mla)) ?_ ?_⟩
  . rw [show (ends (As.sb F) (fs.take 0)).k=F.length from rfl,dU,eV]
  . rintro i x σ H' hi ⟨v6,v7,qs,rfl,⟨eD',hrun,hql⟩,ea',fr⟩;rw [aj] at hi;obtain ⟨p,hp',rfl⟩:=au.mp hi;have hie:i<fs.length:=by rw [<-hm.1]; exact (af.mp hp').1
    obtain ⟨e,n,m,hx⟩:∃ e n m,fs[i]?=some (e,n,m):=⟨_,_,_,ae hie⟩
    have st:=hwF i _ hx;have s0':Same H H':=λb o z=>fr _ _ ((s12.trans s3) _ _ z) (zc z hD0) (zc z na);have he:DdAt H' p e:=(hm.2 i p _ hp' hx).same s0';have oki:=okF i (bA hie);have kli:=oki.kl;have kge:F.length<=(ends (As.sb F) (fs.take i)).k:=by
      rw [xc];show F.length<=F.length+_
      lia
    have nk:=yJ (ends (As.sb F) (fs.take i)) (e,n,m);have nk:((ends (As.sb F) (fs.take i)).next (e,n,m)).k=(ends (As.sb F) (fs.take i)).k+e.puts:=nk;have tk':(fs.take (i+1)).map (rnx (nmr (ends (As.sb bs) es)))=(fs.take i).map (rnx (nmr (ends (As.sb bs) es)))++[rnx (nmr (ends (As.sb bs) es)) (e,n,m)]:=by rw [bg,hx,ai]; rfl
    rw [yf hx,nk,tk'];have lk:∀ j,nmr (ends (As.sb bs) es) (F.length+j)=(ends (As.sb bs) es).k+j:=l0.k;generalize ends (As.sb F) (fs.take i)=s at *
    have pu:=puts_le e;have nT:e.isT=false:=by
      cases z:e.isT with
      | false=>rfl
      | true=>exact nomatch st.tn z
    exists tF rfl he nT ea' (λm' hm'=>?_) λb H4 s4 nb eb=>?_
    . obtain ⟨j,hj,rfl⟩:=st.nms.names_in m' hm';exact ⟨j,oki.lt j hj,rfl⟩
    have eD4:=s4 _ _ eD';have ea4:=s4 _ _ ea';exists zt eD4 (by rw [aa,ah]; lia) λH5 x5 e5=>?_;have ea5:=x5 _ _ ea4 aD;have eb5:=eb.sameX x5 eD4;have he5:DdAt H5 p e:=(he.same s4).sameX x5 eD4;have hr5:Runs H5 (ps++qs) (es++(fs.take i).map (rnx (nmr (ends (As.sb bs) es)))):=(hrun.same s4).sameX x5 eD4;have hr6:=yF (x:=rnx (nmr (ends (As.sb bs) es)) (e,n,m)) hr5 eb5;exists AU ?_;exists z9 rfl he5 ?_;exists ⟨_,_,rfl,⟨by lia,by lia,by lia,by lia⟩,xb (lo:=(((ends (As.sb bs) es).k+(s.k - F.length):Nat):Int)) (n:=((((ends (As.sb bs) es).k+(s.k - F.length):Nat):Int)+(e.puts:Nat) - (((ends (As.sb bs) es).k+(s.k - F.length):Nat):Int)).toNat) (λj σ G=>E1 λ(v7:Option V)=>A3 (σ=[vI ((bs.length:Nat):Int),vR pl,vR ml,vR a,vI (((ends (As.sb bs) es).k+(s.k - F.length):Nat):Int),vR D,vR p,v7]) (G a=some (.lst (nmI (nmr (ends (As.sb bs) es)) (s.k+j)))) (SameX a H5 G)) ⟨_,rfl,ea5,λb o e _=>e⟩ ?_ ?_⟩
    . rintro j σ G hj ⟨w7,rfl,eaj,sxj⟩;exists zt eaj (by unfold nmI; simp only [aa,bQ]; lia) λG2 x2 e2=>?_;exists ⟨_,rfl,?_,sxj.trans x2⟩;rw [show (((ends (As.sb bs) es).k+(s.k - F.length):Nat):Int)+(j:Int)=(((ends (As.sb bs) es).k+(s.k - F.length+j):Nat):Int) by lia,<-lk,show F.length+(s.k - F.length+j)=s.k+j by lia] at e2;rw [show s.k+(j+1)=(s.k+j)+1 by lia,Go,e2]
    rintro σ H6 ⟨w7,rfl,ea6,sx6⟩;rw [show ((((ends (As.sb bs) es).k+(s.k - F.length):Nat):Int)+(e.puts:Nat) - (((ends (As.sb bs) es).k+(s.k - F.length):Nat):Int)).toNat=e.puts by lia] at ea6;have he6:DdAt H6 p e:=he5.sameX sx6 ea5;exists z9 rfl he6 ?_;exists ⟨some (.ref p),w7,qs++[b],?_,⟨?_,?_,by rw [ah,hql]; rfl⟩,ea6,λb' o z n1 n2=>sx6 _ _ (x5 _ _ (s4 _ _ (fr _ _ z n1 n2)) n1) n2⟩
    . rw [show (((ends (As.sb bs) es).k+(s.k - F.length):Nat):Int)+(e.puts:Nat)=(((ends (As.sb bs) es).k+(s.k+e.puts - F.length):Nat):Int) by lia]
    . rw [<-aH,ai];exact sx6 _ _ e5 (bZ aD)
    . rw [<-aH,<-aH];exact hr6.sameX sx6 ea5
  rintro σ H4 ⟨v6,v7,qs,rfl,⟨eD',hrun,hql⟩,ea',fr⟩;rw [aa,hm.1,ar] at hrun;walk_at "r";exact q D qs H4 (λb o z=>fr _ _ ((s12.trans s3) _ _ z) (zc z hD0) (zc z na)) hD0 eD' hrun
theorem K46(F:Fun K "minus" "minus" S43 f fd)(B:Bl mg)(o37x:O37x P w K mg base):FnOk P w K mg base CX0 3 f fd ["one","other"] P46:=by
  refine F.okA C51 λcdv A outer s H vs Q E hr h=>?_;obtain ⟨p,p',x,y,rfl,h1,h2,⟨⟨b1,b2⟩,⟨b3,b4⟩⟩,q⟩:=h;refine ⟨_,(zd (zi (zf o37x hr rfl (pa2 (pv 0) (zo (pa2 (Ac wp (pit 1)) (pit 1))))))),?_⟩;walk_at "s";exists zr (!1) λr1 H1 s1 e1=>?_;walk_at "r";exact Ka (s1 _ _ h1) (Kx e1) ⟨b1,b2⟩ (Bq.neg ⟨b3,b4⟩) λr H' s e=>q r H' (s1.trans s) (Kg e (fS x y).symm)
theorem K47(F:Fun K "by" "by" S45 f fd)(B:Bl mg)(o39x:O39x P w K mg base)(o4x:O4x P w K mg base):FnOk P w K mg base CX0 3 f fd ["one","other"] P47:=by
  refine F.okA C52 λcdv A outer s H vs Q E hr h=>?_;obtain ⟨p,p',x,y,rfl,h1,h2,hy,⟨⟨b1,b2⟩,⟨b3,b4⟩⟩,q⟩:=h;refine ⟨_,(zd (zi (zf o39x hr rfl (pa2 (pv 0) (zf o4x hr rfl (pa2 (pit 1) (pit 1))))))),?_⟩;walk_at "s";exists wm rfl hy b3 λr1 H1 s1 e1=>?_;walk_at "r";exact wf (s1 _ _ h1) (Kg (EY hy e1) (KS hy)) ⟨b1,b2⟩ (Bq.inv ⟨b3,b4⟩ hy) λr H' s e=>q r H' (s1.trans s) e
theorem K48(F:Fun K "together" "together" S49 f fd)(B:Bl mg)(o37x:O37x P w K mg base):FnOk P w K mg base CX0 3 f fd ["one","other"] (P48 K):=by
  refine F.okA C53 λcdv A outer s H vs Q E hr h=>?_;obtain @⟨p,p',s,t,rfl,⟨r0',r1',f0,f1,f2,f3,⟨hp,h0,h1,g0,g1,g2,g3'⟩⟩,⟨u0,u1,i0,i1,i2,i3,⟨kp,k0,k1,l0,l1,l2,l3⟩⟩,bs,bt,q⟩:=h;refine ⟨_,(zd (zi (zo (pa2 (zo (pa2 (zf o37x hr rfl (pa2 (pe_i ix_tup (pit 0) ze) (pe_i ix_tup (pit 1) ze))) (zf o37x hr rfl (pa2 (pe_i ix_tup (pit 0) ze) (pe_i ix_tup (pit 1) ze))))) (zo (pa2 (zf o37x hr rfl (pa2 (pe_i ix_tup (pit 0) ze) (pe_i ix_tup (pit 1) ze))) (zf o37x hr rfl (pa2 (pe_i ix_tup (pit 0) ze) (pe_i ix_tup (pit 1) ze))))))))),?_⟩;walk_at "s";exists va g0 l0 (bs.a.bq ⋯ ⋯) (bt.a.bq ⋯ ⋯) λt0 H3 s3 et0=>?_;have hp:=s3.sqT hp;have h0:=s3.sqT h0;have h1:=s3.sqT h1;have g0:=s3.sqT g0;have g1:=s3.sqT g1;have g2:=s3.sqT g2;have g3':=s3.sqT g3';have kp:=s3 _ _ kp;have k0:=s3 _ _ k0;have k1:=s3 _ _ k1;have l0:=s3 _ _ l0;have l1:=s3 _ _ l1;have l2:=s3 _ _ l2;have l3:=s3 _ _ l3;exists va g1 l1 (bs.b.bq ⋯ ⋯) (bt.b.bq ⋯ ⋯) λt1 H4 s4 et1=>?_;have hp:=s4.sqT hp;have h0:=s4.sqT h0;have h1:=s4.sqT h1;have g0:=s4.sqT g0;have g1:=s4.sqT g1;have g2:=s4.sqT g2;have g3':=s4.sqT g3';have kp:=s4 _ _ kp;have k0:=s4 _ _ k0;have k1:=s4 _ _ k1;have l0:=s4 _ _ l0;have l1:=s4 _ _ l1;have l2:=s4 _ _ l2;have l3:=s4 _ _ l3;have et0:=s4 _ _ et0;exists zr (!1) λr0 G0 z0 er0=>?_;have hp:=z0.sqT hp;have h0:=z0.sqT h0;have h1:=z0.sqT h1;have g0:=z0.sqT g0;have g1:=z0.sqT g1;have g2:=z0.sqT g2;have g3':=z0.sqT g3';have kp:=z0 _ _ kp;have k0:=z0 _ _ k0;have k1:=z0 _ _ k1;have l0:=z0 _ _ l0;have l1:=z0 _ _ l1;have l2:=z0 _ _ l2;have l3:=z0 _ _ l3;have et0:=z0 _ _ et0;have et1:=z0 _ _ et1;exists va g2 l2 (bs.c.bq ⋯ ⋯) (bt.c.bq ⋯ ⋯) λt2 H5 s5 et2=>?_;have hp:=s5.sqT hp;have h0:=s5.sqT h0;have h1:=s5.sqT h1;have g0:=s5.sqT g0;have g1:=s5.sqT g1;have g2:=s5.sqT g2;have g3':=s5.sqT g3';have kp:=s5 _ _ kp;have k0:=s5 _ _ k0;have k1:=s5 _ _ k1;have l0:=s5 _ _ l0;have l1:=s5 _ _ l1;have l2:=s5 _ _ l2;have l3:=s5 _ _ l3;have et0:=s5 _ _ et0;have et1:=s5 _ _ et1;have er0:=s5 _ _ er0;exists va g3' l3 (bs.e.bq ⋯ ⋯) (bt.e.bq ⋯ ⋯) λt3 H6 s6 et3=>?_;have hp:=s6.sqT hp;have h0:=s6.sqT h0;have h1:=s6.sqT h1;have g0:=s6.sqT g0;have g1:=s6.sqT g1;have g2:=s6.sqT g2;have g3':=s6.sqT g3';have kp:=s6 _ _ kp;have k0:=s6 _ _ k0;have k1:=s6 _ _ k1;have l0:=s6 _ _ l0;have l1:=s6 _ _ l1;have l2:=s6 _ _ l2;have l3:=s6 _ _ l3;have et0:=s6 _ _ et0;have et1:=s6 _ _ et1;have et2:=s6 _ _ et2;have er0:=s6 _ _ er0;exists zr (!1) λr1 G1 z1 er1=>?_;have hp:=z1.sqT hp;have h0:=z1.sqT h0;have h1:=z1.sqT h1;have g0:=z1.sqT g0;have g1:=z1.sqT g1;have g2:=z1.sqT g2;have g3':=z1.sqT g3';have kp:=z1 _ _ kp;have k0:=z1 _ _ k0;have k1:=z1 _ _ k1;have l0:=z1 _ _ l0;have l1:=z1 _ _ l1;have l2:=z1 _ _ l2;have l3:=z1 _ _ l3;have et0:=z1 _ _ et0;have et1:=z1 _ _ et1;have et2:=z1 _ _ et2;have et3:=z1 _ _ et3;have er0:=z1 _ _ er0;exists zr (!1) λr G z er=>?_;exact q r G ((((((s3.trans s4).trans z0).trans s5).trans s6).trans z1).trans z) ⟨r0,r1,t0,t1,t2,t3,er,z _ _ er0,z _ _ er1,z _ _ et0,z _ _ et1,z _ _ et2,z _ _ et3⟩
theorem K49(F:Fun K "_law_side" "_law_side" S66 f fd)(B:Bl mg)(o59x:Own P w K mg base 2 "_law_fraction" ["_law_number","_law_great"] [] P35)(o60x:Own P w K mg base 1 "_law_above" ["_law_d","_law_first","_law_second"] [] P18):FnOk P w K mg base CX0 3 f fd ["_law_d","_law_number","_law_great"] P49:=by
  refine F.okA C54 λcdv A outer s H vs Q E hr h=>?_;obtain @⟨d,n,rfl,⟨n0,n1⟩,hR,q⟩:=h;refine ⟨_,(za (ps_s 3 C54.nd (zf o59x hr rfl (pa2 (zg zz (pv 1) ze) (pv 2)))) (za (ps_s 4 C54.nd (zf o59x hr rfl (pa2 (zg zX (zg zl (pv 1) ze) ze) (pv 2)))) (za (vZ (zu (zj z8 (zg zX (pv 1) ze) ze (zp _)) (zd (ps_s 4 C54.nd (zo (pa2 ze ze)))) zn)) (za (vZ (zu (PW.pt (yD (zj z8 (zg zX (pv 1) ze) ze (zp _)) (yg (zj z8 (zg zX (zg zz (pv 1) ze) ze) ze (zp _))))) (zd (ps_s 3 C54.nd (zo (pa2 ze ze)))) zn)) (za (HR (PW.pt (yD (zj z8 (pit 3) ze (zp _)) (yg (zj z8 (pit 4) ze (zp _))))) (EH (G9 (wX (z7 (wX (z7 (vy ze) (z7 (vy ze) wz))) (z7 (wX (z7 (vy ze) (z7 (vy ze) wz))) wz))))) zn) (za (HR (y4 (yb (zf o60x hr rfl (pa3 (pv 0) (pv 3) (pv 4))))) (EH (G9 (wX (z7 (wX (z7 (vy (zg yC ze (pit 3))) (z7 (vy (pit 3)) wz))) (z7 (wX (z7 (vy (zg yC ze (pit 4))) (z7 (vy (pit 4)) wz))) wz))))) zn) (zd (zi (zo (pa2 (pv 3) (pv 4))))))))))),?_⟩;walk_at "s";have bn:Bd 32 n:=zw (B:=2147483629) n0 (!2) (!3);have m0:=cP (n*48271) (b:=2147483587) ⋯;have m1:=dc (n*48271) (b:=2147483587) ⋯;exists xk (!2) (!2) λr1 H2 t b s2 e2 hb hg bt bb=>?_;exists xk m0 (!2) λr2 H4 t' b' s4 e4 hb' hg' bt' bb'=>?_;have e2:=s4 _ _ e2;have S4:=s2.trans s4;exists CP (T:=λσ' H5=>E3 λ(r2:Addr) (t' b':Int)=>A7 (σ'=[vI d,vI n,some (.bl false),vR r1,vR r2]) (Same H4 H5) (H5 r2=some (.tup [.int t',.int b'])) (1<=b') (Int.gcd t' b'=1) (Bd 110 t') (Bd 110 b')) ?_ ?_
  . exists if_d (λc=>?_) (λc=>?_)
    . exists zr (!1) λp5 H5 s5 e5=>?_;walk_at "r";exact ⟨p5,0,1,rfl,s5,e5,by decide,by decide,by decide +kernel,by decide +kernel⟩
    . walk_at "r";exact ⟨r2,t',b',rfl,Same.refl _,e4,hb',hg',bt',bb'⟩
  rintro σ' H5 ⟨r2,t',b',rfl,s5,e5,hb',hg',bt',bb'⟩;have e2:=s5 _ _ e2;exists CP (T:=λσ' H6=>E3 λ(r1:Addr) (t b:Int)=>A7 (σ'=[vI d,vI n,some (.bl false),vR r1,vR r2]) (Same H5 H6) (H6 r1=some (.tup [.int t,.int b])) (1<=b) (Int.gcd t b=1) (Bd 110 t) (Bd 110 b)) ?_ ?_
  . exists if_d (λc=>?_) (λc=>?_)
    . exists if_d (λc'=>?_) (λc'=>?_)
      . exists zr (!1) λp6 H6 s6 e6=>?_;walk_at "r";exact ⟨p6,0,1,rfl,s6,e6,by decide,by decide,by decide +kernel,by decide +kernel⟩
      . walk_at "r";exact ⟨r1,t,b,rfl,Same.refl _,e2,hb,hg,bt,bb⟩
    . walk_at "r";exact ⟨r1,t,b,rfl,Same.refl _,e2,hb,hg,bt,bb⟩
  rintro σ' H6 ⟨r1,t,b,rfl,s6,e6,hb,hg,bt,bb⟩;have e5:=s6 _ _ e5;have S6:=(S4.trans s5).trans s6;have bt0:Bd 110 (0 - t):=by rw [de]; exact bt.neg
  have bt0':Bd 110 (0 - t'):=by rw [de]; exact bt'.neg
  have rest:¬ (t=0/\t'=0)->sgn d (t*b') (t'*b)=1\/sgn d (t*b') (t'*b)=-1:=λn=>by
    rcases sgn_tri hR (t*b') (t'*b) with h|h|⟨h1,h2⟩
    . exact .inl h
    . exact .inr h
    . refine absurd ⟨?_,?_⟩ n
      . rcases dr.mp h1 with z | z
        . exact z
        . lia
      . rcases dr.mp h2 with z | z
        . exact z
        . lia
  exists if_d (λc1=>?_) (λc1=>?_)
  . exists if_d (λc2=>?_) (λc2=>?_)
    . exists zr (!1) λp7 H7 s7 e7=>?_;exists zr (!1) λp8 H8 s8 e8=>?_;exists zr (!1) λp9 H9 s9 e9=>?_;exact q p9 p7 p8 H9 1 1 0 1 (((S6.trans s7).trans s8).trans s9) e9 (s9 _ _ (s8 _ _ e7)) (s9 _ _ e8) ⟨by decide,by decide⟩ ⟨by decide,by decide⟩ ⟨by decide +kernel,by decide +kernel,by decide +kernel,by decide +kernel⟩ (by rw [show (1:Int)*1=1 by decide,show (0:Int)*1=0 by decide,vp ⋯ ⋯]; rfl)
    . have rr:=rest (λz=>by lia);exists wq ⟨e6,e5,hR,bt.mono ⋯,bb.mono ⋯,bt'.mono ⋯,bb'.mono ⋯⟩ ?_;exists AI (λc3=>?_) (λc3=>?_)
      . exists zr (!1) λp7 H7 s7 e7=>?_;have e5:=s7 _ _ e5;have e6:=s7 _ _ e6;exists zr (!1) λp8 H8 s8 e8=>?_;exists zr (!1) λp9 H9 s9 e9=>?_;refine q p9 p7 p8 H9 (0 - t) b (0 - t') b' (((S6.trans s7).trans s8).trans s9) e9 (s9 _ _ (s8 _ _ e7)) (s9 _ _ e8) ⟨hb,hb'⟩ ⟨by rw [de,gJ]; exact hg,by rw [de,gJ]; exact hg'⟩ ⟨bt0,bb,bt0',bb'⟩ ?_;rw [de,de,cH,cH,xh hR]
        lia
      . exists zr (!1) λp9 H9 s9 e9=>?_;exact q p9 r1 r2 H9 t b t' b' (S6.trans s9) e9 (s9 _ _ e6) (s9 _ _ e5) ⟨hb,hb'⟩ ⟨hg,hg'⟩ ⟨bt,bb,bt',bb'⟩ (!2)
  . have rr:=rest (λz=>by lia);exists wq ⟨e6,e5,hR,bt.mono ⋯,bb.mono ⋯,bt'.mono ⋯,bb'.mono ⋯⟩ ?_;exists AI (λc3=>?_) (λc3=>?_)
    . exists zr (!1) λp7 H7 s7 e7=>?_;have e5:=s7 _ _ e5;have e6:=s7 _ _ e6;exists zr (!1) λp8 H8 s8 e8=>?_;exists zr (!1) λp9 H9 s9 e9=>?_;refine q p9 p7 p8 H9 (0 - t) b (0 - t') b' (((S6.trans s7).trans s8).trans s9) e9 (s9 _ _ (s8 _ _ e7)) (s9 _ _ e8) ⟨hb,hb'⟩ ⟨by rw [de,gJ]; exact hg,by rw [de,gJ]; exact hg'⟩ ⟨bt0,bb,bt0',bb'⟩ ?_;rw [de,de,cH,cH,xh hR]
      lia
    . exists zr (!1) λp9 H9 s9 e9=>?_;exact q p9 r1 r2 H9 t b t' b' (S6.trans s9) e9 (s9 _ _ e6) (s9 _ _ e5) ⟨hb,hb'⟩ ⟨hg,hg'⟩ ⟨bt,bb,bt',bb'⟩ (!2)
theorem K50(F:Fun K "parted" "parted" S14 f fd)(B:Bl mg)(g_NOUGHT:TopT K mg "NOUGHT" [.int 0,.int 0,.int 1])(o9x:O9x P w K mg base)(o3x:O3x P w K mg base):FnOk P w K mg base CX0 4 f fd ["d","one","other"] P50:=by
  obtain ⟨a_NOUGHT,m_NOUGHT,q_NOUGHT⟩:=g_NOUGHT;refine F.okA C55 λcdv A outer s H vs Q E hr h=>?_;obtain ⟨d,p,p',x,y,z,x',y',z',rfl,h1,h2,hd,⟨b1,b2,b3,b4,b5,b6⟩,n1,n2,n3,q⟩:=h;refine ⟨_,(za (zu (zj (HG hr.units) (pv 2) (zA (v:=.ref a_NOUGHT) rfl m_NOUGHT rfl) (zp _)) (zd yv) zn) (za (ps_s 3 C55.nd (zg yC (zg zl (pit 2) (pit 2)) (zg zl (zg zl (pv 0) (pit 2)) (pit 2)))) (zd (zi (zf o9x hr rfl (pa3 (pv 0) (pv 1) (zf o3x hr rfl (pa3 (zg zl (pit 2) (pit 2)) (zg zl (Ac wp (pit 2)) (pit 2)) (pv 3))))))))),?_⟩;walk_at "s";have up:∀ {j:Nat} {t:Int},Bd j t->j<=1990->Bd 1990 t:=λh l=>h.mono l;exists LB (SqT.of h2) (q_NOUGHT H) ?_;exists if_d (λ(c:x'=0/\y'=0/\z'=1)=>absurd ⟨c.1,c.2.1⟩ n3) (λ_=>?_);walk_at "r";have hN:Bd 1900 (x'*x' - d*y'*y'):=(Bd.sub ((b4.mul b4).mono (show _<=1270 by decide)) (((hd.mul b5).mul b5).mono (show _<=1270 by decide))).mono ⋯;refine zO rfl n2 (hN.mono ⋯) λr H1 s1 e1=>?_;walk_at "r";have bi1:Bd 1200 (z'*x'):=Bd.mono (b6.mul b4) ⋯;have bi2:Bd 1200 (-z'*y'):=Bd.mono (b6.neg.mul b5) ⋯;have n4:=l_n (a:=z'*x') (b:=-z'*y') n2;exact Au (s1 _ _ h1) e1 hd (up b1 ⋯) (up b2 ⋯) (up b3 ⋯) (up (bi1.fdiv _) ⋯) (up (bi2.fdiv _) ⋯) (up (hN.fdiv _) ⋯) n1 (!2) λr' H' s' e'=>q r' H' (s1.trans s') e'
theorem K51(F:Fun K "next_base" "next_base" S18 f fd)(B:Bl mg)(o12x:O12x P w K mg base)(o8x:O8x P w K mg base):FnOk P w K mg base CX0 4 f fd ["d","base"] P51:=by
  refine F.okA C56 λcdv A outer s H vs Q E hr h=>?_;obtain @⟨d,p,r1,r2,s,N,rfl,⟨h0,h1,h2⟩,hR,hN,hb,g,q⟩:=h;refine ⟨_,(za (ps_s 2 C56.nd (pit 1)) (za (ps_s 3 C56.nd (pit 1)) (za (zu (yb (zf o12x hr rfl (pa3 (pv 0) (pv 3) (pv 2)))) (zd (zi (zo (pa2 (zf o8x hr rfl (pa2 (pv 2) (pv 3))) (pv 3))))) zn) (zd (zi (zo (pa2 (pv 2) (zf o8x hr rfl (pa2 (pv 3) (pv 2)))))))))),?_⟩;walk_at "s";have n0:N≠0:=by lia
  have dlo:=hR.lo;have dhi:=hR.hi;have hd:Bd 64 d:=zw (B:=99) (!2) hR.hi (!3);have k1:Bd 900 (lA s.a s.b N):=g.ba.fdiv _;have k2:Bd 900 (lB s.a s.b N):=g.bb.fdiv _;have k3:Bd 900 (lN s.a s.b N):=hb.fdiv _;have k4:Bd 900 (lA s.c s.e N):=g.bc.fdiv _;have k5:Bd 900 (lB s.c s.e N):=g.be.fdiv _;have k6:Bd 900 (lN s.c s.e N):=hb.fdiv _;exists AW (K:=K) (SqT.of h2) h1 hd (k4.mono ⋯) (k5.mono ⋯) (k6.mono ⋯) (k1.mono ⋯) (k2.mono ⋯) (k3.mono ⋯) ?_;rw [GK hR hN];exists if_d (λc=>?_) (λc=>?_)
  . have e:s.nx d=⟨s.a - s.c,s.b - s.e,s.c,s.e⟩:=im c;rw [e] at q;exists AB h1 h2 (l_n n0) (l_n n0) (xu n0) (xu n0) (k1.mono ⋯) (k2.mono ⋯) (k3.mono ⋯) (k4.mono ⋯) (k5.mono ⋯) (k6.mono ⋯) λr H1 s1 e1=>?_;obtain ⟨t1,t2,t3⟩:=By (a:=s.a) (b:=s.b) (c:=s.c) (e:=s.e) hN;rw [wL,wL,t1,t2,t3] at e1;walk_at "r";exact zr (!1) λp' H' s' e'=>q p' r r2 H' (s1.trans s') ⟨e',s' _ _ e1,s' _ _ (s1 _ _ h2)⟩
  . have e:s.nx d=⟨s.a,s.b,s.c - s.a,s.e - s.b⟩:=io c;rw [e] at q;exists AB h2 h1 (l_n n0) (l_n n0) (xu n0) (xu n0) (k4.mono ⋯) (k5.mono ⋯) (k6.mono ⋯) (k1.mono ⋯) (k2.mono ⋯) (k3.mono ⋯) λr H1 s1 e1=>?_;obtain ⟨t1,t2,t3⟩:=By (a:=s.c) (b:=s.e) (c:=s.a) (e:=s.b) hN;rw [wL,wL,t1,t2,t3] at e1;walk_at "r";exact zr (!1) λp' H' s' e'=>q p' r1 r H' (s1.trans s') ⟨e',s' _ _ (s1 _ _ h1),s' _ _ e1⟩
theorem K52(F:Fun K "times_over" "times_over" S24 f fd)(B:Bl mg)(o9x:O9x P w K mg base):FnOk P w K mg base CX0 4 f fd ["d","many","one"] P52:=by
  refine F.okA C57 λcdv A outer s H vs Q E hr h=>?_;obtain @⟨d,m,p,s,rfl,h1,hd,hm,ok,q⟩:=h;refine ⟨_,(zd (zi (zf o9x hr rfl (pa3 (pv 0) (zo (pa3 (pv 1) ze ze)) (pv 2))))),?_⟩;walk_at "s";have z1:=ok.z1;exists zr (!1) λp1 H1 s1 e1=>?_;exists Au e1 (s1 _ _ h1) hd (hm.mono ⋯) (!3) (!3) (ok.bx.mono ⋯) (ok.by'.mono ⋯) (ok.bz.mono ⋯) ⋯ (!2) λr H2 s2 e2=>?_;rw [show m*s.x+d*0*s.y=m*s.x by rw [cQ,bS,cf],show m*s.y+0*s.x=m*s.y by rw [bS,cf],Int.one_mul] at e2;exact q r H2 (s1.trans s2) e2
theorem K53(F:Fun K "is_deed" "is_deed" S28 f fd)(B:Bl mg)(g_CUTS:TopT K mg "CUTS" [.str "across",.str "along"])(g_SHIFTS:TopT K mg "SHIFTS" [.str "stack",.str "spread"])(g_GLUINGS:TopT K mg "GLUINGS" [.str "beside",.str "atop"])(g_TURN:TopS mg "TURN" (Str.ofString "turn"))(o22x:Own P w K mg base 3 "is_length" ["thing"] [] P42)(o0x:O0x P w K mg base):FnOk P w K mg base CX0 4 f fd ["thing"] P53:=by
  obtain ⟨a_CUTS,m_CUTS,q_CUTS⟩:=g_CUTS;obtain ⟨a_SHIFTS,m_SHIFTS,q_SHIFTS⟩:=g_SHIFTS;obtain ⟨a_GLUINGS,m_GLUINGS,q_GLUINGS⟩:=g_GLUINGS;obtain ⟨u_TURN,m_TURN,r_TURN⟩:=g_TURN;refine F.okA C58 λcdv A outer s H vs Q E hr h=>?_;obtain @⟨p,e,rfl,he,ok,q⟩:=h;refine ⟨_,(za (zu (PW.pt (AC (y4 (yb (zq yz rfl B.isinstance zL (pa2 (pv 0) (xR (v:=.ty "tuple") rfl B.tuple uk rfl))))) (AC (zj vF (zq zy rfl B.len br (pa1 (pv 0))) ze (zp _)) (v9 (y4 (yb (zq yz rfl B.isinstance zL (pa2 (pit 0) (xR (v:=.ty "str") rfl B.str Jv rfl))))))))) (zd (zi yY)) zn) (za (zu (zj z8 (zq zy rfl B.len br (pa1 (pv 0))) ze (zp _)) (zd (zi (yh z8 (pit 0) (zA (v:=.str (Str.ofString "turn")) rfl m_TURN r_TURN) (zp _)))) zn) (za (zu (zj Ea (zq zy rfl B.len br (pa1 (pv 0))) ze (zp _)) (zd (zi yY)) zn) (za (zu (zj yA (pit 0) (zA (v:=.ref a_CUTS) rfl m_CUTS rfl) (by with_unfolding_all rfl)) (zd (zi (zf o22x hr rfl (pa1 (pit 0))))) zn) (za (zu (zj yA (pit 0) (zA (v:=.ref a_SHIFTS) rfl m_SHIFTS rfl) (by with_unfolding_all rfl)) (zd (zi (Dh (zf o0x hr rfl (pa1 (pit 0))) (BU (yh Do (pit 0) ze (zp _)))))) zn) (zd (zi (yh yA (pit 0) (zA (v:=.ref a_GLUINGS) rfl m_GLUINGS rfl) (by with_unfolding_all rfl))))))))),?_⟩;walk_at "s";cases e with
  | cut al n s =>
    obtain ⟨pq,h0,hs⟩:=he;cases al
    all_goals
      simp [DdAt,Dd.wd] at h0;exists if_d (λc=>absurd c (!1)) (λ_=>?_);exists if_d (λc=>absurd c (!1)) (λ_=>?_);exists Gv (!1) ?_;exists ⟨_,_,rfl,.inr (q_CUTS H),rfl,rfl,?_⟩;rw [show (if false=true then !inV _ _ else inV _ _)=true from by decide +kernel];walk_at "r";exact AO rfl hs ok λH' s1=>q H' s1
  | glue al n m =>
    have h0:=he;cases al
    all_goals
      simp [DdAt,Dd.wd] at h0;exists if_d (λc=>absurd c (!1)) (λ_=>?_);exists if_d (λc=>absurd c (!1)) (λ_=>?_);exists Gv (!1) ?_;exists ⟨_,_,rfl,.inr (q_CUTS H),rfl,rfl,?_⟩;rw [show (if false=true then !inV _ _ else inV _ _)=false from by decide +kernel];exists ⟨_,_,rfl,.inr (q_SHIFTS H),rfl,rfl,?_⟩;rw [show (if false=true then !inV _ _ else inV _ _)=false from by decide +kernel];exists ⟨_,_,rfl,.inr (q_GLUINGS H),rfl,rfl,?_⟩;rw [show (if false=true then !inV _ _ else inV _ _)=true from by decide +kernel];walk_at "r";exact q H (Same.refl H)
  | shift al n k =>
    have h0:=he;cases al
    all_goals
      simp [DdAt,Dd.wd] at h0;exists if_d (λc=>absurd c (!1)) (λ_=>?_);exists if_d (λc=>absurd c (!1)) (λ_=>?_);exists Gv (!1) ?_;exists ⟨_,_,rfl,.inr (q_CUTS H),rfl,rfl,?_⟩;rw [show (if false=true then !inV _ _ else inV _ _)=false from by decide +kernel];exists ⟨_,_,rfl,.inr (q_SHIFTS H),rfl,rfl,?_⟩;rw [show (if false=true then !inV _ _ else inV _ _)=true from by decide +kernel];walk_at "r";exact bl_q (iJ ok.1) (q H (Same.refl H))
  | turn n =>
    have h0:=he;have h0:H p=some (.tup [.str (Str.ofString "turn"),.int n]):=h0;exists if_d (λc=>absurd c (!1)) (λ_=>?_);exists if_d (λ_=>?_) (λc=>absurd (!1) c);walk_at "r";exact bl_q (!3) (q H (Same.refl H))
theorem K54(F:Fun K "cut_across" "cut_across" S32 f fd)(B:Bl mg)(g_NOUGHT:TopT K mg "NOUGHT" [.int 0,.int 0,.int 1])(o12x:O12x P w K mg base)(o8x:O8x P w K mg base):FnOk P w K mg base CX0 4 f fd ["d","one","at"] P54:=by
  obtain ⟨a_NOUGHT,m_NOUGHT,q_NOUGHT⟩:=g_NOUGHT;refine F.okA C59 λcdv A outer s H vs Q E hr h=>?_;obtain @⟨d,c,p,s,rfl,hc,hs,hd,okw,oks,up,un,q⟩:=h;refine ⟨_,(za (zu (y4 (PW.pt (yD (yb (zf o12x hr rfl (pa3 (pv 0) (zA (v:=.ref a_NOUGHT) rfl m_NOUGHT rfl) (pv 2)))) (yg (yb (zf o12x hr rfl (pa3 (pv 0) (pv 2) (pit 1)))))))) (zd yv) zn) (zd (zi (zx (pa2 (zo (pa2 (pv 2) (pit 1))) (zo (pa2 (zf o8x hr rfl (pa2 (pit 1) (pv 2))) (pit 1)))))))),?_⟩;walk_at "s";have ct:=hc.t;have cw:=hc.w;have hs':H p=some (.tup [.int s.x,.int s.y,.int s.z]):=hs;have cw':H c.pw=some (.tup [.int c.b.w.x,.int c.b.w.y,.int c.b.w.z]):=cw;exists AW (q_NOUGHT H) hs' hd (!3) (!3) (!3) (oks.bx.mono ⋯) (oks.by'.mono ⋯) (oks.bz.mono ⋯) ?_;rw [show decide (0<sgn d (s.x*1 - 0*s.z) (s.y*1 - 0*s.z))=true from iJ (by simpa only [df,bS,Int.sub_zero] using up)];exists AW (SqT.of hs') cw' hd (oks.bx.mono ⋯) (oks.by'.mono ⋯) (oks.bz.mono ⋯) (okw.bx.mono ⋯) (okw.by'.mono ⋯) (okw.bz.mono ⋯) ?_;rw [show decide (0<sgn d (c.b.w.x*s.z - s.x*c.b.w.z) (c.b.w.y*s.z - s.y*c.b.w.z))=true from iJ un];exists zI (!1) λr1 H1 hr1 s1 e1=>?_;have ct1:=s1 _ _ ct;exists AB (s1 _ _ cw') (s1 _ _ hs') okw.z1 oks.z1 okw.g oks.g (okw.bx.mono ⋯) (okw.by'.mono ⋯) (okw.bz.mono ⋯) (oks.bx.mono ⋯) (oks.by'.mono ⋯) (oks.bz.mono ⋯) λr2 H2 s2 e2=>?_;have ct2:=s2 _ _ ct1;exists zI (!1) λr3 H3 hr3 s3 e3=>?_;exists zE (!1) λr H4 hr s4 e4=>?_;have t4:=((s1.trans s2).trans s3).trans s4;exact q r ⟨r1,p,c.ph,⟨s,c.b.h⟩⟩ ⟨r3,r2,c.ph,⟨tkS c.b.w s,c.b.h⟩⟩ H4 t4 (Same.nn ((s1.trans s2).trans s3) hr) e4 ⟨s4 _ _ (s3 _ _ (s2 _ _ e1)),t4 _ _ hs,t4 _ _ hc.h⟩ ⟨s4 _ _ e3,s4 _ _ (s3 _ _ e2),t4 _ _ hc.h⟩ rfl rfl
theorem K55(F:Fun K "board_table" "board_table" S47 f fd)(B:Bl mg)(o5x:Own P w K mg base 3 "parts" ["one"] [] P38)(o39x:O39x P w K mg base):FnOk P w K mg base CX0 4 f fd ["one"] P55:=by
  refine F.okA C60 λcdv A outer s H vs Q E hr h=>?_;obtain @⟨c,rfl,⟨ht,hw,hh⟩,⟨ow,oh⟩,q⟩:=h;refine ⟨_,(za (ps_s 1 C60.nd (zf o5x hr rfl (pa1 (pit 0)))) (za (ps_s 2 C60.nd (zf o5x hr rfl (pa1 (pit 0)))) (zd (zi (zo (pa2 (zo (pa2 (zf o39x hr rfl (pa2 (pit 1) (pit 2))) (zf o39x hr rfl (pa2 (pit 1) (pit 2))))) (zo (pa2 (zf o39x hr rfl (pa2 (pit 1) (pit 2))) (zf o39x hr rfl (pa2 (pit 1) (pit 2))))))))))),?_⟩;walk_at "s";exists D9 rfl hw ow.nz (ow.bz.mono ⋯) λa0 a1 a2 H1 s1 ea ea1 ea2=>?_;have ea1:=EY ow.nz ea1;have ea2:=EY ow.nz ea2;have ht:=s1 _ _ ht;have hh:=s1 _ _ hh;exists D9 rfl hh oh.nz (oh.bz.mono ⋯) λb0 b1 b2 H2 s2 eb eb1 eb2=>?_;have eb1:=EY oh.nz eb1;have eb2:=EY oh.nz eb2;have ea:=s2 _ _ ea;have ea1:=s2 _ _ ea1;have ea2:=s2 _ _ ea2;exists wf ea1 eb1 ow.p8 oh.p8 λt0 H3 s3 et0=>?_;have ea:=s3 _ _ ea;have eb:=s3 _ _ eb;have ea1:=s3 _ _ ea1;have ea2:=s3 _ _ ea2;have eb1:=s3 _ _ eb1;have eb2:=s3 _ _ eb2;exists wf ea1 eb2 ow.p8 oh.q8 λt1 H4 s4 et1=>?_;have ea:=s4 _ _ ea;have eb:=s4 _ _ eb;have ea1:=s4 _ _ ea1;have ea2:=s4 _ _ ea2;have eb1:=s4 _ _ eb1;have eb2:=s4 _ _ eb2;have et0:=s4 _ _ et0;exists zr (!1) λr0 G0 z0 er0=>?_;have ea:=z0 _ _ ea;have eb:=z0 _ _ eb;have ea1:=z0 _ _ ea1;have ea2:=z0 _ _ ea2;have eb1:=z0 _ _ eb1;have eb2:=z0 _ _ eb2;have et0:=z0 _ _ et0;have et1:=z0 _ _ et1;exists wf ea2 eb1 ow.q8 oh.p8 λt2 H5 s5 et2=>?_;have ea:=s5 _ _ ea;have eb:=s5 _ _ eb;have ea1:=s5 _ _ ea1;have ea2:=s5 _ _ ea2;have eb1:=s5 _ _ eb1;have eb2:=s5 _ _ eb2;have et0:=s5 _ _ et0;have et1:=s5 _ _ et1;have er0:=s5 _ _ er0;exists wf ea2 eb2 ow.q8 oh.q8 λt3 H6 s6 et3=>?_;have ea:=s6 _ _ ea;have eb:=s6 _ _ eb;have ea1:=s6 _ _ ea1;have ea2:=s6 _ _ ea2;have eb1:=s6 _ _ eb1;have eb2:=s6 _ _ eb2;have et0:=s6 _ _ et0;have et1:=s6 _ _ et1;have et2:=s6 _ _ et2;have er0:=s6 _ _ er0;exists zr (!1) λr1 G1 z1 er1=>?_;have ea:=z1 _ _ ea;have eb:=z1 _ _ eb;have ea1:=z1 _ _ ea1;have ea2:=z1 _ _ ea2;have eb1:=z1 _ _ eb1;have eb2:=z1 _ _ eb2;have et0:=z1 _ _ et0;have et1:=z1 _ _ et1;have et2:=z1 _ _ et2;have et3:=z1 _ _ et3;have er0:=z1 _ _ er0;exists zr (!1) λr G z er=>?_;exact q r G ((((((((s1.trans s2).trans s3).trans s4).trans z0).trans s5).trans s6).trans z1).trans z) ⟨r0,r1,t0,t1,t2,t3,er,z _ _ er0,z _ _ er1,z _ _ et0,z _ _ et1,z _ _ et2,z _ _ et3⟩
theorem K56(F:Fun K "measure_below" "measure_below" S57 f fd)(B:Bl mg)(o45x:Own P w K mg base 1 "slant" ["one"] [] P12)(o38x:O38x P w K mg base)(o37x:O37x P w K mg base):FnOk P w K mg base CX0 4 f fd ["whole"] P56:=by
  refine F.okA C61 λcdv A outer s H vs Q E hr h=>?_;obtain @⟨p,t,rfl,ht,bt,h0,hs,q⟩:=h;refine ⟨_,(za (ps_s 1 C61.nd (pe_i ix_tup (pit 0) ze)) (za (ps_s 2 C61.nd (pe_i ix_tup (pit 0) ze)) (za (ps_s 3 C61.nd (pe_i ix_tup (pit 0) ze)) (za (zu (zj vF (pit 1) ze (zp _)) (zd (zi (zo (pa2 (zo (pa2 ze ze)) (zo (pa2 ze ze)))))) zn) (za (zu (PW.pt (yD (zj z8 (pit 1) ze (zp _)) (yg (zj Ea (pit 2) ze (zp _))))) (zd (zi (zo (pa2 (zf o38x hr rfl (pa2 (zo (pa2 (Ac wp ze) ze)) (pv 3))) (zf o37x hr rfl (pa2 (pv 2) (pv 2))))))) zn) (za (zu (zj vF (zf o45x hr rfl (pa1 (pv 0))) ze (zp _)) (zd (zi (zo (pa2 (zf o38x hr rfl (pa2 (zo (pa2 ze ze)) (pv 2))) (pv 1))))) zn) (zd (zi vq)))))))),?_⟩;walk_at "s";obtain ⟨r0,r1,f0,f1,f2,f3,⟨hp,k0,k1,g0,g1,g2,g3'⟩⟩:=ht;have g0':H f0=some (.tup [.int t.a.num,.int (t.a.den:Int)]):=g0;have g1':H f1=some (.tup [.int t.b.num,.int (t.b.den:Int)]):=g1;exists if_d (λc=>absurd c (!2)) (λ_=>?_);exists if_d (λc=>absurd c (!2)) (λ_=>?_);exists Iv rfl ⟨r0,r1,f0,f1,f2,f3,⟨hp,k0,k1,g0,g1,g2,g3'⟩⟩ bt ?_;exists if_d (λc=>absurd c (!2)) (λ_=>?_);walk_at "r";exact q
theorem K57(F:Fun K "side_by_side" "side_by_side" S58 f fd)(B:Bl mg)(g_NOUGHT:TopT K mg "NOUGHT" [.int 0,.int 0,.int 1])(g_ROOT:TopT K mg "ROOT" [.int 0,.int 1,.int 1])(o40x:Own P w K mg base 3 "by" ["one","other"] [] P47)(o12x:O12x P w K mg base)(o38x:O38x P w K mg base)(o6x:O6x P w K mg base)(o39x:O39x P w K mg base)(o8x:O8x P w K mg base):FnOk P w K mg base CX0 4 f fd ["d","whole"] (P57 K):=by
  obtain ⟨a_NOUGHT,m_NOUGHT,q_NOUGHT⟩:=g_NOUGHT;obtain ⟨a_ROOT,m_ROOT,q_ROOT⟩:=g_ROOT;refine F.okA C62 λcdv A outer s H vs Q E hr h=>?_;obtain @⟨d,p,t,N,rfl,ht,bt,hR,h0,ha,hb,he,q⟩:=h;refine ⟨_,(za (ps_s 2 C62.nd (pe_i ix_tup (pit 1) ze)) (za (ps_s 3 C62.nd (pe_i ix_tup (pit 1) ze)) (za (zu (zj z8 (pit 2) ze (zp _)) (zd (zi (zx (pa1 (zo (pa2 (zf o6x hr rfl (pa2 (zo (pa2 ze ze)) (pe_i ix_tup (pit 1) ze))) (zA (v:=.ref a_ROOT) rfl m_ROOT rfl))))))) zn) (za (ps_s 4 C62.nd (zf o40x hr rfl (pa2 (pv 3) (pv 2)))) (za (ps_s 5 C62.nd (zo (pa2 (zf o6x hr rfl (pa2 (pv 2) (pv 3))) (zf o6x hr rfl (pa2 (zo (pa2 ze ze)) (pv 4)))))) (za (vZ (zu (yb (zf o12x hr rfl (pa3 (pv 0) (pit 5) (zA (v:=.ref a_NOUGHT) rfl m_NOUGHT rfl)))) (zd (ps_s 5 C62.nd (zo (pa2 (zf o8x hr rfl (pa2 (zA (v:=.ref a_NOUGHT) rfl m_NOUGHT rfl) (pit 5))) (zf o8x hr rfl (pa2 (zA (v:=.ref a_NOUGHT) rfl m_NOUGHT rfl) (pit 5))))))) zn)) (za (ps_s 6 C62.nd (zf o38x hr rfl (pa2 (pe_i ix_tup (pit 1) ze) (zf o39x hr rfl (pa2 (pv 3) (pv 4)))))) (za (zu (zj z8 (pit 6) ze (zp _)) (zd (zi (zx (pa1 (pv 5))))) zn) (zd (zi (zx (pa2 (pv 5) (zo (pa2 (zf o6x hr rfl (pa2 (zo (pa2 ze ze)) (pv 6))) (zA (v:=.ref a_ROOT) rfl m_ROOT rfl))))))))))))))),?_⟩;walk_at "s";obtain ⟨r0,r1,f0,f1,f2,f3,⟨hp,k0,k1,g0,g1,g2,g3'⟩⟩:=ht;have hd:Bd 64 d:=zw (B:=99) (by have:=hR.lo; lia) hR.hi (!3);have en:t.a.num=(N:Int):=by rw [ha]; rfl
  have g0':H f0=some (.tup [.int t.a.num,.int (t.a.den:Int)]):=g0;have ba:Bq 400 t.a:=bt.a.bq (ag _) (ag _);have b0:Bq 400 (0:Rat):=by rw [<-hb]; exact bt.b.bq (ag _) (ag _)
  rw [hb] at g1;rw [he] at g3';exists if_d (λc=>absurd c (!2)) (λ_=>?_);exists c_by g1 g0 (b0.mono ⋯) (ba.mono ⋯) (!2) λy1 J1 u1 l1=>?_;rw [Rat.zero_mul] at l1;have g0:Fq J1 f0 t.a:=u1 _ _ g0;have g1:Fq J1 f1 0:=u1 _ _ g1;have g3':Fq J1 f3 0:=u1 _ _ g3';have hp:=u1 _ _ hp;have k1:=u1 _ _ k1;exists xX g0 g1 (den1 t.a) (den1 0) (uL t.a) (uL 0) (ba.1.mono ⋯) (ba.2.mono ⋯) (b0.1.mono ⋯) (b0.2.mono ⋯) λr3 J3 u3 l3=>?_;have l3:SdAt J3 r3 ⟨(N:Int),0,1⟩:=by rw [<-pq_N ha]; exact l3
  exists zr (!1) λt4 J4 u4 l4=>?_;walk_at "r";have l1:Fq J4 y1 0:=(u3.trans u4) _ _ l1;refine xX (JJ l4) l1 (den1 1) (den1 0) (uL 1) (uL 0) (!3) (!3) (b0.1.mono ⋯) (b0.2.mono ⋯) λr5 J5 u5 l5=>?_;have l5:SdAt J5 r5 ⟨1,0,1⟩:=by rw [<-Na]; exact l5
  have l3:=(u4.trans u5) _ _ l3;exists zr (!1) λt6 J6 u6 l6=>?_;have l5:=u6 _ _ l5;have l5':J6 r5=some (.tup [.int 1,.int 0,.int 1]):=l5;have l3:=u6 _ _ l3;exists CP (T:=λσ' Hc=>Hc=J6/\σ'=[vI d,vR p,vR f0,vR f1,vR y1,vR t6,none]) ?_ ?_
  . exists GD (SqT.of l5') (q_NOUGHT J6) hd (!3) (!3) (!3) (!3) (!3) (!3) ?_;exists if_d (λk=>?_) (λk=>?_)
    . exfalso;rw [show (0:Int)*1 - 1*1=-1 by rfl,show (0:Int)*1 - 0*1=-0 by rfl,xh hR,Ci hR] at k;exact absurd k ⋯
    . walk_at "r";exact ⟨rfl,rfl⟩
  rintro σ' Hc ⟨rfl,rfl⟩;have s16:=((u3.trans u4).trans u5).trans u6;have hp:=s16 _ _ hp;have k1:=s16 _ _ k1;have g1:Fq Hc f1 0:=s16 _ _ g1;have g3':Fq Hc f3 0:=s16 _ _ g3';have l1:Fq Hc y1 0:=(u5.trans u6) _ _ l1;exists wf g1 l1 (b0.mono ⋯) (b0.mono ⋯) λy7 J7 u7 l7=>?_;exists Jq (u7 _ _ g3') l7 (b0.mono ⋯) (by rw [Rat.zero_mul]; exact b0.mono ⋯) λy8 J8 u8 l8=>?_;have l8:Fq J8 y8 0:=by rw [show (0:Rat) - 0*0=0 by grind] at l8; exact l8
  have l8:J8 y8=some (.tup [.int 0,.int 1]):=l8;exists if_d (λ_=>?_) (λc=>absurd rfl c);exists zE (!1) λr9 J9 n9 u9 l9=>?_;have s69:=(u7.trans u8).trans u9;exact q r9 t6 r3 r5 J9 ((u1.trans s16).trans s69) (Same.nn ((u1.trans s16).trans (u7.trans u8)) n9) l9 ⟨s69 _ _ l6,s69 _ _ l3,s69 _ _ l5⟩
theorem K58(F:Fun K "_law_length" "_law_length" S67 f fd)(B:Bl mg)(o61x:Own P w K mg base 3 "_law_side" ["_law_d","_law_number","_law_great"] [] P49)(o6x:O6x P w K mg base):FnOk P w K mg base CX0 4 f fd ["_law_d","_law_number"] P58:=by
  refine F.okA C63 λcdv A outer s H vs Q E hr h=>?_;obtain @⟨d,n,rfl,hn,hR,q⟩:=h;refine ⟨_,(za (ps_s 2 C63.nd (zf o61x hr rfl (pa3 (pv 0) (pv 1) yY))) (zd (zi (zf o6x hr rfl (pa2 (pit 2) (pit 2)))))),?_⟩;walk_at "s";exists Av rfl hn hR λr r1 r2 H1 t b t' b' s1 e0 e1 e2 hb hg bd up=>?_;obtain ⟨bt,bb,bt',bb'⟩:=bd;exists xX e1 e2 hb.1 hb.2 hg.1 hg.2 (bt.mono ⋯) (bb.mono ⋯) (bt'.mono ⋯) (bb'.mono ⋯) λr3 H3 s3 e3=>?_;have nn:1<=b*b':=a9 (!2) (!2);have n0:b*b'≠0:=by lia
  exact q r3 H3 ⟨lA (t*b') (t'*b) (b*b'),lB (t*b') (t'*b) (b*b'),lN (t*b') (t'*b) (b*b')⟩ (s1.trans s3) e3 ⟨l_n n0,xu n0,Bd.fdiv ((bt.mul bb').mono ⋯) _,Bd.fdiv ((bt'.mul bb).mono ⋯) _,Bd.fdiv ((bb.mul bb').mono ⋯) _⟩ ((yQ hR nn).trans up)
theorem K59(F:Fun K "serving" "serving" S23 f fd)(B:Bl mg)(o13x:Own P w K mg base 3 "first_base" ["d","n"] [] P41)(o17x:Own P w K mg base 2 "common_bottom" ["lengths"] [] (P29 K))(o14x:Own P w K mg base 4 "next_base" ["d","base"] [] P51)(o3x:O3x P w K mg base)(o16x:O16x P w K mg base):FnOk P w K mg base CX0 5 f fd ["d","lengths"] (P59 K):=by
  refine F.okA C64 λcdv A outer s H vs Q E hr h=>?_;obtain @⟨d,p,L,k,rfl,hL,hR,hlen,hF,hNb,q⟩:=h;refine ⟨_,(za (ps_s 2 C64.nd (zf o13x hr rfl (pa2 (pv 0) ze))) (za (zQ PassesOwn.never rfl (zJ (pv 1)) (pg_n 3 C64.nd) (za (ps_s 4 C64.nd (zo (pa3 (pit 3) (pit 3) ze))) (zd (xK PassesOwn.never (zj vF (zq (Dq rfl) rfl B.min GY (pa1 (zf o16x hr rfl (pa3 (pv 0) (pv 2) (pv 4))))) ze (zp _)) (zd (ps_s 2 C64.nd (zf o14x hr rfl (pa2 (pv 0) (pv 2))))))))) (za (ps_s 5 C64.nd (zf o17x hr rfl (pa1 (pv 1)))) (zd (zi (yE Fv rfl B.tuple uk (pa1 (yj ["side"] [5] rfl (Hr (pv 2)) (λ_ _ _ _ _=>(pg_n 0 (show List.Nodup (α:=Str) ["side","bottom"] by decide +kernel))) (λ_ _ _ _ _=>zP) (λ_ _ _ _ _=>(zf o3x hr rfl (pa3 (pe_i (r:=rIxT K) ix_tup (pv 0) ze) (pe_i (r:=rIxT K) ix_tup (pv 0) ze) (pv 1)))))))))))),?_⟩;walk_at "s";obtain ⟨N1,_,_⟩:=Dn (Lf hL.ok);obtain ⟨ups,bds⟩:=Iq hL.ok;have gK:=Fst.gb hR ⋯ hF ups bds;exists Ae rfl ⋯ (!3) λp0 a1 a2 H1 s1 f1=>?_;exists yK ?_;exists ⟨p,rfl,⟨_,SqL.of (hL.same s1).l⟩,zS (K:=K) (a:=p) (xs:=L.map Ln.v) (λi σ H'=>E7 λ(pb r1 r2:Addr) (n:Nat) (v3 v4 v5:Option V)=>A4 (σ=[vI d,vR p,vR pb,v3,v4,v5]) (Same H1 H') (BsAt H' pb r1 r2 (st d n) 1) (Fst d ((L.take i).map Ln.u) n)) ⟨p0,a1,a2,0,_,_,_,rfl,Same.refl _,f1,λu hu=>absurd hu (!1),λn hn=>absurd hn (!2)⟩ (λi σ H' _ z'=>by obtain ⟨_,_,_,_,_,_,_,_,s,_⟩:=z'; exact SqL.of ((hL.same s1).same s).l) ?_ ?_⟩
  . rintro i y σ H' hi ⟨pb,r1,r2,n,v3,v4,v5,rfl,si,fb,hn⟩;obtain ⟨c,rfl,hc,hic⟩:=LU hi;have e0:H' c.p=some (.tup [.int c.s.x,.int c.s.y,.int c.s.z]):=si _ _ (s1 _ _ (hL.at' c hc));have ok:=hL.ok c hc;obtain ⟨ups',bds'⟩:=Iq (IS hL.ok (i+1));obtain ⟨M,hM⟩:=Hy hR ups';rw [AD hic] at hM ups' bds';have ucM:c.u∈(L.take i).map Ln.u++[c.u]:=by simp
    have hnM:n<=M:=by
      refine Nat.not_lt.mp λz=>?_;obtain ⟨u,hu,nu⟩:=hn.2 M z;exact nu (hM.1 u (bP _ hu))
    exists zr (!1) λt H2 s2 e2=>?_;obtain ⟨o1,o2,o3⟩:=Ba c.s.x c.s.y;have e2':H2 t=some (.tup [.int (lA c.s.x c.s.y 1),.int (lB c.s.x c.s.y 1),.int (lN c.s.x c.s.y 1)]):=by rw [o1,o2,o3]; exact e2
    exists IO (λm σ H'=>E4 λ(pb r1 r2:Addr) (n:Nat)=>A5 (σ=[vI d,vR p,vR pb,vR c.p,vR t,v5]) (Same H2 H') (BsAt H' pb r1 r2 (st d n) 1) (n+m=M) (∀ u∈(L.take i).map Ln.u,(st d n).srv u.1 u.2)) ⟨M - n,pb,r1,r2,n,rfl,Same.refl _,fb.same s2,by lia,hn.1⟩ ?_;rintro m σ H3 ⟨pb,r1,r2,n,rfl,s3,fb,hm,hs⟩;have g:GB d 900 (st d n):=(Fst.gb_le hR (k:=700) ⋯ hM (show n<=M by lia) ups' bds').mono ⋯;exists BD fb (s3 _ _ e2') ⋯ (!3) g (ok.bx.mono ⋯) (ok.by'.mono ⋯) λr H4 s4 e4=>?_;exists Ly e4 λw hw w1 w2=>?_;have hw0:=II hw w1 w2;exists if_d (λcc=>?_) (λcc=>?_)
    . have ns:¬ (st d n).srv c.u.1 c.u.2:=hw0.mp cc;have lt:n<M:=by
        refine Nat.not_le.mp λz=>?_;exact ns (Fb (hM.1 c.u ucM) z)
      refine wgn ?_;exists AY rfl (fb.same s4) hR ⋯ (!3) g λpb' r1' r2' H5 s5 f5=>?_;walk_at "r";exact ⟨m - 1,by lia,pb',r1',r2',n+1,rfl,(s3.trans s4).trans s5,f5,by lia,λu hu=>Hj d (hs u hu)⟩
    . have sv:(st d n).srv c.u.1 c.u.2:=f9 λz=>cc (hw0.mpr z);have all:∀ u∈(L.take i).map Ln.u++[c.u],(st d n).srv u.1 u.2:=λu hu=>by
        rcases aB.mp hu with z|z
        . exact hs u z
        . have:u=c.u:=by simpa using z
          subst this;exact sv
      have eq:n=M:=by
        refine Nat.le_antisymm (!2) (Nat.not_lt.mp λz=>?_);obtain ⟨u,hu,nu⟩:=hM.2 n z;exact nu (all u hu)
      exists ⟨pb,r1,r2,n,_,_,_,rfl,((si.trans s2).trans s3).trans s4,fb.same s4,?_⟩;rw [AD hic,eq];exact hM
  . rintro σ H' ⟨pb,r1,r2,n,v3,v4,v5,rfl,si,fb,hn⟩;rw [aa,ar] at hn;have en:=hn.unique (λ_=>Iff.rfl) hF;subst en;have q1:=gK.ba;have q2:=gK.bb;have q3:=gK.bc;have q4:=gK.be;have hL':=(hL.same s1).same si;exists wR rfl hL' hlen hNb ?_;have hNb8:Bd 8000 (cbs (L.map λc=>c.s.z)):=hNb.mono ⋯;generalize cbs (L.map λc=>c.s.z)=N at *
    obtain ⟨o1,o2,o3⟩:=Ba (st d n).a (st d n).b;obtain ⟨o4,o5,o6⟩:=Ba (st d n).c (st d n).e;obtain ⟨f0,f1,f2⟩:=fb;rw [o1,o2,o3] at f1;rw [o4,o5,o6] at f2;exists Dk ?_;exists ⟨pb,rfl,⟨_,SqT.of f0⟩,λD hD=>Cd (K:=K) (a:=pb) (ys:=[.ref r1,.ref r2]) (λi xs σ' H2=>E1 λ(v:Option V)=>A4 (σ'=[v,vI N]) (H2 D=some (.lst xs)) (SameX D H' H2) (((i=0/\xs=[])\/(i=1/\∃ q1,xs=[.ref q1]/\H2 q1=some (.tup [.int (lA (st d n).a (st d n).b N),.int (lB (st d n).a (st d n).b N),.int (lN (st d n).a (st d n).b N)]))\/(i=2/\∃ q1 q2,xs=[.ref q1,.ref q2]/\H2 q1=some (.tup [.int (lA (st d n).a (st d n).b N),.int (lB (st d n).a (st d n).b N),.int (lN (st d n).a (st d n).b N)])/\H2 q2=some (.tup [.int (lA (st d n).c (st d n).e N),.int (lB (st d n).c (st d n).e N),.int (lN (st d n).c (st d n).e N)]))))) ⟨none,rfl,zk,λb o e n=>by rw [zm n]; exact e,.inl ⟨rfl,rfl⟩⟩ (λi xs σ' H2 _ z=>by obtain ⟨v,_,_,z,_⟩:=z; exact SqT.of (z _ _ f0 (zc f0 hD))) ?_ ?_⟩
    . rintro i x xs σ' H2 hi ⟨v,rfl,eD,sx,hx⟩;have k1:H2 r1=some (.tup [.int (st d n).a,.int (st d n).b,.int 1]):=sx _ _ f1 (zc f1 hD);have k2:H2 r2=some (.tup [.int (st d n).c,.int (st d n).e,.int 1]):=sx _ _ f2 (zc f2 hD);have hi':=(af.mp hi).1;rcases hx with ⟨rfl,rfl⟩|⟨rfl,q1,rfl,hq1⟩|⟨rfl,_⟩
      . obtain rfl:V.ref r1=x:=ao hi;exists zO rfl (!2) hNb8 λt H3 s3 e3=>?_;have eD3:=s3 _ _ eD;refine zt eD3 (!1) λH4 sx4 e4=>?_;exact xv hi' ⟨_,rfl,e4,(sx.trans (s3.sameX D)).trans sx4,.inr (.inl ⟨rfl,t,rfl,sx4.tup e3 eD3⟩)⟩
      . obtain rfl:V.ref r2=x:=ao hi;exists zO rfl (!2) hNb8 λt H3 s3 e3=>?_;have eD3:=s3 _ _ eD;refine zt eD3 (!1) λH4 sx4 e4=>?_;exact xv hi' ⟨_,rfl,e4,(sx.trans (s3.sameX D)).trans sx4,.inr (.inr ⟨rfl,q1,t,rfl,sx4.tup (s3 _ _ hq1) eD3,sx4.tup e3 eD3⟩)⟩
      . exact absurd hi' (!1)
    . rintro xs σ' H2 ⟨v,rfl,eD,sx,hx⟩;rcases hx with ⟨h0,_⟩|⟨h0,_⟩|⟨_,q1,q2,rfl,hq1,hq2⟩
      . exact absurd h0 (!1)
      . exact absurd h0 (!1)
      have sD:Same H' H2:=λb o e=>sx b o e (zc e hD);exists JO eD λt H3 s3 e3=>?_;exact q t q1 q2 H3 (((s1.trans si).trans sD).trans s3) ⟨e3,s3 _ _ hq1,s3 _ _ hq2⟩
theorem K60(F:Fun K "normal_plan" "normal_plan" S25 f fd)(B:Bl mg)(o21x:Own P w K mg base 1 "gathering" ["pieces","unused"] [] P5)(o16x:O16x P w K mg base)(o19x:O19x P w K mg base):FnOk P w K mg base CX0 5 f fd ["d","heap","base"] P60:=by
  refine F.okA C65 λcdv A outer s H vs Q E hr h=>?_;obtain @⟨d,d',p,pb,r1,r2,s',N,D,px,py,C,hb,rfl,hl,hA,fb,hN,hNb,gb,hlen,h60,hd,hD,hP,okP,hc,q⟩:=h;refine ⟨_,(za (ps_s 3 C65.nd (zx z5)) (za (ps_s 4 C65.nd (zx z5)) (za (ps_s 5 C65.nd (zx z5)) (za (ps_s 6 C65.nd (zq zy rfl B.len br (pa1 (pv 1)))) (za (zQ PassesOwn.never rfl (uh rfl B.enumerate (pa1 (pv 1))) (vY (n:=2) rfl (zU (pg_n 7 C65.nd) (zU (pg_n 8 C65.nd) xQ))) (za (ps_s 9 C65.nd (zf o16x hr rfl (pa3 (pv 0) (pv 2) (pit 8)))) (zd (zu (zj z8 (pit 9) ze (zp _)) (zd (zH (yW aM aQ aR zB (pv 4) (pa1 (zo (pa2 (pv 7) (pit 9))))))) (zd (zu (zj z8 (pit 9) ze (zp _)) (zd (zH (yW aM aQ aR zB (pv 5) (pa1 (zo (pa2 (pv 7) (pit 9))))))) (za (zH (yW aM aQ aR zB (pv 3) (pa1 (zo (pa3 zG (pv 7) (zf o19x hr rfl (pa3 (pv 0) (pit 9) (pit 2)))))))) (za (zH (yW aM aQ aR zB (pv 4) (pa1 (zo (pa2 (pv 6) (pit 9)))))) (za (zH (yW aM aQ aR zB (pv 5) (pa1 (zo (pa2 (zg zK (pv 6) ze) (pit 9)))))) (zd (ps_s 6 C65.nd (zg zK (pv 6) ze)))))))))))) (za (ps_s 10 C65.nd (zf o21x hr rfl (pa2 (pv 4) (pv 6)))) (zd (zi (zg Fa (zg Fa (pv 3) (pv 10)) (zf o21x hr rfl (pa2 (pv 5) (zg zK (pv 6) (zq zy rfl B.len br (pa1 (pv 10))))))))))))))),?_⟩;walk_at "s";exists zE (!1) λDD H1 nD s1 e1=>?_;exists zE (!1) λFF H2 nF s2 e2=>?_;exists zE (!1) λOO H3 nO s3 e3=>?_;have z3:=(s1.trans s2).trans s3;have hl3:=z3 _ _ hl;have DF:DD≠FF:=zc e1 nF;have DO:DD≠OO:=zc (s2 _ _ e1) nO;have FO:FF≠OO:=zc e2 nO;have pD:p≠DD:=zc hl nD;have pF:p≠FF:=zc (s1 _ _ hl) nF;have pO:p≠OO:=zc ((s1.trans s2) _ _ hl) nO;exists B3 ?_;walk_at "r";rw [aa,hlen];refine ⟨p,_,rfl,SqL.of hl3,wJ (K:=K) (a:=p) (xs:=C.map Cell.v) (λt σ H'=>E6 λ(v1 v2 v3:Option V) (ps fs os:List Addr)=>A6 (σ=[vI d,vR p,vR pb,vR DD,vR FF,vR OO,vI ((np1 D px py hb.length hb t).u:Int),v1,v2,v3,none]) ((H' DD=some (.lst (ps.map V.ref))/\Runs H' ps (np1 D px py hb.length hb t).ds/\ps.length<=t)) ((H' FF=some (.lst (fs.map V.ref))/\PcAt H' fs (np1 D px py hb.length hb t).F/\fs.length<=t)) ((H' OO=some (.lst (os.map V.ref))/\PcAt H' os (np1 D px py hb.length hb t).O/\os.length<=t)) ((np1 D px py hb.length hb t).u<=hb.length+2*t) (∀ b o,H3 b=some o->b≠DD->b≠FF->b≠OO->H' b=some o)) ⟨_,_,_,[],[],[],rfl,⟨s3 _ _ (s2 _ _ e1),⟨rfl,λi p x h=>by simp at h⟩,ag _⟩,⟨s3 _ _ e2,⟨rfl,λi p x h=>by simp at h⟩,ag _⟩,⟨e3,⟨rfl,λi p x h=>by simp at h⟩,ag _⟩,ag _,λb o e _ _ _=>e⟩ (λt σ H' _ z=>by obtain ⟨_,_,_,_,_,_,_,_,_,_,_,z⟩:=z; exact SqL.of (z _ _ hl3 pD pF pO)) ?_ ?_⟩
  . rintro t x T σ H' ht hT ⟨v1,v2,v3,ps,fs,os,rfl,⟨eD,hrun,pl⟩,⟨eF,hF,fl⟩,⟨eO,hO,ol⟩,hu,fr⟩;obtain ⟨c,rfl,hcm,htc⟩:=ur ht;have ht':t<hb.length:=by rw [<-hlen]; exact (af.mp htc).1
    obtain ⟨b,hbt⟩:∃ b,hb[t]?=some b:=⟨_,ae ht'⟩
    obtain ⟨X,Y,hw,bX,bY,hi,hj,bi⟩:=hc t c b htc hbt;have tk3:TupK H3 H':=λb xs e=>fr _ _ e (zW e (s3 _ _ (s2 _ _ e1)) (λz=>nomatch z)) (zW e (s3 _ _ e2) (λz=>nomatch z)) (zW e e3 (λz=>nomatch z));have eq:np1 D px py hb.length hb (t+1)=if b.j=0 then ⟨(np1 D px py hb.length hb t).ds,(np1 D px py hb.length hb t).F++[⟨t,b.i,b.x,b.y⟩],(np1 D px py hb.length hb t).O,(np1 D px py hb.length hb t).u⟩
      else if b.i=0 then ⟨(np1 D px py hb.length hb t).ds,(np1 D px py hb.length hb t).F,(np1 D px py hb.length hb t).O++[⟨t,b.j,b.x,b.y⟩],(np1 D px py hb.length hb t).u⟩
      else ⟨(np1 D px py hb.length hb t).ds++[(.cut false t (sdO D (px*b.i) (py*b.i)),t,t)],(np1 D px py hb.length hb t).F++[⟨(np1 D px py hb.length hb t).u,b.i,b.x,b.y⟩],(np1 D px py hb.length hb t).O++[⟨(np1 D px py hb.length hb t).u+1,b.j,b.x,b.y⟩],(np1 D px py hb.length hb t).u+2⟩:=by
      show (match hb[t]? with | none=>_ | some b=>_)=_;rw [hbt]
    rw [eq];generalize np1 D px py hb.length hb t=r at *
    have tkT:TupK H' (upd H' T (.tup [.int (t:Int),.ref c.p])):=λb xs e=>by rw [zm (zc e hT)]; exact e
    have sT:Same H' (upd H' T (.tup [.int (t:Int),.ref c.p])):=zD hT _;have eT:(upd H' T (.tup [.int (t:Int),.ref c.p])) T=some (.tup [.int (t:Int),.ref c.p]):=zk;generalize upd H' T (.tup [.int (t:Int),.ref c.p])=G at eT sT tkT ⊢;have tkG:TupK H3 G:=λb xs e=>tkT _ _ (tk3 _ _ e);have cA:=(hA c hcm).same z3;have ct:=tkG _ _ cA.t;have cw:G c.pw=some (.tup [.int (lA X Y N),.int (lB X Y N),.int (lN X Y N)]):=tkG _ _ (by have:=cA.w; rw [hw] at this; exact this);have fbG:BsAt G pb r1 r2 s' N:=⟨tkG _ _ (fb.same z3).t,tkG _ _ (fb.same z3).f,tkG _ _ (fb.same z3).g⟩
    exists BD fbG cw hN hNb gb bX bY λr4 G1 t1 e4=>?_;rw [<-hi,<-hj] at e4;have sG1:=sT.trans t1;have eD1:=sG1 _ _ eD;have eF1:=sG1 _ _ eF;have eO1:=sG1 _ _ eO;exists if_d (λcj=>?_) (λcj=>?_)
    . rw [im cj];exists zI (!1) λk1 G2 nk tk2 ek=>?_;have eF2:=tk2 _ _ (sG1 _ _ eF);exists zt eF2 (by rw [aa]; lia) λG3 x3 e5=>?_;have s02:=sG1.trans tk2;have tkA:TupK H' G3:=λb xs e=>x3.tup (s02 _ _ e) eF2;exists ⟨_,_,_,ps,fs++[k1],os,rfl,⟨x3 _ _ (s02 _ _ eD) DF,hrun.tk tkA,by lia⟩,⟨by rw [ai]; exact e5,(hF.tk tkA).snoc (x3.tup ek eF2),by rw [ah]; simp only [ax,aY]; lia⟩,⟨x3 _ _ (s02 _ _ eO) (bZ FO),hO.tk tkA,by lia⟩,by show r.u<=_; lia,λb o e n1 n2 n3=>x3 _ _ (s02 _ _ (fr _ _ e n1 n2 n3)) n2⟩
    . rw [io cj];exists if_d (λci=>?_) (λci=>?_)
      . rw [im ci];exists zI (!1) λk1 G2 nk tk2 ek=>?_;have eO2:=tk2 _ _ (sG1 _ _ eO);exists zt eO2 (by rw [aa]; lia) λG3 x3 e5=>?_;have s02:=sG1.trans tk2;have tkA:TupK H' G3:=λb xs e=>x3.tup (s02 _ _ e) eO2;exists ⟨_,_,_,ps,fs,os++[k1],rfl,⟨x3 _ _ (s02 _ _ eD) DO,hrun.tk tkA,by lia⟩,⟨x3 _ _ (s02 _ _ eF) FO,hF.tk tkA,by lia⟩,⟨by rw [ai]; exact e5,(hO.tk tkA).snoc (x3.tup ek eO2),by rw [ah]; simp only [ax,aY]; lia⟩,by show r.u<=_; lia,λb o e n1 n2 n3=>x3 _ _ (s02 _ _ (fr _ _ e n1 n2 n3)) n3⟩
      . rw [io ci];have bt1:=t1 _ _ fbG.t;have bf1:SdAt G1 r1 (bw1 s' N):=t1 _ _ fbG.f;exists wx rfl bf1 hd bi okP λra G2 t2 ea=>?_;rw [hP,Lz hD] at ea;have e42:=t2 _ _ e4;exists zI (!1) λk1 G3 nk t3 ek=>?_;have s03:=(sG1.trans t2).trans t3;have eD3:=s03 _ _ eD;have e43:=t3 _ _ e42;exists zt eD3 (by rw [aa]; lia) λG4 x4 e5=>?_;have e44:=x4.tup e43 eD3;have ek4:DdAt G4 k1 (.cut false t (sdO D (px*b.i) (py*b.i))):=⟨ra,x4.tup ek eD3,x4.tup (t3 _ _ ea) eD3⟩
        have eF4:=x4 _ _ (s03 _ _ eF) (bZ DF);exists zI (!1) λk2 G5 nk2 t5 ek2=>?_;have eF5:=t5 _ _ (x4 _ _ (s03 _ _ eF) (bZ DF));have e45:=t5 _ _ e44;exists zt eF5 (by rw [aa]; lia) λG6 x6 e7=>?_;have e46:=x6.tup e45 eF5;have eO6:=x6 _ _ (t5 _ _ (x4 _ _ (s03 _ _ eO) (bZ DO))) (bZ FO);exists zI (!1) λk3 G7 nk3 t7 ek3=>?_;have eO7:=t7 _ _ (x6 _ _ (t5 _ _ (x4 _ _ (s03 _ _ eO) (bZ DO))) (bZ FO));exists zt eO7 (by rw [aa]; lia) λG8 x8 e9=>?_;have tkA:TupK H' G8:=λb xs e=>x8.tup (t7 _ _ (x6.tup (t5 _ _ (x4.tup (s03 _ _ e) eD3)) eF5)) eO7;have tkB:TupK G4 G8:=λb xs e=>x8.tup (t7 _ _ (x6.tup (t5 _ _ e) eF5)) eO7;have tkC:TupK G5 G8:=λb xs e=>x8.tup (t7 _ _ (x6.tup e eF5)) eO7;exists ⟨_,_,_,ps++[k1],fs++[k2],os++[k3],by rw [show ((r.u:Nat):Int)+2=((r.u+2:Nat):Int) by lia],⟨by rw [ai]; exact x8 _ _ (t7 _ _ (x6 _ _ (t5 _ _ e5) DF)) DO,yF (hrun.tk tkA) (ek4.tk tkB),by rw [ah]; simp only [ax,aY]; lia⟩,⟨by rw [ai]; exact x8 _ _ (t7 _ _ e7) FO,(hF.tk tkA).snoc (tkC _ _ ek2),by rw [ah]; simp only [ax,aY]; lia⟩,⟨by rw [ai]; exact e9,(hO.tk tkA).snoc (x8.tup (by rw [show ((r.u:Nat):Int)+1=((r.u+1:Nat):Int) by lia] at ek3; exact ek3) eO7),by rw [ah]; simp only [ax,aY]; lia⟩,by show r.u+2<=_; lia,λb o e n1 n2 n3=>x8 _ _ (t7 _ _ (x6 _ _ (t5 _ _ (x4 _ _ (s03 _ _ (fr _ _ e n1 n2 n3)) n1)) n2)) n3⟩
  rintro σ H5 ⟨v1,v2,v3,ps,fs,os,rfl,⟨eD,hrun,pl⟩,⟨eF,hF,fl⟩,⟨eO,hO,ol⟩,hu,fr⟩;rw [aa,hlen] at hrun hF hO hu pl fl ol;rw [aa,hlen];have s05:Same H H5:=λb o e=>fr _ _ (z3 _ _ e) (zc e nD) (zc (s1 _ _ e) nF) (zc ((s1.trans s2) _ _ e) nO);have q':∀ (r:Addr) (ps:List Addr) (H':Hp),Same H H'->H r=none->H' r=some (.lst (ps.map V.ref))->Runs H' ps (npl D px py hb)->Q (.ref r) H':=q;unfold npl at q';generalize np1 D px py hb.length hb hb.length=r at *
  have lF:=hF.1;have lO:=hO.1;have glF:=xY (u:=r.u) (pc:=r.F) (ag _);have glO:=xY (u:=r.u+(2*r.F.length - 1)) (pc:=r.O) (ag _);exists vo rfl eF hF (!2) (!2) λra pa G1 t1 na ea hra=>?_;have lpa:pa.length=2*r.F.length - 1:=hra.1.trans glF;exists JL (t1 _ _ eD) ea (by simp only [aa]; lia) λo2 G2 t2 e2'=>?_;have eO2:=(t1.trans t2) _ _ eO;have ea2:=t2 _ _ ea;walk_at "r";have hlen2:((r.u:Nat):Int)+(((pa.map V.ref).length:Nat):Int)=((r.u+(2*r.F.length - 1):Nat):Int):=by rw [aa,lpa]; lia
  rw [hlen2];refine vo rfl eO2 (hO.tk λb xs e=>(t1.trans t2) _ _ e) (!2) (!2) λrb pb' G3 t3 nb eb hrb=>?_;have lpb:pb'.length=2*r.O.length - 1:=hrb.1.trans glO;exists Lu (t3 _ _ e2') eb (by simp only [ah,aa]; lia) λo4 G4 n4 t4 e4=>?_;refine q' o4 (ps++(pa++pb')) G4 (((s05.trans t1).trans t2).trans (t3.trans t4)) (Same.nn (((s05.trans t1).trans t2).trans t3) n4) (by rw [e4]; simp only [ai,aH]) ?_;exact Cf ((((hrun.same t1).same t2).same t3).same t4) (Cf (((hra.same t2).same t3).same t4) (hrb.same t4))
theorem K61(F:Fun K "table" "table" S46 f fd)(B:Bl mg)(g_EMPTY:TopE K mg "EMPTY")(o44x:Own P w K mg base 3 "together" ["one","other"] [] (P48 K))(o42x:Own P w K mg base 4 "board_table" ["one"] [] P55):FnOk P w K mg base CX0 5 f fd ["heap"] (P61 K):=by
  obtain ⟨a_EMPTY,m_EMPTY,q_EMPTY⟩:=g_EMPTY;refine F.okA C66 λcdv A outer s H vs Q E hr h=>?_;obtain @⟨p,L,rfl,h1,hA,ok0,hbt,ln,q⟩:=h;refine ⟨_,(za (ps_s 1 C66.nd (zA (v:=.ref a_EMPTY) rfl m_EMPTY rfl)) (za (zQ PassesOwn.never rfl (zJ (pv 0)) (pg_n 2 C66.nd) (zd (ps_s 1 C66.nd (zf o44x hr rfl (pa2 (pv 1) (zf o42x hr rfl (pa1 (pv 2)))))))) (zd (zi (pv 1))))),?_⟩;walk_at "s";exists yK ?_;exists ⟨p,rfl,⟨_,SqL.of h1⟩,zS (K:=K) (a:=p) (xs:=L.map Cell.v) (λi σ H'=>E2 λ(r:Addr) (v:Option V)=>A4 (σ=[vR p,vR r,v]) (Same H H') ((∃ r0 r1 f0 f1 f2 f3:Addr,TbS K H' r r0 r1 f0 f1 f2 f3 (tbs ((L.take i).map Cell.b)))) ((0<i->TbAt H' r (tbs ((L.take i).map Cell.b))))) ⟨a_EMPTY,_,rfl,Same.refl _,q_EMPTY H,λz=>absurd z ⋯⟩ (λi σ H' _ z'=>by obtain ⟨_,_,_,s,_⟩:=z'; exact SqL.of (s _ _ h1)) ?_ ?_⟩
  . rintro i t σ H' hi ⟨r,v,rfl,s,⟨r0,r1,f0,f1,f2,f3,hT⟩,_⟩;obtain ⟨c,rfl,hc,hci⟩:=ur hi;have hi':=(af.mp hi).1;rw [aa] at hi';have bt:=hbt i hi';have sk:=ok0 c hc;have bc:=S19.tb sk;exists ug rfl ((hA c hc).same s) sk λr2 H2 s2 e2=>?_;exists CN rfl ⟨r0,r1,f0,f1,f2,f3,hT.same s2⟩ e2 bt bc λr3 H3 s3 e3=>?_;have e3:=e3.eq (u:=tbs ((L.take (i+1)).map Cell.b)) (by rw [Cr hci,Gf]);exists ⟨r3,_,rfl,(s.trans s2).trans s3,?_,λ_=>e3⟩;obtain ⟨r0,r1,f0,f1,f2,f3,e3⟩:=e3;exact ⟨r0,r1,f0,f1,f2,f3,e3.s⟩
  . rintro σ H' ⟨r,v,rfl,s,_,hT⟩;rw [aa] at hT;have hpos:0<L.length:=by lia
    have hT:=hT hpos;rw [ar] at hT;walk_at "r";exact q r H' s hT
theorem K62(F:Fun K "cuts" "cuts" S54 f fd)(B:Bl mg)(o10x:Own P w K mg base 4 "parted" ["d","one","other"] [] P50)(o3x:O3x P w K mg base)(o48x:OwnX P w K mg base 1 "strips" ["width","height"] [] (P14 cs))(o19x:O19x P w K mg base):FnOk P w K mg base (CXe P w) 5 f fd ["d","one"] (P62 cs):=by
  refine F.okXA C67 λcdv A outer s H vs Q E hr h=>?_;obtain @⟨d,c,w,h,rfl,hc,ok,up,hR,hwh,hb,hg,ew,q,qe⟩:=h;refine ⟨_,(za (ps_s 2 C67.nd (zf o10x hr rfl (pa3 (pv 0) (pit 1) (pit 1)))) (za (ps_s 3 C67.nd (zf o3x hr rfl (pa3 (pe_i ix_tup (pit 1) ze) (pe_i ix_tup (pit 1) ze) (zg zl (pe_i ix_tup (pit 1) ze) (pit 2))))) (za (ps_s 4 C67.nd (zx z5)) (za (zQ PassesOwn.leaving rfl (zJ (AZ vi o48x hr rfl (pa2 (pit 2) (pit 2)))) (vY (n:=3) rfl (zU (pg_n 5 C67.nd) (zU (pg_n 6 C67.nd) (zU (pg_n 7 C67.nd) xQ)))) (zd (zH (yW aM gy gz Aj (pv 4) (pa1 (zg KL (WE.w (Kt (z7 (wX (z7 (vy (pv 5)) (z7 (vy (zf o19x hr rfl (pa3 (pv 0) (pv 6) (pv 3)))) wz))) wz))) (pv 7))))))) (zd (zi (pv 4))))))),?_⟩;walk_at "s";obtain ⟨ht,hw,hh⟩:=hc;obtain ⟨w1,h1⟩:=hwh;obtain ⟨bw,bh⟩:=hb;have dlo:=hR.lo;have hd:Bd 64 d:=zw (B:=99) (!2) hR.hi (!3);have hz:=ok.ne;have nz:¬ (c.b.h.x=0/\c.b.h.y=0):=λz=>by
    rw [z.1,z.2,yu] at up;exact absurd up ⋯
  have nN:=Hq hR nz;have zh:c.b.h.z*(h:Int)≠0:=ay hz (!2);have kx:Bd 900 c.b.w.x:=by rw [ew]; exact Bd.fdiv ((ok.bx.mul bw).mono ⋯) _
  have ky:Bd 900 c.b.w.y:=by rw [ew]; exact Bd.fdiv ((ok.by'.mul bw).mono ⋯) _
  have kz:Bd 900 c.b.w.z:=by rw [ew]; exact Bd.fdiv ((ok.bz.mul bh).mono ⋯) _
  have k1:c.b.w.z≠0:=by
    rw [ew];have:=l_n (a:=c.b.h.x*(w:Int)) (b:=c.b.h.y*(w:Int)) zh;show lN _ _ _≠0
    lia
  have k4:Bd 600 c.b.h.x:=ok.bx.mono ⋯;have k5:Bd 600 c.b.h.y:=ok.by'.mono ⋯;have k6:Bd 600 c.b.h.z:=ok.bz.mono ⋯;obtain ⟨ra,rb,rc⟩:=FS (s:=c.b.h) (d:=d) (w:=w) (h:=h) hz nN (!2) (Lo hg);rw [<-ew] at ra rb rc;exists GH hw hh hd kx ky kz k4 k5 k6 k1 nN nz λr H1 s1 e1=>?_;rw [<-ra,<-rb,<-rc] at e1;have ht:=s1 _ _ ht;have hw:=s1 _ _ hw;have hh:=s1 _ _ hh;exists zO rfl zh (Bd.mono (ok.bz.mul bh) ⋯) (λu H2 s2 e2=>?_) (ok.bx.mono ⋯) (ok.by'.mono ⋯);have oku:SK 900 900 (unS c.b.h (h:Int)):=⟨l_n zh,xu zh,(ok.bx.mono ⋯).fdiv _,(ok.by'.mono ⋯).fdiv _,Bd.fdiv ((ok.bz.mul bh).mono ⋯) _⟩
  have e2:SdAt H2 u (unS c.b.h (h:Int)):=e2;have e1:=s2 _ _ e1;exists zE (!1) λl H3 f3 s3 e3=>?_;have e1:=s3 _ _ e1;have e2:=s3 _ _ e2;exists yK ?_;exists FY rfl ⟨bw.mono ⋯,bh.mono ⋯⟩ (λtle rs H4 T s4 e4 hA4 hT hT3=>?_) (λtm H' s'=>qe tm H' (((s1.trans s2).trans s3).trans s'));have e2:=s4 _ _ e2;have e3:=s4 _ _ e3;have s23:=s1.trans s2;have nl:rs≠l:=λz=>by
    subst z;rw [e3] at e4;have e5:=(HO.lst.inj (ao e4)).symm;have e6:T=[]:=List.map_eq_nil_iff.mp e5;rw [e6] at hT;by_cases z:w<h
    . rw [wF (!2) z] at hT;cases hT
    . rw [xT (!2) (!2)] at hT;cases hT
  refine ⟨rs,rfl,⟨_,SqL.of e4⟩,zS (K:=K) (a:=rs) (xs:=T.map StC.v) (λi σ H'=>E4 λ(v5 v6 v7:Option V) (C:List CuC)=>A7 (σ=[vI d,vR c.p,vR r,vR u,vR l,v5,v6,v7]) (SameX l H4 H') (H' l=some (.lst (C.map CuC.v))) ((∀ x∈C,x.At H')) (C.map CuC.s=flat (λu=>frS c.b.h (u:Int) (h:Int)) ((T.take i).map StC.pr)) (C.map CuC.t2=(xy ((T.take i).map StC.t3)).map (λe=>(e.1,frS c.b.h (e.2:Int) (h:Int)))) (∀ x∈C,x.w="along"\/x.w="across")) ⟨_,_,_,[],rfl,λb o e _=>e,e3,λx hx=>absurd hx (!1),rfl,rfl,λx hx=>absurd hx (!1)⟩ (λi σ H' _ z=>by obtain ⟨_,_,_,_,_,sx,_⟩:=z; exact SqL.of (sx _ _ e4 nl)) ?_ ?_⟩
  . rintro i x σ H' hi ⟨v5,v6,v7,C,rfl,sx,el,hA,hC,hC2,hCw⟩;obtain ⟨t,hx,htT,hti⟩:=BN hi;have hx:x=.ref t.a:=hx;subst hx;have et:t.At H':=sx.tup (hA4 t htT) e3;have hu:SdAt H' u (unS c.b.h (h:Int)):=sx.tup e2 e3;have hC':C.length+t.m<=400/\(t.s<=w\/t.s<=h):=by
      have hmem:t.pr∈eu w h:=by rw [<-hT]; exact bH htT
      have h1:C.length=tot ((T.take i).map StC.pr):=by
        have:=congrArg List.length hC;rw [aa,wM] at this;exact this
      have h2:tot ((T.take (i+1)).map StC.pr)<=tot (T.map StC.pr):=Gr _ _;rw [wO hti,wn,hT] at h2;have h3:tot [t.pr]=t.m:=by show t.m+0=t.m; lia
      have h4:=IE _ w h (ag _) _ hmem;refine ⟨by lia,?_⟩;have:t.pr.1=t.s:=rfl
      lia
    have bs:Bd 1024 (t.s:Int):=hC'.2.elim (λz=>(bw.of_le (!2)).mono ⋯) (λz=>(bh.of_le (!2)).mono ⋯);exists wx rfl hu hd bs oku λr5 H5 s5 e5=>?_;rw [MN hz (!2)] at e5;exists zr (!1) λr6 H6 s6 e6=>?_;exists yl (!1) λr7 H7 s7 e7=>?_;exists Jw e7 (!2) λr8 H8 s8 e8=>?_;have t8:=((s5.trans s6).trans s7).trans s8;have el8:=t8 _ _ el;exists BQ el8 e8 (by rw [aa,db]; lia) λH9 sx9 e9=>?_;exists ⟨_,_,_,C++List.replicate t.m ⟨r6,t.w,r5,frS c.b.h (t.s:Int) (h:Int)⟩,rfl,(sx.trans (t8.sameX l)).trans sx9,?_,λx hx=>?_,?_,?_,λx hx=>(aB.mp hx).elim (hCw x) (λz=>by rw [(List.mem_replicate.mp z).2]; exact hT3.2 t htT)⟩
    . rw [ai,eJ];exact e9
    . rcases aB.mp hx with hx | hx
      . exact ⟨sx9.tup (t8 _ _ (hA x hx).t) el8,sx9.tup (t8 _ _ (hA x hx).d) el8⟩
      . have hx:=(List.mem_replicate.mp hx).2;subst hx;have s78:=s7.trans s8;exact ⟨sx9.tup (s78 _ _ e6) el8,sx9.tup (s78 _ _ (s6 _ _ e5)) el8⟩
    . rw [wO hti,Fi,ai,eJ,hC];rfl
    . rw [wO hti,vT,ai,ai,eJ,eJ,hC2];rfl
  . rintro σ H' ⟨v5,v6,v7,C,rfl,sx,el,hA,hC,hC2,hCw⟩;rw [aa,ar,hT] at hC;rw [aa,ar,hT3.1] at hC2;walk_at "r";exact q tle l H' C (λb o e=>sx _ _ (s4 _ _ (s3 _ _ (s23 _ _ e))) (zc (s23 _ _ e) f3)) el hA hC ⟨hC2,hCw⟩
theorem K63(F:Fun K "put_by" "Yard.put_by" S75 f fd)(B:Bl mg)(X:Xs K mg cs)(o27x:Own P w K mg base 4 "cut_across" ["d","one","at"] [] P54)(o26x:Own P w K mg base 1 "turned" ["one"] [] P8)(o28x:Own P w K mg base 3 "glued_beside" ["one","other"] [] P43)(o29x:Own P w K mg base 3 "stacked" ["one","many"] [] P44):FnOk P w K mg base CX0 5 f fd ["self","deed","boards"] (P63 cs):=by
  refine F.okA C68 λcdv A outer s H vs Q E hr h=>?_;obtain @⟨y,d,tn,cl,ns,lg,p,a,e,c,c',rfl,hy,he,ha,hc,hc',hd,hf,q⟩:=h;refine ⟨_,(za (ps_s 3 C68.nd (pit 1)) (za (zu (zj z8 (pv 3) zG (zp _)) (zd (zi (zf o27x hr rfl (pa3 (yn (K:=K) rfl (pv 0) rfl) (pil 2) (pit 1))))) zn) (za (zu (zj z8 (pv 3) zG (zp _)) (zd (zi (yj ["one"] [] rfl (zJ (zf o27x hr rfl (pa3 (yn (K:=K) rfl (pv 0) rfl) (zf o26x hr rfl (pa1 (pil 2))) (pit 1)))) (λ_ _ _ _ _=>(pg_n 0 (show List.Nodup (α:=Str) ["one"] by decide +kernel))) (λ_ _ _ _ _=>zP) (λ_ _ _ _ _=>(zf o26x hr rfl (pa1 (pv 0))))))) zn) (za (zu (zj z8 (pv 3) zG (zp _)) (zd (zi (zx (pa1 (zf o28x hr rfl (pa2 (pil 2) (pil 2))))))) zn) (za (zu (zj z8 (pv 3) zG (zp _)) (zd (zi (zx (pa1 (zf o26x hr rfl (pa1 (zf o28x hr rfl (pa2 (zf o26x hr rfl (pa1 (pil 2))) (zf o26x hr rfl (pa1 (pil 2))))))))))) zn) (za (zu (zj z8 (pv 3) zG (zp _)) (zd (zi (zx (pa1 (zf o29x hr rfl (pa2 (pil 2) (pit 1))))))) zn) (za (zu (zj z8 (pv 3) zG (zp _)) (zd (zi (zx (pa1 (zf o26x hr rfl (pa1 (zf o29x hr rfl (pa2 (zf o26x hr rfl (pa1 (pil 2))) (pit 1))))))))) zn) (zd (zi (zx (pa1 (zf o26x hr rfl (pa1 (pil 2)))))))))))))),?_⟩;walk_at "s";cases e with
  | cut al n s =>
    obtain ⟨pq,h0,hs⟩:=he;cases al with
    | false =>
      have h0:H p=some (.tup [.str (Str.ofString "across"),.int n,.ref pq]):=h0;have ha:H a=some (.lst [.ref c.p]):=ha;exists if_d (λ_=>?_) (λc=>absurd rfl c);walk_at "r";obtain ⟨f1,f2,f3,f4⟩:=hf;refine ⟨_,_,_,_,_,rfl,hy.o,X.c_Yard,X.n_Yard_root,rfl,?_⟩;exists ww rfl hc hs hd f1 f2 f3 f4 λr c1 c2 H1 s1 hr e1 a1 a2 b1 b2=>?_;refine q r [c1,c2] H1 s1 hr e1 (λx hx=>?_) ?_
      . rcases aU.mp hx with rfl | hx
        . exact a1
        . rw [ak.mp hx]; exact a2
      . show [c1.b,c2.b]=_;rw [b1,b2];rfl
    | true =>
      have h0:H p=some (.tup [.str (Str.ofString "along"),.int n,.ref pq]):=h0;have ha:H a=some (.lst [.ref c.p]):=ha;exists ifn ?_;exists if_d (λ_=>?_) (λc=>absurd rfl c);walk_at "r";obtain ⟨f1,f2,f3,f4⟩:=hf;refine y6 ?_;exists ⟨_,_,_,_,_,rfl,hy.o,X.c_Yard,X.n_Yard_root,rfl,?_⟩;exists yI rfl hc λr1 H1 s1 nr1 a1=>?_;have h01:=s1 _ _ h0;exists ww rfl a1 (s1 _ _ hs) hd f1 f2 f3 f4 λr c1 c2 H2 s2 hr e2 a2 a3 b1 b2=>?_;have t2:=s1.trans s2;have hat:∀ x∈[c1,c2],x.At H2:=λx hx=>by
        rcases aU.mp hx with rfl|hx
        . exact a2
        . rw [ak.mp hx]; exact a3
      refine ⟨r,rfl,⟨_,SqL.of e2⟩,λD hD=>yq (K:=K) (a:=r) (ys:=[c1,c2].map Cell.v) (λi xs σ' H'=>E2 λ(v:Option V) (N:List Cell)=>A7 (σ'=[v]) (xs=N.map Cell.v) (H' D=some (.lst xs)) (SameX D H2 H') ((∀ x∈N,x.At H')) (N.length=i) (N.map Cell.b=([c1,c2].take i).map (λx=>⟨x.b.h,x.b.w⟩))) ⟨none,[],rfl,rfl,zk,λb o e n=>by rw [zm n]; exact e,λx hx=>absurd hx (!1),rfl,rfl⟩ (λi xs σ' H' _ z=>by obtain ⟨v,N,_,_,_,z,_⟩:=z; exact SqL.of (z _ _ e2 (zc e2 hD))) ?_ ?_⟩
      . rintro i x xs σ' H' hi ⟨v,N,rfl,rfl,eD,sx,hN,hl,hb⟩;rw [aj] at hi;obtain ⟨cx,hcx,rfl⟩:=au.mp hi;have hi3:=(af.mp hcx).1;have s':Same H2 H':=λb o e=>sx b o e (zc e hD);exists yI rfl ((hat cx (av hcx)).same s') λr3 H3 s3 nr3 a3=>?_;exists zt (s3 _ _ eD) (by rw [aa,hl]; simp only [ax,aY] at hi3; lia) λH4 x4 e4=>?_;refine xv hi3 ⟨_,N++[⟨r3,cx.ph,cx.pw,⟨cx.b.h,cx.b.w⟩⟩],rfl,rfl,by rw [ai]; exact e4,sx.trans ((SameX.of s3).trans x4),λx hx=>?_,by rw [ah,hl]; rfl,?_⟩
        . rcases aB.mp hx with hx | hx
          . exact ((hN x hx).same s3).sameX x4 (s3 _ _ eD)
          . rw [ak.mp hx]; exact a3.sameX x4 (s3 _ _ eD)
        . rw [bg,hcx,ai,ai,hb];rfl
      . rintro xs σ' H' ⟨v,N,rfl,rfl,eD,sx,hN,hl,hb⟩;have s':Same H2 H':=λb o e=>sx b o e (zc e hD);exists q D N H' (t2.trans s') (Same.nn t2 hD) eD hN ?_;rw [hb];show [(⟨c1.b.h,c1.b.w⟩:Bo),⟨c2.b.h,c2.b.w⟩]=_;rw [b1,b2];rfl
  | glue al n m =>
    have h0:=he;cases al with
    | false =>
      have h0:H p=some (.tup [.str (Str.ofString "beside"),.int n,.int m]):=h0;have ha:H a=some (.lst [.ref c.p,.ref c'.p]):=ha;exists ifn ?_;exists ifn ?_;exists if_d (λ_=>?_) (λc=>absurd rfl c);exists xz rfl hc hc' hf.1 hf.2.1 hf.2.2 λc1 H1 s1 n1 a1 hb=>?_;exists zE (!1) λr HL nr sL eL=>?_;refine q r [c1] HL (Same.trans s1 sL) (Same.nn s1 nr) eL (λx hx=>?_) ?_
      . rw [ak.mp hx];exact a1.same sL
      . exact congrArg (λz=>[z]) hb
    | true =>
      have h0:H p=some (.tup [.str (Str.ofString "atop"),.int n,.int m]):=h0;have ha:H a=some (.lst [.ref c.p,.ref c'.p]):=ha;exists ifn ?_;exists ifn ?_;exists ifn ?_;exists if_d (λ_=>?_) (λc=>absurd rfl c);exists yI rfl hc λr1 H1 s1 nr1 a1=>?_;have ha1:=s1 _ _ ha;exists yI rfl (hc'.same s1) λr2 H2 s2 nr2 a2=>?_;exists xz rfl (a1.same s2) a2 hf.1 hf.2.1 hf.2.2 λc1 H3 s3 n3 a3 hb=>?_;exists yI rfl a3 λr4 H4 s4 nr4 a4=>?_;replace hb:(⟨c1.b.h,c1.b.w⟩:Bo)=⟨c.b.w,adS c.b.h c'.b.h⟩:=by rw [hb]
      exists zE (!1) λr HL nr sL eL=>?_;refine q r [⟨r4,c1.ph,c1.pw,⟨c1.b.h,c1.b.w⟩⟩] HL (Same.trans (((s1.trans s2).trans s3).trans s4) sL) (Same.nn (((s1.trans s2).trans s3).trans s4) nr) eL (λx hx=>?_) ?_
      . rw [ak.mp hx];exact a4.same sL
      . exact congrArg (λz=>[z]) hb
  | shift al n k =>
    have h0:=he;cases al with
    | false =>
      have h0:H p=some (.tup [.str (Str.ofString "stack"),.int n,.int k]):=h0;have ha:H a=some (.lst [.ref c.p]):=ha;exists ifn ?_;exists ifn ?_;exists ifn ?_;exists ifn ?_;exists if_d (λ_=>?_) (λc=>absurd rfl c);exists tZ rfl hc hf.1 hf.2.1 hf.2.2.1 hf.2.2.2 λc1 H1 s1 n1 a1 hb=>?_;exists zE (!1) λr HL nr sL eL=>?_;refine q r [c1] HL (Same.trans s1 sL) (Same.nn s1 nr) eL (λx hx=>?_) ?_
      . rw [ak.mp hx];exact a1.same sL
      . exact congrArg (λz=>[z]) hb
    | true =>
      have h0:H p=some (.tup [.str (Str.ofString "spread"),.int n,.int k]):=h0;have ha:H a=some (.lst [.ref c.p]):=ha;exists ifn ?_;exists ifn ?_;exists ifn ?_;exists ifn ?_;exists ifn ?_;exists if_d (λ_=>?_) (λc=>absurd rfl c);exists yI rfl hc λr1 H1 s1 nr1 a1=>?_;have h01:=s1 _ _ h0;exists tZ rfl a1 hf.1 hf.2.1 hf.2.2.2 hf.2.2.1 λc1 H3 s3 n3 a3 hb=>?_;exists yI rfl a3 λr4 H4 s4 nr4 a4=>?_;replace hb:(⟨c1.b.h,c1.b.w⟩:Bo)=⟨shS c.b.w k 1,shS c.b.h 1 k⟩:=by rw [hb]
      exists zE (!1) λr HL nr sL eL=>?_;refine q r [⟨r4,c1.ph,c1.pw,⟨c1.b.h,c1.b.w⟩⟩] HL (Same.trans ((s1.trans s3).trans s4) sL) (Same.nn ((s1.trans s3).trans s4) nr) eL (λx hx=>?_) ?_
      . rw [ak.mp hx];exact a4.same sL
      . exact congrArg (λz=>[z]) hb
  | turn n =>
    have h0:=he;have h0:H p=some (.tup [.str (Str.ofString "turn"),.int n]):=h0;have ha:H a=some (.lst [.ref c.p]):=ha;exists ifn ?_;exists ifn ?_;exists ifn ?_;exists ifn ?_;exists ifn ?_;exists ifn ?_;exists yI rfl hc λr1 H1 s1 nr1 a1=>?_;have hb:(⟨c.b.h,c.b.w⟩:Bo)=⟨c.b.h,c.b.w⟩:=rfl;exists zE (!1) λr HL nr sL eL=>?_;refine q r [⟨r1,c.ph,c.pw,⟨c.b.h,c.b.w⟩⟩] HL (Same.trans s1 sL) (Same.nn s1 nr) eL (λx hx=>?_) ?_
    . rw [ak.mp hx];exact a1.same sL
    . exact congrArg (λz=>[z]) hb
theorem K64(F:Fun K "squares_of" "squares_of" S55 f fd)(B:Bl mg)(o49x:O49x P w K mg base cs):FnOk P w K mg base (CXe P w) 6 f fd ["d","board"] (P64 cs):=by
  refine F.okXA C69 λcdv A outer s H vs Q E hr h=>?_;obtain @⟨d,c,w,h,rfl,hc,ok,up,hR,hwh,hb,hg,ew,q,qe⟩:=h;refine ⟨_,(zd (zi (yj ["cut"] [] rfl (zJ (AZ vi o49x hr rfl (pa2 (pv 0) (pv 1)))) (λ_ _ _ _ _=>(pg_n 0 (show List.Nodup (α:=Str) ["cut"] by decide +kernel))) (λ_ _ _ _ _=>zP) (λ_ _ _ _ _=>(zo (pa2 (pe_i (r:=rIxT K) ix_tup (pv 0) ze) (pe_i (r:=rIxT K) ix_tup (pv 0) ze))))))),?_⟩;walk_at "s";exists y6 ?_;exists HS rfl hc ok up hR hwh hb hg ew (λtle p H1 C s1 e1 hA hs _=>?_) qe;have hCl:C.length<=400:=by
    have:=congrArg List.length hs;rw [aa,wM] at this
    lia
  refine ⟨p,rfl,⟨_,SqL.of e1⟩,λD hD=>yq (K:=K) (a:=p) (ys:=C.map CuC.v) (λi xs σ' H'=>E2 λ(v:Option V) (M:List Cell)=>A6 (σ'=[v]) (xs=M.map Cell.v) (H' D=some (.lst xs)) (SameX D H1 H') ((∀ c∈M,c.At H')) (M.map Cell.b=(C.take i).map (λx=>(⟨x.s,x.s⟩:Bo)))) ⟨none,[],rfl,rfl,zk,λb o e n=>by rw [zm n]; exact e,λc hc=>absurd hc (!1),rfl⟩ (λi xs σ' H' _ z=>by obtain ⟨v,M,_,_,_,z,_⟩:=z; exact SqL.of (z _ _ e1 (zc e1 hD))) ?_ ?_⟩
  . rintro i x xs σ' H' hi ⟨v,M,rfl,rfl,eD,sx,hAM,hM⟩;have hi':=(af.mp hi).1;obtain ⟨t,hx,htC,hti⟩:=BN hi;have hx:x=.ref t.a:=hx;subst hx;have et:=sx _ _ (hA t htC).t (zc (hA t htC).t hD);have ed:=sx _ _ (hA t htC).d (zc (hA t htC).d hD);have hMl:M.length<=400:=by
      have:=congrArg List.length hM;rw [aa,aa,aZ] at this
      lia
    exists zr (!1) λr3 H3 s3 e3=>?_;have eD3:=s3 _ _ eD;refine zt eD3 (by rw [aa]; lia) λH4 sx4 e4=>?_;refine xv hi' ⟨_,M++[⟨r3,t.p,t.p,⟨t.s,t.s⟩⟩],rfl,by rw [ai]; rfl,e4,(sx.trans (s3.sameX D)).trans sx4,λy hy=>?_,?_⟩
    . rcases aB.mp hy with hy | hy
      . exact ((hAM y hy).same s3).sameX sx4 eD3
      . have hy:y=⟨r3,t.p,t.p,⟨t.s,t.s⟩⟩:=by simpa using hy
        subst hy;exact Cell.At.sameX ⟨e3,s3 _ _ ed,s3 _ _ ed⟩ sx4 eD3
    . rw [wO hti,ai,hM];rfl
  . rintro xs σ' H' ⟨v,M,rfl,rfl,eD,sx,hAM,hM⟩;rw [aa,ar] at hM;refine q tle D H' M (λb o e=>sx b o (s1 _ _ e) (zc (s1 _ _ e) hD)) eD hAM ?_;rw [hM,<-hs,ik];rfl
theorem DE{K:iL}{Q:VK}{a:Addr}{xs:List V}{v:V}(h:H a=some (.lst (xs++[v])))(q:∀ (p:Addr) (H2:Hp),H p=none->Same H H2->H2 p=some (.lst xs)->Q (.ref p) H2):rSlL K (.ref a) none (some (-1)) H Q:=by
  refine ⟨a,_,rfl,SqL.of h,λp hp=>?_⟩;refine q p _ hp (zD hp _) ?_;rw [zk];congr 2;have e:HT.sIx (xs++[v]).length (xs++[v]).length (some (-1))=xs.length:=by
    unfold HT.sIx;rw [ah];simp;try lia
  unfold cutV;rw [e,HT.sIx_none,List.drop_zero,hJ,List.take_left]
theorem F8:Runs H [] []:=⟨rfl,λi p x hp=>by simp at hp⟩
theorem K65(F:Fun K "cutting" "cutting" S56 f fd)(B:Bl mg)(o49x:O49x P w K mg base cs):FnOk P w K mg base CX0 6 f fd ["d","boards","places"] (P65 cs):=by
  refine F.okA C70 λcdv A outer s H vs Q E hr h=>?_;obtain @⟨d,pb,pp,Bs,xs,rfl,hb,hA,hp,hl,hR,hc,q⟩:=h;refine ⟨_,(za (ps_s 3 C70.nd (zx z5)) (za (ps_s 4 C70.nd (zq zy rfl B.len br (pa1 (pv 1)))) (za (zQ PassesOwn.never rfl (Lj rfl B.zip Ke (pa2 (pv 2) (pv 1))) (vY (n:=2) rfl (zU (pg_n 5 C70.nd) (zU (pg_n 6 C70.nd) xQ))) (za (zH (yW aM aQ aR zB (pv 3) (pa1 (zo (pa3 zG (pv 5) ze))))) (za (ps_s 7 C70.nd (pv 4)) (za (ps_s 4 C70.nd (zg zK (pv 4) ze)) (zd (zQ PassesOwn.never rfl (zJ (BZ Ib (Ii o49x hr rfl (pa2 (pv 0) (pv 6))) Dj (Er (Ac wp ze)))) (pg_n 8 C70.nd) (za (zH (yW aM aQ aR zB (pv 3) (pa1 (zo (pa3 (pit 8) (pv 7) (pit 8)))))) (za (ps_s 7 C70.nd (zg zK (pv 4) ze)) (zd (ps_s 4 C70.nd (zg zK (pv 4) ze))))))))))) (zd (zi (pv 3)))))),?_⟩;walk_at "s";obtain ⟨hl,l2⟩:=hl;exists zE (!1) λD H1 nD s1 e1=>?_;have hb1:=s1 _ _ hb;have hp1:=s1 _ _ hp;have nb:pb≠D:=zc hb nD;have np:pp≠D:=zc hp nD;walk_at "r";rw [aa];refine KZ ?_;exists ⟨pp,pb,_,_,rfl,SqL.of hp1,SqL.of hb1,IF (K:=K) (a:=pp) (b:=pb) (xs:=(xs.map λx=>((x.q:Nat):Int)).map V.int) (ys:=Bs.map Cell.v) (by rw [aa,aa,aa,hl]) (λi σ H'=>E5 λ(v5 v6 v7 v8:Option V) (ps:List Addr)=>A5 (σ=[vI d,vR pb,vR pp,vR D,vI ((kAll Bs.length (xs.take i):Nat):Int),v5,v6,v7,v8]) (H' D=some (.lst (ps.map V.ref))) (Runs H' ps (cutAll Bs.length (xs.take i))) (ps.length<=401*i) (SameX D H1 H')) ⟨_,_,_,_,[],rfl,e1,F8,by simp,λb o e _=>e⟩ (λi σ H' _ z=>by obtain ⟨_,_,_,_,_,_,_,_,_,z⟩:=z; exact ⟨SqL.of (z _ _ hp1 np),SqL.of (z _ _ hb1 nb)⟩) ?_ ?_⟩
  . rintro i x y' T σ H0 hi hi2 hT ⟨v5,v6,v7,v8,ps,rfl,eD,hr,hps,sx⟩;rw [aj,aj] at hi;obtain ⟨z,hz,rfl⟩:=au.mp hi;obtain ⟨xi,hxi,rfl⟩:=au.mp hz;rw [aj] at hi2;obtain ⟨c,hci,rfl⟩:=au.mp hi2;obtain ⟨w,h,ok,up,hwh,hbb,hg,ew,t4,ef,el⟩:=hc i c xi hci hxi;have i2:i<2:=by have:=(af.mp hci).1; lia
    have sT:=zD hT (.tup [.int ((xi.q:Nat):Int),c.v]);have eT:upd H0 T (.tup [.int ((xi.q:Nat):Int),c.v]) T=some (.tup [.int ((xi.q:Nat):Int),.ref c.p]):=zk;have eD:=sT _ _ eD;have hr:=hr.same sT;have sx:=sx.trans (sT.sameX D);generalize upd H0 T (.tup [.int ((xi.q:Nat):Int),c.v])=H' at *
    have tk:xs.take (i+1)=xs.take i++[xi]:=by rw [dq,hxi]; rfl
    rw [tk,vm,Af];generalize kAll Bs.length (xs.take i)=k at *
    generalize cutAll Bs.length (xs.take i)=es at *
    have hcA:c.At H':=((hA c (av hci)).same s1).sameX sx e1;exists zI (!1) λp1 H2 np1 s2 e2=>?_;have eD2:=s2 _ _ eD;exists zt eD2 (by rw [aa]; lia) λH3 x3 e3=>?_;have sx3:=(sx.trans (s2.sameX D)).trans x3;have hc3:=(hcA.same s2).sameX x3 eD2;have hd1:DdAt H3 p1 (.shift false ((xi.q:Nat):Int) 1):=x3.tup e2 eD2;have hr3:=yF (x:=(.shift false ((xi.q:Nat):Int) 1,xi.q,xi.q)) ((hr.same s2).sameX x3 eD2) hd1;exists yK ?_;exists HS rfl hc3 ok up hR hwh hbb hg ew (λ_ r4 H4 C s4 e4 hA4 _ ht=>?_) (λtm=>absurd tm (!2));have lC:C.length=xi.l.length:=by rw [el]; have:=congrArg List.length ht.1; rw [aa,aa] at this; exact this
    have ln:xi.l≠[]:=by rw [el]; exact (Gg _ w h (ag _) hwh.1 hwh.2).ne
    have lt4:xi.l.length<=400:=by
      rw [el,wS,Bn _ w h (ag _)];exact t4
    obtain ⟨C0,cl,hC⟩:∃ C0 cl,C=C0++[cl]:=⟨C.dropLast,C.getLast (λz=>ln (List.length_eq_zero_iff.mp (by rw [<-lC,z]; rfl))),(fj _).symm⟩
    have e4':H4 r4=some (.lst (C0.map CuC.v++[cl.v])):=by rw [e4,hC,ai]; rfl
    exists DE e4' λp5 H5 f5 s5 e5=>?_;have eD5:=(s4.trans s5) _ _ e3;have n5:p5≠D:=bZ (zc (s4 _ _ e3) f5);have hr5:=(hr3.same s4).same s5;have e3':H5 D=some (.lst ((ps++[p1]).map V.ref)):=by rw [eD5,ai]; rfl
    have ld:xi.l.dropLast.length<=399:=by rw [cU]; lia
    have l0:C0.length=xi.l.dropLast.length:=by rw [cU,<-lC,hC,ah]; rfl
    refine ⟨p5,rfl,⟨_,SqL.of e5⟩,zS (K:=K) (a:=p5) (xs:=C0.map CuC.v) (λj σ H'=>E2 λ(v8:Option V) (qs:List Addr)=>A5 (σ=[vI d,vR pb,vR pp,vR D,vI ((k+1+2*j:Nat):Int),vI ((xi.q:Nat):Int),vR c.p,vI ((k+2*j:Nat):Int),v8]) (H' D=some (.lst ((ps++[p1]++qs).map V.ref))) (Runs H' (ps++[p1]++qs) (es++[(.shift false ((xi.q:Nat):Int) 1,xi.q,xi.q)]++cutD xi.f (k+1) k (xi.l.dropLast.take j))) (qs.length=j) (SameX D H5 H')) ⟨_,[],rfl,by rw [bG]; exact e3',by rw [bG]; show Runs H5 _ (_++[]); rw [bG]; exact hr5,rfl,λb o e _=>e⟩ (λj σ H' _ z=>by obtain ⟨_,_,_,_,_,_,z⟩:=z; exact SqL.of (z _ _ e5 n5)) ?_ ?_⟩
    . rintro j x σ H6 hj ⟨v8',qs,rfl,e6,hr6,lq,sx6⟩;obtain ⟨cu,hx,hcu,hcj⟩:=BN hj;have hx:x=.ref cu.a:=hx;subst hx;have hj':=(af.mp hcj).1;have hcC:cu∈C:=by rw [hC]; exact bP _ hcu
      have aC:=hA4 cu hcC;have t6:H6 cu.a=some (.tup [.str cu.w,.ref cu.p]):=sx6.tup (s5 _ _ aC.t) eD5;have d6:SdAt H6 cu.p cu.s:=sx6.tup (s5 _ _ aC.d) eD5;obtain ⟨e,he,het⟩:∃ e,xi.l.dropLast[j]?=some e/\cu.t2=(e.1,frS c.b.h (e.2:Int) (h:Int)):=by
        have hjl:j<xi.l.dropLast.length:=by lia
        refine ⟨_,ae hjl,?_⟩;have h1:C[j]?=some cu:=by rw [hC,aT hj']; exact hcj
        have h2:=congrArg (λl=>l[j]?) ht.1;simp only [aj,h1,dA] at h2;rw [<-el] at h2;have h3:xi.l[j]?=some (xi.l.dropLast[j]):=by
          rw [cU] at hjl;rw [List.getElem_dropLast];exact ae (!2)
        rw [h3] at h2;exact ao h2
      have es1:cu.s=xi.f e.2:=by rw [ef]; exact congrArg Prod.snd het
      have ew1:cu.w=(Dd.cut e.1 ((k+2*j:Nat):Int) (xi.f e.2)).wd:=by
        have z:decide (cu.w=Str.ofString "along")=e.1:=congrArg Prod.fst het;rcases ht.2 cu hcC with y|y
        . rw [y] at z ⊢;rw [<-z];rfl
        . rw [y] at z ⊢;rw [<-z];rfl
      exists zI (!1) λp7 H7 np7 s7 e7=>?_;have eD7:=s7 _ _ e6;exists zt eD7 (by rw [aa,ah,ah]; simp only [ax,aY]; lia) λH8 x8 e8=>?_;have dd8:DdAt H8 p7 (.cut e.1 ((k+2*j:Nat):Int) (xi.f e.2)):=by
        refine ⟨cu.p,?_,?_⟩
        . rw [<-ew1]; exact x8.tup e7 eD7
        . rw [<-es1]; exact x8.tup (s7 _ _ d6) eD7
      have hr8:=yF (x:=(.cut e.1 ((k+2*j:Nat):Int) (xi.f e.2),k+2*j,k+2*j)) ((hr6.same s7).sameX x8 eD7) dd8;walk_at "r";have lt:(xi.l.dropLast.take j).length=j:=by rw [aZ]; lia
      have ct:=Fh xi.f e k (xi.l.dropLast.take j);rw [lt] at ct;refine ⟨some (.ref cu.a),qs++[p7],?_,?_,?_,by rw [ah,lq]; rfl,(sx6.trans (s7.sameX D)).trans x8⟩
      . rw [show ((k+1+2*(j+1):Nat):Int)=((k+1+2*j:Nat):Int)+2 by lia,show ((k+2*(j+1):Nat):Int)=((k+1+2*j:Nat):Int)+1 by lia]
      . rw [e8,<-aH];simp only [ai,aW,cL]
      . rw [dq,he];show Runs H8 _ (_++cutD xi.f (k+1) k (xi.l.dropLast.take j++[e]));rw [ct,<-aH,<-aH];exact hr8
    rintro σ H6 ⟨v8',qs,rfl,e6,hr6,lq,sx6⟩;rw [aa,l0,ar] at hr6;rw [aa] at lq;exists ⟨some (.int ((xi.q:Nat):Int)),vR c.p,vI ((k+2*(C0.map CuC.v).length:Nat):Int),v8',ps++[p1]++qs,?_,e6,?_,?_,(sx3.trans ((s4.trans s5).sameX D)).trans sx6⟩
    . rw [aa,l0,cU]
    . show Runs H6 _ (es++((.shift false ((xi.q:Nat):Int) 1,xi.q,xi.q)::cutD xi.f (k+1) k xi.l.dropLast));rw [show es++((.shift false ((xi.q:Nat):Int) 1,xi.q,xi.q)::cutD xi.f (k+1) k xi.l.dropLast)=es++[(.shift false ((xi.q:Nat):Int) 1,xi.q,xi.q)]++cutD xi.f (k+1) k xi.l.dropLast by rw [aH]; rfl];exact hr6
    . rw [ah,ah,lq,l0,cU];simp only [ax,aY]
      lia
  . rintro σ H' ⟨v5,v6,v7,v8,ps,rfl,eD,hr,hps,sx⟩;rw [aa,aa,ar] at hr;walk_at "r";exact q D H' ps (λb o e=>sx _ _ (s1 _ _ e) (zc e nD)) nD eD hr
theorem K66(F:Fun K "do" "Yard.do" S73 f fd)(B:Bl mg)(X:Xs K mg cs)(g_TURN:TopS mg "TURN" (Str.ofString "turn"))(o24x:O24x P w K mg base)(o70x:OwnM P w K mg base CX0 cs.Yard 2 "check_names" ["self","names"] [] (P37 cs))(o71x:OwnM P w K mg base CX0 cs.Yard 5 "put_by" ["self","deed","boards"] [] (P63 cs))(o23x:Own P w K mg base 4 "is_deed" ["thing"] [] P53):FnOk P w K mg base CX0 6 f fd ["self","deed"] (P66 cs):=by
  obtain ⟨u_TURN,m_TURN,r_TURN⟩:=g_TURN;refine F.okA C71 λcdv A outer s H vs Q E hr h=>?_;obtain @⟨y,d,tn,cl,ns,lg,p,e,c,c',rfl,hy,he,ok,hm,hn,ht,hc,hf,hd,l1,l2,q⟩:=h;refine ⟨_,(za (zu (y4 (yb (zf o23x hr rfl (pa1 (pv 1))))) (zd yv) zn) (za (ps_s 2 C71.nd (zf o24x hr rfl (pa1 (pv 1)))) (za (zH (wQ o70x tK hr (pv 0) (pa1 (pv 2)))) (za (zu (PW.pt (yD (zj z8 (pit 1) (zA (v:=.str (Str.ofString "turn")) rfl m_TURN r_TURN) (zp _)) (yg (y4 (yb (yn (K:=K) rfl (pv 0) rfl)))))) (zd yv) zn) (za (ps_s 3 C71.nd (wQ o71x tK hr (pv 0) (pa2 (pv 1) (yj ["name"] [0] rfl (zJ (pv 2)) (λ_ _ _ _ _=>(pg_n 0 (show List.Nodup (α:=Str) ["name","self"] by decide +kernel))) (λ_ _ _ _ _=>zP) (λ_ _ _ _ _=>(pe_i (r:=rIxL K) ix_list (yn (K:=K) rfl (pv 1) rfl) (pv 0))))))) (za (zQ PassesOwn.never rfl (zJ (pv 2)) (pg_n 4 C71.nd) (zd (zH (Cj (yn (K:=K) rfl (pv 0) rfl) (pv 4) ⟨rfl,rfl,rfl,rfl⟩)))) (za (zQ PassesOwn.never rfl (zJ (pv 3)) (pg_n 5 C71.nd) (za (wT (uc hr) (yn (K:=K) rfl (pv 0) rfl) (zq zy rfl B.len br (pa1 (yn (K:=K) rfl (pv 0) rfl))) yY rfl) (zd (zH (yW aM aQ aR zB (yn (K:=K) rfl (pv 0) rfl) (pa1 (pv 5))))))) (zd (zH (yW aM aQ aR zB (yn (K:=K) rfl (pv 0) rfl) (pa1 (pv 1)))))))))))),?_⟩;walk_at "s";exists Ex rfl he ok λH1 s1=>?_;exists yV rfl (he.same s1) λa H2 s2 na ea=>?_;have t2:=s1.trans s2;walk_at "r";have hy2:=hy.same t2;have he2:=he.same t2;refine ⟨_,_,_,rfl,hy2.o,rfl,?_⟩;exists xL rfl hy2 ea hm hn e.names_len ?_;walk_at "r";obtain ⟨rs,hp⟩:=he2.tup;refine Cu hp (xW (j:=0) rfl) ?_;exists Mr ?_ (λct hB=>?_);rotate_left
  . exists ⟨_,_,_,_,_,rfl,hy2.o,X.c_Yard,X.n_Yard_turning,rfl,?_⟩;rw [ht (Jh ct)];walk_at "rd";exact Mc hB
  exists ⟨_,_,_,rfl,hy2.o,rfl,?_⟩;exists y6 ?_;exists ⟨a,rfl,⟨_,SqL.of ea⟩,λD hD=>yq (K:=K) (a:=a) (ys:=e.names.map V.int) (λi xs σ' H'=>E1 λ(v:Option V)=>A4 (σ'=[v,vR y.p]) (xs=((e.cells c c').take i).map Cell.v) (H' D=some (.lst xs)) (SameX D H2 H')) ⟨none,rfl,rfl,zk,λb o e n=>by rw [zm n]; exact e⟩ (λi xs σ' H' _ z=>by obtain ⟨v,_,_,_,z⟩:=z; exact SqL.of (z _ _ ea (zc ea hD))) ?_ ?_⟩
  . rintro i x xs σ' H' hi ⟨v,rfl,rfl,eD,sx⟩;rw [aj] at hi;obtain ⟨m,hm',rfl⟩:=au.mp hi;obtain ⟨n,x,rfl,hx,hcx⟩:=AA hc hm';have hi3:=(af.mp hm').1;have hn2:=e.names_len;have s':Same H2 H':=λb o e=>sx b o e (zc e hD);have hy':=hy2.same s';exists ⟨_,_,_,_,_,rfl,hy'.o,X.c_Yard,X.n_Yard_known,rfl,?_⟩;exists wV hy'.k (v:=x.v) (xW (by rw [aj,hx]; rfl)) ?_;exists zt eD (by rw [aa,aZ]; lia) λH3 x3 e3=>?_;refine xv (by rw [aa]; exact hi3) ⟨_,rfl,rfl,?_,sx.trans x3⟩;rw [bg,hcx,ai];exact e3
  rintro xs σ' H3 ⟨v,rfl,rfl,eD,sx⟩;have s3:Same H2 H3:=λb o e=>sx b o e (zc e hD);have t3:=t2.trans s3;have hy3:=hy.same t3;rw [aa,<-e.cells_len c c',ar] at eD;exists uR rfl hy3 (he.same t3) (by rw [eD]; unfold Dd.cells; cases e.two <;> rfl) (hy3.at' c hc.mem.1) (hy3.at' c' hc.mem.2) hd hf λr N H4 s4 nr er hN hNb=>?_;have t4:=t3.trans s4;have hy4:=hy.same t4;have ea4:=s4 _ _ (s3 _ _ ea);have kl:y.k≠y.l:=zW hy4.k hy4.l (λz=>nomatch z);have tl:y.t≠y.l:=zW hy4.t hy4.l (λz=>nomatch z);have ol:y.p≠y.l:=zW hy4.o hy4.l (λz=>nomatch z);have ok':y.p≠y.k:=zW hy4.o hy4.k (λz=>nomatch z);have ot:y.p≠y.t:=zW hy4.o hy4.t (λz=>nomatch z);have al:a≠y.l:=zW ea4 hy4.l (λz=>nomatch z);have rl:r≠y.l:=zW er hy4.l (λz=>nomatch z);have rk:r≠y.k:=bZ (zc hy3.k nr);exists yK ?_;exists ⟨a,rfl,⟨_,SqL.of ea4⟩,zS (K:=K) (a:=a) (xs:=e.names.map V.int) (λi σ H'=>E1 λv=>A3 (σ=[vR y.p,vR p,vR a,vR r,v,none]) (H' y.l=some (.dK (nmK (zY ns (e.names.take i))))) (SameX y.l H4 H')) ⟨_,rfl,hy4.l,λb o e _=>e⟩ (λi σ H' _ z'=>by obtain ⟨_,_,_,x⟩:=z'; exact SqL.of (x _ _ ea4 al)) ?_ ?_⟩
  . rintro i x σ H' hi ⟨v,rfl,el,sx5⟩;rw [aj] at hi;obtain ⟨m,hm',rfl⟩:=au.mp hi;obtain ⟨n,hn',rfl⟩:=hm m (av hm');have hni:(n:Int)∉e.names.take i:=by
      intro hh;obtain ⟨j,hj⟩:=dH hh;have hj1:=(af.mp hj).1;rw [aZ] at hj1;rw [dS (!2)] at hj;have:=(eM (i:=j) (!2) hn).mp (hj.trans hm'.symm)
      lia
    have eo:=sx5 _ _ hy4.o ol;exists ⟨_,_,_,_,_,rfl,eo,X.c_Yard,X.n_Yard_lying,rfl,?_⟩;refine ⟨y.l,rfl,.inl ⟨_,.inl el⟩,?_⟩;exists ⟨_,.inl (n:Int),_,el,rfl,wP (mem_ndrop.mpr ⟨hn',hni⟩),?_⟩;refine ⟨_,rfl,?_,λb o e n=>by rw [zm n]; exact sx5 b o e n⟩;rw [zk,vc,bg,hm',show ((some (n:Int)).toList)=[(n:Int)] from rfl,wl]
  rintro σ H5 ⟨v,rfl,el5,sx5⟩;rw [aa,ar] at el5;have er5:=sx5 _ _ er rl;have ek5:=sx5 _ _ hy4.k kl;have hN2:N.length<=2:=by rw [<-aa (f:=Cell.b),hNb]; exact Bb e _ _
  have dl:=EZ (xn (ms:=e.names) hy.up) (λn h=>hy.lt n (mem_ndrop.mp h).1);exists yK ?_;exists ⟨r,rfl,⟨_,SqL.of er5⟩,zS (K:=K) (a:=r) (xs:=N.map Cell.v) (λi σ H'=>E2 λv v'=>A4 (σ=[vR y.p,vR p,vR a,vR r,v,v']) (H' y.l=some (.dK (nmK (zY ns e.names++List.range' cl.length i)))) (H' y.k=some (.lst ((cl++N.take i).map Cell.v))) (∀ b o,H5 b=some o->b≠y.k->b≠y.l->H' b=some o)) ⟨_,_,rfl,by simpa using el5,by simpa using ek5,λb o e _ _=>e⟩ (λi σ H' _ z'=>by obtain ⟨_,_,_,_,_,x⟩:=z'; exact SqL.of (x _ _ er5 rk rl)) ?_ ?_⟩
  . rintro i x σ H' hi ⟨v1,v2,rfl,el,ek,sx6⟩;rw [aj] at hi;obtain ⟨cx,hcx,rfl⟩:=au.mp hi;have hi3:=(af.mp hcx).1;have eo:=sx6 _ _ (sx5 _ _ hy4.o ol) ok' ol;have lk:((cl++N.take i).map Cell.v).length=cl.length+i:=by rw [aa,ah,aZ]; lia
    exists ⟨_,_,_,_,_,rfl,eo,X.c_Yard,X.n_Yard_lying,rfl,?_⟩;exists ⟨_,_,_,_,_,rfl,eo,X.c_Yard,X.n_Yard_known,rfl,?_⟩;walk_at "r";rw [lk];refine ⟨y.l,_,rfl,DPut.k (k:=.inl ((cl.length+i:Nat):Int)) el (by simp only [nmK,aa,ah,eC]; exact aI (show _<1000 by lia) (!3)),?_⟩;have ek':upd H' y.l (.dK (putK (nmK (zY ns e.names++List.range' cl.length i)) (.inl ((cl.length+i:Nat):Int)) (.bl true))) y.k=some (.lst ((cl++N.take i).map Cell.v)):=by rw [zm kl]; exact ek
    exists ⟨_,_,_,_,_,rfl,by rw [zm ol]; exact eo,X.c_Yard,X.n_Yard_known,rfl,?_⟩;exists zt ek' (by rw [lk]; lia) λH7 x7 e7=>?_;refine ⟨_,_,rfl,?_,?_,λb o e n1 n2=>x7 _ _ (by rw [zm n2]; exact sx6 b o e n1 n2) n1⟩
    . rw [x7 _ _ zk (bZ kl)];rw [BF _ (we (λn hn=>?_))]
      . rw [List.range'_concat,<-aH];simp [nmK]
      . rcases aB.mp hn with hn | hn
        . have:=hy.lt n (mem_ndrop.mp hn).1
          lia
        . have:=cW.mp hn
          lia
    . rw [bg,hcx,<-aH,ai];exact e7
  rintro σ H6 ⟨v1,v2,rfl,el6,ek6,sx6⟩;rw [aa] at el6 ek6;rw [ar] at ek6;have eo6:=sx6 _ _ (sx5 _ _ hy4.o ol) ok' ol;have et6:=sx6 _ _ (sx5 _ _ hy4.t tl) (bZ hy.kt) tl;exists ⟨_,_,_,_,_,rfl,eo6,X.c_Yard,X.n_Yard_done,rfl,?_⟩;exists zt et6 (!2) λH7 x7 e7=>?_;walk_at "r";have keep:∀ x:Cell,x.At H4->x.At H7:=λx hx=>by
    have f:∀ {b:Addr} {ys:List V},H4 b=some (.tup ys)->H7 b=some (.tup ys):=λ{b ys} e=>x7 _ _ (sx6 _ _ (sx5 _ _ e (zW e hy4.l (λz=>nomatch z))) (zW e hy4.k (λz=>nomatch z)) (zW e hy4.l (λz=>nomatch z))) (zW e hy4.t (λz=>nomatch z));exact ⟨f hx.t,f hx.w,f hx.h⟩
  refine q N H7 ⟨x7 _ _ eo6 ot,x7 _ _ ek6 hy.kt,x7 _ _ el6 (bZ tl),e7,hy.kt,λx hx=>?_,?_,λn hn=>?_,by rw [ah]; lia,by rw [ah]; simp only [ax,aY]; lia⟩ hNb (λb o e n1 n2 n3=>x7 _ _ (sx6 _ _ (sx5 _ _ (t4 _ _ e) n2) n1 n2) n3)
  . rcases aB.mp hx with hx | hx
    . exact keep x (hy4.at' x hx)
    . exact keep x (hN x hx)
  . refine List.pairwise_append.mpr ⟨xn hy.up,gF ..,λn1 h1 n2 h2=>?_⟩;have:=hy.lt n1 (mem_ndrop.mp h1).1;have:=cW.mp h2
    lia
  . rw [ah];rcases aB.mp hn with hn|hn
    . have:=hy.lt n (mem_ndrop.mp hn).1
      lia
    . have:=cW.mp hn
      lia
theorem K67(F:Fun K "yard_behind" "yard_behind" S35 f fd)(B:Bl mg)(X:Xs K mg cs)(o68x:OwnI P w K mg base CX0 cs.Yard 1 "Yard" ["self","d","heap","turning"] [] (P20 cs))(o69x:OwnM P w K mg base CX0 cs.Yard 6 "do" ["self","deed"] [] (P66 cs)):FnOk P w K mg base CX0 7 f fd ["d","heap","plan","turning"] (P67 cs):=by
  refine F.okA C72 λcdv A outer s H vs Q E hr h=>?_;obtain @⟨hp,pl,d,tn,L,ps,es,rfl,hh,hA,l30,hpl,plen,hd,hr',hw,q⟩:=h;refine ⟨_,(za (ps_s 4 C72.nd (Jp o68x tK hr rfl (pa3 (pv 0) (pv 1) (pv 3)))) (za (zQ PassesOwn.never rfl (zJ (pv 2)) (pg_n 5 C72.nd) (zd (zH (wQ o69x tK hr (pv 4) (pa1 (pv 5)))))) (zd (zi (pv 4))))),?_⟩;walk_at "s";exists Kq ?_;walk_at "r";intro x dx nx ndx ndxx;refine vj (tn:=tn) rfl nx ndx hh hA (!2) λy H1 ep s1 hy1 k1 l1 t1=>?_;subst ep;refine ⟨rfl,?_⟩;have hpl1:=s1 _ _ hpl;have plk:pl≠y.k:=zc hpl k1;have plt:pl≠y.t:=zc hpl t1;have hel:es.length<=150:=by rw [<-hr'.1]; exact plen
  have st0:YdS cs.Yard H1 y d tn (As.st L) []:=⟨L,hy1,rfl,λn hn=>by
    have hn:n<L.length:=hn;exact ⟨_,ae hn,by show _=(fL L n).b; rw [Jy (ae hn)]⟩⟩
  exists yK ?_;exists ⟨pl,rfl,⟨_,SqL.of hpl1⟩,zS (K:=K) (a:=pl) (xs:=ps.map V.ref) (λi σ H'=>E1 λv=>A3 (σ=[vI d,vR hp,vR pl,some (.bl tn),vR y.p,v]) (Same H H') (YdS cs.Yard H' y d tn (ends (As.st L) (es.take i)) ((ps.take i).map V.ref))) ⟨_,rfl,s1,st0⟩ (λi σ H' _ z'=>by obtain ⟨_,_,s,_⟩:=z'; exact SqL.of (s _ _ hpl)) ?_ ?_⟩
  . rintro i x σ H' hi ⟨v,rfl,s',⟨cl,hyc,hk,hrel⟩⟩;rw [aj] at hi;obtain ⟨p,hp',rfl⟩:=au.mp hi;have ci:=(af.mp hp').1;have hkk:=Kn (s:=As.st L) (es:=es.take i);have hk0:(As.st L).k=L.length:=rfl;rw [aZ] at hkk;have hlg:((ps.take i).map V.ref).length<=150:=by rw [aa,aZ]; lia
    have hie:i<es.length:=by rw [<-hr'.1]; exact ci
    obtain ⟨e,n,m,hx⟩:∃ e n m,es[i]?=some (e,n,m):=⟨_,_,_,ae hie⟩
    have st:=hw i _ hx;have he:=(hr'.2 i p _ hp' hx).same s';obtain ⟨cn,hcn,hbn⟩:=hrel n (hk ▸ hyc.lt n st.nms.hn);obtain ⟨cm,hcm,hbm⟩:=hrel m (hk ▸ hyc.lt m st.nms.hm);exists ⟨_,_,_,rfl,hyc.o,rfl,?_⟩;exists Ey rfl (c:=cn) (c':=cm) hyc he st.ok st.nms.names_in st.nms.nodup st.tn (st.nms.cells hcn hcm) (by rw [hbn,hbm]; exact st.fit) hd (!2) (!2) λN H2 hy2 hN fr2=>?_;rw [hbn,hbm] at hN;exists ⟨_,rfl,λb o e=>fr2 _ _ (s' _ _ e) (zc e k1) (zc e l1) (zc e t1),?_⟩;rw [yf hx,bg,hp',ai];exact YdS.next hk hrel hy2 hN
  rintro σ H' ⟨v,rfl,s',st⟩;rw [aa,ar,hr'.1,ar] at st;walk_at "r";exact q y H' s' st
theorem K68(F:Fun K "back" "back" S38 f fd)(B:Bl mg)(o30x:Own P w K mg base 7 "yard_behind" ["d","heap","plan","turning"] [] (P67 cs))(o73x:OwnM P w K mg base CX0 cs.Yard 1 "boards" ["self"] [] (P22 cs))(o24x:O24x P w K mg base)(o32x:Own P w K mg base 1 "places_of" ["names"] [] P9)(o25x:O25x P w K mg base)(o31x:Own P w K mg base 2 "undoing" ["yard","deed","names"] [] (P30 cs)):FnOk P w K mg base CX0 8 f fd ["d","heap","plan"] (P68 cs):=by
  refine F.okA C73 λcdv A outer s H vs Q E hr h=>?_;obtain @⟨hp,pl,d,tn,L,ps,es,D0,K',M,rfl,hh,hA,l1,l6,hpl,plen,hR,hr',hw,z,ev,q⟩:=h;refine ⟨_,(za (ps_s 3 C73.nd (zf o30x hr rfl (zv (pv 0) (zv (pv 1) (zv (pv 2) (zv yY z5)))))) (za (ps_s 4 C73.nd (GF o73x tK hr (pv 3))) (za (ps_s 5 C73.nd B0) (za (zQ PassesOwn.never rfl (uh rfl B.enumerate (pa1 (pv 4))) (vY (n:=2) rfl (zU (pg_n 6 C73.nd) (zU (pg_n 7 C73.nd) xQ))) (zd (wT (uc hr) (pv 5) (pit 7) (pv 6) rfl))) (za (ps_s 8 C73.nd (zq zy rfl B.len br (pa1 (pv 4)))) (za (ps_s 9 C73.nd (zg zK (zq zy rfl B.len br (pa1 (pv 1))) (zq (vn rfl) rfl B.sum DI (pa1 (yj ["deed"] [] rfl (zJ (pv 2)) (λ_ _ _ _ _=>(pg_n 0 (show List.Nodup (α:=Str) ["deed"] by decide +kernel))) (λ_ _ _ _ _=>zP) (λ_ _ _ _ _=>(zf o25x hr rfl (pa1 (pv 0))))))))) (za (ps_s 10 C73.nd (zx z5)) (za (zQ PassesOwn.never rfl (IW rfl B.reversed (pa1 (pv 2))) (pg_n 11 C73.nd) (za (ps_s 12 C73.nd (zg yC (pv 9) (zf o25x hr rfl (pa1 (pv 11))))) (za (zH (yW aM aQ aR zB (pv 10) (pa1 (zf o31x hr rfl (pa3 (pv 3) (pv 11) (yj ["name"] [5] rfl (xN rfl B.range (pa2 (pv 12) (pv 9))) (λ_ _ _ _ _=>(pg_n 0 (show List.Nodup (α:=Str) ["name","renamed"] by decide +kernel))) (λ_ _ _ _ _=>zP) (λ_ _ _ _ _=>(AL (uc hr) (pv 1) (pv 0) (λ_ _=>rfl))))))))) (za (zQ PassesOwn.never rfl (zJ (zf o24x hr rfl (pa1 (pv 11)))) (pg_n 13 C73.nd) (za (wT (uc hr) (pv 5) (pv 13) (pv 8) rfl) (zd (ps_s 8 C73.nd (zg zK (pv 8) ze))))) (zd (ps_s 9 C73.nd (pv 12))))))) (zd (zi (zo (pa2 (pv 10) (zf o32x hr rfl (pa1 (yj ["name"] [5] rfl (xa rfl B.range (pa1 (zq zy rfl B.len br (pa1 (pv 1))))) (λ_ _ _ _ _=>(pg_n 0 (show List.Nodup (α:=Str) ["name","renamed"] by decide +kernel))) (λ_ _ _ _ _=>zP) (λ_ _ _ _ _=>(AL (uc hr) (pv 1) (pv 0) (λ_ _=>rfl)))))))))))))))))),?_⟩;walk_at "s";have hel:es.length<=100:=by rw [<-hr'.1]; exact plen
  have dlo:=hR.lo;have hd64:Bd 64 d:=zw (B:=99) (!2) hR.hi (!3);have ok0:As.Ok 20 (As.st L) 0:=by rw [FZ]; exact vz (by rw [aa]; exact l1) (by rw [aa]; exact l6)
  have oks:=zT ok0 hw;have okN:=oks es.length (ag _);rw [ar] at okN;have nlN:=okN.nl;have klN:=okN.kl;have ndN:=xo okN.up;exists uS rfl hh hA (!2) hpl (!2) hd64 hr' (DT hw) λy H1 s1 st=>?_;obtain ⟨cl,hyc,hk,hrel⟩:=st;exists ⟨_,_,_,rfl,hyc.o,rfl,?_⟩;exists uv rfl hyc λr2 H2 prs s2 nr2 e2 hprs=>?_;exists DX λD H3 nD s3 e3=>?_;have e23:=s3 _ _ e2;have r2D:r2≠D:=zc e2 nD;exists B3 ?_;exists ⟨r2,_,rfl,SqL.of e23,wJ (K:=K) (a:=r2) (xs:=prs.map V.ref) (λi σ H'=>E3 λv1 v2 kvs=>A5 (σ=[vI d,vR hp,vR pl,vR y.p,vR r2,vR D,v1,v2,none,none,none,none,none,none]) (H' D=some (.dK kvs)) (kvs.length<=i) (Rn kvs ((ends (As.st L) es).ns.take i) (rk (ends (As.st L) es).ns)) (∀ b o,H3 b=some o->b≠D->H' b=some o)) ⟨_,_,[],rfl,e3,ag _,λn hn=>by simp at hn,λb o e _=>e⟩ (λi σ H' _ z'=>by obtain ⟨_,_,_,_,_,_,_,z⟩:=z'; exact SqL.of (z _ _ e23 r2D)) ?_ ?_⟩
  . rintro i x T σ H' hi hT ⟨v1,v2,kvs,rfl,eD,hkl,hRn,fr⟩;have hi':=(af.mp hi).1;rw [aa,hprs.1] at hi';rw [aj] at hi;obtain ⟨p,hp',rfl⟩:=au.mp hi;obtain ⟨n,c,hn,hc,hpt⟩:=hprs.2 i p hp';have hpt3:=fr _ _ (s3 _ _ hpt) (zW (s3 _ _ hpt) e3 (λz=>nomatch z));have eD':(upd H' T (.tup [.int (i:Int),.ref p])) D=some (.dK kvs):=by rw [zm (zc eD hT)]; exact eD
    have eT:(upd H' T (.tup [.int (i:Int),.ref p])) T=some (.tup [.int (i:Int),.ref p]):=zk;have hpt4:(upd H' T (.tup [.int (i:Int),.ref p])) p=some (.tup [.int (n:Int),.ref c.p]):=by rw [zm (zc hpt3 hT)]; exact hpt3
    have frT:∀ b o,H3 b=some o->b≠D->(upd H' T (.tup [.int (i:Int),.ref p])) b=some o:=λb o e n=>by rw [zm (zc (fr b o e n) hT)]; exact fr b o e n
    generalize upd H' T (.tup [.int (i:Int),.ref p])=G at eT eD' frT hpt4 ⊢;exists ⟨D,_,rfl,DPut.k (k:=.inl (n:Int)) eD' (aI (show _<1000 by lia) (!3)),?_⟩;refine ⟨_,_,_,rfl,zk,bW (yH ..) (!2),λj hj=>?_,λb o e n=>by rw [zm n]; exact frT b o e n⟩;rw [xF];rw [bg,hn] at hj;by_cases c:j=n
    . subst c;rw [im rfl,FI ndN hn]
    . rw [io (B6 c)];refine hRn j ?_;rcases aB.mp hj with h|h
      . exact h
      . exact absurd (by simpa using h) c
  rintro σ H4 ⟨w1,w2,kvs0,rfl,eD4,hkl4,hR4,fr4⟩;rw [aa,hprs.1] at hkl4 hR4;rw [ar] at hR4;have s4:Same H2 H4:=λb o e=>fr4 _ _ (s3 _ _ e) (zc e nD);have s04:=(s1.trans s2).trans s4;have e24:=s4 _ _ e2;have hh4:=s04 _ _ hh;exists y6 ?_;walk_at "r";have hpl4:=s04 _ _ hpl;refine ⟨pl,rfl,⟨_,SqL.of hpl4⟩,λO hO=>yq (K:=K) (a:=pl) (ys:=ps.map V.ref) (λi xs σ' H'=>E1 λ(v:Option V)=>A4 (σ'=[v]) (xs=((es.take i).map λx=>((x.1.puts:Nat):Int)).map V.int) (H' O=some (.lst xs)) (SameX O H4 H')) ⟨none,rfl,rfl,zk,λb o e n=>by rw [zm n]; exact e⟩ (λi xs σ' H' _ z=>by obtain ⟨v,_,_,_,z⟩:=z; exact SqL.of (z _ _ hpl4 (zc hpl4 hO))) ?_ ?_⟩
  . rintro i x xs σ' H' hi ⟨v,rfl,rfl,eO,sx⟩;have hi':=(af.mp hi).1;rw [aj] at hi;obtain ⟨p,hp',rfl⟩:=au.mp hi;have hie:i<es.length:=by rw [<-hr'.1]; exact (af.mp hp').1
    have hx:=ae hie;have he:=((hr'.2 i p _ hp' hx).same s04).same (λb o e=>sx b o e (zc e hO));exists z9 rfl he ?_;exists zt eO (by simp only [aa,aZ]; lia) λH5 x5 e5=>?_;refine xv hi' ⟨_,rfl,rfl,?_,sx.trans x5⟩;rw [bg,hx,ai,ai];exact e5
  rintro xs σ' H5 ⟨v,rfl,rfl,eO5,sx5⟩;have s5:Same H4 H5:=λb o e=>sx5 b o e (zc e hO);rw [aa,hr'.1,ar] at eO5;exists Ic (SqL.of eO5) ?_;have hsum:((L.map Cell.v).length:Int)+(es.map λx=>((x.1.puts:Nat):Int)).sum=((ends (As.st L) es).k:Nat):=by
    rw [Ch,xc,aa];show _=((L.length+_:Nat):Int)
    lia
  walk_at "r";rw [hsum];refine zE (!1) λa H6 na s6 e6=>?_;have s46:=s5.trans s6;have s06:=s04.trans s46;have eD6:=s46 _ _ eD4;have Da:D≠a:=zc (s5 _ _ eD4) na;have hy6:=((hyc.same s2).same s4).same s46;have hD0:H D=none:=Same.nn (s1.trans s2) nD;have ha0:H a=none:=Same.nn (s04.trans s5) na;have hpl6:=s06 _ _ hpl;have plD:pl≠D:=zc hpl hD0;have pla:pl≠a:=zc hpl ha0;exists Kb ?_;walk_at "r";have hplen2:(prs.map V.ref).length=(ends (As.st L) es).ns.length:=by rw [aa,hprs.1]
  rw [hplen2];refine ⟨pl,_,rfl,SqL.of hpl6,Gb (K:=K) (a:=pl) (xs:=ps.map V.ref) (λj σ H'=>E9 λ(v1 v2 v3 v4 v5:Option V) (kvs:List (Key×V)) (r:Nat->Nat) (ps':List Addr) (es':DL)=>A5 (σ=[vI d,vR hp,vR pl,vR y.p,vR r2,vR D,v1,v2,vI ((ends (As.sb ((ends (As.st L) es).ns.map (ends (As.st L) es).g)) es').k:Nat),vI ((ends (As.st L) (es.take (es.length - j))).k:Nat),vR a,v3,v4,v5]) ((H' D=some (.dK kvs)/\kvs.length<=130+2*j/\Rn kvs (ends (As.st L) (es.take (es.length - j))).ns r)) ((H' a=some (.lst (ps'.map V.ref))/\Runs H' ps' es'/\ps'.length=j)) ((Walk d tn (As.sb ((ends (As.st L) es).ns.map (ends (As.st L) es).g)) es'/\es'.length=j/\Sim r (ends (As.st L) (es.take (es.length - j))) (ends (As.sb ((ends (As.st L) es).ns.map (ends (As.st L) es).g)) es')/\∀ i,i<=j->∀ n∈(ends (As.sb ((ends (As.st L) es).ns.map (ends (As.st L) es).g)) (es'.take i)).ns,BoD d D0 M ((ends (As.sb ((ends (As.st L) es).ns.map (ends (As.st L) es).g)) (es'.take i)).g n))) (∀ b o,H6 b=some o->b≠D->b≠a->H' b=some o)) ⟨w1,w2,none,none,none,kvs0,rk (ends (As.st L) es).ns,[],[],?_,⟨eD6,by lia,?_⟩,⟨e6,⟨rfl,λi p x h=>by simp at h⟩,rfl⟩,⟨λi x h=>by simp at h,rfl,?_,λi hi n hn=>?_⟩,λb o e _ _=>e⟩ (λj σ H' _ z=>by obtain ⟨_,_,_,_,_,_,_,_,_,_,_,_,_,z⟩:=z; exact SqL.of (z _ _ hpl6 plD pla)) ?_ ?_⟩
  . rw [hJ,ar];show _=[vI d,vR hp,vR pl,vR y.p,vR r2,vR D,w1,w2,vI ((((ends (As.st L) es).ns.map (ends (As.st L) es).g).length:Nat):Int),vI ((ends (As.st L) es).k:Nat),vR a,none,none,none]
    rw [aa]
  . rw [hJ,ar];exact hR4
  . rw [hJ,ar];exact sim0 ndN
  . have hi:i=0:=by lia
    subst hi;obtain ⟨n0,h0,rfl⟩:=(sim0 ndN).on n hn;show BoD d D0 M ((As.sb ((ends (As.st L) es).ns.map (ends (As.st L) es).g)).g (rk (ends (As.st L) es).ns n0));rw [(sim0 ndN).g n0 h0];exact ev n0 (okN.lt n0 h0)
  . rintro j x σ H' hj hi ⟨v1,v2,v3,v4,v5,kvs,r,ps',es',rfl,⟨eD,hkl,hRn⟩,⟨ea,hrun,hpsl⟩,⟨hwk,hesl,sim,hbs⟩,fr⟩;rw [aa,hr'.1] at hj hi;rw [aj] at hi;obtain ⟨p,hp',rfl⟩:=au.mp hi;have hie:es.length - 1 - j<es.length:=by lia
    have hx:=ae hie;generalize es[es.length - 1 - j]=xd at hx;have st:=hw _ _ hx;have hen:=yf (s:=As.st L) hx;rw [HK hj,hen] at hRn sim;rw [HK hj,hen];have oki:=oks (es.length - 1 - j) (!2);have ev1:=t9 ev (es.length - 1 - j+1);rw [hen] at ev1;have ev0:=t9 ev (es.length - 1 - j);have gk:∀ n,n<(ends (As.st L) (es.take (es.length - 1 - j))).k->(ends (As.st L) es).g n=(ends (As.st L) (es.take (es.length - 1 - j))).g n:=λn hn=>by
      conv=>lhs; rw [vd (es:=es) (i:=es.length - 1 - j)]
      exact vL hn
    have kN:(ends (As.st L) (es.take (es.length - 1 - j))).k<=(ends (As.st L) es).k:=Ad;have e0:es.length - (j+1)=es.length - 1 - j:=by lia
    have t0ok:As.Ok 120 (As.sb ((ends (As.st L) es).ns.map (ends (As.st L) es).g)) 0:=vz (by
      rw [aa];have:=bM.mpr okN.ne
      lia) (by rw [aa]; lia)
    have okt:=zT t0ok hwk j (!2);rw [show es'.take j=es' by rw [<-hesl,ar]] at okt;generalize hs:ends (As.st L) (es.take (es.length - 1 - j))=s at *
    generalize ht0:(As.sb ((ends (As.st L) es).ns.map (ends (As.st L) es).g))=t0 at *
    generalize ht:ends t0 es'=t at *
    have kls:=oki.kl;have so:∀ n∈s.ns,BoD d D0 M (s.g n):=λn hn=>ev0 n (oki.lt n hn);have sn:=GJ ev1;have us:=Gw hR z st so sn sim;have um:=F5 z.d1 st so sn sim oki.lt okt.lt;have nk:=yJ s xd;have pl2:=puts_le xd.1;have s0':Same H H':=λb o e=>fr _ _ (s06 _ _ e) (zc e hD0) (zc e ha0);have s6':∀ b o,H6 b=some o->(∀ kv,o≠.dK kv)->b≠a->H' b=some o:=λb o e h n=>fr _ _ e (λc=>by rw [c,eD6] at e; exact h _ (ao e).symm) n;have he:=(hr'.2 _ p _ hp' hx).same s0';have yka:y.k≠a:=zc ((s2.trans (s4.trans s5)) _ _ hyc.k) na;have yta:y.t≠a:=zc ((s2.trans (s4.trans s5)) _ _ hyc.t) na;have ypa:y.p≠a:=zc ((s2.trans (s4.trans s5)) _ _ hyc.o) na;have yla:y.l≠a:=zc ((s2.trans (s4.trans s5)) _ _ hyc.l) na;have ylD:y.l≠D:=zc (s2 _ _ hyc.l) nD;have hy':YdAt cs.Yard H' y d true cl (ends (As.st L) es).ns (ps.map V.ref):=hy6.mv λb o e h=>by
      rcases h with ⟨xs,rfl⟩|rfl|rfl|rfl|rfl
      . exact s6' _ _ e (λ_ z=>nomatch z) (zW e e6 (λz=>nomatch z))
      . rw [hy6.o] at e; exact s6' _ _ hy6.o (λ_ z=>nomatch z) ypa |>.trans e
      . rw [hy6.k] at e; exact s6' _ _ hy6.k (λ_ z=>nomatch z) yka |>.trans e
      . rw [hy6.l] at e; exact (fr _ _ hy6.l ylD yla).trans e
      . rw [hy6.t] at e; exact s6' _ _ hy6.t (λ_ z=>nomatch z) yta |>.trans e
    exists z9 rfl he ?_;walk_at "r";rw [show (((s.next xd).k:Nat):Int) - (xd.1.puts:Nat)=(s.k:Int) by lia];rw [nk];exists Gh ?_;exists ⟨(s.k:Int),((s.k+xd.1.puts:Nat):Int),rfl,⟨by lia,by lia,by lia,by lia⟩,λO hO=>xq (lo:=(s.k:Int)) (n:=(((s.k+xd.1.puts:Nat):Int) - (s.k:Int)).toNat) (λi xs σ' Hc=>E1 λ(v:Option V)=>A4 (σ'=[v,vR D]) (xs=(((List.range i).map λq=>r (s.k+q)).map λn:Nat=>(n:Int)).map V.int) (Hc O=some (.lst xs)) (SameX O H' Hc)) ⟨none,rfl,rfl,zk,λb o e n=>by rw [zm n]; exact e⟩ ?_ ?_⟩
    . rintro i xs σ' H9 hi ⟨v,rfl,rfl,eO,sx⟩;have hi2:i<xd.1.puts:=by lia
      have hD9:=sx _ _ eD (zc eD hO);walk_at "r";rw [show (s.k:Int)+(i:Int)=((s.k+i:Nat):Int) by lia];refine ⟨D,_,rfl,DGet.k (k:=.inl ((s.k+i:Nat):Int)) hD9 |> (λz=>by rw [hRn (s.k+i) (mem_next.mpr (.inr ⟨by lia,by lia⟩))] at z; exact z),?_⟩;exists zt eO (by simp only [aa,bQ]; lia) λG5 x5 e5=>?_;refine xv hi ⟨_,rfl,rfl,?_,sx.trans x5⟩;rw [eI,ai,ai,ai];exact e5
    rintro xs σ' G2 ⟨v,rfl,rfl,eO,sx⟩;have sO:Same H' G2:=λb o e=>sx b o e (zc e hO);rw [show (((s.k+xd.1.puts:Nat):Int) - (s.k:Int)).toNat=xd.1.puts by lia] at eO;have eO':G2 O=some (.lst (if xd.1.puts=2 then [.int ((r s.k:Nat):Int),.int ((r (s.k+1):Nat):Int)] else [.int ((r s.k:Nat):Int)])):=by
      rcases pl2 with h|h
      . rw [h,io ⋯]; rw [h] at eO; exact eO
      . rw [h,im rfl]; rw [h] at eO; exact eO
    obtain ⟨c,hc,hcb⟩:=hrel xd.2.1 (aI (oki.lt _ st.nms.hn) kN);rw [gk _ (oki.lt _ st.nms.hn)] at hcb;exists Fm rfl (hy'.same sO) (he.same sO) eO' st.nms.en hc λpr G3 s3' npr epr=>?_;rw [hcb] at epr;have sG3:=sO.trans s3';have ea3:=sG3 _ _ ea;exists zt ea3 (by rw [aa]; lia) λG4 x4 e4=>?_;have eD4':=x4 _ _ (sG3 _ _ eD) Da;have he4:DdAt G4 p xd.1:=(he.same sG3).sameX x4 ea3;exists yK ?_;exists yV rfl he4 λnl G5 s5' nnl enl=>?_;have eD5:=s5' _ _ eD4';have nlD:nl≠D:=bZ (zc eD4' nnl);have enn:((t.k:Nat):Int)=((t.k+0:Nat):Int):=rfl;have nml:=names_len st.nms;have hdl:=wH;refine ⟨nl,rfl,⟨_,SqL.of enl⟩,zS (K:=K) (a:=nl) (xs:=xd.1.names.map V.int) (λi σ H'=>E1 λv=>A3 (σ=[vI d,vR hp,vR pl,vR y.p,vR r2,vR D,v1,v2,vI ((t.k+i:Nat):Int),vI ((s.k+xd.1.puts:Nat):Int),vR a,vR p,vI (s.k:Nat),v]) (H' D=some (.dK (deal kvs (xd.1.names.take i) t.k))) (∀ b o,G5 b=some o->b≠D->H' b=some o)) ⟨_,rfl,eD5,λb o e _=>e⟩ (λi σ H' _ z'=>by obtain ⟨_,_,_,z⟩:=z'; exact SqL.of (z _ _ enl nlD)) ?_ ?_⟩
    . rintro i x σ G6 hi6 ⟨v,rfl,eD6',fr6⟩;have hi7:=(af.mp hi6).1;rw [aa] at hi7;rw [aj] at hi6;obtain ⟨m,hm,rfl⟩:=au.mp hi6;have hn2:xd.1.names.length<=2:=xd.1.names_len;have hd1:=wH (xd.1.names.take i) kvs t.k;rw [aZ] at hd1;exists ⟨D,_,rfl,DPut.k (k:=.inl m) eD6' (aI (show _<1000 by lia) (!3)),?_⟩;exists ⟨_,by rw [show ((t.k+i:Nat):Int)+1=((t.k+(i+1):Nat):Int) by lia],?_,λb o e n=>by rw [zm n]; exact fr6 b o e n⟩;rw [zk,bg,hm];show _=some (HO.dK (deal kvs (xd.1.names.take i++[m]) t.k));rw [uV,aZ,Nat.min_eq_left (!2)]
    rintro σ G7 ⟨v,rfl,eD7,fr7⟩;rw [aa,ar] at eD7;have hd2:=wH xd.1.names kvs t.k;have tk7:TupK H' G7:=λb xs e=>fr7 _ _ (s5' _ _ (x4.tup (sG3 _ _ e) ea3)) (zW e eD (λz=>nomatch z));have tk3:TupK G3 G7:=λb xs e=>fr7 _ _ (s5' _ _ (x4.tup e ea3)) (zW e (sG3 _ _ eD) (λz=>nomatch z));walk_at "r";have eap:ends t0 (es'++[undo s xd r])=t.next (undo s xd r):=by rw [wI,ht]
    have kap:t.k+xd.1.names.length=(t.next (undo s xd r)).k:=by
      rw [yJ,nml];congr 1;exact (Cm _ _ _ _).symm
    rw [e0,hs];refine ⟨v1,v2,vR p,vI (s.k:Nat),v,deal kvs xd.1.names t.k,ren r xd t.k,ps'++[pr],es'++[undo s xd r],?_,⟨eD7,?_,Jn hRn st.nms⟩,⟨?_,yF (hrun.tk tk7) (epr.tk tk3),?_⟩,⟨?_,?_,?_,?_⟩,λb o e n1 n2=>?_⟩
    . rw [eap,<-kap];rw [aa]
    . have:xd.1.names.length<=2:=xd.1.names_len
      lia
    . rw [ai];exact fr7 _ _ (s5' _ _ e4) (bZ Da)
    . rw [ah,hpsl]; rfl
    . exact EN hwk (by rw [ht]; exact us)
    . rw [ah,hesl]; rfl
    . rw [eap]; exact um
    . intro i hi n hn;by_cases ci:i<=j
      . rw [cr (!2)] at hn ⊢;exact hbs i ci n hn
      . have:i=j+1:=by lia
        subst this;rw [show (es'++[undo s xd r]).take (j+1)=es'++[undo s xd r] by rw [cN]; rw [ah,hesl]; exact ag _,eap] at hn ⊢;obtain ⟨n0,h0,rfl⟩:=um.on n hn;rw [um.g n0 h0];exact so n0 h0
    . exact fr7 _ _ (s5' _ _ (x4 _ _ (sG3 _ _ (fr _ _ e n1 n2)) n2)) n1
  rintro σ H7 ⟨v1,v2,v3,v4,v5,kvs,r,ps',es',rfl,⟨eD,hkl,hRn⟩,⟨ea,hrun,hpsl⟩,⟨hwk,hesl,sim,hbs⟩,fr⟩;rw [aa,hr'.1] at hesl;rw [aa,hr'.1,dU] at hRn sim;have s07:Same H H7:=λb o e=>fr _ _ (s06 _ _ e) (zc e hD0) (zc e ha0);have hh7:=s07 _ _ hh;have t0ok:As.Ok 120 (As.sb ((ends (As.st L) es).ns.map (ends (As.st L) es).g)) 0:=vz (by
    rw [aa];have:=bM.mpr okN.ne
    lia) (by rw [aa]; lia)
  have okt:=zT t0ok hwk es'.length (ag _);rw [ar] at okt;have tnl:=okt.nl;exists uP ?_;exists ⟨((L.length:Nat):Int),by rw [aa],by lia,by lia,λO hO=>xq (lo:=0) (n:=((L.length:Nat):Int).toNat) (λi xs σ' Hc=>E1 λ(v:Option V)=>A4 (σ'=[v,vR D]) (xs=(((List.range i).map λq=>r (0+q)).map λn:Nat=>(n:Int)).map V.int) (Hc O=some (.lst xs)) (SameX O H7 Hc)) ⟨none,rfl,rfl,zk,λb o e n=>by rw [zm n]; exact e⟩ ?_ ?_⟩
  . rintro i xs σ' H9 hi ⟨v,rfl,rfl,eO,sx⟩;have hi2:i<L.length:=by lia
    have hD9:=sx _ _ eD (zc eD hO);walk_at "r";rw [show (0:Int)+(i:Int)=((0+i:Nat):Int) by lia];refine ⟨D,_,rfl,DGet.k (k:=.inl ((0+i:Nat):Int)) hD9 |> (λz=>by rw [hRn (0+i) (bV.mpr (!2))] at z; exact z),?_⟩;exists zt eO (by simp only [aa,bQ]; lia) λG5 x5 e5=>?_;refine xv hi ⟨_,rfl,rfl,?_,sx.trans x5⟩;rw [eI,ai,ai,ai];exact e5
  rintro xs σ' G2 ⟨v,rfl,rfl,eO,sx⟩;have sO:Same H7 G2:=λb o e=>sx b o e (zc e hO);rw [show ((L.length:Nat):Int).toNat=L.length by lia,show (λq=>r (0+q))=r from funext λq=>by rw [Nat.zero_add]] at eO;have sim:Sim r (As.sb (L.map Cell.b)) (ends (As.sb ((ends (As.st L) es).ns.map (ends (As.st L) es).g)) es'):=by rw [<-FZ]; exact sim
  have hpm:((List.range L.length).map r).Perm (ends (As.sb ((ends (As.st L) es).ns.map (ends (As.st L) es).g)) es').ns:=by
    have h:=BS sim (gO (n:=(L.map Cell.b).length)) (xo okt.up);have e:(As.sb (L.map Cell.b)).ns=List.range L.length:=by
      show List.range _=_;rw [aa]
    rwa [e] at h
  exists AJ rfl eO hpm okt.up (by rw [<-hpm.length_eq,aa,bQ]; lia) λqa G3 s3' nqa eqa=>?_;exists zI (!1) λr9 G4 nr9 s4' e4=>?_;have s79:=(sO.trans s3').trans s4';have tof:=D4 hwk (λi hi n hn=>hbs i (by have:=hrun.1; lia) n hn) sim (xo okt.up);rw [aa] at tof;have naq:a≠qa:=zc ((sO) _ _ ea) nqa;exact q r9 a qa ps' es' _ G4 (s07.trans s79) e4 ha0 (Same.nn s07 (Same.nn sO nqa)) naq (s79 _ _ ea) (s4' _ _ eqa) (hrun.same s79) hesl tof
theorem EC{N E:Int}{p pb:Addr}{s:B4}{Q:VK}{X:XK}(hl:H p=some (.lst (C.map Cell.v)))(hA:∀ c∈C,c.At H)(fb:BsAt H pb r1 r2 s N)(hN:1<=N)(hNb:Bd 900 N)(gb:GB d 900 s)(h60:C.length<=60)(hd:Bd 64 d)(hE:1<=E)(hC:∀ c∈C,BK d s N E M0 M c.b)(q:∀ (r:Addr) (ps:List Addr) (H':Hp),Same H H'->H r=none->H' r=some (.lst (ps.map V.ref))->Runs H' ps (npl (N*E) (s.a*E) (s.b*E) ((C.map Cell.b).map (bxD s N (N*E))))->Q (.ref r) H'):P60 ([.int d,.ref p,.ref pb]++[]) H Q X:=by
  have hl':((C.map Cell.b).map (bxD s N (N*E))).length=C.length:=by rw [aa,aa]
  refine uj rfl (D:=N*E) (px:=s.a*E) (py:=s.b*E) (hb:=(C.map Cell.b).map (bxD s N (N*E))) hl hA fb hN hNb gb hl'.symm (!2) hd (a9 (!2) (!2)) (Jz hN hE).1 (Ko hN gb.ba gb.bb hNb) (λk c b hc hb=>?_) q;rw [aj,aj,hc] at hb;have e:b=bxD s N (N*E) c.b:=(ao hb).symm;subst e;have bk:=hC c (av hc);obtain ⟨X,Y,h1,h2,h3,h4,h5⟩:=bk.w;exact ⟨X,Y,h1,h2,h3,h4,h5,bk.ok.bi⟩
def lnOf(c:Cell):Ln:=⟨c.pw,c.b.w⟩
theorem Bm(h:∀ c∈C,BoD d D M c.b):Ever d D M (As.st C):=λn hn=>by
  have hn:n<C.length:=hn;show BoD d D M (fL C n).b;rw [KI (ae hn)];exact h _ (cM hn)
theorem K69(F:Fun K "like" "like" S52 f fd)(B:Bl mg)(o46x:Own P w K mg base 1 "first_unlike" ["one","other"] [] P13)(o18x:Own P w K mg base 5 "serving" ["d","lengths"] [] (P59 K))(o33x:Own P w K mg base 8 "back" ["d","heap","plan"] [] (P68 cs))(o36x:O36x P w K mg base)(o41x:O41x P w K mg base)(o20x:Own P w K mg base 5 "normal_plan" ["d","heap","base"] [] P60):FnOk P w K mg base CX0 9 f fd ["d","one","other"] (P69 cs):=by
  refine F.okA C74 λcdv A outer s H vs Q E hr h=>?_;obtain @⟨d,N0,Eh,p1,p2,C1,C2,kx,kN,kw,kE,kh,M,rfl,h1,h2,hA1,hA2,o1,ok1,hbt1,o2e,ok2,hbt2,lk,hN,hE,n1,n2,hR,qp,qa⟩:=h;refine ⟨_,(za (ps_s 3 C74.nd (zf o46x hr rfl (pa2 (zf o41x hr rfl (pa1 (pv 1))) (zf o41x hr rfl (pa1 (pv 2)))))) (za (zu (zj B7 (pv 3) vq (zp _)) (zd (zi (zo (pa3 zG (pit 3) (pit 3))))) zn) (za (ps_s 4 C74.nd (zf o18x hr rfl (pa2 (pv 0) (yj ["each"] [] rfl (zJ (zg Fa (pv 1) (pv 2))) (λ_ _ _ _ _=>(pg_n 0 (show List.Nodup (α:=Str) ["each"] by decide +kernel))) (λ_ _ _ _ _=>zP) (λ_ _ _ _ _=>(pe_i (r:=rIxT K) ix_tup (pv 0) ze)))))) (za (ps_s 5 C74.nd (zf o33x hr rfl (pa3 (pv 0) (pv 2) (zf o20x hr rfl (pa3 (pv 0) (pv 2) (pv 4)))))) (za (ps_s 6 C74.nd (zf o36x hr rfl (pa3 (zq zy rfl B.len br (pa1 (pv 1))) (zf o20x hr rfl (pa3 (pv 0) (pv 1) (pv 4))) (pit 5)))) (zd (zi (zo (pa3 zG (pv 6) (pit 5)))))))))),?_⟩;walk_at "s";obtain ⟨a1,a20⟩:=n1;obtain ⟨b1,b20⟩:=n2;obtain ⟨N01,bN0⟩:=hN;obtain ⟨Eh1,bE⟩:=hE;obtain ⟨x1,c1,c2,c3,c4,c5,c6,c7,c8⟩:=lk;have hd:Bd 64 d:=zw (B:=99) (by have:=hR.lo; lia) hR.hi (!3);exists AR rfl h1 hA1 ok1 hbt1 a1 λt1 H1 s1 e1=>?_;exists AR rfl (s1 _ _ h2) (λc hc=>(hA2 c hc).same s1) ok2 hbt2 b1 λt2 H2 s2 e2=>?_;have s12:=s1.trans s2;exists vC rfl (e1.same s2) e2 (λeq=>?_) λr H3 i j s3 e3 fu=>?_;rotate_left
  . walk_at "r";rw [show decide (V.ref r=V.non)=false from il (λz=>nomatch z)];exists zr (!1) λr4 H4 s4 e4=>?_;exact qa r4 H4 i j ((s12.trans s3).trans s4) e4 fu
  have o2:=o2e eq;have h1':=s12 _ _ h1;have h2':=s12 _ _ h2;walk_at "r";rw [show decide (V.non=V.non)=true from iJ rfl];exists y6 ?_;exists JL h1' h2' (by simp only [aa]; lia) λpc Ha sa ea=>?_;rw [<-ai] at ea;have hL:∀ c∈C1++C2,c.At Ha/\Wh d N0 Eh kx kw kh c.b:=λc hc=>by
    rcases aB.mp hc with h|h
    . exact ⟨((hA1 c h).same s12).same sa,o1 c h⟩
    . exact ⟨((hA2 c h).same s12).same sa,o2 c h⟩
  have lL:(C1++C2).length<=40:=by rw [ah]; lia
  have m1:∀ c∈C1,c∈C1++C2:=λc hc=>bP _ hc;have m2:∀ c∈C2,c∈C1++C2:=λc hc=>a7 _ hc;generalize C1++C2=L at *
  refine ⟨pc,rfl,⟨_,SqL.of ea⟩,λG hG=>yq (K:=K) (a:=pc) (ys:=L.map Cell.v) (λi xs σ' H'=>E1 λ(v:Option V)=>A4 (σ'=[v]) (xs=((L.take i).map lnOf).map Ln.v) (H' G=some (.lst xs)) (SameX G Ha H')) ⟨none,rfl,rfl,zk,λb o e n=>by rw [zm n]; exact e⟩ (λi xs σ' H' _ z=>by obtain ⟨v,_,_,_,z⟩:=z; exact SqL.of (z _ _ ea (zc ea hG))) ?_ ?_⟩
  . rintro i x xs σ' H' hi ⟨v,rfl,rfl,eG,sx⟩;have hi':=(af.mp hi).1;obtain ⟨c,rfl,hc,hic⟩:=ur hi;have ct:=sx _ _ (hL c hc).1.t (zc (hL c hc).1.t hG);exists zt eG (by rw [aa,aa,aZ]; rw [aa] at hi'; lia) λHb sxb eb=>?_;refine xv hi' ⟨_,rfl,?_,eb,sx.trans sxb⟩;rw [dq,hic,ai,ai];rfl
  rintro xs σ' Hb ⟨v,rfl,rfl,eG,sx⟩;rw [aa,ar] at eG;have sb:Same Ha Hb:=λb o e=>sx b o e (zc e hG);have LS:LsB d 700 Hb G (L.map lnOf):=⟨eG,λc hc=>by
    obtain ⟨c',hc',rfl⟩:=bO.mp hc;exact sb _ _ (hL c' hc').1.w,λc hc=>by
    obtain ⟨c',hc',rfl⟩:=bO.mp hc;have o:=(hL c' hc').2.w;have k:=o.sk N01 bN0;have x:=(hL c' hc').2.x;exact ⟨o.z1,o.g,o.up,x.1.mono (!2),x.2.mono (!2),k.bz.mono (!2)⟩⟩
  have bds:∀ u∈(L.map lnOf).map Ln.u,Bd kx u.1/\Bd kx u.2:=λu hu=>by
    obtain ⟨c,hc,rfl⟩:=bO.mp hu;obtain ⟨c',hc',rfl⟩:=bO.mp hc;exact (hL c' hc').2.x
  have zs1:∀ z∈(L.map lnOf).map λc:Ln=>c.s.z,1<=z/\z∣N0:=λz hz=>by
    obtain ⟨c,hc,rfl⟩:=bO.mp hz;obtain ⟨c',hc',rfl⟩:=bO.mp hc;exact ⟨(hL c' hc').2.w.z1,(hL c' hc').2.w.dvd N01⟩
  obtain ⟨N1,_,Nd⟩:=uM ((L.map lnOf).map λc:Ln=>c.s.z) 1 ⋯ λz hz=>(zs1 z hz).1;have ND:=En ((L.map lnOf).map λc:Ln=>c.s.z) 1 ⋯ ⟨N0,by lia⟩ zs1;obtain ⟨ups,_⟩:=Iq LS.ok;obtain ⟨M',hM⟩:=Hy hR ups;have gM:=Fst.gb hR x1 hM ups bds;have N1:1<=cbs ((L.map lnOf).map λc:Ln=>c.s.z):=N1;have ND:cbs ((L.map lnOf).map λc:Ln=>c.s.z)∣N0:=ND;have Nd:∀ z∈(L.map lnOf).map λc:Ln=>c.s.z,z∣cbs ((L.map lnOf).map λc:Ln=>c.s.z):=Nd;have Nb:Bd kN (cbs ((L.map lnOf).map λc:Ln=>c.s.z)):=Bd.dvd_le bN0 N01 ND;exists DM rfl LS hR (by rw [aa]; exact lL) hM (Nb.mono (!2)) λpb r1 r2 Hc sc fc=>?_;have Ndv:∀ c∈L,c.b.w.z∣cbs ((L.map lnOf).map λc:Ln=>c.s.z):=λc hc=>Nd _ (bH (f:=λc:Ln=>c.s.z) (bH (f:=lnOf) hc));have hsrv:∀ c∈L,(st d M').srv c.b.w.x c.b.w.y:=λc hc=>hM.1 _ (bH (f:=Ln.u) (bH (f:=lnOf) hc));generalize cbs ((L.map lnOf).map λc:Ln=>c.s.z)=N at *
  generalize st d M'=sb' at *
  clear LS eG sx zs1 Nd hM ups bds;have bk:∀ c∈L,BK d sb' N Eh (kw+kx+3+(kN+kh)) M c.b:=λc hc=>BK.so (k:=kx+1) (Mw:=kw) (Mh:=kh) (kN:=kN) (kE:=kE) hR gM N1 Eh1 N01 (hL c hc).2.w (Ndv c hc) ND (hL c hc).2.h (hsrv c hc) Nb bE (!2) (!2) (!2) (!2) (!2);have bk1:∀ c∈C1,BK d sb' N Eh (kw+kx+3+(kN+kh)) M c.b:=λc hc=>bk c (m1 c hc);have bk2:∀ c∈C2,BK d sb' N Eh (kw+kx+3+(kN+kh)) M c.b:=λc hc=>bk c (m2 c hc);have ND1:1<=N*Eh:=a9 (!2) (!2);have sz:Sz (N*Eh) (kN+kE) M:=⟨ND1,Nb.mul bE,by lia,by lia⟩
  have bas:Bas d M (sb'.a*Eh) (sb'.b*Eh) (sb'.c*Eh) (sb'.e*Eh):=Jc hR gM Eh1 bE (!2);have bN9:Bd 900 N:=Nb.mono (!2);have g9:GB d 900 sb':=gM.mono (!2);obtain ⟨w1,l1,en1,_⟩:=BO (C:=C1) false hR sz N1 Eh1 bas bk1 (!2) a1;obtain ⟨w2,l2,en2,_⟩:=BO (C:=C2) false hR sz N1 Eh1 bas bk2 (!2) b1;have same:nrmD sb' N Eh (C1.map Cell.b)=nrmD sb' N Eh (C2.map Cell.b):=CG gM N1 Eh1 (λb hb=>by
    obtain ⟨c,hc,rfl⟩:=bO.mp hb;exact bk1 c hc) (λb hb=>by
    obtain ⟨c,hc,rfl⟩:=bO.mp hb;exact bk2 c hc) eq
  have tc:=(sa.trans sb).trans sc;have h2c:=tc _ _ h2';have hA2c:∀ c∈C2,c.At Hc:=λc hc=>((hA2 c hc).same s12).same tc;have hA1c:∀ c∈C1,c.At Hc:=λc hc=>((hA1 c hc).same s12).same tc;have bo1:∀ c∈C1,BoD d (N*Eh) M c.b:=λc hc=>(bk1 c hc).bod hR ND1 (o1 c hc).w.up;have bo2:∀ c∈C2,BoD d (N*Eh) M c.b:=λc hc=>(bk2 c hc).bod hR ND1 (o2 c hc).w.up;exists EC h2c hA2c fc N1 bN9 g9 (!2) hd Eh1 bk2 λpl2 ps2 Hd sd nd ed hr2=>?_;have ev2:=vS (c:=0) w2 (Bm bo2) _ (ag _);rw [ar] at ev2;exists LL rfl (sd _ _ h2c) (λc hc=>(hA2c c hc).same sd) b1 b20 ed (by rw [hr2.1]; lia) hR hr2 w2.walk sz ev2 λrb ab bb ps' es' qs He se eb na nb nab ea' eb' hr' hl' T=>?_;rw [en2,<-same] at T;have hl'':es'.length<=100:=by rw [hl']; lia
  have t0e:=((s12.trans tc).trans sd).trans se;have h1e:=t0e _ _ h1;have hAe1:∀ c∈C1,c.At He:=λc hc=>((hA1c c hc).same sd).same se;exists EC h1e hAe1 ((fc.same sd).same se) N1 bN9 g9 (!2) hd Eh1 bk1 λpl1 ps1 Hf sf nf ef hr1=>?_;have ebf:=sf _ _ eb;have eaf:=sf _ _ ea';have ebf':=sf _ _ eb';have w1':=w1.walk;rw [FZ] at w1' en1;have h1f:=sf _ _ h1e;have hlen:(((C1.map Cell.v).length:Nat):Int)=(((C1.map Cell.b).length:Nat):Int):=by rw [aa,aa]
  walk_at "r";rw [hlen];refine vV rfl (F:=nrmD sb' N Eh (C1.map Cell.b)) (by rw [aa]; lia) (by rw [aa]; lia) ef (by rw [hr1.1]; lia) hr1 w1' eaf (by rw [hr'.1]; lia) (hr'.same sf) en1 T.w λpf qs' Hg sg nf' eg hrg=>?_;have ebg:=sg _ _ ebf;exists zr (!1) λr Hh sh eh=>?_;have tgh:=sg.trans sh;have s0f:=t0e.trans sf;have nb0:H bb=none:=Same.nn ((s12.trans tc).trans sd) nb;have npf:H pf=none:=Same.nn s0f nf';have wat:=Cb w1 (ML a1) (λn hn=>Bm bo1 n (bV.mp hn));rw [FZ] at wat;refine qp eq r pf bb Hh _ _ qs (N*Eh) ((s0f.trans sg).trans sh) eh npf nb0 (λz=>?_) (sh _ _ eg) (hrg.same sh) ?_ (tgh _ _ ebf') sz (HY (by rw [aa]; exact a1) (by rw [aa]; exact a20) w1' (λi hi=>(wat i hi).1) en1 T)
  . rw [z,ebf'] at nf';cases nf'
  . rw [hrg.1,ah,aa]
    lia
theorem K70(F:Fun K "squares" "squares" S59 f fd)(B:Bl mg)(X:Xs K mg cs)(g_MOST:TopI mg "MOST" (400))(o41x:O41x P w K mg base)(o52x:Own P w K mg base 4 "measure_below" ["whole"] [] P56)(o53x:Own P w K mg base 4 "side_by_side" ["d","whole"] [] (P57 K))(o47x:Own P w K mg base 9 "like" ["d","one","other"] [] (P69 cs))(o43x:Own P w K mg base 1 "over" ["one"] [] P11)(o36x:O36x P w K mg base)(o50x:O50x P w K mg base cs)(o51x:Own P w K mg base 6 "cutting" ["d","boards","places"] [] (P65 cs)):FnOk P w K mg base (CXe P w) 10 f fd ["d","heap"] (P70 K cs):=by
  obtain ⟨u_MOST,m_MOST,r_MOST⟩:=g_MOST;refine F.okXA C75 λcdv A outer s H vs Q E hr h=>?_;obtain @⟨d,p,c,N,rfl,h1,hA,hb,hN,hR,q,qe⟩:=h;refine ⟨_,(za (ps_s 2 C75.nd (zf o41x hr rfl (pa1 (pv 1)))) (za (zu (zj (DJ hr.units) (pv 2) (zf o43x hr rfl (pa1 (pv 2))) (zp _)) (zd (zi (zo (pa1 zG)))) zn) (za (ps_s 3 C75.nd (zf o52x hr rfl (pa1 (pv 2)))) (za (zu (zj B7 (pv 3) vq (zp _)) (zd (zi (zo (pa2 zG (pv 3))))) zn) (za (ps_s 4 C75.nd (zf o53x hr rfl (pa2 (pv 0) (pv 2)))) (za (ps_s 5 C75.nd (zx z5)) (za (zQ PassesOwn.leaving rfl (zJ (pv 4)) (pg_n 6 C75.nd) (zd (zH (yW aM gy gz Aj (pv 5) (pa1 (AZ vi o50x hr rfl (pa2 (pv 0) (pv 6)))))))) (za (zu (zj xw (zq zy rfl B.len br (pa1 (pv 5))) (zA (v:=.int (400)) rfl m_MOST r_MOST) (zp _)) (zd (Bw tM X.o_TooMany X.m_TooMany rfl rfl)) zn) (za (ps_s 7 C75.nd (zf o47x hr rfl (pa3 (pv 0) (pv 1) (pv 4)))) (zd (zi (zo (pa3 zG (zf o36x hr rfl (pa3 (zq zy rfl B.len br (pa1 (pv 1))) (pit 7) (zf o51x hr rfl (pa3 (pv 0) (pv 4) (pit 7))))) (pv 5)))))))))))))),?_⟩;walk_at "s";obtain ⟨N1,N4⟩:=hN;have oN:=so_N hR N1 N4;have o1:=so_N hR (N:=1) ⋯ ⋯;have oB:BoD d 1 10 c.b:=by rw [hb]; exact ⟨oN,o1⟩
  have b1:Bd 1 (1:Int):=by decide
  have hd:Bd 64 d:=zw (B:=99) (by have:=hR.lo; lia) hR.hi (!3);have ok1:∀ x∈[c],S19 x.b.w/\S19 x.b.h:=λx hx=>by rw [ak.mp hx]; exact oB.s19 ⋯ b1 ⋯ ⋯
  have hB4:=Hl ok1 (!1);have tb:=tb_N (N:=N);rw [<-hb] at tb;have h1:H p=some (.lst ([c].map Cell.v)):=h1;have btt:=(L9 (d:=d) (D:=1) (M:=10) (K:=1) (n:=1) (l:=[c.b]) (λb hb=>by rw [ak.mp hb]; exact oB) ⋯ b1 (!1))
  exists AR rfl (L:=[c]) h1 (λx hx=>by rw [ak.mp hx]; exact hA) ok1 hB4 (!1) λt1 H1 s1 e1=>?_;have e1:TbAt H1 t1 (tbs [c.b]):=e1;exists Lp rfl e1 λt2 H2 s2 e2=>?_;have tt:(tbs [c.b]).tr=tbs [c.b]:=by rw [tb]; rfl
  rw [tt] at e2;have e1:=e1.same s2;exists JV e1 e2 ?_;exists wW rfl e1 (btt.mono ⋯ ⋯) (by rw [tb]; show 0<(((N:Int):Rat)).num; exact (show (0:Int)<(N:Int) by lia)) (by have:=Fn c.b; exact this) ?_;walk_at "r";rw [show decide (V.non=V.non)=true from iJ rfl];exists vJ rfl (N:=N) e1 (btt.mono ⋯ ⋯) hR N1 (by rw [tb]) (by rw [tb]) (by rw [tb]) λrb pc pw ph H3 s3 nb e3 c3=>?_;have s13:=(s1.trans s2).trans s3;exists zE (!1) λtl H4 nt s4 e4=>?_;have e34:=s4 _ _ e3;have c4:=c3.same s4;have nrt:rb≠tl:=zc e3 nt;have s14:=s13.trans s4;have bN3:Bd 300 (N:Int):=zw (B:=401) (!2) (!2) (!3);have b13:Bd 300 ((1:Nat):Int):=by decide +kernel
  have ew:=(B1 N N1).symm;have t4:tot (eu N 1)=N:=by rw [Jb N1]; show N+0=N; lia
  have up1:sgn d 1 0=1:=Ci hR;exists yK ?_;exists ⟨rb,rfl,⟨_,SqL.of e34⟩,zS (K:=K) (a:=rb) (xs:=[.ref pc]) (λi σ H'=>E2 λ(v:Option V) (C:List Cell)=>A5 (σ=[vI d,vR p,vR t1,some .non,vR rb,vR tl,v,none]) (H' tl=some (.lst (C.map Cell.v))) (C.length=i*N) ((1<=i->N<=400)) (SameX tl H4 H')) ⟨_,[],rfl,e4,by simp,(λz=>absurd z ⋯),λb o e _=>e⟩ (λi σ H' _ z=>by obtain ⟨_,_,_,_,_,_,z⟩:=z; exact SqL.of (z _ _ e34 nrt)) ?_ ?_⟩
  . rintro i x σ H' hi ⟨v,C,rfl,el,lC,_,sx⟩;have i0:i=0:=by have:=(af.mp hi).1; simpa using this
    subst i0;have hx:x=.ref pc:=(ao hi).symm;subst hx;have cc:Cell.At H' ⟨pc,pw,ph,⟨⟨(N:Int),0,1⟩,⟨1,0,1⟩⟩⟩:=c4.sameX sx e4;have S0:Same H H':=λb o e=>sx _ _ (s14 _ _ e) (zc (s13 _ _ e) nt);exists wt rfl (c:=⟨pc,pw,ph,⟨⟨(N:Int),0,1⟩,⟨1,0,1⟩⟩⟩) (w:=N) (h:=1) cc DA up1 hR ⟨N1,ag _⟩ ⟨bN3,b13⟩ (Nat.gcd_one_right _) ew (λtle r5 H5 C5 s5 e5 hA5 hs5=>?_) (λtm Hx sX=>qe (!2) Hx (S0.trans sX));have l5:C5.length=N:=by
      have:=congrArg List.length hs5;rw [aa,aa,wM,t4] at this;exact this
    have el5:=s5 _ _ el;exists BQ el5 e5 (by rw [aa,aa]; lia) λH6 x6 e6=>?_;walk_at "r";exact ⟨_,C++C5,rfl,by rw [ai]; exact e6,by rw [ah]; lia,(λ_=>by lia),(sx.trans (s5.sameX tl)).trans x6⟩
  rintro σ H5 ⟨v,C,rfl,el,lC,hN4,sx⟩;have lC:C.length=N:=by rw [lC]; show 1*N=N; lia
  have hN4:N<=400:=hN4 (ag _);have S5:Same H H5:=λb o e=>sx _ _ (s14 _ _ e) (zc (s13 _ _ e) nt);have c5:Cell.At H5 ⟨pc,pw,ph,⟨⟨(N:Int),0,1⟩,⟨1,0,1⟩⟩⟩:=c4.sameX sx e4;have e35:=sx _ _ e34 nrt;walk_at "r";rw [aa,lC];refine if_d (λc=>absurd c (!2)) (λ_=>?_);have wh1:∀ x∈[c],Wh d 1 1 10 10 10 x.b:=λx hx=>by rw [ak.mp hx]; exact ⟨oB.1,⟨(oB.1.sk ⋯ b1).bx,(oB.1.sk ⋯ b1).by'⟩,oB.2⟩
  have wh2:∀ x∈[(⟨pc,pw,ph,⟨⟨(N:Int),0,1⟩,⟨1,0,1⟩⟩⟩:Cell)],Wh d 1 1 10 10 10 x.b:=λx hx=>by rw [ak.mp hx]; exact ⟨oN,⟨(oN.sk ⋯ b1).bx,(oN.sk ⋯ b1).by'⟩,o1⟩
  have ok2:∀ x∈[(⟨pc,pw,ph,⟨⟨(N:Int),0,1⟩,⟨1,0,1⟩⟩⟩:Cell)],S19 x.b.w/\S19 x.b.h:=λx hx=>(wh2 x hx).s19 ⋯ b1 ⋯ b1 ⋯ ⋯ ⋯ ⋯;exists KH rfl (C1:=[c]) (C2:=[⟨pc,pw,ph,⟨⟨(N:Int),0,1⟩,⟨1,0,1⟩⟩⟩]) (N0:=1) (Eh:=1) (kx:=10) (kN:=1) (kw:=10) (kE:=1) (kh:=10) (M:=200) (S5 _ _ h1) e35 (λx hx=>by rw [ak.mp hx]; exact hA.same S5) (λx hx=>by rw [ak.mp hx]; exact c5) wh1 ok1 hB4 (λ_=>wh2) ok2 (Hl ok2 (!1)) ⟨by decide,by decide,by decide,by decide,by decide,by decide,by decide,by decide,by decide⟩ ⟨by decide,b1⟩ ⟨by decide,b1⟩ ⟨by simp,by simp⟩ ⟨by simp,by simp⟩ hR (λeq r pl pp H6 ps es qs D' s6 e6 npl npp nab epl hr hl epp sz P=>?_) (λr H6 i j s6 e6 fu=>absurd (congrArg (cmT (2*i+j)) (show tbs [c.b]=tbs [_] by rw [hb])) fu.ne);have hq:qs=[0]:=by have:=P.p; simpa [eI] using this
  subst hq;have P:Plan d false D' 200 [c.b] [⟨⟨(N:Int),0,1⟩,⟨1,0,1⟩⟩] es [0]:=P;have eF:=FM P;have h16:=(S5.trans s6) _ _ h1;exists CV rfl (Bs:=[⟨pc,pw,ph,⟨⟨(N:Int),0,1⟩,⟨1,0,1⟩⟩⟩]) (xs:=[⟨0,λu:Nat=>frS ⟨1,0,1⟩ (u:Int) ((1:Nat):Int),xy (euW N 1)⟩]) (s6 _ _ e35) (λx hx=>by rw [ak.mp hx]; exact c5.same s6) epp ⟨rfl,by simp⟩ hR (λk c' x hk hx=>?_) λr7 H7 ms s7 nr7 e7 hr7=>?_
  . have k0:k=0:=by have:=(af.mp hk).1; simpa using this
    subst k0;have hc':=ao hk;have hx':=ao hx;subst hc' hx';exact ⟨N,1,DA,up1,⟨N1,ag _⟩,⟨bN3,b13⟩,Nat.gcd_one_right _,ew,by lia,rfl,rfl⟩
  have U:=Ls (s:=⟨1,0,1⟩) (h:=1) (K:=N) hR DA up1 ⋯ b13 bN3;have lW:(xy (euW N 1)).length=N:=by rw [wS,Bn _ N 1 (ag _),t4]
  obtain ⟨w7,_⟩:=GG hR U (λu=>MG ⋯ ⋯ u) false (Gg _ N 1 (ag _) (!2) ⋯) (ag _) N1 (As.sb [⟨⟨(N:Int),0,1⟩,⟨1,0,1⟩⟩]) 0 (by show 0∈List.range 1; simp) (λa ha=>by have:a∈List.range 1:=ha; show a<1; simpa using this) (by show (⟨⟨(N:Int),0,1⟩,⟨1,0,1⟩⟩:Bo)=⟨frS ⟨1,0,1⟩ (N:Int) ((1:Nat):Int),frS ⟨1,0,1⟩ ((1:Nat):Int) ((1:Nat):Int)⟩; rw [show ((1:Nat):Int)=1 from rfl,B1 N N1]; rfl);have ca:cutAll 1 [⟨0,λu:Nat=>frS ⟨1,0,1⟩ (u:Int) ((1:Nat):Int),xy (euW N 1)⟩]=oneD 1 ⟨0,λu:Nat=>frS ⟨1,0,1⟩ (u:Int) ((1:Nat):Int),xy (euW N 1)⟩:=bG _;have hr7:Runs H7 ms (oneD 1 ⟨0,λu:Nat=>frS ⟨1,0,1⟩ (u:Int) ((1:Nat):Int),xy (euW N 1)⟩):=by rw [<-ca]; exact hr7
  have lm:ms.length<=400:=by
    rw [hr7.1];show (cutD _ _ _ _).length+1<=400;rw [Bz,cU,lW]
    lia
  have e67:=s7 _ _ e6;walk_at "r";rw [show (([c].map Cell.v).length:Int)=(([c.b].length:Nat):Int) from rfl];refine vV rfl (bs:=[c.b]) (!1) (!1) (s7 _ _ epl) (by simp at hl; lia) (hr.same s7) P.w e7 lm hr7 eF w7 λpf qs' H8 s8 nf e8 hr8=>?_;exists zr (!1) λr9 H9 s9 e9=>?_;have s69:=((s6.trans s7).trans s8).trans s9;exact q hN4 r9 pf tl H9 C (S5.trans s69) e9 (s69 _ _ el) lC
theorem K71(F:Fun K "_law_told" "_law_told" S69 f fd)(B:Bl mg)(X:Xs K mg cs)(o54x:OwnX P w K mg base 10 "squares" ["d","heap"] [] (P70 K cs))(o50x:O50x P w K mg base cs):FnOk P w K mg base CX0 11 f fd ["_law_d","_law_one","_law_whole_heap"] (P71 K cs):=by
  refine F.okA C76 λcdv A outer s H vs Q E hr h=>?_;obtain @⟨d,c,wh,w,h,N,rfl,hA,hR,hN,hc,q⟩:=h;refine ⟨_,(za (ps_s 3 C76.nd vq) (za (ps_s 4 C76.nd vq) (za (Ky (j:=5) rfl rfl C76.nd rfl rfl X.o_YardError X.m_YardError rfl (λpl EE=>(zd (zu (yb (pv 2)) (zd (ps_s 4 C76.nd (Ff o54x hr rfl (pa2 (pv 0) (zx (pa1 (pv 1))))))) (zd (ps_s 4 C76.nd (Ff o50x hr rfl (pa2 (pv 0) (pv 1)))))))) (λ_=>(zd (ps_s 3 C76.nd (pv 5))))) (za (zu (zj IC (pv 3) vq (zp _)) (zd (zi (zx (pa1 (zq zy rfl B.len br (pa1 (pe_i ix_list (zx (pa2 (pv 4) (pe_i Ku (pv 4) (Ac wp ze)))) (yE D8 rfl B.int HD (pa1 (pv 2)))))))))) zn) (za (zu (PW.pt (AC (y4 (yb (zq wC rfl B.isinstance zL (pa2 (pv 3) (zA (v:=.ref cs.TooMany) rfl X.m_TooMany rfl))))) (v9 (y4 (yb (zq wC rfl B.isinstance zL (pa2 (pv 3) (xR (v:=.ty "ValueError") rfl B.ValueError uD rfl)))))))) (zd (zi (zx (pa1 zG)))) zn) (za (zu (yb (zq uw rfl B.isinstance zL (pa2 (pv 3) (zo (zv (zA (v:=.ref cs.NoLength) rfl X.m_NoLength rfl) (zv (zA (v:=.ref cs.NoBoard) rfl X.m_NoBoard rfl) (zv (zA (v:=.ref cs.NoText) rfl X.m_NoText rfl) (zv (zA (v:=.ref cs.NoDeed) rfl X.m_NoDeed rfl) (zv (zA (v:=.ref cs.NoName) rfl X.m_NoName rfl) (zv (zA (v:=.ref cs.Grain) rfl X.m_Grain rfl) (zv (zA (v:=.ref cs.Unfit) rfl X.m_Unfit rfl) (zv (zA (v:=.ref cs.NoRow) rfl X.m_NoRow rfl) (zv (zA (v:=.ref cs.Apart) rfl X.m_Apart rfl) z5))))))))))))) (zd (zi (zx (pa1 zG)))) zn) (zd (zi (zx z5))))))))),?_⟩;walk_at "s";exists MK ?_;walk_at "r";rcases hc with ⟨rfl,ok,up,hwh,hbb,hg,ew,eN⟩|⟨rfl,hb,N4⟩
  . exists D3 ?_;exists wt rfl hA ok up hR hwh hbb hg ew (λtle r1 H1 C s1 e1 hA1 hs=>?_) (λtm H1 s1=>GR X.s_TooMany λx hx=>?_)
    . have lC:C.length=N:=by
        have:=congrArg List.length hs;rw [aa,aa,wM] at this
        lia
      obtain ⟨C0,cl,hC⟩:∃ C0 cl,C=C0++[cl]:=⟨C.dropLast,C.getLast (λz=>by rw [z] at lC; simp at lC; lia),(fj _).symm⟩
      dsimp only [List.set_cons_zero,List.set_cons_succ];walk_at "r";dsimp only [tryD,List.set_cons_zero,List.set_cons_succ];rw [show decide (V.non=V.non)=true from iJ rfl];walk_at "r";have gl:atI (C.map Cell.v) (-1)=some cl.v:=by
        rw [hC,ai];unfold atI ixN;simp;rw [im (!2)];show (C0.map Cell.v++[cl.v])[(-1+((C0.length:Int)+1)).toNat]?=_;rw [show (-1+((C0.length:Int)+1)).toNat=(C0.map Cell.v).length by rw [aa]; lia];simp
      refine JP (.inl e1) gl ?_;exists yl (!1) λl2 H2 s2 e2=>?_;have e12:=s2 _ _ e1;walk_at "r";rw [aa,lC];refine yl (!1) λr3 H3 s3 e3=>?_;exact q r3 H3 ((s1.trans s2).trans s3) (by rw [e3,im (!2)]; rfl)
    have s2:Same H1 (upd H1 x (ExcO x cs.TooMany)):=zD hx _;have ea:upd H1 x (ExcO x cs.TooMany) x=some (ExcO x cs.TooMany):=zk;generalize upd H1 x (ExcO x cs.TooMany)=H2 at *
    dsimp only [List.set_cons_zero,List.set_cons_succ];walk_at "r";dsimp only [tryD,List.set_cons_zero,List.set_cons_succ];walk_at "r";rw [show decide (V.ref x=V.non)=false from il (λz=>nomatch z)];exists F2 ea X.o_TooMany rfl X.k_TooMany_TooMany ?_;exists F2 ea X.o_TooMany rfl X.k_TooMany_ValueError ?_;exists zr (!1) λtp H3 s3 e3=>?_;exists GX (cl:=[cs.NoLength,cs.NoBoard,cs.NoText,cs.NoDeed,cs.NoName,cs.Grain,cs.Unfit,cs.NoRow,cs.Apart]) (s3 _ _ ea) X.o_TooMany e3 rfl (λc hc=>?_) ?_
    . simp only [aU,gR,or_false] at hc;rcases hc with rfl|rfl|rfl|rfl|rfl|rfl|rfl|rfl|rfl
      . exact X.k_TooMany_NoLength
      . exact X.k_TooMany_NoBoard
      . exact X.k_TooMany_NoText
      . exact X.k_TooMany_NoDeed
      . exact X.k_TooMany_NoName
      . exact X.k_TooMany_Grain
      . exact X.k_TooMany_Unfit
      . exact X.k_TooMany_NoRow
      . exact X.k_TooMany_Apart
    exists yl (!1) λr4 H4 s4 e4=>?_;exact q r4 H4 (((s1.trans s2).trans s3).trans s4) (by rw [e4,io (!2)]; rfl)
  . exists D3 ?_;exists yl (!1) λlo H0 s0 e0=>?_;refine Dp rfl e0 (hA.same s0) hb ⟨hN,N4⟩ hR (λtle r1 pl ph H1 C s1 e1 eph lC=>?_) (λtm H1 s1'=>GR X.s_TooMany λx hx=>?_)
    . have s01:=s0.trans s1;dsimp only [List.set_cons_zero,List.set_cons_succ];walk_at "r";dsimp only [tryD,List.set_cons_zero,List.set_cons_succ];walk_at "r";rw [show decide (V.non=V.non)=true from iJ rfl];exists JP (.inr e1) (v:=.ref ph) rfl ?_;exists yl (!1) λl2 H2 s2 e2=>?_;have e12:=s2 _ _ eph;walk_at "r";rw [aa,lC];refine yl (!1) λr3 H3 s3 e3=>?_;exact q r3 H3 ((s01.trans s2).trans s3) (by rw [e3,im (!2)]; rfl)
    have s1:=s0.trans s1';have s2:Same H1 (upd H1 x (ExcO x cs.TooMany)):=zD hx _;have ea:upd H1 x (ExcO x cs.TooMany) x=some (ExcO x cs.TooMany):=zk;generalize upd H1 x (ExcO x cs.TooMany)=H2 at *
    dsimp only [List.set_cons_zero,List.set_cons_succ];walk_at "r";dsimp only [tryD,List.set_cons_zero,List.set_cons_succ];walk_at "r";rw [show decide (V.ref x=V.non)=false from il (λz=>nomatch z)];exists F2 ea X.o_TooMany rfl X.k_TooMany_TooMany ?_;exists F2 ea X.o_TooMany rfl X.k_TooMany_ValueError ?_;exists zr (!1) λtp H3 s3 e3=>?_;exists GX (cl:=[cs.NoLength,cs.NoBoard,cs.NoText,cs.NoDeed,cs.NoName,cs.Grain,cs.Unfit,cs.NoRow,cs.Apart]) (s3 _ _ ea) X.o_TooMany e3 rfl (λc hc=>?_) ?_
    . simp only [aU,gR,or_false] at hc;rcases hc with rfl|rfl|rfl|rfl|rfl|rfl|rfl|rfl|rfl
      . exact X.k_TooMany_NoLength
      . exact X.k_TooMany_NoBoard
      . exact X.k_TooMany_NoText
      . exact X.k_TooMany_NoDeed
      . exact X.k_TooMany_NoName
      . exact X.k_TooMany_Grain
      . exact X.k_TooMany_Unfit
      . exact X.k_TooMany_NoRow
      . exact X.k_TooMany_Apart
    exists yl (!1) λr4 H4 s4 e4=>?_;exact q r4 H4 (((s1.trans s2).trans s3).trans s4) (by rw [e4,io (!2)]; rfl)
theorem uf{g:Nat}(g0:0<g):∀ (n w h:Nat),w+h<=n->tot (eu (g*w) (g*h))=tot (eu w h)
  | n,w,h,hn=>by
    by_cases c:w=0\/h=0
    . rw [yG c,yG (by rcases c with rfl | rfl; exact .inl rfl; exact .inr rfl)]
    . match n,hn with
      | 0,hn=>lia
      | n+1,hn =>
        have w0:0<w:=by lia
        have h0:0<h:=by lia
        by_cases k:w<h
        . have hm:=bR h w0;rw [wF w0 k,wF (hW g0 w0) (Nat.mul_lt_mul_of_pos_left k g0),Nat.mul_div_mul_left _ _ g0,Nat.mul_mod_mul_left];show _+tot (eu (g*w) (g*(h % w)))=_+tot (eu w (h % w));rw [uf g0 n w (h % w) (!2)]
        . have hm:=bR w h0;rw [xT h0 (!2),xT (hW g0 h0) (Nat.mul_le_mul_left g (!2)),Nat.mul_div_mul_left _ _ g0,Nat.mul_mod_mul_left];show _+tot (eu (g*(w % h)) (g*h))=_+tot (eu (w % h) h);rw [uf g0 n (w % h) h (!2)]
theorem AH:∀ (n w h:Nat),w+h<=n->tot (eu w h)=tot (eu h w)
  | n,w,h,hn=>by
    by_cases c:w=0\/h=0
    . rw [yG c,yG c.symm]
    . match n,hn with
      | 0,hn=>lia
      | n+1,hn =>
        have w0:0<w:=by lia
        have h0:0<h:=by lia
        rcases gs w h with k|k|k
        . have hm:=bR h w0;rw [wF w0 k,xT w0 (!2)];show _+tot (eu w (h % w))=_+tot (eu (h % w) w);rw [AH n w (h % w) (!2)]
        . rw [k]
        . have hm:=bR w h0;rw [xT h0 (!2),wF h0 k];show _+tot (eu (w % h) h)=_+tot (eu h (w % h));rw [AH n (w % h) h (!2)]
theorem FN{s:Sd}{g a b:Nat}(z:s.z≠0)(g0:0<g)(b0:0<b):frS s ((g*a:Nat):Int) ((g*b:Nat):Int)=frS s (a:Int) (b:Int) :=
  sd_low (ay z (by have:=hW g0 b0; lia)) (ay z (!2)) (by rw [d8,d8]; grind) (by rw [d8,d8]; grind)
theorem Iu{s:Sd}{a b:Nat}(z1:1<=s.z)(g:g3 s.x s.y s.z=1)(a0:0<a)(b0:0<b):s=frS (frS s (a:Int) (b:Int)) (b:Int) (a:Int):=by
  have n:s.z*(b:Int)≠0:=ay (!2) (!2);have e1:(frS s (a:Int) (b:Int)).x*(s.z*(b:Int))=s.x*(a:Int)*(frS s (a:Int) (b:Int)).z:=l_a;have e2:(frS s (a:Int) (b:Int)).y*(s.z*(b:Int))=s.y*(a:Int)*(frS s (a:Int) (b:Int)).z:=l_b;have z2:1<=(frS s (a:Int) (b:Int)).z:=l_n n;generalize frS s (a:Int) (b:Int)=t at *
  obtain ⟨x,y,z⟩:=zC (x:=s.x) (y:=s.y) (z:=s.z) (a:=t.x*(b:Int)) (b:=t.y*(b:Int)) (n:=t.z*(a:Int)) z1 g (ay (!2) (!2)) (by grind) (by grind);show s=⟨_,_,_⟩
  rw [<-x,<-y,<-z]
theorem Jt{N:Nat}:(lA (N:Int) 0 1,lB (N:Int) 0 1,lN (N:Int) 0 1)=((N:Int),0,1):=by
  obtain ⟨x,y,z⟩:=zC (x:=(N:Int)) (y:=0) (z:=1) (a:=(N:Int)) (b:=0) (n:=1) ⋯ (by unfold g3; simp) ⋯ rfl rfl;rw [<-x,<-y,<-z]
theorem K72(F:Fun K "law" "law" S71 f fd)(B:Bl mg)(o58x:Own P w K mg base 2 "_law_root" ["_law_script"] [] (P34 K))(o56x:O56x P w K mg base)(o62x:Own P w K mg base 4 "_law_length" ["_law_d","_law_number"] [] P58)(o3x_1:Own P w K mg base 2 "length" ["a","b","n"] [.int 0,.int 1] P23)(o9x:O9x P w K mg base)(o65x:Own P w K mg base 11 "_law_told" ["_law_d","_law_one","_law_whole_heap"] [] (P71 K cs))(o66x:Own P w K mg base 2 "_law_due" ["_law_wide","_law_high"] [] (P36 K))(o3x:O3x P w K mg base):FnOk P w K mg base CX0 12 f fd ["_law_script"] (FX K):=by
  refine F.ok (k:=11) C77 (λvs H Q E h=>by obtain ⟨a,ns,rfl,hS,h63,hbd,q⟩:=h; rfl) (λcdv A outer s H vs Q E hr h=>?_);obtain ⟨a,ns,rfl,hS,h63,hbd,q⟩:=h;refine ⟨_,(za (ps_s 1 C77.nd (zf o58x hr rfl (pa1 (pv 0)))) (za (zQ PassesOwn.never rfl (xN rfl B.range (pa2 ze (zq (Fj rfl) rfl B.min GY (pa2 (zq zy rfl B.len br (pa1 (pv 0))) ze)))) (pg_n 2 C77.nd) (za (ps_s 3 C77.nd (zf o56x hr rfl (pa2 (pe_i ix_list (pv 0) (pv 2)) (pv 2)))) (za (ps_s 4 C77.nd (pe_i ix_list (zx (pa2 (zg zK ze (zg zX (pv 3) ze)) (zg zK ze (zg zX (pv 3) ze)))) (zg zX (zg zz (pv 3) ze) ze))) (za (ps_s 5 C77.nd (pe_i ix_list (zx (pa2 (zg zK ze (zg zX (zg zz (pv 3) ze) ze)) ze)) (zg zX (zg zz (pv 3) ze) ze))) (za (ps_s 6 C77.nd (zf o62x hr rfl (pa2 (pv 1) (zg zX (zg zl (pv 3) ze) ze)))) (za (ps_s 7 C77.nd (zo (pa2 (zf o9x hr rfl (pa3 (pv 1) (pv 6) (zf o3x hr rfl (pa3 (pv 4) ze (pv 5))))) (pv 6)))) (za (vZ (zu (zj z8 (zg zX (zg zz (pv 3) ze) ze) ze (zp _)) (zd (ps_s 7 C77.nd (zo (pa2 (pit 7) (pit 7))))) zn)) (zd (zu (zj (Em hr.units) (zf o65x hr rfl (pa3 (pv 1) (pv 7) yY)) (zf o66x hr rfl (pa2 (pv 4) (pv 5))) (zp _)) (zd (zi yY)) zn))))))))) (za (ps_s 7 C77.nd (zo (pa2 (zf o3x_1 hr rfl (pa1 ze)) (zf o3x_1 hr rfl (pa1 ze))))) (za (ps_s 8 C77.nd (zo (pa2 (zf o3x_1 hr rfl (pa1 ze)) (zf o3x_1 hr rfl (pa1 ze))))) (za (zu (PW.pt (AC (zj (Em hr.units) (zf o65x hr rfl (pa3 (pv 1) (pv 7) yY)) (zx (pa1 ze)) (zp _)) (v9 (zj (Em hr.units) (zf o65x hr rfl (pa3 (pv 1) (pv 8) yY)) (zx z5) (zp _))))) (zd (zi yY)) zn) (zd (zi (Dh (yh (HX hr.units) (zf o65x hr rfl (pa3 (pv 1) (pv 7) yY)) (zx (pa1 ze)) (zp _)) (BU (yh (HX hr.units) (zf o65x hr rfl (pa3 (pv 1) (pv 8) yY)) (zx z5) (zp _))))))))))),?_⟩;walk_at "s";exists A0 rfl hS λd H0 hR s0=>?_;have dlo:=hR.lo;have hd:Bd 64 d:=zw (B:=99) (!2) hR.hi (!3);have hS0:=s0.seq hS;exists AU ?_;exists ⟨a,_,rfl,.inl hS0,?_⟩;walk_at "r";have hl:(((ns.map V.int).length:Nat):Int)=ns.length:=by rw [aa]
  rw [hl];obtain ⟨m,hm,hm2,hm3⟩:∃ m:Nat,(if (13:Int)<ns.length then (13:Int) else ns.length)=m/\m<=ns.length/\m<=13:=by
    split
    . exact ⟨13,rfl,by lia,by lia⟩
    . exact ⟨ns.length,rfl,ag _,by lia⟩
  rw [hm];refine ⟨1,m,rfl,⟨by decide,by decide,by lia,by lia⟩,xb (lo:=1) (n:=((m:Int) - 1).toNat) (λi σ H'=>E6 λv2 v3 v4 v5 v6 v7=>A2 (σ=[vR a,vI d,v2,v3,v4,v5,v6,v7,none]) (Same H0 H')) ⟨_,_,_,_,_,_,rfl,Same.refl _⟩ ?_ ?_⟩
  . rintro i σ H' hi ⟨v2,v3,v4,v5,v6,v7,rfl,s⟩;obtain ⟨c,_,ec⟩:=HP (xs:=ns) (i:=1+(i:Int)) (!2) (!2);exists ⟨a,_,_,_,rfl,rfl,s.seq hS0,ec,?_⟩;exists wy rfl (!2) (!2) λr r0 r1=>?_;have rb:Bd 32 r:=zw (B:=2147483629) r0 (!2) (!3);have m0:=cP (r*69621) (b:=2147483579) ⋯;have m1:=dc (r*69621) (b:=2147483579) ⋯;exists yl (!1) λl1 H1 s1 e1=>?_;walk_at "r";have h2:r / 7 % 2=0\/r / 7 % 2=1:=by lia
    obtain ⟨w,gw,w1,w9⟩:∃ w:Nat,atI [V.int (1+r % 900),V.int (398+r % 5)] (r / 7 % 2)=some (.int (w:Int))/\1<=w/\w<=900:=by
      rcases h2 with h2|h2
      . exact ⟨(1+r % 900).toNat,by rw [h2,show (((1+r % 900).toNat:Nat):Int)=1+r % 900 by lia]; rfl,by lia,by lia⟩
      . exact ⟨(398+r % 5).toNat,by rw [h2,show (((398+r % 5).toNat:Nat):Int)=398+r % 5 by lia]; rfl,by lia,by lia⟩
    obtain ⟨h,gh,h1,h9⟩:∃ h:Nat,atI [V.int (1+r / 900 % 9),V.int 1] (r / 7 % 2)=some (.int (h:Int))/\1<=h/\h<=9:=by
      rcases h2 with h2|h2
      . exact ⟨(1+r / 900 % 9).toNat,by rw [h2,show (((1+r / 900 % 9).toNat:Nat):Int)=1+r / 900 % 9 by lia]; rfl,by lia,by lia⟩
      . exact ⟨1,by rw [h2]; rfl,by decide,by decide⟩
    refine wV e1 gw ?_;exists yl (!1) λl2 H2 s2 e2=>?_;exists wV e2 gh ?_;exists uJ rfl ⟨m0,by lia⟩ hR λp1 H3 hs s3 e3 ok up=>?_;have hz:=ok.ne;have hh:(h:Int)≠0:=by lia
    have bw:Bd 20 (w:Int):=zw (B:=900) (!2) (!2) ⋯;have bh:Bd 20 (h:Int):=zw (B:=9) (!2) (!2) ⋯;have n1:=l_n (a:=(w:Int)) (b:=0) hh;exists zO rfl hh (bh.mono ⋯) (λu H4 s4 e4=>?_) (bw.mono ⋯) (!3);have e3:=s4 _ _ e3;exists Au e3 e4 hd (ok.bx.mono ⋯) (ok.by'.mono ⋯) (ok.bz.mono ⋯) (Bd.fdiv (bw.mono ⋯) _) (Bd.fdiv (!3) _) (Bd.fdiv (bh.mono ⋯) _) hz (!2) λr5 H5 s5 e5=>?_;have e5:SdAt H5 r5 (frS hs (w:Int) (h:Int)):=by
      rw [<-Mu (d:=d) hz hh];exact e5
    have e3:=s5 _ _ e3;exists zr (!1) λp6 H6 s6 e6=>?_;have e3:SdAt H6 p1 hs:=s6 _ _ e3;have e5:=s6 _ _ e5;have s06:=((((s.trans s1).trans s2).trans s3).trans s4).trans (s5.trans s6);clear e1 e2 e4 s1 s2 s3 s4 s5 s6;have g0:0<Nat.gcd w h:=Nat.gcd_pos_of_pos_left _ w1;obtain ⟨a',ha'⟩:=gL w h;obtain ⟨b',hb'⟩:=gq w h;have gab:Nat.gcd a' b'=1:=by
      have h:=Nat.gcd_mul_left (Nat.gcd w h) a' b';rw [<-ha',<-hb'] at h;exact dg g0 (by rw [fD]; exact h.symm)
    have a0:0<a':=Nat.pos_of_ne_zero λz=>by rw [z,ij] at ha'; lia
    have b0:0<b':=Nat.pos_of_ne_zero λz=>by rw [z,ij] at hb'; lia
    have aw:a'<=w:=by rw [ha']; exact cY _ g0
    have bh':b'<=h:=by rw [hb']; exact cY _ g0
    have efr:frS hs (w:Int) (h:Int)=frS hs (a':Int) (b':Int):=by
      have z:=FN (s:=hs) (a:=a') hz g0 b0;rw [<-ha',<-hb'] at z;exact z
    have eto:tot (eu w h)=tot (eu a' b'):=by
      have z:=uf g0 _ a' b' (ag _);rw [<-ha',<-hb'] at z;exact z
    rw [efr] at e5;have ba:Bd 300 (a':Int):=zw (B:=900) (!2) (!2) (!3);have bb:Bd 300 (b':Int):=zw (B:=900) (!2) (!2) (!3);have ok6:SK 600 600 hs:=ok.mono ⋯ ⋯;have N1:1<=tot (eu w h):=by
      have h1:=AE (eu w h) (Bj _ w h (ag _));have h3:eu w h≠[]:=by
        by_cases k:w<h
        . rw [wF w1 k]; exact λz=>nomatch z
        . rw [xT (!2) (!2)]; exact λz=>nomatch z
      have:=bM.mpr h3
      lia
    exists CP (T:=λσ' H'=>E3 λ(cc:Cell) (wa hb:Nat)=>A10 (σ'=[vR a,vI d,vI (1+(i:Int)),vI r,vI (w:Int),vI (h:Int),vR p1,vR cc.p,none]) (Same H6 H') (cc.At H') (SK 600 600 cc.b.h) (sgn d cc.b.h.x cc.b.h.y=1) ((1<=wa/\1<=hb)) ((Bd 300 (wa:Int)/\Bd 300 (hb:Int))) (Nat.gcd wa hb=1) (cc.b.w=frS cc.b.h (wa:Int) (hb:Int)) (tot (eu w h)=tot (eu wa hb))) ?_ ?_
    . exists if_d (λk=>?_) (λk=>?_)
      . exists zr (!1) λp7 H7 s7 e7=>?_;walk_at "r";have sy:=(Ls (s:=hs) (h:=b') (K:=a') hR ok6 up b0 bb ba).sy a' a0 (ag _);have zb:hs.z*(b':Int)≠0:=ay hz (!2);exact ⟨⟨p7,p1,r5,⟨hs,frS hs (a':Int) (b':Int)⟩⟩,b',a',rfl,s7,⟨e7,s7 _ _ e3,s7 _ _ e5⟩,⟨l_n zb,xu zb,Bd.fdiv ((ok.bx.mul ba).mono ⋯) _,Bd.fdiv ((ok.by'.mul ba).mono ⋯) _,Bd.fdiv ((ok.bz.mul bb).mono ⋯) _⟩,sy.2,⟨b0,a0⟩,⟨bb,ba⟩,(Nat.gcd_comm _ _).trans gab,Iu ok.z1 ok.g a0 b0,eto.trans (AH _ a' b' (ag _))⟩
      . walk_at "r";exact ⟨⟨p6,r5,p1,⟨frS hs (a':Int) (b':Int),hs⟩⟩,a',b',rfl,Same.refl _,⟨e6,e5,e3⟩,ok6,up,⟨a0,b0⟩,⟨ba,bb⟩,gab,rfl,eto⟩
    rintro σ' H7 ⟨cc,wa,hb,rfl,s7,hcc,o1,o2,o3,o4,o5,o6,o7⟩;exists yw rfl (wh:=false) (w:=wa) (h:=hb) (N:=tot (eu w h)) hcc hR N1 (.inl ⟨rfl,o1,o2,o3,o4,o5,o6,o7⟩) λr8 H8 s8 e8=>?_;exists CM rfl ⟨w9,by lia⟩ λr9 H9 s9 e9=>?_;exists EI (s9 _ _ e8) e9 ?_;walk_at "r";exact ⟨_,_,_,_,_,_,rfl,((s06.trans s7).trans s8).trans s9⟩
  rintro σ H' ⟨v2,v3,v4,v5,v6,v7,rfl,s⟩;have mk:∀ {Hx:Hp} {u:Addr} {N:Nat},Hx u=some (.tup [.int (lA (N:Int) 0 1),.int (lB (N:Int) 0 1),.int (lN (N:Int) 0 1)])->SdAt Hx u ⟨(N:Int),0,1⟩:=λ{Hx u N} e=>by
    have z:=Jt (N:=N);simp only [Prod.mk.injEq] at z;rw [z.1,z.2.1,z.2.2] at e;exact e
  have t400:tot (eu 400 1)=400:=by rw [Jb ⋯]; rfl
  have t401:tot (eu 401 1)=401:=by rw [Jb ⋯]; rfl
  have bs:∀ N:Nat,N<=401->Bd 300 (N:Int):=λN h=>zw (B:=401) (!2) (!2) (!3);exists zO (a:=((400:Nat):Int)) rfl ⋯ (!3) (λu1 H1 s1 e1=>?_) (!3) (!3);have e1:=mk e1;exists zO (a:=((1:Nat):Int)) rfl ⋯ (!3) (λu2 H2 s2 e2=>?_) (!3) (!3);have e2:=mk e2;exists zr (!1) λo1 H3 s3 e3=>?_;have c1:Cell.At H3 ⟨o1,u1,u2,⟨⟨((400:Nat):Int),0,1⟩,⟨1,0,1⟩⟩⟩:=⟨e3,(s2.trans s3) _ _ e1,s3 _ _ e2⟩
  clear e1 e2 e3 s1 s2;exists zO (a:=((401:Nat):Int)) rfl ⋯ (!3) (λu4 H4 s4 e4=>?_) (!3) (!3);have e4:=mk e4;exists zO (a:=((1:Nat):Int)) rfl ⋯ (!3) (λu5 H5 s5 e5=>?_) (!3) (!3);have e5:=mk e5;exists zr (!1) λo2 H6 s6 e6=>?_;have c2:Cell.At H6 ⟨o2,u4,u5,⟨⟨((401:Nat):Int),0,1⟩,⟨1,0,1⟩⟩⟩:=⟨e6,(s5.trans s6) _ _ e4,s6 _ _ e5⟩
  have c1:=c1.same ((s4.trans s5).trans s6);clear e4 e5 e6 s4 s5 s6;exists yw rfl (c:=⟨o1,u1,u2,⟨⟨((400:Nat):Int),0,1⟩,⟨1,0,1⟩⟩⟩) (wh:=true) (w:=0) (h:=0) (N:=400) c1 hR ⋯ (.inr ⟨rfl,rfl,by decide⟩) λr7 H7 s7 e7=>?_;exists yl (!1) λr8 H8 s8 e8=>?_;refine EI (ns:=[400]) (s8 _ _ e7) e8 ?_;have s78:=s7.trans s8;exists yw rfl (c:=⟨o2,u4,u5,⟨⟨((401:Nat):Int),0,1⟩,⟨1,0,1⟩⟩⟩) (wh:=true) (w:=0) (h:=0) (N:=401) (c2.same s78) hR ⋯ (.inr ⟨rfl,rfl,by decide⟩) λr9 H9 s9 e9=>?_;exists yl (!1) λra Ha sa ea=>?_;refine EI (ns:=[]) (sa _ _ e9) ea ?_;have s7a:=(s78.trans s9).trans sa;exists yw rfl (c:=⟨o1,u1,u2,⟨⟨((400:Nat):Int),0,1⟩,⟨1,0,1⟩⟩⟩) (wh:=false) (w:=400) (h:=1) (N:=400) (c1.same s7a) hR ⋯ (.inl ⟨rfl,DA,Ci hR,⟨by decide,by decide⟩,⟨bs 400 ⋯,bs 1 ⋯⟩,rfl,(B1 400 ⋯).symm,t400.symm⟩) λrb Hb sb eb=>?_;exists yl (!1) λrc Hc sc ec=>?_;refine FD (ns:=[400]) (sc _ _ eb) ec ?_;have s7c:=(s7a.trans sb).trans sc;exists yw rfl (c:=⟨o2,u4,u5,⟨⟨((401:Nat):Int),0,1⟩,⟨1,0,1⟩⟩⟩) (wh:=false) (w:=401) (h:=1) (N:=401) (c2.same s7c) hR ⋯ (.inl ⟨rfl,DA,Ci hR,⟨by decide,by decide⟩,⟨bs 401 ⋯,bs 1 ⋯⟩,rfl,(B1 401 ⋯).symm,t401.symm⟩) λrd Hd sd ed=>?_;exists yl (!1) λre He se ee=>?_;refine FD (ns:=[]) (se _ _ ed) ee ?_;exact q _
end
end Bk
open Bk
noncomputable section
variable {C:Addr}{vs:List L2.V}{its:List Value}{x:Str}{w:World}
namespace Hd
open PySem.W PySem.Calls
abbrev pm0:Value:=(.str "boardglue.lengths" 374)
abbrev pm1:Value:=(.str "boardglue.bases" 529)
abbrev pm2:Value:=(.str "boardglue.normal" 584)
abbrev pm3:Value:=(.str "boardglue.yard" 632)
abbrev pm4:Value:=(.str "boardglue.plans" 779)
abbrev pm5:Value:=(.str "boardglue.tables" 835)
abbrev pm6:Value:=(.str "boardglue.likes" 925)
abbrev pm7:Value:=(.str "boardglue.squares" 943)
abbrev pm8:Value:=(.str "law_boardglue_k72_too_many_squares" 1034)
abbrev pm9:Value:=(.str "boardglue.boards" 624)
def cs:Cs:=⟨31,44,56,68,80,92,104,116,128,140,152,437⟩
abbrev TT(w:World)(mg:Str->Option Value)(x:Str)(st:Stmt):Prop:=L2.Top (K w.params) mg x st
theorem tI(a:Addr)(its:Array Value)(v:L2.Vals vs its.toList)(z:its.size<=sizeLine:=by decide)(l:(K w.params).lookup a=some (tu its):=by kernel_rfl):L2.TupIn (K w.params) a vs:=L2.tupIn_mk l rfl rfl z v
theorem u1{α:Type}{P:List α->Prop}(h:∀ a0,P [a0]):∀ us:List α,us.length=1->P us
  | [a0],_=>h a0
theorem u2{α:Type}{P:List α->Prop}(h:∀ a0 a1,P [a0,a1]):∀ us:List α,us.length=2->P us
  | [a0,a1],_=>h a0 a1
theorem u3{α:Type}{P:List α->Prop}(h:∀ a0 a1 a2,P [a0,a1,a2]):∀ us:List α,us.length=3->P us
  | [a0,a1,a2],_=>h a0 a1 a2
theorem u4{α:Type}{P:List α->Prop}(h:∀ a0 a1 a2 a3,P [a0,a1,a2,a3]):∀ us:List α,us.length=4->P us
  | [a0,a1,a2,a3],_=>h a0 a1 a2 a3
theorem ow{mg:Str->Option Value}{k:Nat}{st:Stmt}{ps:List Str}{sp:L2.Sp}(base:Heap)(T:L2.Top (K w.params) mg x st)(h:∀ f fd,L2.Fun (K w.params) x x st f fd->L2.FnOk p w (K w.params) mg base L2.CX0 k f fd ps sp)(hb:∀ (kV doc pm:Value) (an:Option Addr) (cdv ct:Value) (us:List Value),us.length=ps.length->bindArgs (fnOf x x (L2.defArgs st) (L2.defBody st) (L2.defScope st) .none kV doc pm an cdv ct) ⟨us,[]⟩=pure (ps.zip us)):L2.Own p w (K w.params) mg base k x ps [] sp:=T.own hb h
section
variable {w:World}{mg:Str->Option Value}{h:Heap}(KX:(K w.params).In h)(G:h.Ns mainGlobals mg)
include KX G
theorem tp{st:Stmt}(f cd:Addr)(pm:Value)(a:nsIn (K w.params) mainGlobals x=some (some (.ref f)):=by kernel_rfl)(l:(K w.params).lookup f=some ⟨.type "function",none,.func (fnOf x x (L2.defArgs st) (L2.defBody st) (L2.defScope st) .none .none .none pm none (.ref cd) .none),#[]⟩:=by kernel_rfl)(c:codeIn (K w.params) (.ref cd) x=true:=by kernel_rfl)(k:keepIn (K w.params) (.ref f)=true:=by kernel_rfl):L2.Top (K w.params) mg x st:=L2.top_mk KX G a l c k
theorem tm{m q:Str}{st:Stmt}(f cd:Addr)(pm:Value)(l:(K w.params).lookup f=some ⟨.type "function",none,.func (fnOf m q (L2.defArgs st) (L2.defBody st) (L2.defScope st) .none .none .none pm none (.ref cd) .none),#[]⟩:=by kernel_rfl)(c:codeIn (K w.params) (.ref cd) q=true:=by kernel_rfl)(k:keepIn (K w.params) (.ref f)=true:=by kernel_rfl)(a:findIn (K w.params) (.ref C) m=some (some (.ref f)):=by kernel_rfl)(n:isFn (K w.params) (.ref f)=true:=by kernel_rfl):L2.TopM (K w.params) C m q st:=L2.topM_mk l c k a n
theorem td{st:Stmt}(f T cd:Addr)(pm:Value)(a:nsIn (K w.params) mainGlobals x=some (some (.ref f)):=by kernel_rfl)(l:(K w.params).lookup f=some ⟨.type "function",none,.func (fnOf x x (L2.defArgs st) (L2.defBody st) (L2.defScope st) (.ref T) .none .none pm none (.ref cd) .none),#[]⟩:=by kernel_rfl)(c:codeIn (K w.params) (.ref cd) x=true:=by kernel_rfl)(k:keepIn (K w.params) (.ref f)=true:=by kernel_rfl)(t:(K w.params).lookup T=some (tu its.toArray):=by kernel_rfl):L2.TopD (K w.params) mg x st its:=L2.topD_mk KX G a l c k t rfl
theorem ti{q:Str}{st:Stmt}(f T cd:Addr)(pm:Value)(l:(K w.params).lookup f=some ⟨.type "function",none,.func (fnOf "__init__" q (L2.defArgs st) (L2.defBody st) (L2.defScope st) (.ref T) .none .none pm none (.ref cd) .none),#[]⟩:=by kernel_rfl)(c:codeIn (K w.params) (.ref cd) q=true:=by kernel_rfl)(k:keepIn (K w.params) (.ref f)=true:=by kernel_rfl)(t:(K w.params).lookup T=some (tu its.toArray):=by kernel_rfl)(m:makesIn (K w.params) C=true:=by kernel_rfl)(i:findIn (K w.params) (.ref C) "__init__"=some (some (.ref f)):=by kernel_rfl)(nf:isFn (K w.params) (.ref f)=true:=by kernel_rfl)(kc:keepIn (K w.params) (.ref C)=true:=by kernel_rfl)(a:nsIn (K w.params) mainGlobals x=some (some (.ref C)):=by kernel_rfl):L2.TopIn (K w.params) mg C x q st its:=L2.topIn_mk KX G l c k t rfl m i nf kc a
theorem gT(a:Addr)(its:Array Value)(v:L2.Vals vs its.toList)(z:its.size<=sizeLine:=by decide)(e:nsIn (K w.params) mainGlobals x=some (some (.ref a)):=by kernel_rfl)(l:(K w.params).lookup a=some (tu its):=by kernel_rfl):L2.TopT (K w.params) mg x vs:=L2.topT_mk KX G e l rfl rfl z v
theorem nn(e:nsIn (K w.params) mainGlobals x=some none:=by kernel_rfl):mg x=none:=mg_none_of KX G e
theorem bl :Bl mg:=⟨nn KX G,nn KX G,nn KX G,nn KX G,nn KX G,nn KX G,nn KX G,nn KX G,nn KX G,nn KX G,nn KX G,nn KX G,nn KX G,nn KX G,nn KX G,nn KX G,nn KX G,nn KX G⟩
theorem T2:TT w mg "is_whole" S1:=tp KX G 162 161 pm0
theorem T3:TT w mg "common_divisor" S2:=tp KX G 169 168 pm0
theorem T4:TT w mg "with_sign_of" S3:=tp KX G 190 189 pm0
theorem T5:TT w mg "is_above_nought" S15:=tp KX G 255 254 pm0
theorem T6:TT w mg "crossed" S20:=tp KX G 283 282 pm1
theorem T7:TT w mg "gathering" S26:=tp KX G 323 322 pm2
theorem T8:TT w mg "names_taken" S29:=tp KX G 345 344 pm3
theorem T9:TT w mg "count_put" S30:=tp KX G 352 351 pm3
theorem T10:TT w mg "turned" S31:=tp KX G 359 358 pm3
theorem T11:TT w mg "places_of" S37:=tp KX G 460 459 pm4
theorem T12:TT w mg "with_names" S40:=tp KX G 477 476 pm4
theorem T13:TT w mg "over" S48:=tp KX G 538 537 pm5
theorem T14:TT w mg "slant" S50:=tp KX G 552 551 pm5
theorem T15:TT w mg "first_unlike" S51:=tp KX G 559 558 pm6
theorem T16:TT w mg "strips" S53:=tp KX G 572 571 pm7
theorem T17:TT w mg "_law_cell" S60:=tp KX G 619 618 pm8
theorem T18:TT w mg "_law_mixed" S61:=tp KX G 626 625 pm8
theorem T19:TT w mg "_law_divisor" S62:=tp KX G 633 632 pm8
theorem T20:TT w mg "_law_above" S65:=tp KX G 654 653 pm8
theorem T21:TT w mg "_law_cuts" S68:=tp KX G 675 674 pm8
theorem T22:L2.TopIn (K w.params) mg 437 "Yard" "Yard.__init__" S72 [(.bool false)]:=ti KX G 393 388 392 pm3
theorem T23:L2.TopM (K w.params) 437 "board_ever" "Yard.board_ever" S76:=tm KX G 417 416 pm3
theorem T24:L2.TopM (K w.params) 437 "boards" "Yard.boards" S77:=tm KX G 422 421 pm3
theorem T25:L2.TopD (K w.params) mg "length" S7 [(.int (0) 432),(.int (1) 433)]:=td KX G 198 191 197 pm0
theorem T26:L2.TopD (K w.params) mg "fraction" S8 [(.int (1) 444)]:=td KX G 206 199 205 pm0
theorem T27:TT w mg "by_parts" S10:=tp KX G 220 219 pm0
theorem T28:TT w mg "added" S11:=tp KX G 227 226 pm0
theorem T29:TT w mg "under" S16:=tp KX G 262 261 pm0
theorem T30:TT w mg "counts" S21:=tp KX G 290 289 pm1
theorem T31:TT w mg "common_bottom" S22:=tp KX G 297 296 pm1
theorem T32:TT w mg "undoing" S36:=tp KX G 455 454 pm4
theorem T33:TT w mg "names_behind" S39:=tp KX G 470 469 pm4
theorem T34:TT w mg "plus" S42:=tp KX G 496 495 pm5
theorem T35:TT w mg "times" S44:=tp KX G 510 509 pm5
theorem T36:TT w mg "_law_root" S63:=tp KX G 640 639 pm8
theorem T37:TT w mg "_law_fraction" S64:=tp KX G 647 646 pm8
theorem T38:TT w mg "_law_due" S70:=tp KX G 694 693 pm8
theorem T39:L2.TopM (K w.params) 437 "check_names" "Yard.check_names" S74:=tm KX G 405 404 pm3
theorem T40:TT w mg "parts" S9:=tp KX G 213 212 pm0
theorem T41:TT w mg "taken" S12:=tp KX G 234 233 pm0
theorem T42:TT w mg "timed" S13:=tp KX G 241 240 pm0
theorem T43:TT w mg "first_base" S17:=tp KX G 269 268 pm1
theorem T44:TT w mg "is_length" S27:=tp KX G 328 327 pm9
theorem T45:TT w mg "glued_beside" S33:=tp KX G 373 372 pm3
theorem T46:TT w mg "stacked" S34:=tp KX G 380 379 pm3
theorem T47:TT w mg "followed" S41:=tp KX G 482 481 pm4
theorem T48:TT w mg "minus" S43:=tp KX G 503 502 pm5
theorem T49:TT w mg "by" S45:=tp KX G 517 516 pm5
theorem T50:TT w mg "together" S49:=tp KX G 545 544 pm5
theorem T51:TT w mg "_law_side" S66:=tp KX G 661 660 pm8
theorem T52:TT w mg "parted" S14:=tp KX G 248 247 pm0
theorem T53:TT w mg "next_base" S18:=tp KX G 276 275 pm1
theorem T54:TT w mg "times_over" S24:=tp KX G 309 308 pm2
theorem T55:TT w mg "is_deed" S28:=tp KX G 338 337 pm3
theorem T56:TT w mg "cut_across" S32:=tp KX G 366 365 pm3
theorem T57:TT w mg "board_table" S47:=tp KX G 531 530 pm5
theorem T58:TT w mg "measure_below" S57:=tp KX G 598 597 pm7
theorem T59:TT w mg "side_by_side" S58:=tp KX G 605 604 pm7
theorem T60:TT w mg "_law_length" S67:=tp KX G 668 667 pm8
theorem T61:TT w mg "serving" S23:=tp KX G 302 301 pm1
theorem T62:TT w mg "normal_plan" S25:=tp KX G 316 315 pm2
theorem T63:TT w mg "table" S46:=tp KX G 524 523 pm5
theorem T64:TT w mg "cuts" S54:=tp KX G 579 578 pm7
theorem T65:L2.TopM (K w.params) 437 "put_by" "Yard.put_by" S75:=tm KX G 410 409 pm3
theorem T66:TT w mg "squares_of" S55:=tp KX G 584 583 pm7
theorem T67:TT w mg "cutting" S56:=tp KX G 591 590 pm7
theorem T68:L2.TopM (K w.params) 437 "do" "Yard.do" S73:=tm KX G 398 397 pm3
theorem T69:TT w mg "yard_behind" S35:=tp KX G 448 447 pm4
theorem T70:TT w mg "back" S38:=tp KX G 465 464 pm4
theorem T71:TT w mg "like" S52:=tp KX G 564 563 pm6
theorem T72:TT w mg "squares" S59:=tp KX G 612 611 pm7
theorem T73:TT w mg "_law_told" S69:=tp KX G 689 688 pm8
theorem T74:TT w mg "law" S71:=tp KX G 701 700 pm8
theorem g_NOUGHT :L2.TopT (K w.params) mg "NOUGHT" [.int 0,.int 0,.int 1]:=gT KX G 155 #[(.int (0) 376),(.int (0) 377),(.int (1) 378)] (.cons ⟨_,rfl⟩ (.cons ⟨_,rfl⟩ (.cons ⟨_,rfl⟩ .nil)))
theorem g_GREAT_BITS :L2.TopI mg "GREAT_BITS" (8192):=L2.topI_mk (t:=380) KX G (by kernel_rfl)
theorem g_CUTS :L2.TopT (K w.params) mg "CUTS" [.str "across",.str "along"]:=gT KX G 329 #[(.str "across" 634),(.str "along" 635)] (.cons ⟨_,rfl⟩ (.cons ⟨_,rfl⟩ .nil))
theorem g_GLUINGS :L2.TopT (K w.params) mg "GLUINGS" [.str "beside",.str "atop"]:=gT KX G 330 #[(.str "beside" 637),(.str "atop" 638)] (.cons ⟨_,rfl⟩ (.cons ⟨_,rfl⟩ .nil))
theorem g_SHIFTS :L2.TopT (K w.params) mg "SHIFTS" [.str "stack",.str "spread"]:=gT KX G 331 #[(.str "stack" 640),(.str "spread" 641)] (.cons ⟨_,rfl⟩ (.cons ⟨_,rfl⟩ .nil))
theorem g_TURN :L2.TopS mg "TURN" (Str.ofString "turn"):=L2.topS_mk (t:=643) KX G (by kernel_rfl)
theorem g_EMPTY :L2.TopE (K w.params) mg "EMPTY":=L2.topE_mk (a:=489) (r0:=485) (r1:=488) (f0:=483) (f1:=484) (f2:=486) (f3:=487) KX G (by kernel_rfl) (tI 489 #[(.ref 485),(.ref 488)] (.cons rfl (.cons rfl .nil))) (tI 485 #[(.ref 483),(.ref 484)] (.cons rfl (.cons rfl .nil))) (tI 488 #[(.ref 486),(.ref 487)] (.cons rfl (.cons rfl .nil))) (tI 483 #[(.int (0) 837),(.int (1) 838)] (.cons ⟨_,rfl⟩ (.cons ⟨_,rfl⟩ .nil))) (tI 484 #[(.int (0) 839),(.int (1) 840)] (.cons ⟨_,rfl⟩ (.cons ⟨_,rfl⟩ .nil))) (tI 486 #[(.int (0) 841),(.int (1) 842)] (.cons ⟨_,rfl⟩ (.cons ⟨_,rfl⟩ .nil))) (tI 487 #[(.int (0) 843),(.int (1) 844)] (.cons ⟨_,rfl⟩ (.cons ⟨_,rfl⟩ .nil)))
theorem g_MOST :L2.TopI mg "MOST" (400):=L2.topI_mk (t:=945) KX G (by kernel_rfl)
theorem g_ROOT :L2.TopT (K w.params) mg "ROOT" [.int 0,.int 1,.int 1]:=gT KX G 565 #[(.int (0) 947),(.int (1) 948),(.int (1) 949)] (.cons ⟨_,rfl⟩ (.cons ⟨_,rfl⟩ (.cons ⟨_,rfl⟩ .nil)))
theorem xs :Xs (K w.params) mg cs:=⟨(mg_of KX G (by kernel_rfl)),(mg_of KX G (by kernel_rfl)),(mg_of KX G (by kernel_rfl)),(mg_of KX G (by kernel_rfl)),(mg_of KX G (by kernel_rfl)),(mg_of KX G (by kernel_rfl)),(mg_of KX G (by kernel_rfl)),(mg_of KX G (by kernel_rfl)),(mg_of KX G (by kernel_rfl)),(mg_of KX G (by kernel_rfl)),(mg_of KX G (by kernel_rfl)),(mg_of KX G (by kernel_rfl)),⟨(by kernel_rfl),(by kernel_rfl),(by kernel_rfl),(by kernel_rfl),(by kernel_rfl),(by kernel_rfl),(by kernel_rfl)⟩,⟨(by kernel_rfl),(by kernel_rfl),(by kernel_rfl),(by kernel_rfl),(by kernel_rfl),(by kernel_rfl),(by kernel_rfl)⟩,(by kernel_rfl),(by kernel_rfl),(by kernel_rfl),(by kernel_rfl),(by kernel_rfl),(by kernel_rfl),(by kernel_rfl),(by kernel_rfl),(by kernel_rfl),(by kernel_rfl),(by kernel_rfl),(by kernel_rfl),(by kernel_rfl),(by kernel_rfl),⟨(by kernel_rfl),(by kernel_rfl),(by kernel_rfl),(by kernel_rfl)⟩,(by unfold L2.NoAttr; kernel_rfl),(by unfold L2.NoAttr; kernel_rfl),(by unfold L2.NoAttr; kernel_rfl),(by unfold L2.NoAttr; kernel_rfl),(by unfold L2.NoAttr; kernel_rfl)⟩
end
end Hd
end
def PySem.W.Fast.tw1720679744677428479:PySem.Program:=PySem.Challenge.pw_boardglue_k72_too_many_squares
theorem PySem.W.Fast.te1720679744677428479:PySem.Challenge.pw_boardglue_k72_too_many_squares=PySem.W.Fast.tw1720679744677428479:=rfl
open PySem.W
set_option maxRecDepth 100000 in
set_option maxHeartbeats 0 in
theorem PySem.Challenge.cw_boardglue_k72_too_many_squares_holds : PySem.Challenge.rw_boardglue_k72_too_many_squares.Holds := by
  w_on; o_law;rename_i said;refine holds_open (r:=PySem.Challenge.rw_boardglue_k72_too_many_squares.row) (q:=Hd.qv) (loose:=Hd.loose) (Xt:=Hd.Xt) (XP:=XL Hd.qv []) (Yf:=Hd.Yf) (Ya:=Hd.Ya) (YP:=InK Hd.K) (N:=10500) Hd.left (InK.of Hd.asK) InK.keeps (λs e=>xl_of s (Bool.and_eq_true_iff.mp e).1) XL.keeps (by rfl) (by rfl) (by rfl) (λs e=>recFacts_of (Bool.and_eq_true_iff.mp e).2) (by rfl) said (by decide +kernel) ⟨rfl,rfl,rfl,rfl,rfl,by decide +kernel⟩ ?hw ?hc
  case hw=>w_witness2
  refine L2.walk_B (l:=PySem.Challenge.rw_boardglue_k72_too_many_squares) (k:=12) (x:="_law_script") rfl rfl ⟨rfl,by decide,by decide⟩ (λw h Y=>Y) ?F
  case F =>
    intro w mg fa h KX G hmg;have B:Bl mg:=Hd.bl KX G;have T_strips:=Hd.T16 KX G;have T_Yard___init__:=Hd.T22 KX G;have T_Yard_board_ever:=Hd.T23 KX G;have T_Yard_boards:=Hd.T24 KX G;have T_length:=Hd.T25 KX G;have T_fraction:=Hd.T26 KX G;have T_Yard_check_names:=Hd.T39 KX G;have T_cuts:=Hd.T64 KX G;have T_Yard_put_by:=Hd.T65 KX G;have T_squares_of:=Hd.T66 KX G;have T_Yard_do:=Hd.T68 KX G;have T_squares:=Hd.T72 KX G;have T_law:=Hd.T74 KX G;have g_NOUGHT:=Hd.g_NOUGHT KX G;have g_GREAT_BITS:=Hd.g_GREAT_BITS KX G;have g_CUTS:=Hd.g_CUTS KX G;have g_GLUINGS:=Hd.g_GLUINGS KX G;have g_SHIFTS:=Hd.g_SHIFTS KX G;have g_TURN:=Hd.g_TURN KX G;have g_EMPTY:=Hd.g_EMPTY KX G;have g_MOST:=Hd.g_MOST KX G;have g_ROOT:=Hd.g_ROOT KX G;have X:=Hd.xs KX G;refine L2.law_mk T_law hmg (λ_ _ _ _ _ _ _=>rfl) λbase f fd F=>?_;have o0x:=Hd.ow base (Hd.T2 KX G) (λf fd F=>K0 F B ) (λ_ _ _ _ _ _=>Hd.u1 λ_=>rfl);have o1x:=Hd.ow base (Hd.T3 KX G) (λf fd F=>K1 F B g_GREAT_BITS) (λ_ _ _ _ _ _=>Hd.u2 λ_ _=>rfl);have o2x:=Hd.ow base (Hd.T4 KX G) (λf fd F=>K2 F B ) (λ_ _ _ _ _ _=>Hd.u2 λ_ _=>rfl);have o11x:=Hd.ow base (Hd.T5 KX G) (λf fd F=>K3 F B ) (λ_ _ _ _ _ _=>Hd.u3 λ_ _ _=>rfl);have o15x:=Hd.ow base (Hd.T6 KX G) (λf fd F=>K4 F B ) (λ_ _ _ _ _ _=>Hd.u2 λ_ _=>rfl);have o21x:=Hd.ow base (Hd.T7 KX G) (λf fd F=>K5 F B ) (λ_ _ _ _ _ _=>Hd.u2 λ_ _=>rfl);have o24x:=Hd.ow base (Hd.T8 KX G) (λf fd F=>K6 F B g_GLUINGS) (λ_ _ _ _ _ _=>Hd.u1 λ_=>rfl);have o25x:=Hd.ow base (Hd.T9 KX G) (λf fd F=>K7 F B g_CUTS) (λ_ _ _ _ _ _=>Hd.u1 λ_=>rfl);have o26x:=Hd.ow base (Hd.T10 KX G) (λf fd F=>K8 F B ) (λ_ _ _ _ _ _=>Hd.u1 λ_=>rfl);have o32x:=Hd.ow base (Hd.T11 KX G) (λf fd F=>K9 F B ) (λ_ _ _ _ _ _=>Hd.u1 λ_=>rfl);have o35x:=Hd.ow base (Hd.T12 KX G) (λf fd F=>K10 F B g_GLUINGS) (λ_ _ _ _ _ _=>Hd.u2 λ_ _=>rfl);have o43x:=Hd.ow base (Hd.T13 KX G) (λf fd F=>K11 F B ) (λ_ _ _ _ _ _=>Hd.u1 λ_=>rfl);have o45x:=Hd.ow base (Hd.T14 KX G) (λf fd F=>K12 F B ) (λ_ _ _ _ _ _=>Hd.u1 λ_=>rfl);have o46x:=Hd.ow base (Hd.T15 KX G) (λf fd F=>K13 F B ) (λ_ _ _ _ _ _=>Hd.u2 λ_ _=>rfl);have o48x:L2.OwnX Hd.p w (Hd.K w.params) mg base 1 "strips" ["width","height"] [] (P14 Hd.cs):=T_strips.ownX (λ_ _ _ _ _ _=>Hd.u2 λ_ _=>rfl) (λf fd F=>K14 F B X g_MOST);have o55x:=Hd.ow base (Hd.T17 KX G) (λf fd F=>K15 F B ) (λ_ _ _ _ _ _=>Hd.u2 λ_ _=>rfl);have o56x:=Hd.ow base (Hd.T18 KX G) (λf fd F=>K16 F B ) (λ_ _ _ _ _ _=>Hd.u2 λ_ _=>rfl);have o57x:=Hd.ow base (Hd.T19 KX G) (λf fd F=>K17 F B ) (λ_ _ _ _ _ _=>Hd.u2 λ_ _=>rfl);have o60x:=Hd.ow base (Hd.T20 KX G) (λf fd F=>K18 F B ) (λ_ _ _ _ _ _=>Hd.u3 λ_ _ _=>rfl);have o63x:=Hd.ow base (Hd.T21 KX G) (λf fd F=>K19 F B ) (λ_ _ _ _ _ _=>Hd.u2 λ_ _=>rfl);have o68x:L2.OwnI Hd.p w (Hd.K w.params) mg base L2.CX0 Hd.cs.Yard 1 "Yard" ["self","d","heap","turning"] [] (P20 Hd.cs):=T_Yard___init__.own (ds:=[]) (λT _ _ _ _ _ _ us hl=>by have hl':us.length=4:=(by simpa using hl); match us,hl' with | [_,_,_,_],_=>exact ⟨_,rfl,rfl⟩) .nil (λf fd F=>K20 F B X);have o72x:L2.OwnM Hd.p w (Hd.K w.params) mg base L2.CX0 Hd.cs.Yard 1 "board_ever" ["self","name"] [] (P21 Hd.cs):=T_Yard_board_ever.own X.c_Yard (λ_ _ _ _ _ _=>Hd.u2 λ_ _=>rfl) (λf fd F=>K21 F B X);have o73x:L2.OwnM Hd.p w (Hd.K w.params) mg base L2.CX0 Hd.cs.Yard 1 "boards" ["self"] [] (P22 Hd.cs):=T_Yard_boards.own X.c_Yard (λ_ _ _ _ _ _=>Hd.u1 λ_=>rfl) (λf fd F=>K22 F B X);have o3x:L2.Own Hd.p w (Hd.K w.params) mg base 2 "length" ["a","b","n"] [] P23:=T_length.own (ds:=[]) (λT _ _ _ _ _ _ us hl=>by have hl':us.length=3:=(by simpa using hl); match us,hl' with | [_,_,_],_=>exact ⟨_,rfl,rfl⟩) .nil (λf fd F=>K23 F B o2x o1x o0x);have o3x_1:L2.Own Hd.p w (Hd.K w.params) mg base 2 "length" ["a","b","n"] [.int 0,.int 1] P23:=T_length.own (ds:=[.int 0 432,.int 1 433]) (λT _ _ _ _ _ _ us hl=>by have hl':us.length=1:=(by simpa using hl); match us,hl' with | [_],_=>exact ⟨_,rfl,rfl⟩) (.cons ⟨_,rfl⟩ (.cons ⟨_,rfl⟩ .nil)) (λf fd F=>K23 F B o2x o1x o0x);have o4x:L2.Own Hd.p w (Hd.K w.params) mg base 2 "fraction" ["top","bottom"] [] P24:=T_fraction.own (ds:=[]) (λT _ _ _ _ _ _ us hl=>by have hl':us.length=2:=(by simpa using hl); match us,hl' with | [_,_],_=>exact ⟨_,rfl,rfl⟩) .nil (λf fd F=>K24 F B o2x o1x);have o6x:=Hd.ow base (Hd.T27 KX G) (λf fd F=>K25 F B o1x) (λ_ _ _ _ _ _=>Hd.u2 λ_ _=>rfl);have o7x:=Hd.ow base (Hd.T28 KX G) (λf fd F=>K26 F B o1x) (λ_ _ _ _ _ _=>Hd.u2 λ_ _=>rfl);have o12x:=Hd.ow base (Hd.T29 KX G) (λf fd F=>K27 F B o11x) (λ_ _ _ _ _ _=>Hd.u3 λ_ _ _=>rfl);have o16x:=Hd.ow base (Hd.T30 KX G) (λf fd F=>K28 F B o15x) (λ_ _ _ _ _ _=>Hd.u3 λ_ _ _=>rfl);have o17x:=Hd.ow base (Hd.T31 KX G) (λf fd F=>K29 F B o1x) (λ_ _ _ _ _ _=>Hd.u1 λ_=>rfl);have o31x:=Hd.ow base (Hd.T32 KX G) (λf fd F=>K30 F B o72x) (λ_ _ _ _ _ _=>Hd.u3 λ_ _ _=>rfl);have o34x:=Hd.ow base (Hd.T33 KX G) (λf fd F=>K31 F B o24x o25x) (λ_ _ _ _ _ _=>Hd.u2 λ_ _=>rfl);have o37x:=Hd.ow base (Hd.T34 KX G) (λf fd F=>K32 F B o1x) (λ_ _ _ _ _ _=>Hd.u2 λ_ _=>rfl);have o39x:=Hd.ow base (Hd.T35 KX G) (λf fd F=>K33 F B o1x) (λ_ _ _ _ _ _=>Hd.u2 λ_ _=>rfl);have o58x:=Hd.ow base (Hd.T36 KX G) (λf fd F=>K34 F B o56x o55x) (λ_ _ _ _ _ _=>Hd.u1 λ_=>rfl);have o59x:=Hd.ow base (Hd.T37 KX G) (λf fd F=>K35 F B o57x) (λ_ _ _ _ _ _=>Hd.u2 λ_ _=>rfl);have o66x:=Hd.ow base (Hd.T38 KX G) (λf fd F=>K36 F B o63x) (λ_ _ _ _ _ _=>Hd.u2 λ_ _=>rfl);have o70x:L2.OwnM Hd.p w (Hd.K w.params) mg base L2.CX0 Hd.cs.Yard 2 "check_names" ["self","names"] [] (P37 Hd.cs):=T_Yard_check_names.own X.c_Yard (λ_ _ _ _ _ _=>Hd.u2 λ_ _=>rfl) (λf fd F=>K37 F B X o0x);have o5x:=Hd.ow base (Hd.T40 KX G) (λf fd F=>K38 F B o4x) (λ_ _ _ _ _ _=>Hd.u1 λ_=>rfl);have o8x:=Hd.ow base (Hd.T41 KX G) (λf fd F=>K39 F B o7x) (λ_ _ _ _ _ _=>Hd.u2 λ_ _=>rfl);have o9x:=Hd.ow base (Hd.T42 KX G) (λf fd F=>K40 F B o3x) (λ_ _ _ _ _ _=>Hd.u3 λ_ _ _=>rfl);have o13x:=Hd.ow base (Hd.T43 KX G) (λf fd F=>K41 F B o3x) (λ_ _ _ _ _ _=>Hd.u2 λ_ _=>rfl);have o22x:=Hd.ow base (Hd.T44 KX G) (λf fd F=>K42 F B o3x o0x) (λ_ _ _ _ _ _=>Hd.u1 λ_=>rfl);have o28x:=Hd.ow base (Hd.T45 KX G) (λf fd F=>K43 F B o7x) (λ_ _ _ _ _ _=>Hd.u2 λ_ _=>rfl);have o29x:=Hd.ow base (Hd.T46 KX G) (λf fd F=>K44 F B o3x) (λ_ _ _ _ _ _=>Hd.u2 λ_ _=>rfl);have o36x:=Hd.ow base (Hd.T47 KX G) (λf fd F=>K45 F B o34x o35x o25x) (λ_ _ _ _ _ _=>Hd.u3 λ_ _ _=>rfl);have o38x:=Hd.ow base (Hd.T48 KX G) (λf fd F=>K46 F B o37x) (λ_ _ _ _ _ _=>Hd.u2 λ_ _=>rfl);have o40x:=Hd.ow base (Hd.T49 KX G) (λf fd F=>K47 F B o39x o4x) (λ_ _ _ _ _ _=>Hd.u2 λ_ _=>rfl);have o44x:=Hd.ow base (Hd.T50 KX G) (λf fd F=>K48 F B o37x) (λ_ _ _ _ _ _=>Hd.u2 λ_ _=>rfl);have o61x:=Hd.ow base (Hd.T51 KX G) (λf fd F=>K49 F B o59x o60x) (λ_ _ _ _ _ _=>Hd.u3 λ_ _ _=>rfl);have o10x:=Hd.ow base (Hd.T52 KX G) (λf fd F=>K50 F B g_NOUGHT o9x o3x) (λ_ _ _ _ _ _=>Hd.u3 λ_ _ _=>rfl);have o14x:=Hd.ow base (Hd.T53 KX G) (λf fd F=>K51 F B o12x o8x) (λ_ _ _ _ _ _=>Hd.u2 λ_ _=>rfl);have o19x:=Hd.ow base (Hd.T54 KX G) (λf fd F=>K52 F B o9x) (λ_ _ _ _ _ _=>Hd.u3 λ_ _ _=>rfl);have o23x:=Hd.ow base (Hd.T55 KX G) (λf fd F=>K53 F B g_CUTS g_SHIFTS g_GLUINGS g_TURN o22x o0x) (λ_ _ _ _ _ _=>Hd.u1 λ_=>rfl);have o27x:=Hd.ow base (Hd.T56 KX G) (λf fd F=>K54 F B g_NOUGHT o12x o8x) (λ_ _ _ _ _ _=>Hd.u3 λ_ _ _=>rfl);have o42x:=Hd.ow base (Hd.T57 KX G) (λf fd F=>K55 F B o5x o39x) (λ_ _ _ _ _ _=>Hd.u1 λ_=>rfl);have o52x:=Hd.ow base (Hd.T58 KX G) (λf fd F=>K56 F B o45x o38x o37x) (λ_ _ _ _ _ _=>Hd.u1 λ_=>rfl);have o53x:=Hd.ow base (Hd.T59 KX G) (λf fd F=>K57 F B g_NOUGHT g_ROOT o40x o12x o38x o6x o39x o8x) (λ_ _ _ _ _ _=>Hd.u2 λ_ _=>rfl);have o62x:=Hd.ow base (Hd.T60 KX G) (λf fd F=>K58 F B o61x o6x) (λ_ _ _ _ _ _=>Hd.u2 λ_ _=>rfl);have o18x:=Hd.ow base (Hd.T61 KX G) (λf fd F=>K59 F B o13x o17x o14x o3x o16x) (λ_ _ _ _ _ _=>Hd.u2 λ_ _=>rfl);have o20x:=Hd.ow base (Hd.T62 KX G) (λf fd F=>K60 F B o21x o16x o19x) (λ_ _ _ _ _ _=>Hd.u3 λ_ _ _=>rfl);have o41x:=Hd.ow base (Hd.T63 KX G) (λf fd F=>K61 F B g_EMPTY o44x o42x) (λ_ _ _ _ _ _=>Hd.u1 λ_=>rfl);have o49x:L2.OwnX Hd.p w (Hd.K w.params) mg base 5 "cuts" ["d","one"] [] (P62 Hd.cs):=T_cuts.ownX (λ_ _ _ _ _ _=>Hd.u2 λ_ _=>rfl) (λf fd F=>K62 F B o10x o3x o48x o19x);have o71x:L2.OwnM Hd.p w (Hd.K w.params) mg base L2.CX0 Hd.cs.Yard 5 "put_by" ["self","deed","boards"] [] (P63 Hd.cs):=T_Yard_put_by.own X.c_Yard (λ_ _ _ _ _ _=>Hd.u3 λ_ _ _=>rfl) (λf fd F=>K63 F B X o27x o26x o28x o29x);have o50x:L2.OwnX Hd.p w (Hd.K w.params) mg base 6 "squares_of" ["d","board"] [] (P64 Hd.cs):=T_squares_of.ownX (λ_ _ _ _ _ _=>Hd.u2 λ_ _=>rfl) (λf fd F=>K64 F B o49x);have o51x:=Hd.ow base (Hd.T67 KX G) (λf fd F=>K65 F B o49x) (λ_ _ _ _ _ _=>Hd.u3 λ_ _ _=>rfl);have o69x:L2.OwnM Hd.p w (Hd.K w.params) mg base L2.CX0 Hd.cs.Yard 6 "do" ["self","deed"] [] (P66 Hd.cs):=T_Yard_do.own X.c_Yard (λ_ _ _ _ _ _=>Hd.u2 λ_ _=>rfl) (λf fd F=>K66 F B X g_TURN o24x o70x o71x o23x);have o30x:=Hd.ow base (Hd.T69 KX G) (λf fd F=>K67 F B X o68x o69x) (λ_ _ _ _ _ _=>Hd.u4 λ_ _ _ _=>rfl);have o33x:=Hd.ow base (Hd.T70 KX G) (λf fd F=>K68 F B o30x o73x o24x o32x o25x o31x) (λ_ _ _ _ _ _=>Hd.u3 λ_ _ _=>rfl);have o47x:=Hd.ow base (Hd.T71 KX G) (λf fd F=>K69 F B o46x o18x o33x o36x o41x o20x) (λ_ _ _ _ _ _=>Hd.u3 λ_ _ _=>rfl);have o54x:L2.OwnX Hd.p w (Hd.K w.params) mg base 10 "squares" ["d","heap"] [] (P70 (Hd.K w.params) Hd.cs):=T_squares.ownX (λ_ _ _ _ _ _=>Hd.u2 λ_ _=>rfl) (λf fd F=>K70 F B X g_MOST o41x o52x o53x o47x o43x o36x o50x o51x);have o65x:=Hd.ow base (Hd.T73 KX G) (λf fd F=>K71 F B X o54x o50x) (λ_ _ _ _ _ _=>Hd.u3 λ_ _ _=>rfl);exact K72 F B o58x o56x o62x o3x_1 o9x o65x o66x o3x
