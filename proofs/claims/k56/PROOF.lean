import PyProof.Rows.All
import Wide.All
import OpenK.AllK
import Wide.FinOn
import Lean
import PyProof.EqAt
import PyProof.EqKinds
import PyProof.TupleCall
import PySem.Challenge.RW_boardglue_k56_plans_told
abbrev aa:=@List.length_map
abbrev ae:=@List.getElem?_eq_getElem
abbrev af:=@List.getElem?_eq_some_iff
abbrev ag:=@List.getElem?_map
abbrev ah:=@List.length_append
abbrev ai:=@Nat.le_refl
abbrev aj:=@List.map_append
abbrev ak:=@List.mem_singleton
abbrev am:=@Option.map_eq_some_iff
abbrev ao:=@Int.mul_assoc
abbrev aq:=@List.take_length
abbrev ar:=@List.mem_of_getElem?
abbrev au:=@List.length_cons
abbrev av:=@Int.mul_comm
abbrev aw:=@List.mem_append
abbrev ax:=@Option.some.inj
abbrev ay:=@List.mem_cons_of_mem
abbrev az:=@Nat.ne_of_lt
abbrev aB:=@List.mem_cons_self
abbrev aC:=@Int.eq_of_mul_eq_mul_right
abbrev aE:=@Nat.lt_of_lt_of_le
abbrev aG:=@List.size_toArray
abbrev aH:=@List.getElem?_append_right
abbrev aI:=@Int.mul_ne_zero
abbrev aJ:=@PySem.F.plainAttrs_list
abbrev aK:=@List.length_take
abbrev aM:=@List.getElem?_append_left
abbrev aN:=@List.mem_cons
abbrev aP:=@List.length_nil
abbrev aQ:=@PySem.F.slot_list_append
abbrev aR:=@PySem.F.type_list_append
abbrev aT:=@Bool.false_ne_true
abbrev aU:=@List.map_cons
abbrev aV:=@PySem.boot_len
abbrev aW:=@List.mem_append_right
abbrev aX:=@Int.dvd_trans
abbrev aY:=@List.mem_map
abbrev aZ:=@Int.mul_pos
abbrev a8:=@List.take_succ
abbrev a9:=@Int.gcd_eq_natAbs_gcd_natAbs
abbrev bf:=@Nat.le_of_lt
abbrev bn:=@Nat.lt_of_le_of_lt
abbrev br:=@Int.mul_left_comm
abbrev bu:=@List.length_pos_iff
abbrev bA:=@List.length_range
abbrev bB:=@List.append_assoc
abbrev bC:=@List.mem_range
abbrev bG:=@Int.gcd_dvd_left
abbrev bH:=@List.getElem_mem
abbrev bI:=@List.mem_map_of_mem
abbrev bJ:=@List.take_of_length_le
abbrev bK:=@Nat.le_trans
abbrev bL:=@Int.mul_nonpos_of_nonneg_of_nonpos
abbrev bM:=@Int.gcd_dvd_right
abbrev bO:=@List.mem_of_mem_take
abbrev bP:=@PyProof.Rows.callWith_type1
abbrev bQ:=@Int.natAbs_dvd_natAbs
abbrev bR:=@Int.zero_mul
abbrev bS:=@Nat.zero_le
abbrev bT:=@Int.ediv_mul_cancel
abbrev bU:=@List.pairwise_lt_range
abbrev bV:=@Int.natAbs_natCast
abbrev bZ:=@Ne.symm
abbrev b8:=@Int.emod_nonneg
abbrev b9:=@Int.natAbs_mul
abbrev ca:=@Int.dvd_mul_left
abbrev ce:=@List.mem_range'_1
abbrev cf:=@List.mem_append_left
abbrev cg:=@Int.emod_lt_of_pos
abbrev cq:=@Int.add_zero
abbrev cr:=@Bool.eq_iff_iff
abbrev cu:=@PySem.W.kia_one
abbrev cv:=@List.lookup_cons
abbrev cB:=@List.take_append_of_le_length
abbrev cC:=@Int.mul_one
abbrev cG:=@PySem.W.Fast.te14364793385576792824
abbrev cH:=@Int.mul_ediv_cancel_left
abbrev cI:=@Int.gcd_pos_of_ne_zero_left
abbrev cJ:=@List.filter_cons
abbrev cK:=@List.map_nil
abbrev cL:=@Int.mul_zero
abbrev cM:=@Int.neg_mul_neg
abbrev cN:=@Rat.divInt_eq_divInt_iff
abbrev cP:=@Int.mul_fdiv_cancel_left
abbrev cQ:=@Bool.and_eq_true
abbrev cR:=@List.getElem?_of_mem
abbrev cS:=@Nat.lt_irrefl
abbrev cT:=@Nat.add_sub_cancel_left
abbrev cU:=@Array.length_toList
abbrev cV:=@PySem.mem_of_lookup
abbrev cW:=@List.getElem?_range
abbrev cX:=@Int.mul_nonpos_of_nonpos_of_nonneg
abbrev cY:=@List.getD_eq_getElem?_getD
abbrev cZ:=@List.length_drop
abbrev c6:=@List.getElem_map
abbrev c7:=@Int.gcd_comm
abbrev c8:=@List.getElem?_eq_none
abbrev c9:=@Int.mul_neg_of_pos_of_neg
abbrev db:=@List.nodup_cons
abbrev dc:=@List.getElem?_take_of_lt
abbrev de:=@PyProof.Rows.slot_tuple_getitem
abbrev df:=@List.foldl_append
abbrev dg:=@Int.zero_add
abbrev dh:=@Int.ofNat.inj
abbrev dj:=@Nat.le_add_right
abbrev dk:=@List.drop_of_length_le
abbrev dm:=@List.length_range'
abbrev dn:=@List.take_append_drop
abbrev dq:=@List.find?_cons
abbrev dr:=@Option.map_some
abbrev dw:=@Int.neg_mul
abbrev dy:=@Int.dvd_refl
abbrev dz:=@Nat.sub_self
abbrev dA:=@List.idxOf_lt_length_of_mem
abbrev dB:=@PySem.W.mg_of
abbrev dC:=@Nat.lt_succ_of_lt
abbrev dD:=@List.getElem?_inj
abbrev dE:=@List.mem_of_mem_drop
abbrev dF:=@Nat.eq_of_mul_eq_mul_left
abbrev dG:=@Int.mul_pos_of_neg_of_neg
abbrev dH:=@Int.eq_of_mul_eq_mul_left
abbrev dI:=@Nat.lt_succ_self
abbrev dJ:=@List.all_eq_true
abbrev dL:=@Sum.inl.inj
abbrev dM:=@List.map_congr_left
abbrev dN:=@List.Perm.eq_of_pairwise
abbrev dO:=@Int.mul_nonneg_of_nonpos_of_nonpos
abbrev dQ:=@List.mem_filter
abbrev dR:=@List.append_nil
abbrev dS:=@List.any_cons
abbrev dU:=@Int.dvd_coe_gcd
abbrev dW:=@List.range_succ
abbrev d4:=@Int.add_sub_cancel
abbrev d5:=@Nat.min_eq_left
abbrev d6:=@Nat.le_mul_of_pos_right
abbrev d7:=@Nat.le_mul_of_pos_left
abbrev d8:=@Nat.le_succ
abbrev d9:=@Int.one_mul
abbrev em:=@List.pairwise_map
abbrev eB:=@List.range_eq_nil
abbrev eE:=@Nat.le_succ_of_le
abbrev eI:=@List.length_filter_le
abbrev eJ:=@List.Nodup.length_le_of_subset
abbrev eK:=@Int.mul_le_mul_of_nonneg_left
abbrev eM:=@Int.lt_of_not_ge
abbrev eP:=@Int.gcd_mul_left
abbrev eQ:=@Nat.min_eq_right
abbrev eR:=@List.ext_getElem
abbrev eU:=@Int.not_lt
abbrev eV:=@List.filterMap_cons
abbrev eW:=@PySem.W.plainGet_of
abbrev eZ:=@Int.gcd_sub_mul_right_right
abbrev fe:=@Int.fdiv_mul_cancel
abbrev fh:=@Nat.div_eq_iff_eq_mul_right
abbrev fi:=@Int.mul_sub
abbrev fj:=@List.getElem_range'
abbrev fk:=@Int.mul_eq_zero
abbrev fm:=@Int.fdiv_eq_ediv_of_nonneg
abbrev fq:=@List.perm_ext_iff_of_nodup
abbrev fw:=@Nat.ne_of_gt
abbrev fA:=@PySem.W.callWith_K
abbrev fC:=@Nat.lt_trans
abbrev fD:=@Int.add_comm
abbrev fE:=@List.map_map
abbrev fF:=@List.range'_concat
abbrev fG:=@Int.mul_le_mul
abbrev fH:=@Int.mul_nonneg
abbrev fI:=@Int.lt_of_mul_lt_mul_left
abbrev fJ:=@Int.gcd_add_mul_left_left
abbrev fK:=@Decidable.byContradiction
abbrev fM:=@Classical.byContradiction
abbrev fR:=@List.pairwise_iff_getElem
abbrev fS:=@Option.isSome_iff_exists
abbrev fU:=@PySem.F.args_tuple_add_2
abbrev fV:=@Int.toNat_natCast
abbrev fW:=@PyProof.noPylong_of_log2
abbrev f6:=@List.take_add_one
abbrev f7:=@List.nodup_append
abbrev f8:=@List.getElem?_replicate
abbrev f9:=@PySem.F.entry_tuple_add
abbrev gc:=@Nat.mul_one
abbrev gf:=@Int.mul_neg
abbrev gh:=@Rat.add_assoc
abbrev gi:=@Nat.add_assoc
abbrev gj:=@List.map_drop
abbrev gq:=@List.length_eq_zero_iff
abbrev gr:=@List.pairwise_lt_range'
abbrev gs:=@List.pairwise_singleton
abbrev gu:=@PySem.F.slot_list_clear
abbrev gv:=@PySem.F.type_list_clear
abbrev gw:=@List.nodup_range
abbrev gx:=@List.take_append
abbrev gz:=@List.mem_flatMap
abbrev gA:=@List.getElem?_set_self
abbrev gB:=@PySem.W.cellsFrom_some
abbrev gC:=@PySem.F.slot_tuple_add
abbrev gD:=@PySem.W.methodCall_KW
abbrev gE:=@List.of_mem_zip
abbrev gF:=@List.length_replicate
abbrev gG:=@PySem.F.slot_dict_pop
abbrev gH:=@Int.lt_or_le
abbrev gI:=@Bool.beq_eq_decide_eq
abbrev gJ:=@Rat.add_comm
abbrev gL:=@Rat.zero_add
abbrev gO:=@Nat.le_total
abbrev gP:=@Array.getElem?_toList
abbrev gQ:=@Nat.two_pow_pos
abbrev gR:=@Nat.add_zero
abbrev gS:=@Nat.sub_zero
abbrev gU:=@Int.sub_mul
abbrev gW:=@Nat.log2_lt
abbrev gY:=@Int.neg_add
abbrev gZ:=@Int.dvd_sub
abbrev g7:=@Nat.le_of_dvd
abbrev g8:=@Int.le_of_dvd
abbrev hJ:=@Nat.mul_assoc
abbrev hU:=@List.map_take
abbrev hV:=@List.take_nil
abbrev hZ:=@List.sum_cons
abbrev h7:=@decide_eq_false
abbrev h8:=@if_pos
abbrev h9:=@if_neg
abbrev ia:=@PySem.wpAny_mono
abbrev ib:=@PySem.wpAny_truthy_bool
abbrev ie:=@PySem.wpAny_execs_nil
abbrev ig:=@PyProof.Rows.assignInOrder_cons
abbrev ii:=@PySem.wpAny_bind
abbrev ij:=@PySem.wpAny_pure
abbrev ik:=@PySem.wpAny_newObj_type
abbrev il:=@PySem.wpAny_passesOwn
abbrev im:=@PySem.wpAny_pyIter_list
abbrev io:=@PySem.sizeLine_eq
abbrev ip:=@PySem.codeAny_mono
abbrev iq:=@PySem.wpAny_Call_Name_kw
abbrev ir:=@PySem.wpAny_holding
abbrev iu:=@PySem.wpAny_typeOf
abbrev iw:=@decide_eq_true
abbrev ix:=@PySem.tupleKind_room_in1
abbrev iy:=@PySem.wpAny_pyIter_dict
abbrev iz:=@PySem.codeAny_builtin
abbrev iA:=@PySem.wpAny_updateSeq
abbrev iB:=@decide_eq_true_eq
abbrev iC:=PySem.W.Frag
set_option maxHeartbeats 4000000
set_option Elab.async false
set_option linter.all false
set_option maxRecDepth 100000
namespace L2
local macro_rules | `(!1)=>`(by simp)
open PySem PySem.Spec PyProof.Rows
abbrev Key:=Sum Int Str
def CG:Key->Value->Bool
  | .inl k,v=>Value.isInt k v
  | .inr x,v=>Value.isStrOf x v
def keyH(w:World):Key->Int
  | .inl k=>hashInt k
  | .inr x=>hashStr w x
theorem keyIs_shape:∀ {k:Key} {v:Value},CG k v=true->(∃ i t,k=Sum.inl i/\v=Value.int i t)\/(∃ x t,k=Sum.inr x/\v=Value.str x t)
  | .inl i,v,h=>by
    obtain ⟨t,e⟩:=Value.isInt_shape (k:=i) (v:=v) h;exact .inl ⟨i,t,rfl,e⟩
  | .inr x,v,h=>by
    obtain ⟨t,e⟩:=Value.isStrOf_shape (x:=x) (v:=v) h;exact .inr ⟨x,t,rfl,e⟩
theorem EK(i:Int)(t:Tok):CG (.inl i) (.int i t)=true:=by simp [CG,Value.isInt]
theorem D8(x:Str)(t:Tok):CG (.inr x) (.str x t)=true:=by simp [CG,Value.isStrOf]
theorem JL(a b:Int):decide ((Sum.inl a:Key)=Sum.inl b)=(a==b):=by
  by_cases e:a=b
  . subst e; simp
  . have h:¬ (Sum.inl a:Key)=Sum.inl b:=λq=>e (dL q);rw [h7 h];exact (beq_eq_false_iff_ne.mpr e).symm
theorem Jb(a b:Str):decide ((Sum.inr a:Key)=Sum.inr b)=decide (a=b):=by
  by_cases e:a=b
  . subst e; simp
  . have h:¬ (Sum.inr a:Key)=Sum.inr b:=λq=>e (Sum.inr.inj q);rw [h7 h,h7 e]
theorem Jk(a:Int)(b:Str):decide ((Sum.inl a:Key)=Sum.inr b)=false:=h7 (λq=>nomatch q)
theorem Kv(a:Str)(b:Int):decide ((Sum.inr a:Key)=Sum.inl b)=false:=h7 (λq=>nomatch q)
def zX(prog:Program)(w:World):PySem.KeyKind prog w Key where
  is:=CG
  hash:=keyH w
  inj:=λv a b ha hb=>by
    rcases keyIs_shape ha with ⟨i,t,rfl,rfl⟩|⟨x,t,rfl,rfl⟩
    . rcases keyIs_shape hb with ⟨j,u,rfl,e⟩ | ⟨y,u,rfl,e⟩
      . injection e with e1 _; rw [e1]
      . exact nomatch e
    . rcases keyIs_shape hb with ⟨j,u,rfl,e⟩ | ⟨y,u,rfl,e⟩
      . exact nomatch e
      . injection e with e1 _; rw [e1]
  byValue:=λk v h=>by
    rcases keyIs_shape h with ⟨i,t,rfl,rfl⟩|⟨x,t,rfl,rfl⟩ <;> rfl
  pyHash:=λhv h=>by
    rcases keyIs_shape hv with ⟨i,t,rfl,rfl⟩|⟨x,t,rfl,rfl⟩
    . exact wpAny_pyHash_int h
    . exact wpAny_pyHash_str h
  eqBool:=λhu hv h=>by
    rcases keyIs_shape hu with ⟨i,t,rfl,rfl⟩|⟨x,t,rfl,rfl⟩
    . rcases keyIs_shape hv with ⟨j,u,rfl,rfl⟩ | ⟨y,u,rfl,rfl⟩
      . rw [JL] at h; exact wpAny_eqBool_int h
      . rw [Jk] at h; exact SeqAt.EqAt.int_str i t y u _ _ _ _ h
    . rcases keyIs_shape hv with ⟨j,u,rfl,rfl⟩ | ⟨y,u,rfl,rfl⟩
      . rw [Kv] at h; exact SeqAt.EqAt.str_int x t j u _ _ _ _ h
      . rw [Jb] at h; exact wpAny_eqBool_str h
  «strs»:=λk x t v h=>by
    rcases keyIs_shape h with ⟨i,u,rfl,e⟩|⟨y,u,rfl,e⟩
    . exact nomatch e
    . injection e with e1 _;subst e1;cases v <;> rfl
theorem AG(prog:Program)(w:World)(i:Int)(t:Tok):(zX prog w).is (.inl i) (.int i t)=true:=EK i t
theorem AJ(prog:Program)(w:World)(x:Str)(t:Tok):(zX prog w).is (.inr x) (.str x t)=true:=D8 x t
inductive V where
  | non | bl (b:Bool) | int (i:Int) | str (x:Str) | byt (b:Array UInt8) | flt (b:UInt64) | ref (a:Addr) | ty (n:String)
  deriving DecidableEq
def RelV:V->Value->Prop
  | .non,u=>u=Value.none
  | .bl b,u=>u=Value.bool b
  | .int i,u=>∃ t,u=Value.int i t
  | .str x,u=>∃ t,u=Value.str x t
  | .byt b,u=>∃ t,u=Value.bytes b t
  | .flt b,u=>∃ t,u=Value.float b t
  | .ref a,u=>u=Value.ref a
  | .ty n,u=>u=Value.type n
abbrev Vals:List V->List Value->Prop:=Paired RelV
theorem Vals.length{xs:List V}{us:List Value}(r:Vals xs us):xs.length=us.length:=Paired.length r
theorem Vals.get:∀ {xs:List V} {us:List Value} {i:Nat} {x:V},Vals xs us->xs[i]?=some x->∃ u,us[i]?=some u/\RelV x u
  | _,_,_,_,.nil,e=>by simp at e
  | _,_,0,_,.cons r _,e=>by simp at e; subst e; exact ⟨_,rfl,r⟩
  | _,_,i+1,x,.cons _ t,e=>by
    obtain ⟨u,h1,h2⟩:=Vals.get (i:=i) (x:=x) t (by simpa using e);exact ⟨u,by simpa using h1,h2⟩
theorem Vals.append:∀ {xs ys:List V} {us ws:List Value},Vals xs us->Vals ys ws->Vals (xs++ys) (us++ws)
  | _,_,_,_,.nil,s=>s
  | _,_,_,_,.cons r t,s=>.cons r (Vals.append t s)
theorem Vals.take:∀ {xs:List V} {us:List Value} (n:Nat),Vals xs us->Vals (xs.take n) (us.take n)
  | _,_,0,_=>.nil
  | _,_,_+1,.nil=>.nil
  | _,_,n+1,.cons r t=>.cons r (Vals.take n t)
theorem Vals.drop:∀ {xs:List V} {us:List Value} (n:Nat),Vals xs us->Vals (xs.drop n) (us.drop n)
  | _,_,0,r=>r
  | _,_,_+1,.nil=>.nil
  | _,_,n+1,.cons _ t=>Vals.drop n t
def RelO:Option V->Option Value->Prop
  | some v,some u=>RelV v u
  | none,none=>True
  | _,_=>False
def KV{κ:Type}:List (κ×V)->List (κ×Value)->Prop:=Paired λ(p:κ×V) (q:κ×Value)=>p.1=q.1/\RelV p.2 q.2
def kV:Key->V
  | .inl i=>.int i
  | .inr x=>.str x
inductive HO where
  | lst (xs:List V)
  | tup (xs:List V)
  | dK (kvs:List (Key×V)) | dT (kvs:List (List Key×V))
  | set (S:Int->Bool) (n:Nat)
  | ins (C dx:Addr) (fs:List (Str×V))
  | own (x:Addr)
  | xd (fs:List (Str×V))
  | met (f x:Addr)
  | rng (lo hi:Int)
  | frz (o:Obj) (u:HO)
  | tbl (ps:Array Value)
  | ext (φ:Heap->Prop)
abbrev Hp:=Addr->Option HO
def upd(H:Hp)(a:Addr)(o:HO):Hp:=λb=>if b=a then some o else H b
theorem zg{H:Hp}{a:Addr}{o:HO}:upd H a o a=some o:=by unfold upd; rw [h8 rfl]
theorem zl{H:Hp}{a b:Addr}{o:HO}(h:b≠a):upd H a o b=H b:=by unfold upd; rw [h9 h]
theorem ya{H:Hp}{a b:Addr}{o u:HO}(h:H a=some o)(h':H b=some u)(d:o≠u):a≠b:=by
  intro e; subst e; rw [h] at h'; exact d (ax h')
theorem zb{H:Hp}{a b:Addr}{o:HO}(h:H a=some o)(h':H b=none):a≠b:=by
  intro e; subst e; rw [h] at h'; cases h'
section
variable (P:Program)(w:World)
def ObjOk(H:Hp)(h:Heap)(a:Addr):HO->Prop
  | .lst xs=>xs.length<=sizeLine/\∃ (its:List Value) (n:Nat),Vals xs its/\h.get? a=some { cls:=.type "list",data:=.seq its.toArray n }
  | .tup xs=>xs.length<=sizeLine/\∃ its:List Value,Vals xs its/\IsTup h a its.toArray
  | .dK kvs=>kvs.length<=sizeLine/\(a==sysModules)=false/\∃ vs,KV kvs vs/\h.DictOf (zX P w) a vs
  | .dT kvs=>kvs.length<=sizeLine/\(a==sysModules)=false/\∃ xs:List (List Key×Addr×Value),
      Paired (λ(p:List Key×V) (q:List Key×Addr×Value)=>p.1=q.1/\H q.2.1=some (.tup (p.1.map kV))/\RelV p.2 q.2.2) kvs xs /\
      ∃ o es ep,h.get? a=some o/\o.ExactDict/\o.data=.dict es ep/\es.toList=xs.map (entryOfKey (tupleKind (zX P w)))/\(xs.map (·.1)).Nodup
  | .set S n=>h.SetOf (intKind P w) a S n
  | .ins C dx fs=>H dx=some (.own a)/\fs.length<=1000/\dx≠a/\h.get? a=some (W.instObj C dx) /\
      ∃ mA,h.Ns1 dx mA/\(∀ f,RelO (fs.lookup f) (mA f))/\PySem.Within mA (fs.map (·.1))
  | .own _=>∃ o,h.get? a=some o
  | .xd fs=>∃ mA,h.Ns1 a mA/\∀ f,RelO (fs.lookup f) (mA f)
  | .rng lo hi=>∃ t u v,h.get? a=some { cls:=.type "range",data:=.fields #[.int lo t,.int hi u,.int 1 v] }
  | .frz o u=>h.get? a=some o/\ObjOk H h a u
  | .tbl ps=>h.get? a=some { cls:=.none,data:=.fields ps }
  | .met f x=>h.get? a=some (W.methodObj (.ref f) (.ref x))
  | .ext φ=>φ h/\(∃ o,h.get? a=some o)/\∀ h1 h2:Heap,φ h1->(∀ o,h1.get? a=some o->h2.get? a=some o)->φ h2
def HOk(H:Hp)(h:Heap):Prop:=∀ a o,H a=some o->ObjOk P w H h a o
end
variable {P:Program}{w:World}{H H':Hp}{h h':Heap}{a:Addr}{o:HO}
theorem ObjOk.lt(x:ObjOk P w H h a o):a<h.objs.size:=by
  cases o with
  | lst xs=>obtain ⟨_,_,_,_,e⟩:=x; exact Heap.lt_size e
  | tup xs=>obtain ⟨_,_,_,p⟩:=x; exact p.lt
  | dK kvs=>obtain ⟨_,_,_,_,o,_,_,e,_⟩:=x; exact Heap.lt_size e
  | dT kvs=>obtain ⟨_,_,_,_,o,_,_,e,_⟩:=x; exact Heap.lt_size e
  | set S n=>obtain ⟨o,_,_,_,e,_⟩:=x; exact Heap.lt_size e
  | ins C dx fs=>obtain ⟨_,_,_,e,_⟩:=x; exact Heap.lt_size e
  | own y=>obtain ⟨_,e⟩:=x; exact Heap.lt_size e
  | xd fs=>obtain ⟨_,⟨_,_,_,e,_⟩,_⟩:=x; exact Heap.lt_size e
  | rng lo hi=>obtain ⟨_,_,_,e⟩:=x; exact Heap.lt_size e
  | frz ob u=>obtain ⟨e,_⟩:=x; exact Heap.lt_size e
  | tbl ps=>exact Heap.lt_size (show h.get? a=some _ from x)
  | met f y=>exact Heap.lt_size (show h.get? a=some _ from x)
  | ext φ=>obtain ⟨_,⟨_,e⟩,_⟩:=x; exact Heap.lt_size e
theorem Paired.mapP{α β:Type}{F G:α->β->Prop}:∀ {l₁:List α} {l₂:List β},Paired F l₁ l₂->(∀ a b,F a b->G a b)->Paired G l₁ l₂
  | _,_,.nil,_=>.nil
  | _,_,.cons r t,f=>.cons (f _ _ r) (Paired.mapP t f)
theorem ObjOk.stay(x:ObjOk P w H h a o)(k:∀ b u,(b=a\/H b=some (.own a))->h.get? b=some u->h'.get? b=some u)(ho:∀ b,H b=some (.own a)->H' b=some (.own a))(ht:∀ b xs,H b=some (.tup xs)->H' b=some (.tup xs)):ObjOk P w H' h' a o:=by
  induction o with
  | lst xs=>obtain ⟨z,its,n,r,e⟩:=x; exact ⟨z,its,n,r,k _ _ (.inl rfl) e⟩
  | tup xs=>obtain ⟨z,its,r,ob,e,c⟩:=x; exact ⟨z,its,r,ob,k _ _ (.inl rfl) e,c⟩
  | dK kvs=>obtain ⟨z,y,vs,r,ob,es,ep,e,c⟩:=x; exact ⟨z,y,vs,r,ob,es,ep,k _ _ (.inl rfl) e,c⟩
  | dT kvs =>
    obtain ⟨z,y,xs,r,ob,es,ep,e,c⟩:=x;exact ⟨z,y,xs,Paired.mapP r λp q z=>⟨z.1,ht _ _ z.2.1,z.2.2⟩,ob,es,ep,k _ _ (.inl rfl) e,c⟩
  | set S n=>obtain ⟨ob,es,ep,t,e,c⟩:=x; exact ⟨ob,es,ep,t,k _ _ (.inl rfl) e,c⟩
  | ins C dx fs =>
    obtain ⟨d,z,ne,e,mA,⟨od,es,ep,e2,c⟩,r⟩:=x;exact ⟨ho _ d,z,ne,k _ _ (.inl rfl) e,mA,⟨od,es,ep,k _ _ (.inr d) e2,c⟩,r⟩
  | own y=>obtain ⟨ob,e⟩:=x; exact ⟨ob,k _ _ (.inl rfl) e⟩
  | xd fs=>obtain ⟨mA,⟨od,es,ep,e,c⟩,r⟩:=x; exact ⟨mA,⟨od,es,ep,k _ _ (.inl rfl) e,c⟩,r⟩
  | rng lo hi=>obtain ⟨t,u,v,e⟩:=x; exact ⟨t,u,v,k _ _ (.inl rfl) e⟩
  | frz ob u ih=>obtain ⟨e,q⟩:=x; exact ⟨k _ _ (.inl rfl) e,ih q⟩
  | tbl ps =>
    have e:h.get? a=some { cls:=.none,data:=.fields ps }:=x;show h'.get? a=some { cls:=.none,data:=.fields ps };exact k a _ (.inl rfl) e
  | met f y =>
    have e:h.get? a=some (W.methodObj (.ref f) (.ref y)):=x;show h'.get? a=some (W.methodObj (.ref f) (.ref y));exact k a _ (.inl rfl) e
  | ext φ=>obtain ⟨p,⟨o,e⟩,st⟩:=x; exact ⟨st _ _ p λo q=>k _ _ (.inl rfl) q,⟨o,k _ _ (.inl rfl) e⟩,st⟩
theorem HOk.lt(x:HOk P w H h)(e:H a=some o):a<h.objs.size:=(x a o e).lt
theorem HOk.fresh(x:HOk P w H h)(e:h.objs.size<=a):H a=none:=by
  cases q:H a with
  | none=>rfl
  | some u=>exact absurd (aE (x.lt q) e) (cS _)
theorem HOk.kept(x:HOk P w H h)(k:∀ b u,h.get? b=some u->h'.get? b=some u):HOk P w H h':=λa o e =>
  (x a o e).stay (λb u _ q=>k b u q) (λ_ q=>q) λ_ _ q=>q
theorem HOk.laid(x:HOk P w H h)(k:∀ b u,h.get? b=some u->h'.get? b=some u)(hp:h.objs.size<=a)(new:ObjOk P w (upd H a o) h' a o):HOk P w (upd H a o) h':=λb u e=>by
  have hn:=x.fresh hp;by_cases hb:b=a
  . subst hb; rw [zg] at e; cases e; exact new
  . rw [zl hb] at e;exact (x b u e).stay (λc v _ q=>k c v q) (λc q=>by rw [zl (zb q hn)]; exact q) λc xs q=>by rw [zl (zb q hn)]; exact q
def Rd(H:Hp)(a:Addr)(u:HO):Prop:=H a=some u\/∃ o,H a=some (.frz o u)
theorem Rd.ok{u:HO}(r:Rd H a u)(x:HOk P w H h):ObjOk P w H h a u:=by
  rcases r with r|⟨o,r⟩
  . exact x a u r
  . obtain ⟨_,q⟩:=x a _ r;exact q
def Mut:Option HO->Prop
  | some (.lst _)=>True
  | some (.dK _)=>True
  | some (.dT _)=>True
  | some (.set _ _)=>True
  | some (.ins _ _ _)=>True
  | some (.ext _)=>True
  | _=>False
variable {x e:Addr}{o':HO}
theorem HOk.write(ok:HOk P w H h)(mu:Mut (H x))(he:e=x\/H e=some (.own x))(k:∀ b u,b≠e->h.get? b=some u->h'.get? b=some u)(heo:∃ u,h'.get? e=some u)(new:ObjOk P w (upd H x o') h' x o'):HOk P w (upd H x o') h':=λb u q=>by
  have nown:∀ c y,H c=some (.own y)->c≠x:=λc y r z=>by subst z; rw [r] at mu; exact mu
  have ntup:∀ c xs,H c=some (.tup xs)->c≠x:=λc xs r z=>by subst z; rw [r] at mu; exact mu
  by_cases hb:b=x
  . subst hb; rw [zg] at q; cases q; exact new
  . rw [zl hb] at q;by_cases hbe:b=e
    . have q':H b=some (.own x):=by
        rcases he with z|z
        . exact absurd (hbe.trans z) hb
        . rw [hbe]; exact z
      rw [q] at q'; cases q';obtain ⟨v,hv⟩:=heo;exact ⟨v,by rw [hbe]; exact hv⟩
    . refine (ok b u q).stay (λc v hc r=>k c v ?_ r) (λc r=>by rw [zl (nown c b r)]; exact r) λc xs r=>by rw [zl (ntup c xs r)]; exact r
      rcases hc with rfl|hc
      . exact hbe
      . rintro rfl;rcases he with z|z
        . exact nown c b hc z
        . rw [hc] at z; cases z; exact hb rfl
structure Un(fs ex:List Addr)(H H':Hp)(h h':Heap):Prop where
  keep:∀ b o,h.get? b=some o->H b=none->b∉fs->b∉ex->h'.get? b=some o
  slot:∀ b o,h.get? b=some o->H b=none->b∈fs->b∉ex->∃ sl,h'.get? b=some { o with slots:=sl }
  free:∀ b o,h.get? b=some o->H b=none->b∉ex->H' b=none
  there:∀ b o,h.get? b=some o->b∉ex->∃ o',h'.get? b=some o'
  tups:∀ b xs,H b=some (.tup xs)->H' b=some (.tup xs)
  frzs:∀ b o u,H b=some (.frz o u)->H' b=some (.frz o u)
  tbls:∀ b ps,H b=some (.tbl ps)->∃ more,H' b=some (.tbl (ps++more))
section
variable {fs fs' ex ex':List Addr}{H1 H2:Hp}{h1 h2:Heap}
theorem Un.any(u:Un fs ex H H1 h h1){b:Addr}{ob:Obj}(q:h.get? b=some ob)(n:H b=none)(hx:b∉ex):∃ sl,h1.get? b=some { ob with slots:=sl }:=by
  by_cases hb:b∈fs
  . exact u.slot b ob q n hb hx
  . exact ⟨ob.slots,u.keep b ob q n hb hx⟩
theorem Un.kept(k:∀ b u,h.get? b=some u->h'.get? b=some u):Un fs ex H H h h' :=
  ⟨λb ob q _ _ _=>k b ob q,λb ob q _ _ _=>⟨ob.slots,k b ob q⟩,λ_ _ _ n _=>n,λb ob q _=>⟨ob,k b ob q⟩,λ_ _ q=>q,λ_ _ _ q=>q,λ_ ps q=>⟨#[],by rw [q]; simp⟩⟩
theorem Un.refl:Un fs ex H H h h:=Un.kept λ_ _ q=>q
theorem Un.laid(k:∀ b u,h.get? b=some u->h'.get? b=some u)(hp:h.objs.size<=a)(hn:H a=none):Un fs ex H (upd H a o) h h' where
  keep:=λb u q _ _ _=>k b u q
  slot:=λb u q _ _ _=>⟨u.slots,k b u q⟩
  free:=λb u q n _=>by rw [zl (az (aE (Heap.lt_size q) hp))]; exact n
  there:=λb u q _=>⟨u,k b u q⟩
  tups:=λb xs q=>by rw [zl (zb q hn)]; exact q
  frzs:=λb u xs q=>by rw [zl (zb q hn)]; exact q
  tbls:=λb ps q=>⟨#[],by rw [zl (zb q hn),q]; simp⟩
theorem Un.write(mu:Mut (H x))(he:e=x\/H e=some (.own x))(k:∀ b u,b≠e->h.get? b=some u->h'.get? b=some u)(heo:∃ u,h'.get? e=some u):Un fs ex H (upd H x o) h h':=by
  have hx:∀ b,H b=none->b≠x:=λb n z=>by subst z; rw [n] at mu; exact mu
  have hb:∀ b,H b=none->b≠e:=λb n z=>by
    subst z;rcases he with r|r
    . exact hx b n r
    . rw [n] at r; cases r
  have hm:∀ b u,H b=some u->¬ Mut (some u)->b≠x:=λb u q nm z=>by subst z; rw [q] at mu; exact nm mu
  refine ⟨λb u q n _ _=>k b u (hb b n) q,λb u q n _ _=>⟨u.slots,k b u (hb b n) q⟩,λb u q n _=>by rw [zl (hx b n)]; exact n,λb u q _=>?_,
    λb xs q=>by rw [zl (hm b _ q λz=>z)]; exact q,λb u xs q=>by rw [zl (hm b _ q λz=>z)]; exact q,λb ps q=>⟨#[],by rw [zl (hm b _ q λz=>z),q]; simp⟩⟩
  by_cases hbe:b=e
  . subst hbe; exact heo
  . exact ⟨u,k b u hbe q⟩
end
def trk(h:Heap)(H:Hp):List Addr:=(List.range h.objs.size).filter λa=>(H a).isSome
def hidT(h:Heap)(H:Hp):Heap:=W.hideAll h (trk h H)
theorem Es(h:Heap)(H:Hp):(hidT h H).objs.size=h.objs.size:=W.hideAll_size _ _
theorem Gc{b:Addr}{o:Obj}(e:h.get? b=some o)(n:H b=none):(hidT h H).get? b=some o :=
  W.hideAll_get _ e λhm=>by
    have q:(H b).isSome=true:=(dQ.mp hm).2;rw [n] at q; simp at q
theorem Iv{b:Addr}{o:Obj}(e:(hidT h H).get? b=some o):h.get? b=some o/\H b=none:=by
  have e':h.get? b=some o:=W.of_hideAll (trk h H) e;refine ⟨e',?_⟩;cases q:H b with
  | none=>rfl
  | some x =>
    have hm:b∈trk h H:=dQ.mpr ⟨bC.mpr (Heap.lt_size e'),by simp [q]⟩;have z:(hidT h H).get? b=none:=W.hideAll_none (trk h H) hm;rw [z] at e; cases e
def HJ(g h:Heap)(L:Addr):List (Addr×Obj):=(List.range h.objs.size).filterMap λa=>if a=L\/(g.get? a).isSome=true then none else (h.get? a).map λo=>(a,o)
def rest(g h:Heap)(L d:Addr):List (Addr×Obj):=(HJ g h L).filter λp=>decide (p.1≠d)
structure Mod(K:iC)(mg:Str->Option Value)(base:Heap):Prop where
  kin:K.In base
  glob:base.Ns mainGlobals mg
  blt:∃ mb,base.Ns builtinsNs mb/\∀ x:Str,x≠"__name__"->mb x=bootBuiltins x
  nolimit:base.NoLimit
structure Cx where
  prog:Program
  w:World
  K:iC
  mg:Str->Option Value
  base:Heap
  A:Around
  N:List Str
  s₀:Shared
  H₀:Hp
  env:Env
  outer:List Env
  stack:List Env
  ex:List Addr
  fn:Str->Bool
  calm:Bool
  pn:List (Addr×Obj)
  xe:Value->Shared->Prop
def frs(l:List Env):List Addr:=l.filterMap (·.frame)
abbrev Cx.fs(X:Cx):List Addr:=frs X.outer
def Vis(sc:Scope)(x:Str):Prop:=sc.names.lookup x=some .local\/sc.names.lookup x=some .cell\/sc.names.lookup x=some .free
def Loc(sc:Scope)(x:Str):Prop:=sc.names.lookup x=some .local\/sc.names.lookup x=some .cell
def Look(env:Env)(h:Heap)(m:Str->Option Value)(x:Str)(u:Value):Prop :=
  (env.kindOf x=some .local/\m x=some u)\/((env.kindOf x=some .cell\/env.kindOf x=some .free)/\∃ c,env.cells.lookup x=some c/\h.IsCell c (some u))
structure Cx.Ok(X:Cx):Prop where
  mod:Mod X.K X.mg X.base
  kind:X.env.scope.kind=.function
  glob:X.env.globals=mainGlobals
  blt:X.env.builtins=builtinsNs
  above:X.s₀.heap.objs.size<=X.env.locals
  inj:∀ x y c,X.env.cells.lookup x=some c->X.env.cells.lookup y=some c->x=y
  has:∀ x,(X.env.kindOf x=some .cell\/X.env.kindOf x=some .free)->∃ c,X.env.cells.lookup x=some c
  cab:∀ x c,X.fn x=true->X.env.cells.lookup x=some c->X.s₀.heap.objs.size<=c
  hd:X.calm=true->X.A.handled=none
  frames:X.A.frames=some X.stack
  stk:X.stack=X.outer\/(X.stack=X.env::X.outer/\X.env.frame=some X.env.locals)
  exf:∀ b∈X.ex,b≠X.env.locals/\∀ x c,X.env.cells.lookup x=some c->c≠b
  bs:∀ b o,X.base.get? b=some o->X.s₀.heap.get? b=some o/\X.H₀ b=none
  bsz:X.base.objs.size<=X.s₀.heap.objs.size
  noex:∀ b o,X.base.get? b=some o->b∉X.ex
  exfs:∀ b∈X.ex,b∉X.fs
  funs:X.s₀.heap.FunFrames X.base X.outer
  frf:∀ b∈X.fs,X.H₀ b=none
structure Inv(X:Cx)(pins:List (Addr×Obj))(σ:List (Option V))(H:Hp)(s:Shared):Prop where
  ok:X.Ok
  os:s.os=X.s₀.os
  bare:AllBare s.gens
  base:Un X.fs X.ex X.H₀ H X.s₀.heap s.heap
  loc:∃ m,s.heap.Ns X.env.locals m/\∀ (i:Nat) (x:Str) (v:V),X.N[i]?=some x->σ[i]?=some (some v)->Vis X.env.scope x->∃ u,RelV v u/\Look X.env s.heap m x u
  cell:∀ x c,X.env.cells.lookup x=some c->∃ v,s.heap.IsCell c v
  free:H X.env.locals=none
  freeC:∀ x c,X.env.cells.lookup x=some c->H c=none
  pin:∀ p∈X.pn++pins,s.heap.get? p.1=some p.2/\H p.1=none/\p.1≠X.env.locals/\p.1∉X.fs/\∀ v,p.2.data≠.cell v
  hok:HOk X.prog X.w H s.heap
  len:σ.length=X.N.length
variable {it:Addr}{g':Array GenState}{d':Drawn}{ch:List Addr}{M:Model}{t':Nat}{E:Value->Shared->Prop}
section
variable {X:Cx}{pins:List (Addr×Obj)}{σ:List (Option V)}{s:Shared}
theorem Cx.Ok.nofr(ok:X.Ok){b:Addr}{o:Obj}(e:X.base.get? b=some o):b∉X.fs:=λhb=>by
  have:=(ok.funs.mem hb).1;rw [e] at this; cases this
theorem Inv.bs(I:Inv X pins σ H s):∀ b o,X.base.get? b=some o->s.heap.get? b=some o/\H b=none:=λb o e =>
  ⟨I.base.keep b o (I.ok.bs b o e).1 (I.ok.bs b o e).2 (I.ok.nofr e) (I.ok.noex b o e),I.base.free b o (I.ok.bs b o e).1 (I.ok.bs b o e).2 (I.ok.noex b o e)⟩
theorem Inv.bk(I:Inv X pins σ H s):∀ b o,X.base.get? b=some o->s.heap.get? b=some o:=λb o e=>(I.bs b o e).1
theorem Inv.mod(I:Inv X pins σ H s):Mod X.K X.mg X.base:=I.ok.mod
theorem Inv.kIn(I:Inv X pins σ H s):X.K.In s.heap:=I.ok.mod.kin.keeps I.bk
theorem Inv.lt(I:Inv X pins σ H s):X.env.locals<s.heap.objs.size:=let ⟨_,hn,_⟩:=I.loc; hn.lt
theorem Inv.sz(I:Inv X pins σ H s):X.s₀.heap.objs.size<=s.heap.objs.size:=bK I.ok.above (bf I.lt)
theorem Inv.nofs(I:Inv X pins σ H s)(h:s.heap.objs.size<=a):a∉X.fs:=λhb=>by
  obtain ⟨_,o,ho,_⟩:=I.ok.funs.mem hb;exact absurd (aE (Heap.lt_size ho) (bK I.sz h)) (cS _)
theorem Inv.cne(I:Inv X pins σ H s):∀ x c,X.env.cells.lookup x=some c->c≠X.env.locals:=λx c e z=>by
  obtain ⟨v,o,ho,hd⟩:=I.cell x c e;obtain ⟨m,⟨o',es,ep,ho',hd',_⟩,_⟩:=I.loc;rw [z,ho'] at ho; cases ho; rw [hd'] at hd; cases hd
theorem Inv.funs(I:Inv X pins σ H s):s.heap.FunFrames X.base X.outer:=by
  have all:∀ (l:List Env),(∀ b∈frs l,b∈X.fs)->X.s₀.heap.FunFrames X.base l->s.heap.FunFrames X.base l:=by
    intro l;induction l with
    | nil=>intro _ _; trivial
    | cons env r ih =>
      intro hs hl;obtain ⟨hk,⟨L,o,hf,hn,ho,hd⟩,hr⟩:=hl;have hL:L∈X.fs:=hs L (by unfold frs; rw [eV,hf]; exact aB);obtain ⟨sl,e⟩:=I.base.slot L o ho (I.ok.frf L hL) hL λz=>I.ok.exfs L z hL;exact ⟨hk,⟨L,_,hf,hn,e,hd⟩,ih (λb hb=>hs b (by unfold frs; rw [eV,hf]; exact ay _ hb)) hr⟩
  exact all X.outer (λ_ hb=>hb) I.ok.funs
theorem Inv.stack(I:Inv X pins σ H s):s.heap.FunFrames X.base X.stack:=by
  rcases I.ok.stk with e|⟨e,hf⟩
  . rw [e]; exact I.funs
  . rw [e];obtain ⟨m,hn,_⟩:=I.loc;refine .cons (by rw [I.ok.kind]; decide) hf hn ?_ I.funs;exact Heap.get?_none_of_le (bK I.ok.bsz I.ok.above)
theorem Inv.stkSub(I:Inv X pins σ H s):∀ b∈frs X.stack,b∈X.env.locals::X.fs:=λb hb=>by
  rcases I.ok.stk with e|⟨e,hf⟩
  . rw [e] at hb; exact ay _ hb
  . rw [e] at hb;unfold frs at hb;rw [eV,hf] at hb;exact hb
theorem Inv.stkFree(I:Inv X pins σ H s):∀ b∈frs X.stack,H b=none:=λb hb=>by
  rcases aN.mp (I.stkSub b hb) with e|hb
  . rw [e]; exact I.free
  . obtain ⟨_,o,ho,_⟩:=I.ok.funs.mem hb;exact I.base.free b o ho (I.ok.frf b hb) λz=>I.ok.exfs b z hb
theorem Inv.step(I:Inv X pins σ H s)(hch:∀ b∈ch,(b∈X.ex\/X.s₀.heap.objs.size<=b)/\b≠X.env.locals/\(∀ x c,X.env.cells.lookup x=some c->c≠b)/\∀ p∈X.pn++pins,p.1≠b)(keep:∀ b o,b≠X.env.locals->b∉X.fs->b∉ch->s.heap.get? b=some o->H b=none->h'.get? b=some o)(slot:∀ b o,b≠X.env.locals->b∈X.fs->b∉ch->s.heap.get? b=some o->H b=none->∃ sl,h'.get? b=some { o with slots:=sl })(free:∀ b o,b∉ch->s.heap.get? b=some o->H b=none->H' b=none)(there:∀ b o,b∉ch->s.heap.get? b=some o->∃ o',h'.get? b=some o')(tups:∀ b xs,H b=some (.tup xs)->H' b=some (.tup xs))(frzs:∀ b o u,H b=some (.frz o u)->H' b=some (.frz o u))(tbls:∀ b ps,H b=some (.tbl ps)->∃ more,H' b=some (.tbl (ps++more)))(ns:∀ m,s.heap.Ns X.env.locals m->h'.Ns X.env.locals m)(hok:HOk X.prog X.w H' h')(hg:AllBare g') :
    Inv X pins σ H' { s with heap:=h',gens:=g',drawn:=d',toks:=t' }:=by
  have neL:∀ b o,X.s₀.heap.get? b=some o->b≠X.env.locals:=λb o e=>az (aE (Heap.lt_size e) I.ok.above);have neC:∀ b o,X.s₀.heap.get? b=some o->b∉X.ex->b∉ch:=λb o e hx hb=>by
    rcases (hch b hb).1 with z|z
    . exact hx z
    . exact absurd (aE (Heap.lt_size e) z) (cS _)
  have cellK:∀ x c,X.env.cells.lookup x=some c->∀ v,s.heap.IsCell c v->h'.IsCell c v:=λx c e v ⟨o,ho,hd⟩=>by
    have nch:c∉ch:=λz=>(hch c z).2.2.1 x c e rfl;by_cases hc:c∈X.fs
    . obtain ⟨sl,q⟩:=slot c o (I.cne x c e) hc nch ho (I.freeC x c e);exact ⟨_,q,hd⟩
    . exact ⟨o,keep c o (I.cne x c e) hc nch ho (I.freeC x c e),hd⟩
  refine ⟨I.ok,I.os,hg,⟨λb o e n hb hx=>?_,λb o e n hb hx=>?_,λb o e n hx=>?_,λb o e hx=>?_,λb xs e=>tups b xs (I.base.tups b xs e),λb o xs e=>frzs b o xs (I.base.frzs b o xs e),λb ps e=>?_⟩,?_,λx c e=>?_,?_,λx c e=>?_,λp hp=>?_,hok,I.len⟩
  . exact keep b o (neL b o e) hb (neC b o e hx) (I.base.keep b o e n hb hx) (I.base.free b o e n hx)
  . obtain ⟨sl,e1⟩:=I.base.slot b o e n hb hx;obtain ⟨sl',e2⟩:=slot b _ (neL b o e) hb (neC b o e hx) e1 (I.base.free b o e n hx);exact ⟨sl',e2⟩
  . obtain ⟨o',e1⟩:=I.base.there b o e hx;exact free b o' (neC b o e hx) e1 (I.base.free b o e n hx)
  . obtain ⟨o',e1⟩:=I.base.there b o e hx;exact there b o' (neC b o e hx) e1
  . obtain ⟨m1,e1⟩:=I.base.tbls b ps e;obtain ⟨m2,e2⟩:=tbls b _ e1;exact ⟨m1++m2,by rw [e2,Array.append_assoc]⟩
  . obtain ⟨m,hn,hl⟩:=I.loc;refine ⟨m,ns m hn,λi x v e1 e2 e3=>?_⟩;obtain ⟨u,r,l⟩:=hl i x v e1 e2 e3;refine ⟨u,r,?_⟩;rcases l with l|⟨k,c,e,z⟩
    . exact .inl l
    . exact .inr ⟨k,c,e,cellK x c e _ z⟩
  . obtain ⟨v,z⟩:=I.cell x c e;exact ⟨v,cellK x c e v z⟩
  . obtain ⟨m,⟨o,_,_,ho,_⟩,_⟩:=I.loc;exact free _ o (λz=>(hch _ z).2.1 rfl) ho I.free
  . obtain ⟨v,o,ho,hd⟩:=I.cell x c e;exact free c o (λz=>(hch c z).2.2.1 x c e rfl) ho (I.freeC x c e)
  . obtain ⟨e,n,ne,nf,d⟩:=I.pin p hp;have nch:p.1∉ch:=λz=>(hch p.1 z).2.2.2 p hp rfl;exact ⟨keep p.1 p.2 ne nf nch e n,free p.1 p.2 nch e n,ne,nf,d⟩
theorem Inv.un(I:Inv X pins σ H s)(u:Un X.fs [] H H' s.heap h')(hok:HOk X.prog X.w H' h'):Inv X pins σ H' { s with heap:=h',toks:=t' }:=by
  obtain ⟨m,⟨o,es,ep,ho,r⟩,_⟩:=id I.loc;obtain ⟨sl,hL⟩:=u.any ho I.free (!1);exact I.step (g':=s.gens) (d':=s.drawn) (ch:=[]) (λ_ z=>nomatch z) (λb o _ hb _ e n=>u.keep b o e n hb (!1)) (λb o _ hb _ e n=>u.slot b o e n hb (!1)) (λb o _ e n=>u.free b o e n (!1)) (λb o _ e=>u.there b o e (!1)) u.tups u.frzs u.tbls (λm' hm=>by
    obtain ⟨o',es',ep',ho',r'⟩:=hm;rw [ho] at ho'; cases ho';exact ⟨_,es',ep',hL,r'⟩) hok I.bare
theorem Inv.call(I:Inv X pins σ H s)(u:Un (frs X.stack) ch H H' s.heap h')(hok:HOk X.prog X.w H' h')(hg:AllBare g')(hch:∀ b∈ch,(b∈X.ex\/X.s₀.heap.objs.size<=b)/\b≠X.env.locals/\(∀ x c,X.env.cells.lookup x=some c->c≠b)/\∀ p∈X.pn++pins,p.1≠b) : Inv X pins σ H' { s with heap:=h',gens:=g',drawn:=d',toks:=t' }:=by
  obtain ⟨m,⟨o,es,ep,ho,r⟩,_⟩:=id I.loc;obtain ⟨sl,hL⟩:=u.any ho I.free λz=>(hch _ z).2.1 rfl;exact I.step (ch:=ch) hch (λb o hL hb hc e n=>u.keep b o e n (λz=>(aN.mp (I.stkSub b z)).elim hL hb) hc) (λb o _ _ hc e n=>u.any e n hc) (λb o hc e n=>u.free b o e n hc) (λb o hc e=>u.there b o e hc) u.tups u.frzs u.tbls (λm' hm=>by
    obtain ⟨o',es',ep',ho',r'⟩:=hm;rw [ho] at ho'; cases ho';exact ⟨_,es',ep',hL,r'⟩) hok hg
theorem Inv.turned(I:Inv X pins σ H s)(k:∀ b o,b≠it->s.heap.get? b=some o->h'.get? b=some o)(hn:H it=none)(hL:it≠X.env.locals)(h1:it∈X.ex\/X.s₀.heap.objs.size<=it)(h2:∀ x c,X.env.cells.lookup x=some c->c≠it)(h3:∀ p∈X.pn++pins,p.1≠it):Inv X pins σ H { s with heap:=h',toks:=t' }:=by
  have nit:∀ b u,H b=some u->b≠it:=λb u e z=>by rw [z,hn] at e; cases e
  refine I.step (g':=s.gens) (d':=s.drawn) (ch:=[it]) (λb hb=>?_) (λb o _ _ hc e _=>k b o (λz=>hc (by simp [z])) e) (λb o _ _ hc e _=>⟨o.slots,k b o (λz=>hc (by simp [z])) e⟩) (λ_ _ _ _ n=>n)
    (λb o hc e=>⟨o,k b o (λz=>hc (by simp [z])) e⟩) (λ_ _ e=>e) (λ_ _ _ e=>e) (λb ps e=>⟨#[],by rw [e]; simp⟩) (λm hm=>?_) (λb u e=>?_) I.bare
  . have e:b=it:=by simpa using hb
    subst e;exact ⟨h1,hL,h2,h3⟩
  . obtain ⟨o,es,ep,ho,r⟩:=hm;exact ⟨o,es,ep,k _ o (bZ hL) ho,r⟩
  . refine (I.hok b u e).stay (λc v hc q=>k c v ?_ q) (λ_ q=>q) λ_ _ q=>q;rcases hc with z|z
    . rw [z]; exact nit b u e
    . exact nit c _ z
theorem Inv.tok(I:Inv X pins σ H s)(t:Nat):Inv X pins σ H { s with toks:=t }:=I.un (h':=s.heap) (t':=t) Un.refl I.hok
theorem Inv.kept{t':Nat}(I:Inv X pins σ H s)(k:∀ b u,s.heap.get? b=some u->h'.get? b=some u):Inv X pins σ H { s with heap:=h',toks:=t' }:=I.un (Un.kept k) (I.hok.kept k)
theorem Inv.laid{a:Addr}{o:HO}{t':Nat}(I:Inv X pins σ H s)(k:∀ b u,s.heap.get? b=some u->h'.get? b=some u)(hp:s.heap.objs.size<=a)(new:ObjOk X.prog X.w (upd H a o) h' a o) : Inv X pins σ (upd H a o) { s with heap:=h',toks:=t' }:=I.un (Un.laid k hp (I.hok.fresh hp)) (I.hok.laid k hp new)
theorem Inv.write{x e:Addr}{o:HO}{t':Nat}(I:Inv X pins σ H s)(mu:Mut (H x))(he:e=x\/H e=some (.own x))(k:∀ b u,b≠e->s.heap.get? b=some u->h'.get? b=some u)(heo:∃ u,h'.get? e=some u) (new:ObjOk X.prog X.w (upd H x o) h' x o):Inv X pins σ (upd H x o) { s with heap:=h',toks:=t' }:=I.un (Un.write mu he k heo) (I.hok.write mu he k heo new)
theorem Inv.pins_of{pins':List (Addr×Obj)}(I:Inv X pins σ H s)(h:∀ p∈pins',s.heap.get? p.1=some p.2/\H p.1=none/\p.1≠X.env.locals/\p.1∉X.fs/\∀ v,p.2.data≠.cell v):Inv X pins' σ H s :=
  ⟨I.ok,I.os,I.bare,I.base,I.loc,I.cell,I.free,I.freeC,λp hp=>(aw.mp hp).elim (λz=>I.pin p (cf _ z)) (h p),I.hok,I.len⟩
variable {x:Str}
theorem BW{N:List Str}(hN:N.Nodup){i j:Nat}(a:N[i]?=some x)(b:N[j]?=some x):i=j:=by
  obtain ⟨h1,e1⟩:=af.mp a;obtain ⟨h2,e2⟩:=af.mp b;exact (List.getElem_inj hN).mp (e1.trans e2.symm)
theorem Aw{A:Around}{i:Nat}{v:V}{u:Value}{Q:Unit->Shared->Prop}(I:Inv X pins σ H s)(hN:X.N.Nodup)(hi:X.N[i]?=some x)(hx:Loc X.env.scope x)(r:RelV v u)(h:∀ s',Inv X pins (σ.set i (some v)) H s'->(∃ a,Heap.SameBut a s.heap s'.heap/\(a=X.env.locals\/X.env.cells.lookup x=some a))->Q () s')(hf:X.fn x=true\/X.env.scope.names.lookup x=some .local:=by first | exact .inl rfl | exact .inr rfl | assumption):wpAny M A (storeName X.env x u) Q E s:=by
  obtain ⟨m,hn,hl⟩:=id I.loc;have hcls:(X.env.scope.kind==.class || (X.env.scope.kind==.module && X.env.locals != X.env.globals))=false:=by rw [I.ok.kind]; rfl
  have hiσ:i<σ.length:=by rw [I.len]; exact (af.mp hi).1
  have cne:=I.cne;have tracked:∀ {a:Addr} {h':Heap},(∃ o,s.heap.get? a=some o/\H a=none)->Heap.SameBut a s.heap h'->HOk X.prog X.w H h':=λ{a h'} ha hs b ob e=>by
    obtain ⟨_,_,hfree⟩:=ha;refine (I.hok b ob e).stay (λc w' hc q=>(hs.2 c ?_).trans q) (λ_ q=>q) λ_ _ q=>q;rintro rfl;rcases hc with rfl|hc
    . rw [hfree] at e; cases e
    . rw [hfree] at hc; cases hc
  rcases hx with hk|hk
  . refine wpAny_storeName_local hk hn (λh' hn' hs=>?_) hcls;obtain ⟨oL,_,_,hoL,_⟩:=id hn;refine h _ ⟨I.ok,I.os,I.bare,⟨λb o e n hb hx=>?_,λb o e n hb hx=>?_,I.base.free,λb o e hx=>?_,I.base.tups,I.base.frzs,I.base.tbls⟩,⟨_,hn',λj y v' e1 e2 e3=>?_⟩,λy c e=>?_,I.free,I.freeC,λp hp=>?_,tracked ⟨oL,hoL,I.free⟩ hs,by simpa using I.len⟩ ⟨_,hs,.inl rfl⟩
    . exact (hs.2 b (az (aE (Heap.lt_size e) I.ok.above))).trans (I.base.keep b o e n hb hx)
    . obtain ⟨sl,e1⟩:=I.base.slot b o e n hb hx;exact ⟨sl,(hs.2 b (az (aE (Heap.lt_size e) I.ok.above))).trans e1⟩
    . obtain ⟨o',e1⟩:=I.base.there b o e hx;exact ⟨o',(hs.2 b (az (aE (Heap.lt_size e) I.ok.above))).trans e1⟩
    . by_cases hj:j=i
      . subst hj;rw [hi] at e1; cases e1;rw [gA hiσ] at e2;cases e2
        exact ⟨u,r,.inl ⟨hk,by simp⟩⟩
      . rw [List.getElem?_set_ne (bZ hj)] at e2;obtain ⟨u',r',q⟩:=hl j y v' e1 e2 e3;refine ⟨u',r',?_⟩;rcases q with ⟨k,e⟩|⟨k,c,e,z⟩
        . refine .inl ⟨k,?_⟩;have:y≠x:=λe=>hj (BW hN e1 (e ▸ hi));simp [this,e]
        . exact .inr ⟨k,c,e,z.sameBut hs (cne y c e)⟩
    . obtain ⟨w',z⟩:=I.cell y c e;exact ⟨w',z.sameBut hs (cne y c e)⟩
    . obtain ⟨e,n,ne,nf,d⟩:=I.pin p hp;exact ⟨(hs.2 p.1 ne).trans e,n,ne,nf,d⟩
  . have hfn:X.fn x=true:=by
      rcases hf with z|z
      . exact z
      . rw [z] at hk; cases hk
    obtain ⟨c,hc⟩:=I.ok.has x (.inl hk);obtain ⟨w',z⟩:=I.cell x c hc;refine wpAny_storeName_cell I.ok.kind hk hc z (λh' hc' hs=>?_);obtain ⟨oc,hoc,hocd⟩:=id z;refine h { s with heap:=h' } ⟨I.ok,I.os,I.bare,⟨λb o e n hb hx=>?_,λb o e n hb hx=>?_,I.base.free,λb o e hx=>?_,I.base.tups,I.base.frzs,I.base.tbls⟩,⟨m,hn.sameBut hs (bZ (cne x c hc)),λj y v' e1 e2 e3=>?_⟩,λy c' e=>?_,I.free,I.freeC,λp hp=>?_,tracked ⟨oc,hoc,I.freeC x c hc⟩ hs,by simpa using I.len⟩ ⟨c,hs,.inr hc⟩
    . exact (hs.2 b (az (aE (Heap.lt_size e) (I.ok.cab x c hfn hc)))).trans (I.base.keep b o e n hb hx)
    . obtain ⟨sl,e1⟩:=I.base.slot b o e n hb hx;exact ⟨sl,(hs.2 b (az (aE (Heap.lt_size e) (I.ok.cab x c hfn hc)))).trans e1⟩
    . obtain ⟨o',e1⟩:=I.base.there b o e hx;exact ⟨o',(hs.2 b (az (aE (Heap.lt_size e) (I.ok.cab x c hfn hc)))).trans e1⟩
    . by_cases hj:j=i
      . subst hj;rw [hi] at e1; cases e1;rw [gA hiσ] at e2;cases e2
        exact ⟨u,r,.inr ⟨.inl hk,c,hc,hc'⟩⟩
      . rw [List.getElem?_set_ne (bZ hj)] at e2;obtain ⟨u',r',q⟩:=hl j y v' e1 e2 e3;refine ⟨u',r',?_⟩;rcases q with q|⟨k,c',e,z'⟩
        . exact .inl q
        . refine .inr ⟨k,c',e,z'.sameBut hs ?_⟩;rintro rfl;exact hj (BW hN e1 (I.ok.inj _ _ _ e hc ▸ hi))
    . by_cases hcc:c'=c
      . subst hcc; exact ⟨_,hc'⟩
      . obtain ⟨w2,z2⟩:=I.cell y c' e;exact ⟨w2,z2.sameBut hs hcc⟩
    . obtain ⟨e,n,ne,nf,d⟩:=I.pin p hp;refine ⟨(hs.2 p.1 ?_).trans e,n,ne,nf,d⟩;intro q;rw [q,hoc] at e;have q':oc=p.2:=ax e;exact d w' (by rw [<-q']; exact hocd)
theorem vi{A:Around}{i:Nat}{v:V}{u:Value}{Q:Unit->Shared->Prop}(I:Inv X pins σ H s)(hN:X.N.Nodup)(hi:X.N[i]?=some x)(hx:Loc X.env.scope x)(r:RelV v u)(h:∀ s',Inv X pins (σ.set i (some v)) H s'->Q () s')(hf:X.fn x=true\/X.env.scope.names.lookup x=some .local:=by first | exact .inl rfl | exact .inr rfl | assumption):wpAny M A (storeName X.env x u) Q E s :=
  Aw I hN hi hx r (λs' I' _=>h s' I') hf
theorem Inv.call'{s':Shared}(I:Inv X pins σ H s)(ho:s'.os=s.os)(u:Un (frs X.stack) ch H H' s.heap s'.heap)(hok:HOk X.prog X.w H' s'.heap)(hg:AllBare s'.gens)(hch:∀ b∈ch,(b∈X.ex\/X.s₀.heap.objs.size<=b)/\b≠X.env.locals/\(∀ x c,X.env.cells.lookup x=some c->c≠b)/\∀ p∈X.pn++pins,p.1≠b):Inv X pins σ H' s':=by
  obtain ⟨h',g',d',t',o'⟩:=s';have e:o'=s.os:=ho;subst e;exact I.call (g':=g') (t':=t') (d':=d') u hok hg hch
end
abbrev XK:=Value->Option Addr->Hp->Prop
abbrev St:=List (Option V)
abbrev VK:=V->Hp->Prop
abbrev TE:=St->Hp->VK->Prop
abbrev TT:=St->Hp->(Bool->Hp->Prop)->Prop
abbrev TA:=St->Hp->(List V->Hp->Prop)->Prop
structure Ends where
  nx:St->Hp->Prop
  rt:VK
  bk:St->Hp->Prop:=λ_ _=>False
  ct:St->Hp->Prop:=λ_ _=>False
abbrev TS:=Ends->St->Hp->Prop
def EP(X:Cx)(pins:List (Addr×Obj))(σ:St)(Q:VK)(u:Value)(s':Shared):Prop:=∃ v H',Inv X pins σ H' s'/\RelV v u/\Q v H'
def TP(X:Cx)(pins:List (Addr×Obj))(σ:St)(Q:Bool->Hp->Prop)(b:Bool)(s':Shared):Prop:=∃ H',Inv X pins σ H' s'/\Q b H'
def AP(X:Cx)(pins:List (Addr×Obj))(σ:St)(Q:List V->Hp->Prop)(us:List Value)(s':Shared):Prop:=∃ vs H',Inv X pins σ H' s'/\Vals vs us/\Q vs H'
def SP(X:Cx)(pins:List (Addr×Obj))(D:Ends)(f:Flow)(s':Shared):Prop :=
  match f with
  | .next=>∃ σ' H',Inv X pins σ' H' s'/\D.nx σ' H'
  | .brk=>∃ σ' H',Inv X pins σ' H' s'/\D.bk σ' H'
  | .cont=>∃ σ' H',Inv X pins σ' H' s'/\D.ct σ' H'
  | .ret u=>∃ v σ' H',Inv X pins σ' H' s'/\RelV v u/\D.rt v H'
def PE(X:Cx)(e:Expr)(t:TE):Prop :=
  ∀ (pins:List (Addr×Obj)) (s:Shared) (σ:St) (H:Hp) (Q:VK),Inv X pins σ H s->t σ H Q->wpAny (model X.prog X.w) X.A (eval e X.env) (EP X pins σ Q) X.xe s
def PT(X:Cx)(e:Expr)(t:TT):Prop :=
  ∀ (pins:List (Addr×Obj)) (s:Shared) (σ:St) (H:Hp) (Q:Bool->Hp->Prop),Inv X pins σ H s->t σ H Q->wpAny (model X.prog X.w) X.A (isTrue e X.env (eval e X.env)) (TP X pins σ Q) X.xe s
def PW(X:Cx)(e:Expr)(t:TT):Prop :=
  ∀ (whole:Sem Value) (pins:List (Addr×Obj)) (s:Shared) (σ:St) (H:Hp) (Q:Bool->Hp->Prop),Inv X pins σ H s->t σ H Q->wpAny (model X.prog X.w) X.A (isTrue e X.env whole) (TP X pins σ Q) X.xe s
theorem PW.pt{X:Cx}{e:Expr}{t:TT}(h:PW X e t):PT X e t:=h _
def PA(X:Cx)(es:List Expr)(t:TA):Prop :=
  ∀ (pos:Pos) (pins:List (Addr×Obj)) (s:Shared) (σ:St) (H:Hp) (Q:List V->Hp->Prop),Inv X pins σ H s->t σ H Q->wpAny (model X.prog X.w) X.A (spliced (backTo pos (starEach es X.env))) (AP X pins σ Q) X.xe s
def PS(X:Cx)(st:Stmt)(t:TS):Prop :=
  ∀ (pins:List (Addr×Obj)) (s:Shared) (σ:St) (H:Hp) (D:Ends),Inv X pins σ H s->t D σ H->wpAny (model X.prog X.w) X.A (exec st X.env) (SP X pins D) X.xe s
def PSs(X:Cx)(st:List Stmt)(t:TS):Prop :=
  ∀ (pins:List (Addr×Obj)) (s:Shared) (σ:St) (H:Hp) (D:Ends),Inv X pins σ H s->t D σ H->wpAny (model X.prog X.w) X.A (execs st X.env) (SP X pins D) X.xe s
theorem thn{α:Type}{t:Sem α}{Q Q':α->Shared->Prop}{A:Around}{s:Shared}(h:wpAny M A t Q E s)(hQ:∀ a s,Q a s->Q' a s):wpAny M A t Q' E s:=ia h hQ λ_ _ x=>x
variable {op:CmpOp}{c:Expr}{pins:List (Addr×Obj)}
section
variable {X:Cx}
def tVar(i:Nat):TE:=λσ H Q=>∃ v,σ[i]?=some (some v)/\Q v H
def tC(v:V):TE:=λ_ H Q=>Q v H
variable {x:Str}
theorem JC{i:Nat}{pos:Pos}(hN:X.N[i]?=some x)(hv:Vis X.env.scope x)(hd:(x==("__debug__":Str))=false:=by decide)(hcd:(x==("__classdict__":Str))=false:=by decide):PE X (.Name x pos) (tVar i):=by
  intro pins s σ H Q I h;obtain ⟨v,e,h⟩:=h;obtain ⟨m,hn,hl⟩:=I.loc;obtain ⟨u,r,l⟩:=hl i x v hN e hv;have fin:EP X pins σ Q u s:=⟨v,H,I,r,h⟩
  rcases l with ⟨hk,hm⟩|⟨hk,c,hc,hcell⟩
  . exact wpAny_Name (wpAny_loadName_local I.ok.kind hk hn hm fin) hd
  . rcases hk with hk | hk
    . exact wpAny_Name (wpAny_loadName_cell I.ok.kind hk hc hcell fin) hd
    . exact wpAny_Name (wpAny_loadName_free I.ok.kind hk hc hcell fin hcd) hd
theorem zd{i j pos}:PE X (.Constant (.int i) j pos) (tC (.int i)):=λ_ _ _ H _ I h=>wpAny_Constant_int ⟨.int i,H,I.tok _,⟨_,rfl⟩,h⟩
theorem xq{b j pos}:PE X (.Constant (.bool b) j pos) (tC (.bl b)):=λ_ _ _ H _ I h=>Constant_bool ⟨.bl b,H,I,rfl,h⟩
theorem BH{j pos}:PE X (.Constant .none j pos) (tC .non):=λ_ _ _ H _ I h=>Constant_none ⟨.non,H,I,rfl,h⟩
theorem zx{x j pos}:PE X (.Constant (.str x) j pos) (tC (.str x)):=λ_ _ _ H _ I h=>Calls.Constant_str ⟨.str x,H,I.tok _,⟨_,rfl⟩,h⟩
def Gl(X:Cx)(x:Str):Prop:=X.env.kindOf x=some .globalImplicit
theorem AL{s:Shared}{σ:St}{u:Value}{pos:Pos}{Q:Value->Shared->Prop}(I:Inv X pins σ H s)(hg:Gl X x)(hm:X.mg x=some u)(h:Q u s)(hd:(x==("__debug__":Str))=false:=by decide):wpAny (model X.prog X.w) X.A (eval (.Name x pos) X.env) Q E s :=
  Calls.Name_function_global I.ok.kind hg (Calls.loadGlobal_global (by rw [I.ok.glob]; exact I.mod.glob.keeps I.bk) hm h) hd
theorem wq{s:Shared}{σ:St}{u:Value}{pos:Pos}{Q:Value->Shared->Prop}(I:Inv X pins σ H s)(hg:Gl X x)(hm:X.mg x=none)(hv:bootBuiltins x=some u)(h:Q u s)(hn:x≠"__name__":=by decide)(hd:(x==("__debug__":Str))=false:=by decide):wpAny (model X.prog X.w) X.A (eval (.Name x pos) X.env) Q E s:=by
  obtain ⟨mb,h1,h2⟩:=I.mod.blt;exact Calls.Name_function_global I.ok.kind hg (Calls.loadGlobal_builtin (by rw [I.ok.glob]; exact I.mod.glob.keeps I.bk) hm (by rw [I.ok.blt]; exact h1.keeps I.bk) ((h2 x hn).trans hv) h) hd
theorem yR{v:V}{u:Value}{pos:Pos}(hg:Gl X x)(hm:X.mg x=some u)(r:RelV v u)(hd:(x==("__debug__":Str))=false:=by decide):PE X (.Name x pos) (tC v) :=
  λ_ _ _ H _ I h=>AL I hg hm ⟨v,H,I,r,h⟩ hd
theorem yK{v:V}{u:Value}{pos:Pos}(hg:Gl X x)(hm:X.mg x=none)(hv:bootBuiltins x=some u)(r:RelV v u)(hn:x≠"__name__":=by decide)(hd:(x==("__debug__":Str))=false:=by decide):PE X (.Name x pos) (tC v) :=
  λ_ _ _ H _ I h=>wq I hg hm hv ⟨v,H,I,r,h⟩ hn hd
variable {a b:Expr}{ta tb:TE}{pos:Pos}
def PC(X:Cx)(op:CmpOp)(a b:Expr)(t:TE):Prop :=
  ∀ (pins:List (Addr×Obj)) (s:Shared) (σ:St) (H:Hp) (Q:VK),Inv X pins σ H s->t σ H Q ->
    wpAny (model X.prog X.w) X.A (eval a X.env) (λv s₁=>wpAny (model X.prog X.w) X.A (eval b X.env) (λu s₂=>wpAny (model X.prog X.w) X.A (compareOp op v u) (EP X pins σ Q) X.xe s₂) X.xe s₁) X.xe s
def tB(t:TE):TT:=λσ H Q=>t σ H λx H1=>∃ c,x=.bl c/\Q c H1
variable {t:TE}
theorem Dc(h:PC X op a b t)(h1:behindInMarks op b=false:=by first | exact nobehind _ (by decide) (by decide) | rfl):PT X (.Compare a [op] [b] pos) (tB t):=by
  intro pins s σ H Q I hw;refine wpAny_isTrue_Compare1 (thn (h pins s σ H _ I hw) λv s1 h1=>thn h1 λu s2 h2=>thn h2 λc s3 ⟨x,H1,I1,r1,q1⟩=>?_) h1;obtain ⟨d,rfl,q⟩:=q1;cases r1
  exact ib ⟨H1,I1,q⟩
theorem zU{e:Expr}(h:PE X e t)(he:∀ whole,isTrue e X.env whole=(do let v <-whole; standAt e.pos; holding [v] (truthy v)):=by intro _; rfl):PT X e (tB t):=by
  intro pins s σ H Q I hw;refine isTrue_plain (thn (h pins s σ H _ I hw) λv s1 ⟨x,H1,I1,r1,q1⟩=>?_) (he _);obtain ⟨d,rfl,q⟩:=q1;cases r1
  exact ib ⟨H1,I1,q⟩
variable {tA tB':TT}{rest:List Expr}
def tAnd(t u:TT):TT:=λσ H Q=>t σ H λc H1=>if c=true then u σ H1 Q else Q false H1
def tOr(t u:TT):TT:=λσ H Q=>t σ H λc H1=>if c=true then Q true H1 else u σ H1 Q
def tNot(t:TT):TT:=λσ H Q=>t σ H λc H1=>Q (!c) H1
theorem yI(ha:PT X a tA):PW X (.BoolOp .And [a] pos) tA:=by
  intro wh pins s σ H Q I h;refine isTrue_and (thn (ha pins s σ H Q I h) λc s1 e=>?_);cases c with
  | true=>exact isTrue_and_nil e
  | false=>exact e
theorem xt(ha:PT X a tA):PW X (.BoolOp .Or [a] pos) tA:=by
  intro wh pins s σ H Q I h;refine isTrue_or (thn (ha pins s σ H Q I h) λc s1 e=>?_);cases c with
  | false=>exact isTrue_or_nil e
  | true=>exact e
theorem xk(ha:PT X a tA)(hb:PW X (.BoolOp .And (b::rest) pos) tB'):PW X (.BoolOp .And (a::b::rest) pos) (tAnd tA tB'):=by
  intro wh pins s σ H Q I h;refine isTrue_and (thn (ha pins s σ H _ I h) λc s1 ⟨H1,I1,q1⟩=>?_);cases c with
  | true=>exact hb wh pins s1 σ H1 Q I1 q1
  | false=>exact ⟨H1,I1,q1⟩
theorem xi(ha:PT X a tA)(hb:PW X (.BoolOp .Or (b::rest) pos) tB'):PW X (.BoolOp .Or (a::b::rest) pos) (tOr tA tB'):=by
  intro wh pins s σ H Q I h;refine isTrue_or (thn (ha pins s σ H _ I h) λc s1 ⟨H1,I1,q1⟩=>?_);cases c with
  | true=>exact ⟨H1,I1,q1⟩
  | false=>exact hb wh pins s1 σ H1 Q I1 q1
theorem yd(ha:PT X a tA):PT X (.UnaryOp .Not a pos) (tNot tA):=by
  intro pins s σ H Q I h;exact isTrue_not (ha pins s σ H (λc H1=>Q (!c) H1) I h)
def KU(ta tb:TE):TE:=λσ H Q=>ta σ H λx H1=>∃ c,x=.bl c/\if c=true then tb σ H1 Q else Q (.bl false) H1
def tOrV(ta tb:TE):TE:=λσ H Q=>ta σ H λx H1=>∃ c,x=.bl c/\if c=true then Q (.bl true) H1 else tb σ H1 Q
def JU(ta:TE):TE:=λσ H Q=>ta σ H λx H1=>∃ c,x=.bl c/\Q (.bl (!c)) H1
theorem wX{op}(h:PE X a t):PE X (.BoolOp op [a] pos) t:=λpins s σ H Q I hw=>BoolOp_one (h pins s σ H Q I hw)
theorem wv(ha:PE X a ta)(hb:PE X (.BoolOp .And (b::rest) pos) tb):PE X (.BoolOp .And (a::b::rest) pos) (KU ta tb):=by
  intro pins s σ H Q I h;refine BoolOp_and (thn (ha pins s σ H _ I h) λv s1 ⟨x,H1,I1,r1,q1⟩=>?_);obtain ⟨c,rfl,q1⟩:=q1;cases r1
  refine ib ?_;cases c with
  | true=>exact hb pins s1 σ H1 Q I1 q1
  | false=>exact ⟨.bl false,H1,I1,rfl,q1⟩
theorem LO(ha:PE X a ta)(hb:PE X (.BoolOp .Or (b::rest) pos) tb):PE X (.BoolOp .Or (a::b::rest) pos) (tOrV ta tb):=by
  intro pins s σ H Q I h;refine BoolOp_or (thn (ha pins s σ H _ I h) λv s1 ⟨x,H1,I1,r1,q1⟩=>?_);obtain ⟨c,rfl,q1⟩:=q1;cases r1
  refine ib ?_;cases c with
  | false=>exact hb pins s1 σ H1 Q I1 q1
  | true=>exact ⟨.bl true,H1,I1,rfl,q1⟩
theorem GS(ha:PE X a ta):PE X (.UnaryOp .Not a pos) (JU ta):=by
  intro pins s σ H Q I h;refine UnaryOp_ (thn (ha pins s σ H _ I h) λv s1 ⟨x,H1,I1,r1,q1⟩=>?_);obtain ⟨c,rfl,q1⟩:=q1;cases r1
  exact not_of (ib ⟨.bl (!c),H1,I1,rfl,q1⟩)
def tIf(t:TT)(ta tb:TE):TE:=λσ H Q=>t σ H λc H1=>if c=true then ta σ H1 Q else tb σ H1 Q
theorem uJ(hc:PT X c tA)(ha:PE X a ta)(hb:PE X b tb):PE X (.IfExp c a b pos) (tIf tA ta tb):=by
  intro pins s σ H Q I h;refine wpAny_IfExp (thn (hc pins s σ H _ I h) λd s1 ⟨H1,I1,q1⟩=>?_);cases d with
  | true=>exact ha pins s1 σ H1 Q I1 q1
  | false=>exact hb pins s1 σ H1 Q I1 q1
end
def SqL(K:iC)(H:Hp)(a:Addr)(xs:List V):Prop :=
  Rd H a (.lst xs) \/
    ∃ (o:Obj) (its:Array Value) (n:Nat),K.lookup a=some o/\o.cls=.type "list"/\o.dict=none/\o.data=.seq its n/\its.size<=sizeLine/\Vals xs its.toList
def SqT(K:iC)(H:Hp)(a:Addr)(xs:List V):Prop :=
  Rd H a (.tup xs) \/
    ∃ (o:Obj) (its:Array Value) (n:Nat),K.lookup a=some o/\o.cls=.type "tuple"/\o.data=.seq its n/\its.size<=sizeLine/\Vals xs its.toList
def absV:Value->Option V
  | .none=>some .non
  | .bool b=>some (.bl b)
  | .int i _=>some (.int i)
  | .str x _=>some (.str x)
  | .bytes b _=>some (.byt b)
  | .float b _=>some (.flt b)
  | .ref a=>some (.ref a)
  | .type n=>some (.ty n)
  | _=>none
theorem RelV.abs{x:V}{u:Value}(r:RelV x u):absV u=some x:=by
  cases x with
  | non=>cases r; rfl
  | bl _=>cases r; rfl
  | int _=>obtain ⟨t,rfl⟩:=r; rfl
  | str _=>obtain ⟨t,rfl⟩:=r; rfl
  | byt _=>obtain ⟨t,rfl⟩:=r; rfl
  | flt _=>obtain ⟨t,rfl⟩:=r; rfl
  | ref _=>cases r; rfl
  | ty _=>cases r; rfl
theorem RelV.inj{x y:V}{u:Value}(r:RelV x u)(q:RelV y u):x=y:=ax (r.abs.symm.trans q.abs)
theorem Vals.inj:∀ {xs ys:List V} {us:List Value},Vals xs us->Vals ys us->xs=ys
  | _,_,_,.nil,.nil=>rfl
  | _,_,_,.cons r t,.cons r' t'=>by rw [r.inj r',Vals.inj t t']
section
variable {X:Cx}{pins:List (Addr×Obj)}{σ:St}{s:Shared}{xs ys:List V}
theorem SqL.of{K:iC}(h:H a=some (.lst xs)):SqL K H a xs:=.inl (.inl h)
theorem SqT.of{K:iC}(h:H a=some (.tup xs)):SqT K H a xs:=.inl (.inl h)
theorem Inv.list(I:Inv X pins σ H s)(h:SqL X.K H a xs):∃ its:List Value,Vals xs its/\PlainL s.heap a its.toArray/\xs.length<=sizeLine:=by
  rcases h with h|⟨o,its,n,hk,hc,hd,hs,hz,r⟩
  . obtain ⟨z,its,n,r,e⟩:=h.ok I.hok;exact ⟨its,r,⟨_,n,e,rfl,rfl,rfl⟩,z⟩
  . refine ⟨its.toList,r,⟨o,n,I.kIn a o hk,hc,hd,by simpa using hs⟩,?_⟩;have e:=r.length;simp only [cU] at e;omega
theorem Inv.tuple(I:Inv X pins σ H s)(h:SqT X.K H a xs):∃ its:List Value,Vals xs its/\IsTup s.heap a its.toArray/\xs.length<=sizeLine:=by
  rcases h with h|⟨o,its,n,hk,hc,hs,hz,r⟩
  . obtain ⟨z,its,r,p⟩:=h.ok I.hok;exact ⟨its,r,p,z⟩
  . refine ⟨its.toList,r,⟨o,I.kIn a o hk,hc,n,by simpa using hs⟩,?_⟩;have e:=r.length;simp only [cU] at e;omega
theorem Inv.list_inj(I:Inv X pins σ H s)(h:SqL X.K H a xs)(h':SqL X.K H a ys):xs=ys:=by
  obtain ⟨its,r,⟨o,n,e,_,_,d⟩,_⟩:=I.list h;obtain ⟨its',r',⟨o',n',e',_,_,d'⟩,_⟩:=I.list h';rw [e] at e'; cases e';rw [d] at d';injection d' with d1 _;have:its=its':=by simpa using congrArg Array.toList d1
  subst this;exact r.inj r'
theorem Inv.tuple_inj(I:Inv X pins σ H s)(h:SqT X.K H a xs)(h':SqT X.K H a ys):xs=ys:=by
  obtain ⟨its,r,⟨o,e,_,n,d⟩,_⟩:=I.tuple h;obtain ⟨its',r',⟨o',e',_,n',d'⟩,_⟩:=I.tuple h';rw [e] at e'; cases e';rw [d] at d';injection d' with d1 _;have:its=its':=by simpa using congrArg Array.toList d1
  subst this;exact r.inj r'
end
abbrev Cx.wish(X:Cx)(E:Value->Shared->Prop):Cx:={ X with xe:=E }
abbrev Cx.nox(X:Cx):Cx:=X.wish λ_ _=>False
theorem Cx.Ok.wish{X:Cx}(ok:X.Ok)(E:Value->Shared->Prop):(X.wish E).Ok :=
  ⟨ok.mod,ok.kind,ok.glob,ok.blt,ok.above,ok.inj,ok.has,ok.cab,ok.hd,ok.frames,ok.stk,ok.exf,ok.bs,ok.bsz,ok.noex,ok.exfs,ok.funs,ok.frf⟩
theorem Cx.Ok.unwish{X:Cx}(ok:(X.wish E).Ok):X.Ok :=
  ⟨ok.mod,ok.kind,ok.glob,ok.blt,ok.above,ok.inj,ok.has,ok.cab,ok.hd,ok.frames,ok.stk,ok.exf,ok.bs,ok.bsz,ok.noex,ok.exfs,ok.funs,ok.frf⟩
section
variable {X:Cx}{pins:List (Addr×Obj)}{σ:St}{s:Shared}{E:Value->Shared->Prop}
theorem Inv.wish(I:Inv X pins σ H s)(E:Value->Shared->Prop):Inv (X.wish E) pins σ H s:=⟨I.ok.wish E,I.os,I.bare,I.base,I.loc,I.cell,I.free,I.freeC,I.pin,I.hok,I.len⟩
theorem Inv.unwish(I:Inv (X.wish E) pins σ H s):Inv X pins σ H s:=⟨I.ok.unwish,I.os,I.bare,I.base,I.loc,I.cell,I.free,I.freeC,I.pin,I.hok,I.len⟩
theorem SP.unwish{D:Ends}{f:Flow}{s':Shared}(h:SP (X.wish E) pins D f s'):SP X pins D f s':=by
  cases f with
  | next=>obtain ⟨σ',H',I,q⟩:=h; exact ⟨σ',H',I.unwish,q⟩
  | brk=>obtain ⟨σ',H',I,q⟩:=h; exact ⟨σ',H',I.unwish,q⟩
  | cont=>obtain ⟨σ',H',I,q⟩:=h; exact ⟨σ',H',I.unwish,q⟩
  | ret u=>obtain ⟨v,σ',H',I,r,q⟩:=h; exact ⟨v,σ',H',I.unwish,r,q⟩
theorem PSs.nox{st:List Stmt}{t:TS}(h:PSs X.nox st t):PSs X st t:=λpins s σ H D I hw =>
  ia (h pins s σ H D (I.wish _) hw) (λ_ _ q=>q.unwish) λ_ _ z=>False.elim z
end
variable {tc:TT}
section
variable {X:Cx}{st:Stmt}{rest:List Stmt}{t u:TS}{e:Expr}{te:TE}{pos:Pos}
def Kb:TS:=λD σ H=>D.nx σ H
def tSeq(t u:TS):TS:=λD σ H=>t { D with nx:=u D } σ H
theorem zj:PSs X [] Kb:=λ_ _ σ H _ I h=>ie ⟨σ,H,I,h⟩
theorem za(h1:PS X st t)(h2:PSs X rest u):PSs X (st::rest) (tSeq t u):=by
  intro pins s σ H D I h;refine wpAny_execs_cons (thn (h1 pins s σ H { D with nx:=u D } I h) λf s1 q=>?_);cases f with
  | next =>
    obtain ⟨σ',H',I',q⟩:=q;exact h2 pins s1 σ' H' D I' q
  | ret v=>exact q
  | brk=>exact q
  | cont=>exact q
theorem zc(h1:PS X st t):PSs X [st] t:=by
  intro pins s σ H D I h;refine wpAny_execs_cons (thn (h1 pins s σ H D I h) λf s1 q=>?_);cases f with
  | next=>exact ie q
  | ret v=>exact q
  | brk=>exact q
  | cont=>exact q
theorem Inv.quiet{σ:St}{s:Shared}(I:Inv X pins σ H s):interactive X.env=false:=by simp [interactive,I.ok.kind]
def IX(te:TE):TS:=λD σ H=>te σ H λ_ H1=>D.nx σ H1
theorem zL(he:PE X e te)(hs:swapsWith e none pos.line X.env=pure false:=by rfl):PS X (.Expr e pos) (IX te):=by
  intro pins s σ H D I h;exact wpAny_Expr_any (thn (he pins s σ H _ I h) λv s1 ⟨x,H1,I1,r1,q1⟩=>⟨σ,H1,I1,q1⟩) I.quiet hs
def tRet(te:TE):TS:=λD σ H=>te σ H D.rt
theorem zf(he:PE X e te):PS X (.Return (some e) pos) (tRet te):=by
  intro pins s σ H D I h;exact wpAny_Return_some (thn (he pins s σ H _ I h) λv s1 ⟨x,H1,I1,r1,q1⟩=>⟨x,σ,H1,I1,r1,q1⟩)
def tIfS(c:TT)(t u:TS):TS:=λD σ H=>c σ H λb H1=>if b=true then t D σ H1 else u D σ H1
theorem zv{a b:List Stmt}(hc:PT X c tc)(ha:PSs X a t)(hb:PSs X b u):PS X (.If c a b pos) (tIfS tc t u):=by
  intro pins s σ H D I h;refine wpAny_If (thn (hc pins s σ H _ I h) λd s1 ⟨H1,I1,q1⟩=>?_);cases d with
  | true=>exact ha pins s1 σ H1 D I1 q1
  | false=>exact hb pins s1 σ H1 D I1 q1
def GO:TS:=λ_ _ _=>False
theorem yY:PS X st GO:=λ_ _ _ _ _ _ h=>h.elim
theorem E5{sts:List Stmt}:PSs X sts GO:=λ_ _ _ _ _ _ h=>h.elim
end
abbrev TG:=V->St->Hp->(St->Hp->Prop)->Prop
abbrev TGs:=List V->St->Hp->(St->Hp->Prop)->Prop
def PG(X:Cx)(target:Expr)(t:TG):Prop :=
  ∀ (pins:List (Addr×Obj)) (s:Shared) (σ:St) (H:Hp) (v:V) (u:Value) (Q:St->Hp->Prop),Inv X pins σ H s->RelV v u->t v σ H Q ->
    wpAny (model X.prog X.w) X.A (assign target X.env u) (λ_ s'=>∃ σ' H',Inv X pins σ' H' s'/\Q σ' H') X.xe s
def PGs(X:Cx)(ts:List Expr)(t:TGs):Prop :=
  ∀ (pins:List (Addr×Obj)) (s:Shared) (σ:St) (H:Hp) (vs:List V) (us:List Value) (Q:St->Hp->Prop),Inv X pins σ H s->Vals vs us->t vs σ H Q ->
    wpAny (model X.prog X.w) X.A (assignInOrder ((assignEach ts X.env).map (·.2)) us) (λ_ s'=>∃ σ' H',Inv X pins σ' H' s'/\Q σ' H') X.xe s
variable {X:Cx}{pos:Pos}
def Cr(i:Nat):TG:=λv σ H Q=>Q (σ.set i (some v)) H
theorem Hx{i:Nat}{x:Str}(hN:X.N.Nodup)(hi:X.N[i]?=some x)(hx:Loc X.env.scope x)(hf:X.fn x=true\/X.env.scope.names.lookup x=some .local:=by first | exact .inl rfl | exact .inr rfl | assumption):PG X (.Name x pos) (Cr i):=by
  intro pins s σ H v u Q I r h;exact wpAny_assign_Name (vi I hN hi hx r (λs' I'=>⟨_,H,I',h⟩) hf)
def gNil:TGs:=λvs σ H Q=>vs=[]/\Q σ H
def KM(t:TG)(u:TGs):TGs:=λvs σ H Q=>∃ v r,vs=v::r/\t v σ H λσ' H'=>u r σ' H' Q
theorem xb:PGs X [] gNil:=by
  intro pins s σ H vs us Q I r h;obtain ⟨e,h⟩:=h;subst e;cases r
  exact assignInOrder_nil ⟨σ,H,I,h⟩
theorem zH{e:Expr}{es:List Expr}{t:TG}{u:TGs}(h1:PG X e t)(h2:PGs X es u)(hs:(assignEach (e::es) X.env).map (·.2)=assign e X.env::(assignEach es X.env).map (·.2):=by rfl):PGs X (e::es) (KM t u):=by
  intro pins s σ H vs us Q I r h;obtain ⟨v,vr,e1,h⟩:=h;subst e1;cases r with
  | cons r rr =>
    rw [hs];refine ig (thn (h1 pins s σ H _ _ _ I r h) λ_ s1 ⟨σ1,H1,I1,q1⟩=>?_);exact h2 pins s1 σ1 H1 _ _ Q I1 rr q1
def gTup(K:iC)(n:Nat)(t:TGs):TG:=λv σ H Q=>∃ a xs,v=.ref a/\SqT K H a xs/\xs.length=n/\t xs σ H Q
theorem xR{es:List Expr}{k:Nat}{t:TGs}{n:Nat}(hc:X.calm=true)(h:PGs X es t)(hn:(assignEach es X.env).length=n:=by rfl)(hst:(assignEach es X.env).findIdx? (·.1)=none:=by rfl):PG X (.Tuple es k pos) (gTup X.K n t):=by
  intro pins s σ H v u Q I r hw;obtain ⟨a,xs,e1,hq,hl,hw⟩:=hw;subst e1;cases r
  obtain ⟨its,rv,ht,hz⟩:=I.tuple hq;refine assign_Tuple_tuple (I.ok.hd hc) ht (by simp [hn,<-hl,rv.length]) hst λh' hx=>?_;have I1:Inv X pins σ H { s with heap:=h' }:=I.kept (t':=s.toks) λb o e=>hx b o (az (Heap.lt_size e)) e;exact h pins _ σ H xs _ Q I1 (by simpa using rv) hw
def tAsg(te:TE)(g:TG):TS:=λD σ H=>te σ H λx H1=>g x σ H1 D.nx
variable {g:TG}
theorem uj{tg e:Expr}{te:TE}(he:PE X e te)(hg:PG X tg g)(hs:swapsWithSole [tg] e pos.line X.env=pure false:=by rfl)(hw:swappedStores [tg] e X.env=pure none:=by rfl)(h1:(assignEach [tg] X.env).map (·.2)=[assign tg X.env]:=by rfl):PS X (.Assign [tg] e pos) (tAsg te g):=by
  intro pins s σ H D I h;refine wpAny_Assign_stores (thn (he pins s σ H _ I h) λv s1 ⟨x,H1,I1,r1,q1⟩=>?_) hs hw;rw [h1];exact thn (hg pins s1 σ H1 x v _ I1 r1 q1) λ_ s2 q=>q
theorem JB{i:Nat}{x:Str}{e:Expr}{te:TE}{pos':Pos}(hN:X.N.Nodup)(hi:X.N[i]?=some x)(hx:Loc X.env.scope x)(he:PE X e te)(hs:swapsWith e (some (.Name x pos')) pos.line X.env=pure false:=by rfl)(hf:X.fn x=true\/X.env.scope.names.lookup x=some .local:=by first | exact .inl rfl | exact .inr rfl | assumption) :
    PS X (.Assign [.Name x pos'] e pos) (tAsg te (Cr i)):=by
  intro pins s σ H D I h;refine wpAny_Assign_Name (thn (he pins s σ H _ I h) λv s1 ⟨y,H1,I1,r1,q1⟩=>?_) hs;exact vi I1 hN hi hx r1 (λs2 I2=>⟨_,H1,I2,q1⟩) hf
def tPar(i j:Nat)(ta:TA):TS:=λD σ H=>ta σ H λvs H1=>∃ v w,vs=[v,w]/\D.nx ((σ.set i (some v)).set j (some w)) H1
theorem Jv{i j:Nat}{x y:Str}{a b:Expr}{ta:TA}{px py pt:Pos}{kt k2 pt2}(hc:X.calm=true)(hN:X.N.Nodup)(hi:X.N[i]?=some x)(hj:X.N[j]?=some y)(hij:i≠j)(hx:X.env.scope.names.lookup x=some .local)(hy:X.env.scope.names.lookup y=some .local)(ha:PA X [a,b] ta)(hw:swappedStores [.Tuple [.Name x px,.Name y py] kt pt] (.Tuple [a,b] k2 pt2) X.env=pure (some [x,y]))(hs:swapsWithSole [.Tuple [.Name x px,.Name y py] kt pt] (.Tuple [a,b] k2 pt2) pos.line X.env=pure false:=by rfl) :
    PS X (.Assign [.Tuple [.Name x px,.Name y py] kt pt] (.Tuple [a,b] k2 pt2) pos) (tPar i j ta):=by
  intro pins s σ H D I h;rw [exec_Assign_arm];refine ii (wpAny_standAt ?_);rw [hs];refine ii (ij ?_);rw [h9 (by decide)];refine ii (Tuple_ (thn (ha _ pins s σ H _ I h) λus s1 ⟨vs,H1,I1,r1,q1⟩=>?_));obtain ⟨v,w,e1,q1⟩:=q1;subst e1;obtain ⟨u1,u2,rfl,rv,rw'⟩:∃ u1 u2,us=[u1,u2]/\RelV v u1/\RelV w u2:=by
    cases r1 with
    | cons p q =>
      cases q with
      | cons p' q' =>
        cases q'
        exact ⟨_,_,rfl,p,p'⟩
  refine ik ?_ (by show 2<=sizeLine; decide);have I2:Inv X pins σ H1 { s1 with heap:=s1.heap.push { cls:=.type "tuple",data:=.seq [u1,u2].toArray } }:=I1.kept (t':=s1.toks) λb o e=>Heap.get?_push_of_some _ e;rw [hw];refine ii (ij ?_);show wpAny (model X.prog X.w) X.A (do rule "assign.swapped-stores"; let items <-unpackItems (.ref s1.heap.objs.size) 2 none; assignInOrder [λv=>bindName X.env y v,λv=>bindName X.env x v] items.reverse; pure Flow.next) _ _ _;refine ii (wpAny_rule (ii (unpackItems_tuple (items:=#[u1,u2]) (I.ok.hd hc) (IsTup.new s1.heap _) λh' hx'=>?_)));have I3:=I2.kept (h':=h') (t':=s1.toks) λb o e=>hx' b o (az (Heap.lt_size e)) e;show wpAny _ _ (assignInOrder [λv=>bindName X.env y v,λv=>bindName X.env x v] [u2,u1] >>= λ_=>pure Flow.next) _ _ _;refine ii (ig (wpAny_bindName (vi I3 hN hj (.inl hy) rw' (λs2 I4=>?_) (.inr hy))));refine ig (wpAny_bindName (vi I4 hN hi (.inl hx) rv (λs3 I5=>assignInOrder_nil (ij ?_)) (.inr hx)));rw [List.set_comm _ _ (bZ hij)] at I5;exact ⟨_,H1,I5,q1⟩
def Ey(c:TT)(tb:TS):TS:=λD σ H=>∃ W:Nat->St->Hp->Prop,(∃ m,W m σ H)/\∀ m σ H,W m σ H ->
  c σ H λb H1=>if b=true then ∃ N:St->Hp->Prop,(∀ σ' H',N σ' H'->∃ m',m'<m/\W m' σ' H')/\tb { D with nx:=N,ct:=N,bk:=D.nx } σ H1 else D.nx σ H1
variable {body:List Stmt}
theorem uE{tb:TS}(hp:PassesOwn (model X.prog X.w) X.A X.env X.xe)(hc:PT X c tc)(hb:PSs X body tb):PS X (.While c body [] pos) (Ey tc tb):=by
  intro pins s σ H D I h;obtain ⟨W,⟨m0,w0⟩,turn⟩:=h;refine wpAny_While (codeAny_whileLoop (λn s'=>∃ σ' H',Inv X pins σ' H' s'/\W n σ' H') ?_ m0 ⟨σ,H,I,w0⟩);rintro n s1 ⟨σ1,H1,I1,w1⟩;refine il hp (thn (hc pins s1 σ1 H1 _ I1 (turn n σ1 H1 w1)) λb s2 ⟨H2,I2,q2⟩=>?_);cases b with
  | true =>
    obtain ⟨N,hN,q2⟩:=q2;rw [h8 rfl];refine il hp (thn (hb pins s2 σ1 H2 _ I2 q2) λf s3 q3=>?_);cases f with
    | next =>
      obtain ⟨σ3,H3,I3,n3⟩:=q3;obtain ⟨m',hm,w3⟩:=hN σ3 H3 n3;exact ⟨m',hm,σ3,H3,I3,w3⟩
    | cont =>
      obtain ⟨σ3,H3,I3,n3⟩:=q3;obtain ⟨m',hm,w3⟩:=hN σ3 H3 n3;exact ⟨m',hm,σ3,H3,I3,w3⟩
    | brk=>exact q3
    | ret v=>exact q3
  | false =>
    rw [h9 aT];exact ie ⟨σ1,H2,I2,q2⟩
structure It where
  go:Nat->Hp->Prop
  yld:Nat->Hp->V->Hp->Prop
  stop:Nat->Hp->Prop
def FpOk(X:Cx)(pins:List (Addr×Obj))(H:Hp)(b:Addr):Prop :=
  H b=none/\b≠X.env.locals/\b∉X.fs/\(b∈X.ex\/X.s₀.heap.objs.size<=b)/\(∀ x c,X.env.cells.lookup x=some c->c≠b)/\∀ p∈X.pn++pins,p.1≠b
theorem Inv.fpOk{σ:St}{s:Shared}{b:Addr}(I:Inv X pins σ H s)(hb:s.heap.objs.size<=b)(hn:H' b=none):FpOk X pins H' b:=by
  refine ⟨hn,fw (aE I.lt hb),I.nofs hb,.inr (bK I.sz hb),λx c e z=>?_,λp hp z=>?_⟩
  . obtain ⟨v,q⟩:=I.cell x c e;exact absurd (aE q.lt (by rw [z]; exact hb)) (cS _)
  . exact absurd (aE (Heap.lt_size (I.pin p hp).1) (by rw [z]; exact hb)) (cS _)
structure Turn(P:Program)(w:World)(K:iC)(tg:Expr)(J:It)(fp:List Addr)(it:Addr)(tn:Nat->Heap->Prop):Prop where
  mem:it∈fp
  obj:∀ i h,tn i h->∀ b∈fp,∃ o,h.get? b=some o/\∀ v,o.data≠.cell v
  keep:∀ i h h',tn i h->(∀ b∈fp,∀ o,h.get? b=some o->h'.get? b=some o)->tn i h'
  item:∀ (X:Cx),X.prog=P->X.w=w->X.K=K->X.calm=true->∀ (i:Nat) (pins:List (Addr×Obj)) (s:Shared) (σ:St) (H:Hp) (E:Value->Shared->Prop),Inv X pins σ H s->(∀ b∈fp,FpOk X pins H b)->tn i s.heap->J.go i H ->
    wpAny (model P w) X.A (pyNext (.ref it)) (λr s1=>∃ u,r=some u /\
      wpAny (model P w) X.A (letOwnedTupleGo tg (.ref it) u) (λ_ s2=>∃ x H',Inv X pins σ H' s2/\RelV x u/\J.yld i H x H'/\tn (i+1) s2.heap/\∀ b∈fp,H' b=none) E s1) E s
  done:∀ (X:Cx),X.prog=P->X.w=w->X.K=K->X.calm=true->∀ (i:Nat) (pins:List (Addr×Obj)) (s:Shared) (σ:St) (H:Hp) (E:Value->Shared->Prop),Inv X pins σ H s->(∀ b∈fp,FpOk X pins H b)->tn i s.heap->J.stop i H ->
    wpAny (model P w) X.A (pyNext (.ref it)) (λr s1=>r=none/\Inv X pins σ H s1) E s
  self:∀ (A:Around) (i:Nat) (s:Shared) (Q:Value->Shared->Prop) (E:Value->Shared->Prop),tn i s.heap->Q (.ref it) s->wpAny (model P w) A (pyIter (.ref it)) Q E s
abbrev TI:=St->Hp->(It->Hp->Prop)->Prop
def PIE(X:Cx)(pins:List (Addr×Obj))(σ:St)(tg:Expr)(R:It->Hp->Prop)(itv:Value)(s2:Shared):Prop :=
  ∃ (it:Addr) (fp:List Addr) (tn:Nat->Heap->Prop) (J:It) (H':Hp),itv=.ref it/\Inv X pins σ H' s2/\Turn X.prog X.w X.K tg J fp it tn/\tn 0 s2.heap/\(∀ b∈fp,FpOk X pins H' b)/\R J H'
def PI(X:Cx)(tg iter:Expr)(wi:TI):Prop :=
  ∀ (pins:List (Addr×Obj)) (s:Shared) (σ:St) (H:Hp) (R:It->Hp->Prop),Inv X pins σ H s->wi σ H R ->
    wpAny (model X.prog X.w) X.A (eval iter X.env) (λv s1=>wpAny (model X.prog X.w) X.A (pyIter v) (PIE X pins σ tg R) X.xe s1) X.xe s
theorem Ff{A:Around}{s:Shared}{tg:Expr}{u:Value}{o:Obj}{n:String}{vs:Array Value}{Q:Unit->Shared->Prop}(ho:s.heap.get? it=some o)(hc:o.cls=.type n)(hd:o.data=.fields vs)(hn:["enumerate","zip","dict_itemiterator","dict_reverseitemiterator","odict_iterator","itertools.zip_longest","itertools.pairwise"].contains n=false)(hQ:Q () s):wpAny M A (letOwnedTupleGo tg (.ref it) u) Q E s:=by
  unfold letOwnedTupleGo;cases tg <;> first
    | exact ij hQ
    | (cases u <;> first
        | exact ij hQ
        | (refine ii (wpAny_load ho ?_)
           rw [hc,hd];show wpAny M A (if (["enumerate","zip","dict_itemiterator","dict_reverseitemiterator","odict_iterator","itertools.zip_longest","itertools.pairwise"].contains n && vs[0]?==some (rawInt _))=true then _ else _) Q E s;rw [h9 (by intro h; rw [hn,Bool.false_and] at h; cases h)];exact ij hQ))
def Itl(K:iC)(a:Addr):It :=
  ⟨λi H=>∃ xs x,SqL K H a xs/\xs[i]?=some x,λi H x H'=>H'=H/\∀ xs,SqL K H a xs->xs[i]?=some x,λi H=>∃ xs,SqL K H a xs/\xs.length<=i⟩
def Itt(K:iC)(a:Addr):It :=
  ⟨λi H=>∃ xs x,SqT K H a xs/\xs[i]?=some x,λi H x H'=>H'=H/\∀ xs,SqT K H a xs->xs[i]?=some x,λi H=>∃ xs,SqT K H a xs/\xs.length<=i⟩
def Itr(lo:Int)(n:Nat):It:=⟨λi _=>i<n,λi H x H'=>H'=H/\x=.int (lo+i),λi _=>n<=i⟩
theorem Ee{K:iC}{tg:Expr}(a it:Addr):Turn P w K tg (Itl K a) [it] it (λi h=>h.IsListIter it a i) where
  mem:=by simp
  obj:=λi h st b hb=>by
    have e:b=it:=by simpa using hb
    subst e;obtain ⟨o,e,c,d⟩:=st;exact ⟨o,e,λv z=>by rw [d] at z; cases z⟩
  keep:=λi h h' st k=>st.at λo e=>k it (!1) o e
  item:=by
    intro X hP hw hK hc i pins s σ H E I hf st hg;subst hP hw hK;obtain ⟨xs,x,hq,hx⟩:=hg;obtain ⟨its,rv,p,hz⟩:=I.list hq;obtain ⟨u,hu,ru⟩:=rv.get hx;obtain ⟨f0,f1,f2,f3,f4,f5⟩:=hf it (!1);refine wpAny_pyNext_list_item st p.isList (x:=u) (by simpa using hu) λh' st' sb=>?_;have I1:Inv X pins σ H { s with heap:=h' }:=I.turned (t':=s.toks) (λb o hb e=>(sb.2 b hb).trans e) f0 f1 f3 f4 f5;obtain ⟨o,e,c,d⟩:=id st';exact ⟨u,rfl,Ff (s:={ s with heap:=h' }) e c d (by decide) ⟨x,H,I1,ru,⟨rfl,λys hy=>by rw [I.list_inj hy hq]; exact hx⟩,st',λb hb=>(hf b hb).1⟩⟩
  done:=by
    intro X hP hw hK hc i pins s σ H E I hf st hg;subst hP hw hK;obtain ⟨xs,hq,hx⟩:=hg;obtain ⟨its,rv,p,hz⟩:=I.list hq;obtain ⟨f0,f1,f2,f3,f4,f5⟩:=hf it (!1);have hl:=rv.length;exact wpAny_pyNext_list_end (I.ok.hd hc) st p.isList (by simp; omega) λh' eb=>⟨rfl,I.turned (t':=s.toks) (λb o hb e=>eb b o hb e) f0 f1 f3 f4 f5⟩
  self:=λ_ _ _ _ _ st h=>wpAny_pyIter_listiter st h
theorem Cy{K:iC}{tg:Expr}(a it:Addr):Turn P w K tg (Itt K a) [it] it (λi h=>h.IsTupleIter it a i) where
  mem:=by simp
  obj:=λi h st b hb=>by
    have e:b=it:=by simpa using hb
    subst e;obtain ⟨o,e,c,d⟩:=st;exact ⟨o,e,λv z=>by rw [d] at z; cases z⟩
  keep:=λi h h' st k=>st.at λo e=>k it (!1) o e
  item:=by
    intro X hP hw hK hc i pins s σ H E I hf st hg;subst hP hw hK;obtain ⟨xs,x,hq,hx⟩:=hg;obtain ⟨its,rv,p,hz⟩:=I.tuple hq;obtain ⟨u,hu,ru⟩:=rv.get hx;obtain ⟨f0,f1,f2,f3,f4,f5⟩:=hf it (!1);refine wpAny_pyNext_tuple_item st (show s.heap.IsTuple a its.toArray from p) (x:=u) (by simpa using hu) λh' st' sb=>?_;have I1:Inv X pins σ H { s with heap:=h' }:=I.turned (t':=s.toks) (λb o hb e=>(sb.2 b hb).trans e) f0 f1 f3 f4 f5;obtain ⟨o,e,c,d⟩:=id st';exact ⟨u,rfl,Ff (s:={ s with heap:=h' }) e c d (by decide) ⟨x,H,I1,ru,⟨rfl,λys hy=>by rw [I.tuple_inj hy hq]; exact hx⟩,st',λb hb=>(hf b hb).1⟩⟩
  done:=by
    intro X hP hw hK hc i pins s σ H E I hf st hg;subst hP hw hK;obtain ⟨xs,hq,hx⟩:=hg;obtain ⟨its,rv,p,hz⟩:=I.tuple hq;obtain ⟨f0,f1,f2,f3,f4,f5⟩:=hf it (!1);have hl:=rv.length;exact wpAny_pyNext_tuple_end (I.ok.hd hc) st (show s.heap.IsTuple a its.toArray from p) (by simp; omega) λh' eb=>⟨rfl,I.turned (t':=s.toks) (λb o hb e=>eb b o hb e) f0 f1 f3 f4 f5⟩
  self:=λ_ _ _ _ _ st h=>wpAny_pyIter_tupleiter st h
theorem CH{K:iC}{tg:Expr}(it:Addr)(lo:Int)(n:Nat):Turn P w K tg (Itr lo n) [it] it (λi h=>IsRangeIter h it (lo+(i:Nat)*1) ((n:Int) - (i:Nat)) 1) where
  mem:=by simp
  obj:=λi h st b hb=>by
    have e:b=it:=by simpa using hb
    subst e;exact ⟨_,st,λv z=>by
      have z':Data.fields _=Data.cell v:=z;cases z'⟩
  keep:=λi h h' st k=>k it (!1) _ st
  item:=by
    intro X hP hw hK hc i pins s σ H E I hf st hg;subst hP hw hK;obtain ⟨f0,f1,f2,f3,f4,f5⟩:=hf it (!1);have W:=Walks.range (prog:=X.prog) (w:=X.w) (I.ok.hd hc) it lo 1 n;refine W.item i s _ _ hg st λv h' tk hv st' kk=>?_;obtain ⟨t,rfl⟩:=hv;have I1:Inv X pins σ H { s with heap:=h',toks:=tk }:=I.turned (λb o hb e=>kk b o (by simpa using hb) e) f0 f1 f3 f4 f5;refine ⟨_,rfl,Ff (s:={ s with heap:=h',toks:=tk }) (n:="range_iterator") st' rfl rfl (by decide) ⟨.int (lo+i),H,I1,⟨t,?_⟩,⟨rfl,rfl⟩,st',λb hb=>(hf b hb).1⟩⟩;rw [cC]
  done:=by
    intro X hP hw hK hc i pins s σ H E I hf st hg;subst hP hw hK;obtain ⟨f0,f1,f2,f3,f4,f5⟩:=hf it (!1);exact wpAny_pyNext_range_end (I.ok.hd hc) st (by have:n<=i:=hg; omega) λh' eb=>⟨rfl,I.turned (t':=s.toks) (λb o hb e=>eb b o hb e) f0 f1 f3 f4 f5⟩
  self:=λ_ _ _ _ _ st h=>wpAny_pyIter_rangeiter st h
variable {tg:Expr}
def HB(K:iC)(tl:TE):TI:=λσ H R=>tl σ H λx H1=>∃ a,x=.ref a/\(∃ xs,SqL K H1 a xs)/\R (Itl K a) H1
def iTup(K:iC)(tl:TE):TI:=λσ H R=>tl σ H λx H1=>∃ a,x=.ref a/\(∃ xs,SqT K H1 a xs)/\R (Itt K a) H1
variable {l:Expr}{tl:TE}
theorem zG(hl:PE X l tl):PI X tg l (HB X.K tl):=by
  intro pins s σ H R I h;refine thn (hl pins s σ H _ I h) λv s1 ⟨x,H1,I1,r1,q1⟩=>?_;obtain ⟨a,e,⟨xs,hq⟩,q⟩:=q1;subst e;cases r1
  obtain ⟨its,rv,p,hz⟩:=I1.list hq;refine im p.isList ?_;refine ⟨s1.heap.objs.size,[s1.heap.objs.size],_,_,H1,rfl,I1.kept (t':=s1.toks) λb o e=>Heap.get?_push_of_some _ e,Ee a _,⟨_,Heap.get?_push_size _ rfl,rfl,rfl⟩,λb hb=>?_,q⟩;have e:b=s1.heap.objs.size:=by simpa using hb
  subst e;exact I1.fpOk (ai _) (I1.hok.fresh (ai _))
theorem GW(hl:PE X l tl):PI X tg l (iTup X.K tl):=by
  intro pins s σ H R I h;refine thn (hl pins s σ H _ I h) λv s1 ⟨x,H1,I1,r1,q1⟩=>?_;obtain ⟨a,e,⟨xs,hq⟩,q⟩:=q1;subst e;cases r1
  obtain ⟨its,rv,p,hz⟩:=I1.tuple hq;refine wpAny_pyIter_tuple (show s1.heap.IsTuple a its.toArray from p) ?_;refine ⟨s1.heap.objs.size,[s1.heap.objs.size],_,_,H1,rfl,I1.kept (t':=s1.toks) λb o e=>Heap.get?_push_of_some _ e,Cy a _,⟨_,Heap.get?_push_size _ rfl,rfl,rfl⟩,λb hb=>?_,q⟩;have e:b=s1.heap.objs.size:=by simpa using hb
  subst e;exact I1.fpOk (ai _) (I1.hok.fresh (ai _))
variable {lo:Int}
theorem BE{σ:St}{s:Shared}{R:It->Hp->Prop}{hi:Int}{t u v:Tok}{tk:Nat}(I:Inv X pins σ H s)(h1:-(2 ^ 62)<=lo)(h2:lo<2 ^ 62)(h3:-(2 ^ 62)<=hi)(h4:hi<2 ^ 62)(q:R (Itr lo (hi - lo).toNat) H):wpAny (model X.prog X.w) X.A (pyIter (.ref s.heap.objs.size)) (PIE X pins σ tg R) E { s with heap:=s.heap.push { cls:=.type "range",data:=.fields #[.int lo t,.int hi u,.int 1 v] },toks:=tk }:=by
  refine wpAny_pyIter_range (IsRange.new ..) (small_one h1 h2 h3 h4) ?_;have I1:Inv X pins σ H { s with heap:=s.heap.push { cls:=.type "range",data:=.fields #[.int lo t,.int hi u,.int 1 v] },toks:=tk }:=I.kept λb o e=>Heap.get?_push_of_some _ e;refine ⟨(s.heap.push { cls:=.type "range",data:=.fields #[.int lo t,.int hi u,.int 1 v] }).objs.size,[(s.heap.push { cls:=.type "range",data:=.fields #[.int lo t,.int hi u,.int 1 v] }).objs.size],_,_,H,rfl,
    I1.kept (t':=tk) λb o e=>Heap.get?_push_of_some _ e,CH _ lo (hi - lo).toNat,?_,λb hb=>?_,q⟩
  . have e1:lo+((0:Nat):Int)*1=lo:=by simp
    have e2:(((hi - lo).toNat:Nat):Int) - ((0:Nat):Int)=Builtin.Range.rangeSize lo hi 1:=by rw [rangeSize_one]; split <;> omega
    show IsRangeIter _ _ (lo+((0:Nat):Int)*1) ((((hi - lo).toNat:Nat):Int) - ((0:Nat):Int)) 1;rw [e1,e2];exact Heap.get?_push_size _ rfl
  . have e:b=(s.heap.push { cls:=.type "range",data:=.fields #[.int lo t,.int hi u,.int 1 v] }).objs.size:=by simpa using hb
    subst e;exact I1.fpOk (ai _) (I1.hok.fresh (ai _))
def IF(ta:TA):TI:=λσ H R=>ta σ H λvs H1=>∃ j:Int,vs=[.int j]/\-(2 ^ 62)<=j/\j<2 ^ 62/\R (Itr 0 j.toNat) H1
def IA(ta:TA):TI:=λσ H R=>ta σ H λvs H1=>∃ i j:Int,vs=[.int i,.int j]/\(-(2 ^ 62)<=i/\i<2 ^ 62/\-(2 ^ 62)<=j/\j<2 ^ 62)/\R (Itr i (j - i).toNat) H1
theorem yh{a:Expr}{ta:TA}{p:Pos}(hg:Gl X "range")(hm:X.mg "range"=none)(ha:PA X [a] ta)(hs:starEach [a] X.env=[(false,eval a X.env)]:=by rfl):PI X tg (.Call (.Name "range" p) [a] [] pos) (IF ta):=by
  intro pins s σ H R I h;refine Call_ (wq I hg hm boot_range (bP (thn (ha pos pins s σ H _ I h) λus s1 ⟨vs,H1,I1,r1,q1⟩=>?_) hs rfl));obtain ⟨j,e,q1,q2,q⟩:=q1;subst e;cases r1 with
  | cons r rr =>
    cases rr
    obtain ⟨t,rfl⟩:=r;exact call_range_1 (BE I1 (by omega) (by omega) q1 q2 (by simpa using q))
theorem wt{a b:Expr}{ta:TA}{p:Pos}(hg:Gl X "range")(hm:X.mg "range"=none)(ha:PA X [a,b] ta)(hs:starEach [a,b] X.env=[(false,eval a X.env),(false,eval b X.env)]:=by rfl)(hs2:starEach [b] X.env=[(false,eval b X.env)]:=by rfl) :
    PI X tg (.Call (.Name "range" p) [a,b] [] pos) (IA ta):=by
  intro pins s σ H R I h;refine Call_ (wq I hg hm boot_range (bP (thn (ha pos pins s σ H _ I h) λus s1 ⟨vs,H1,I1,r1,q1⟩=>?_) (by rw [hs,hs2]) (by rw [hs2]; rfl)));obtain ⟨i,j,e,⟨q1,q2,q3,q4⟩,q⟩:=q1;subst e;cases r1 with
  | cons r rr =>
    cases rr with
    | cons r' rr =>
      cases rr
      obtain ⟨t,rfl⟩:=r;obtain ⟨t',rfl⟩:=r';exact call_range_2 (BE I1 q1 q2 q3 q4 q)
def tFor(wi:TI)(g:TG)(tb:TS):TS:=λD σ H=>wi σ H λJ H1=>∃ W:Nat->Nat->St->Hp->Prop,(∃ m,W 0 m σ H1)/\∀ i m σ H,W i m σ H ->
  (J.stop i H/\D.nx σ H)\/(J.go i H/\∃ N:St->Hp->Prop,(∀ σ' H',N σ' H'->∃ m',m'<m/\W (i+1) m' σ' H')/\∀ x H',J.yld i H x H'->g x σ H' λσ2 H2=>tb { D with nx:=N,ct:=N,bk:=D.nx } σ2 H2)
def Ai(fp:List Addr)(h:Heap):List (Addr×Obj):=fp.filterMap λb=>(h.get? b).map λo=>(b,o)
variable {fp:List Addr}
theorem xF{b:Addr}{o:Obj}(hb:b∈fp)(e:h.get? b=some o):(b,o)∈Ai fp h:=List.mem_filterMap.mpr ⟨b,hb,by rw [e]; rfl⟩
theorem Ez{p:Addr×Obj}(hp:p∈Ai fp h):p.1∈fp/\h.get? p.1=some p.2:=by
  obtain ⟨b,hb,e⟩:=List.mem_filterMap.mp hp;cases q:h.get? b with
  | none=>rw [q] at e; cases e
  | some o =>
    rw [q] at e;have e':(b,o)=p:=ax e;subst e';exact ⟨hb,q⟩
theorem Inv.pinned{σ:St}{s:Shared}(I:Inv X pins σ H s)(hf:∀ b∈fp,FpOk X pins H b)(ho:∀ b∈fp,∃ o,s.heap.get? b=some o/\∀ v,o.data≠.cell v):Inv X (pins++Ai fp s.heap) σ H s :=
  I.pins_of λp hp=>(aw.mp hp).elim (λz=>I.pin p (aW _ z)) λz=>by
    obtain ⟨hb,e⟩:=Ez z;obtain ⟨f0,f1,f2,_⟩:=hf p.1 hb;obtain ⟨o,e',d⟩:=ho p.1 hb;rw [e] at e'; cases e';exact ⟨e,f0,f1,f2,d⟩
theorem Inv.unpinned{pl:List (Addr×Obj)}{σ:St}{s:Shared}(I:Inv X (pins++pl) σ H s):Inv X pins σ H s:=I.pins_of λp hp=>I.pin p (aW _ (cf _ hp))
theorem zV{iter:Expr}{wi:TI}{tb:TS}(hp:PassesOwn (model X.prog X.w) X.A X.env X.xe)(hc:X.calm=true)(hi:PI X tg iter wi)(hg:PG X tg g)(hb:PSs X body tb)(hs:∀ x,foldedSetIterable iter X.env x=pure x:=by intro _; rfl):PS X (.For tg iter body [] pos) (tFor wi g tb):=by
  intro pins s σ H D I h;refine wpAny_For (thn (hi pins s σ H _ I h) λv s1 h1=>thn h1 λitv s2 h2=>?_) hs;obtain ⟨it,fp,tn,J,H2,e,I2,T,st2,f2,W,⟨m0,w0⟩,turn⟩:=h2;subst e;have stat:∀ {H':Hp},(∀ b∈fp,H' b=none)->∀ b∈fp,FpOk X pins H' b:=λhn b hb=>⟨hn b hb,(f2 b hb).2⟩
  refine codeAny_forLoop_any (λn s'=>∃ i σ' H',Inv X pins σ' H' s'/\tn i s'.heap/\(∀ b∈fp,H' b=none)/\W i n σ' H') ?_ m0 ⟨0,σ,H2,I2,st2,λb hb=>(f2 b hb).1,w0⟩;rintro n s3 ⟨i,σ3,H3,I3,st3,fr3,w3⟩;rcases turn i n σ3 H3 w3 with ⟨stop,qn⟩|⟨go,N,hN,step⟩
  . refine il hp (thn (T.done X rfl rfl rfl hc i pins s3 σ3 H3 X.xe I3 (stat fr3) st3 stop) λr s4 ⟨hr,I4⟩=>?_);subst hr;exact ie ⟨σ3,H3,I4,qn⟩
  . refine il hp (thn (T.item X rfl rfl rfl hc i pins s3 σ3 H3 X.xe I3 (stat fr3) st3 go) λr s4 ⟨u,hr,h4⟩=>?_);subst hr;refine il hp (thn h4 λ_ s5 ⟨x,H5,I5,r5,y5,st5,fr5⟩=>?_);have I5':=I5.pinned (stat fr5) (T.obj _ _ st5);refine il hp (thn (hg _ s5 σ3 H5 x u _ I5' r5 (step x H5 y5)) λ_ s6 ⟨σ6,H6,I6,q6⟩=>?_);refine il hp (thn (hb _ s6 σ6 H6 _ I6 q6) λf s7 q7=>?_);have again:∀ {σ7:St} {H7:Hp},Inv X (pins++Ai fp s5.heap) σ7 H7 s7->N σ7 H7->∃ m,m<n/\∃ i σ' H',Inv X pins σ' H' s7/\tn i s7.heap/\(∀ b∈fp,H' b=none)/\W i m σ' H':=λ{σ7 H7} I7 n7=>by
      obtain ⟨m',hm,w7⟩:=hN σ7 H7 n7;refine ⟨m',hm,i+1,σ7,H7,I7.unpinned,T.keep _ _ _ st5 λb hb o e=>(I7.pin (b,o) (aW _ (aW _ (xF hb e)))).1,λb hb=>?_,w7⟩;obtain ⟨o,e,d⟩:=T.obj _ _ st5 b hb;exact (I7.pin (b,o) (aW _ (aW _ (xF hb e)))).2.1
    cases f with
    | next=>obtain ⟨σ7,H7,I7,n7⟩:=q7; exact again I7 n7
    | cont=>obtain ⟨σ7,H7,I7,n7⟩:=q7; exact again I7 n7
    | brk=>obtain ⟨σ7,H7,I7,q7⟩:=q7; exact ⟨σ7,H7,I7.unpinned,q7⟩
    | ret v=>obtain ⟨x7,σ7,H7,I7,r7,q7⟩:=q7; exact ⟨x7,σ7,H7,I7.unpinned,r7,q7⟩
variable {D:Ends}
theorem z8{K:iC}{xs:List V}{tb:TS}{σ:St}(Pv:Nat->St->Hp->Prop)(h0:Pv 0 σ H)(hl:∀ i σ H,i<=xs.length->Pv i σ H->SqL K H a xs)(hs:∀ i x σ H,xs[i]?=some x->Pv i σ H->g x σ H λσ2 H2=>tb { D with nx:=Pv (i+1),ct:=Pv (i+1),bk:=D.nx } σ2 H2)(hd:∀ σ H,Pv xs.length σ H->D.nx σ H) :
    ∃ W:Nat->Nat->St->Hp->Prop,(∃ m,W 0 m σ H)/\∀ i m σ H,W i m σ H ->
      ((Itl K a).stop i H/\D.nx σ H)\/((Itl K a).go i H/\∃ N:St->Hp->Prop,(∀ σ' H',N σ' H'->∃ m',m'<m/\W (i+1) m' σ' H')/\∀ x H',(Itl K a).yld i H x H'->g x σ H' λσ2 H2=>tb { D with nx:=N,ct:=N,bk:=D.nx } σ2 H2):=by
  refine ⟨λi m σ H=>m=xs.length - i/\i<=xs.length/\Pv i σ H,⟨xs.length,by simp,bS _,h0⟩,?_⟩;rintro i m σ H ⟨rfl,hi,p⟩;have q:=hl i σ H hi p;by_cases hlt:i<xs.length
  . refine .inr ⟨⟨xs,xs[i],q,by simp [hlt]⟩,Pv (i+1),λσ' H' p'=>⟨xs.length - (i+1),by omega,rfl,hlt,p'⟩,λx H' y=>?_⟩;obtain ⟨e,y⟩:=y;subst e;exact hs i x σ _ (y xs q) p
  . have e:i=xs.length:=by omega
    subst e;exact .inl ⟨⟨xs,q,ai _⟩,hd σ H p⟩
theorem yG{n:Nat}{tb:TS}{σ:St}(Pv:Nat->St->Hp->Prop)(h0:Pv 0 σ H)(hs:∀ i σ H,i<n->Pv i σ H->g (.int (lo+i)) σ H λσ2 H2=>tb { D with nx:=Pv (i+1),ct:=Pv (i+1),bk:=D.nx } σ2 H2)(hd:∀ σ H,Pv n σ H->D.nx σ H) :
    ∃ W:Nat->Nat->St->Hp->Prop,(∃ m,W 0 m σ H)/\∀ i m σ H,W i m σ H ->
      ((Itr lo n).stop i H/\D.nx σ H)\/((Itr lo n).go i H/\∃ N:St->Hp->Prop,(∀ σ' H',N σ' H'->∃ m',m'<m/\W (i+1) m' σ' H')/\∀ x H',(Itr lo n).yld i H x H'->g x σ H' λσ2 H2=>tb { D with nx:=N,ct:=N,bk:=D.nx } σ2 H2):=by
  refine ⟨λi m σ H=>m=n - i/\i<=n/\Pv i σ H,⟨n,by simp,bS _,h0⟩,?_⟩;rintro i m σ H ⟨rfl,hi,p⟩;by_cases hlt:i<n
  . refine .inr ⟨hlt,Pv (i+1),λσ' H' p'=>⟨n - (i+1),by omega,rfl,hlt,p'⟩,λx H' y=>?_⟩;obtain ⟨e,y⟩:=y;subst e y;exact hs i σ _ hlt p
  . have e:i=n:=by omega
    subst e;exact .inl ⟨ai _,hd σ H p⟩
theorem BQ{c:TT}{tb:TS}{σ:St}(Pv:St->Hp->Prop)(μ:St->Hp->Nat)(h0:Pv σ H)(hs:∀ σ H,Pv σ H->c σ H λb H1=>if b=true then tb { D with nx:=λσ' H'=>Pv σ' H'/\μ σ' H'<μ σ H,ct:=λσ' H'=>Pv σ' H'/\μ σ' H'<μ σ H,bk:=D.nx } σ H1 else D.nx σ H1)(mono:∀ σ H Q Q',(∀ b H1,Q b H1->Q' b H1)->c σ H Q->c σ H Q'):Ey c tb D σ H:=by
  refine ⟨λm σ H=>m=μ σ H/\Pv σ H,⟨_,rfl,h0⟩,?_⟩;rintro m σ H ⟨rfl,p⟩;refine mono σ H _ _ (λb H1 q=>?_) (hs σ H p);cases b with
  | true=>exact ⟨_,λσ' H' ⟨p',l⟩=>⟨_,l,rfl,p'⟩,q⟩
  | false=>exact q
abbrev R2:=V->V->Hp->VK->Prop
def OpR(X:Cx)(f:Value->Value->Sem Value)(r:R2):Prop :=
  ∀ (pins:List (Addr×Obj)) (s:Shared) (σ:St) (H:Hp) (x y:V) (v u:Value) (Q:VK),Inv X pins σ H s->RelV x v->RelV y u->r x y H Q ->
    wpAny (model X.prog X.w) X.A (f v u) (EP X pins σ Q) X.xe s
def UnR(X:Cx)(f:Value->Sem Value)(r:V->Hp->VK->Prop):Prop :=
  ∀ (pins:List (Addr×Obj)) (s:Shared) (σ:St) (H:Hp) (x:V) (v:Value) (Q:VK),Inv X pins σ H s->RelV x v->r x H Q ->
    wpAny (model X.prog X.w) X.A (f v) (EP X pins σ Q) X.xe s
def y8(X:Cx)(f:Value)(r:List V->Hp->VK->Prop):Prop :=
  ∀ (pins:List (Addr×Obj)) (s:Shared) (σ:St) (H:Hp) (xs:List V) (us:List Value) (Q:VK),Inv X pins σ H s->Vals xs us->r xs H Q ->
    wpAny (model X.prog X.w) X.A (call f us) (EP X pins σ Q) X.xe s
def tOp(r:R2)(ta tb:TE):TE:=λσ H Q=>ta σ H λx H1=>tb σ H1 λy H2=>r x y H2 Q
def tUn(r:V->Hp->VK->Prop)(ta:TE):TE:=λσ H Q=>ta σ H λx H1=>r x H1 Q
def rI(C:Int->Int->Prop)(g:Int->Int->V):R2:=λx y H Q=>∃ i j,x=.int i/\y=.int j/\C i j/\Q (g i j) H
def rI0(g:Int->Int->V):R2:=λx y H Q=>∃ i j,x=.int i/\y=.int j/\Q (g i j) H
def rU(g:Int->V):V->Hp->VK->Prop:=λx H Q=>∃ i,x=.int i/\Q (g i) H
variable {r:R2}
section
variable {a b c:Expr}{ta tb tc:TE}
variable {f:Value->Value->Sem Value}
theorem binT(ha:PE X a ta)(hb:PE X b tb){s:Shared}{σ:St}{R:V->V->Hp->Prop}(I:Inv X pins σ H s)(h:ta σ H λx H1=>tb σ H1 λy H2=>R x y H2){Q:Value->Shared->Prop}(hf:∀ v u s2 x y H2,Inv X pins σ H2 s2->RelV x v->RelV y u->R x y H2->wpAny (model X.prog X.w) X.A (f v u) Q X.xe s2) : wpAny (model X.prog X.w) X.A (eval a X.env) (λv s₁=>wpAny (model X.prog X.w) X.A (eval b X.env) (λu s₂=>wpAny (model X.prog X.w) X.A (f v u) Q X.xe s₂) X.xe s₁) X.xe s:=by
  refine thn (ha pins s σ H _ I h) λv s1 ⟨x,H1,I1,r1,q1⟩=>?_;refine thn (hb pins s1 σ H1 _ I1 q1) λu s2 ⟨y,H2,I2,r2,q2⟩=>?_;exact hf v u s2 x y H2 I2 r1 r2 q2
theorem zh{op:Operator}(ho:OpR X (binaryOp op) r)(ha:PE X a ta)(hb:PE X b tb):PE X (.BinOp a op b pos) (tOp r ta tb):=by
  intro pins s σ H Q I h;exact wpAny_BinOp (binT ha hb I h λv u s2 x y H2 I2 rx ry q=>ho pins s2 σ H2 x y v u Q I2 rx ry q)
theorem u8{op:UnaryOp}{r:V->Hp->VK->Prop}(ho:UnR X (unaryOp op) r)(ha:PE X a ta):PE X (.UnaryOp op a pos) (tUn r ta):=by
  intro pins s σ H Q I h;exact UnaryOp_ (thn (ha pins s σ H _ I h) λv s1 ⟨x,H1,I1,r1,q1⟩=>ho pins s1 σ H1 x v Q I1 r1 q1)
theorem opI{C:Int->Int->Prop}{g:Int->Int->Int}(rule:∀ (i j:Int) (t u:Tok) (s:Shared) (Q:Value->Shared->Prop) (E:Value->Shared->Prop),C i j->Q (.int (g i j) s.toks) { s with toks:=s.toks+1 }->wpAny (model X.prog X.w) X.A (f (.int i t) (.int j u)) Q E s) :
    OpR X f (rI C λi j=>.int (g i j)):=by
  intro pins s σ H x y v u Q I rx ry h;obtain ⟨i,j,rfl,rfl,hc,q⟩:=h;obtain ⟨t,rfl⟩:=rx;obtain ⟨t',rfl⟩:=ry;exact rule i j t t' s _ _ hc ⟨.int (g i j),H,I.tok _,⟨_,rfl⟩,q⟩
theorem opI0{g:Int->Int->Int}(rule:∀ (i j:Int) (t u:Tok) (s:Shared) (Q:Value->Shared->Prop) (E:Value->Shared->Prop),Q (.int (g i j) s.toks) { s with toks:=s.toks+1 }->wpAny (model X.prog X.w) X.A (f (.int i t) (.int j u)) Q E s) :
    OpR X f (rI0 λi j=>.int (g i j)):=by
  intro pins s σ H x y v u Q I rx ry h;obtain ⟨i,j,rfl,rfl,q⟩:=h;obtain ⟨t,rfl⟩:=rx;obtain ⟨t',rfl⟩:=ry;exact rule i j t t' s _ _ ⟨.int (g i j),H,I.tok _,⟨_,rfl⟩,q⟩
theorem opB0{g:Int->Int->Bool}(rule:∀ (i j:Int) (t u:Tok) (s:Shared) (Q:Value->Shared->Prop) (E:Value->Shared->Prop),Q (.bool (g i j)) s->wpAny (model X.prog X.w) X.A (f (.int i t) (.int j u)) Q E s) : OpR X f (rI0 λi j=>.bl (g i j)):=by
  intro pins s σ H x y v u Q I rx ry h;obtain ⟨i,j,rfl,rfl,q⟩:=h;obtain ⟨t,rfl⟩:=rx;obtain ⟨t',rfl⟩:=ry;exact rule i j t t' s _ _ ⟨.bl (g i j),H,I,rfl,q⟩
theorem zF:OpR X (binaryOp .Add) (rI0 λi j=>.int (i+j)):=opI0 λ_ _ _ _ _ _ _ q=>add_int q
theorem yV:OpR X (binaryOp .Sub) (rI0 λi j=>.int (i - j)):=opI0 λ_ _ _ _ _ _ _ q=>sub_int q
theorem zM:OpR X (binaryOp .Mod) (rI (λ_ j=>0<j) λi j=>.int (i % j)):=opI λi j _ _ _ _ _ hc q=>by
  have h1:(0:Int)<j:=hc;exact mod_int' (by omega) (by rw [Int.fmod_eq_emod_of_nonneg i (by omega)]; exact q)
theorem Ig:OpR X (binaryOp .Mod) (rI (λ_ j=>j≠0) λi j=>.int (i.fmod j)):=opI λ_ _ _ _ _ _ _ hc q=>mod_int' hc q
theorem unI{f:Value->Sem Value}{g:Int->Int}(rule:∀ (i:Int) (t:Tok) (s:Shared) (Q:Value->Shared->Prop) (E:Value->Shared->Prop),Q (.int (g i) s.toks) { s with toks:=s.toks+1 }->wpAny (model X.prog X.w) X.A (f (.int i t)) Q E s) :
    UnR X f (rU λi=>.int (g i)):=by
  intro pins s σ H x v Q I rx h;obtain ⟨i,rfl,q⟩:=h;obtain ⟨t,rfl⟩:=rx;exact rule i t s _ _ ⟨.int (g i),H,I.tok _,⟨_,rfl⟩,q⟩
theorem wB:UnR X (unaryOp .USub) (rU λi=>.int (-i)):=unI λ_ _ _ _ _ q=>neg_int q
end
def scal:V->V->Bool
  | .non,.non=>true | .non,.int _=>true | .int _,.non=>true | .non,.bl _=>true | .bl _,.non=>true | .non,.str _=>true | .str _,.non=>true
  | .int _,.int _=>true | .bl _,.bl _=>true | .str _,.str _=>true | .byt _,.byt _=>true
  | .int _,.str _=>true | .str _,.int _=>true | .bl _,.str _=>true | .str _,.bl _=>true
  | _,_=>false
def rEq:R2:=λx y H Q=>scal x y=true/\Q (.bl (decide (x=y))) H
def rNe:R2:=λx y H Q=>scal x y=true/\Q (.bl (!decide (x=y))) H
theorem tj{i j:Int}:decide (V.int i=V.int j)=(i==j):=by
  rw [cr];simp
theorem dec_bl{i j:Bool}:decide (V.bl i=V.bl j)=(i==j):=by
  rw [cr];simp
theorem DE{i j:Str}:decide (V.str i=V.str j)=(i==j):=by
  rw [cr];simp
theorem DZ{i j:Array UInt8}:decide (V.byt i=V.byt j)=(i.toList==j.toList):=by
  rw [cr];cases i
  cases j
  simp
variable {us:List Value}{y:V}
section
variable {a b c:Expr}{ta tb tc:TE}
theorem fin_bl{σ:St}{s:Shared}{Q:VK}{k k':Bool}(I:Inv X pins σ H s)(q:Q (.bl k) H)(e:k=k'):EP X pins σ Q (.bool k') s:=by
  subst e;exact ⟨.bl k,H,I,rfl,q⟩
theorem z5:OpR X (compareOp .Eq) rEq:=by
  intro pins s σ H x y v u Q I rx ry h;obtain ⟨hs,q⟩:=h;cases x with
  | non =>
    cases rx
    cases y with
    | non=>cases ry; exact PySem.EqNone.eq_none_none (fin_bl I q (!1))
    | bl j=>cases ry; exact PySem.EqNone.eq_none_bool (fin_bl I q (!1))
    | int j=>obtain ⟨t',rfl⟩:=ry; exact PySem.EqNone.eq_none_int (fin_bl I q (!1))
    | str j=>obtain ⟨t',rfl⟩:=ry; exact PySem.EqNone.eq_none_str (fin_bl I q (!1))
    | _=>exact absurd (show false=true from hs) aT
  | bl i =>
    cases rx
    cases y with
    | non=>cases ry; exact PySem.EqNone.eq_bool_none (fin_bl I q (!1))
    | bl j=>cases ry; exact eq_bool (fin_bl I q dec_bl)
    | str j=>obtain ⟨t',rfl⟩:=ry; exact PySem.EqMixed.eq_bool_str (fin_bl I q (!1))
    | _=>exact absurd (show false=true from hs) aT
  | int i =>
    obtain ⟨t,rfl⟩:=rx;cases y with
    | non=>cases ry; exact PySem.EqNone.eq_int_none (fin_bl I q (!1))
    | int j=>obtain ⟨t',rfl⟩:=ry; exact eq_int (fin_bl I q tj)
    | str j=>obtain ⟨t',rfl⟩:=ry; exact PySem.EqMixed.eq_int_str (fin_bl I q (!1))
    | _=>exact absurd (show false=true from hs) aT
  | str i =>
    obtain ⟨t,rfl⟩:=rx;cases y with
    | non=>cases ry; exact PySem.EqNone.eq_str_none (fin_bl I q (!1))
    | bl j=>cases ry; exact PySem.EqMixed.eq_str_bool (fin_bl I q (!1))
    | int j=>obtain ⟨t',rfl⟩:=ry; exact PySem.EqMixed.eq_str_int (fin_bl I q (!1))
    | str j=>obtain ⟨t',rfl⟩:=ry; exact eq_str (fin_bl I q DE)
    | _=>exact absurd (show false=true from hs) aT
  | byt i =>
    obtain ⟨t,rfl⟩:=rx;cases y with
    | byt j=>obtain ⟨t',rfl⟩:=ry; exact W.eq_bytes (fin_bl I q DZ)
    | _=>exact absurd (show false=true from hs) aT
  | _=>cases y <;> exact absurd (show false=true from hs) aT
theorem uD:OpR X (compareOp .NotEq) rNe:=by
  intro pins s σ H x y v u Q I rx ry h;obtain ⟨hs,q⟩:=h;cases x with
  | non =>
    cases rx
    cases y with
    | non=>cases ry; exact PySem.EqNone.ne_none_none (fin_bl I q (!1))
    | bl j=>cases ry; exact PySem.EqNone.ne_none_bool (fin_bl I q (!1))
    | int j=>obtain ⟨t',rfl⟩:=ry; exact PySem.EqNone.ne_none_int (fin_bl I q (!1))
    | str j=>obtain ⟨t',rfl⟩:=ry; exact PySem.EqNone.ne_none_str (fin_bl I q (!1))
    | _=>exact absurd (show false=true from hs) aT
  | bl i =>
    cases rx
    cases y with
    | non=>cases ry; exact PySem.EqNone.ne_bool_none (fin_bl I q (!1))
    | bl j=>cases ry; exact ne_bool (fin_bl I q (congrArg not dec_bl))
    | str j=>obtain ⟨t',rfl⟩:=ry; exact PySem.EqMixed.ne_bool_str (fin_bl I q (!1))
    | _=>exact absurd (show false=true from hs) aT
  | int i =>
    obtain ⟨t,rfl⟩:=rx;cases y with
    | non=>cases ry; exact PySem.EqNone.ne_int_none (fin_bl I q (!1))
    | int j=>obtain ⟨t',rfl⟩:=ry; exact ne_int (fin_bl I q (congrArg not tj))
    | str j=>obtain ⟨t',rfl⟩:=ry; exact PySem.EqMixed.ne_int_str (fin_bl I q (!1))
    | _=>exact absurd (show false=true from hs) aT
  | str i =>
    obtain ⟨t,rfl⟩:=rx;cases y with
    | non=>cases ry; exact PySem.EqNone.ne_str_none (fin_bl I q (!1))
    | bl j=>cases ry; exact PySem.EqMixed.ne_str_bool (fin_bl I q (!1))
    | int j=>obtain ⟨t',rfl⟩:=ry; exact PySem.EqMixed.ne_str_int (fin_bl I q (!1))
    | str j=>obtain ⟨t',rfl⟩:=ry; exact ne_str (fin_bl I q (congrArg not DE))
    | _=>exact absurd (show false=true from hs) aT
  | byt i =>
    obtain ⟨t,rfl⟩:=rx;cases y with
    | byt j=>obtain ⟨t',rfl⟩:=ry; exact W.ne_bytes (fin_bl I q (congrArg not DZ))
    | _=>exact absurd (show false=true from hs) aT
  | _=>cases y <;> exact absurd (show false=true from hs) aT
theorem uN:OpR X (compareOp .Lt) (rI0 λi j=>.bl (decide (i<j))):=opB0 λ_ _ _ _ _ _ _ q=>lt_int q
theorem Fv:OpR X (compareOp .LtE) (rI0 λi j=>.bl (decide (i<=j))):=opB0 λ_ _ _ _ _ _ _ q=>le_int q
theorem xY:OpR X (compareOp .Gt) (rI0 λi j=>.bl (decide (j<i))):=opB0 λ_ _ _ _ _ _ _ q=>gt_int q
theorem Ed:OpR X (compareOp .GtE) (rI0 λi j=>.bl (decide (j<=i))):=opB0 λ_ _ _ _ _ _ _ q=>ge_int q
theorem KJ:OpR X (compareOp .Is) (λx y H Q=>y=.non/\Q (.bl (decide (x=.non))) H):=by
  intro pins s σ H x y v u Q I rx ry h;obtain ⟨rfl,q⟩:=h;cases ry
  refine is_none_gen (fin_bl I q ?_);cases x <;> first
    | (cases rx; rfl)
    | (obtain ⟨t,rfl⟩:=rx; rfl)
theorem HG:OpR X (compareOp .IsNot) (λx y H Q=>y=.non/\Q (.bl (!decide (x=.non))) H):=by
  intro pins s σ H x y v u Q I rx ry h;obtain ⟨rfl,q⟩:=h;cases ry
  refine isnot_none_gen (fin_bl I q ?_);cases x <;> first
    | (cases rx; rfl)
    | (obtain ⟨t,rfl⟩:=rx; rfl)
theorem zk(b:Expr)(h:op≠.In:=by decide)(h2:op≠.NotIn:=by decide):behindInMarks op b=false:=by
  have e1:(op==CmpOp.In)=false:=by cases op <;> first | rfl | exact absurd rfl h
  have e2:(op==CmpOp.NotIn)=false:=by cases op <;> first | rfl | exact absurd rfl h2
  cases b <;> simp [behindInMarks,e1,e2]
theorem zY(ho:OpR X (compareOp op) r)(ha:PE X a ta)(hb:PE X b tb)(hm:behindInMarks op b=false):PE X (.Compare a [op] [b] pos) (tOp r ta tb):=by
  intro pins s σ H Q I h;exact wpAny_Compare1 (binT ha hb I h λv u s2 x y H2 I2 rx ry q=>ho pins s2 σ H2 x y v u Q I2 rx ry q) hm
def J2(t:TE):TT:=λσ H Q=>t σ H λx H'=>∃ k,x=.bl k/\Q k H'
theorem zi(ho:OpR X (compareOp op) r)(ha:PE X a ta)(hb:PE X b tb)(hm:behindInMarks op b=false):PT X (.Compare a [op] [b] pos) (J2 (tOp r ta tb)):=by
  intro pins s σ H Q I h;refine wpAny_isTrue_Compare1 (thn (ha pins s σ H _ I h) λv s1 ⟨x,H1,I1,r1,q1⟩=>thn (hb pins s1 σ H1 _ I1 q1) λu s2 ⟨y,H2,I2,r2,q2⟩ =>
    thn (ho pins s2 σ H2 x y v u _ I2 r1 r2 q2) λc s3 ⟨z,H3,I3,r3,k,e,q3⟩=>?_) hm
  subst e;cases r3
  exact ib ⟨H3,I3,q3⟩
theorem EL:(sizeLine:Nat)<2 ^ 63:=by rw [io]; decide
variable {x:V}
theorem Cv(r:Vals [x] us):∃ u,us=[u]/\RelV x u:=by
  cases r with
  | cons r1 r2=>cases r2; exact ⟨_,rfl,r1⟩
theorem Le(r:Vals [x,y] us):∃ u w',us=[u,w']/\RelV x u/\RelV y w':=by
  cases r with
  | cons r1 r2 =>
    cases r2 with
    | cons r3 r4=>cases r4; exact ⟨_,_,rfl,r1,r3⟩
theorem FK:y8 X (.builtin "abs") (λxs H Q=>∃ i,xs=[.int i]/\Q (.int (if i<0 then -i else i)) H):=by
  intro pins s σ H xs us Q I r h;obtain ⟨i,rfl,q⟩:=h;obtain ⟨u,rfl,t,rfl⟩:=Cv r;exact call_abs_int λu tk=>⟨.int (if i<0 then -i else i),H,I.tok _,⟨_,rfl⟩,q⟩
theorem Ew:y8 X (.type "int") (λxs H Q=>(∃ i,xs=[.int i]/\Q (.int i) H)\/∃ k,xs=[.bl k]/\Q (.int (if k then 1 else 0)) H):=by
  intro pins s σ H xs us Q I r h;rcases h with ⟨i,rfl,q⟩|⟨k,rfl,q⟩
  . obtain ⟨u,rfl,t,rfl⟩:=Cv r;exact call_int_int ⟨.int i,H,I,⟨_,rfl⟩,q⟩
  . obtain ⟨u,rfl,r1⟩:=Cv r;cases r1
    exact call_int_bool ⟨.int (if k then 1 else 0),H,I.tok _,⟨_,rfl⟩,q⟩
end
structure ObjM(h:Heap)(x dx C:Addr)(mA:Str->Option Value):Prop where
  obj:h.get? x=some (W.instObj C dx)
  ns:h.Ns1 dx mA
  ne:dx≠x
variable {dx:Addr}{mA:Str->Option Value}
theorem Fa(n:h.Ns1 dx mA):∃ od,h.get? dx=some od/\∀ name,W.lookIn name od=some (mA name):=by
  obtain ⟨o,es,ep,ho,hd,hk,_,hm⟩:=n;refine ⟨o,ho,λname=>?_⟩;have e:=hm name;unfold nsFind findBy at e;rw [<-Array.find?_toList] at e;unfold W.lookIn;rw [hd];dsimp only;split
  . rename_i y q;rw [q] at e;exact congrArg some e
  . rename_i q;rw [q] at e;have a:es.toList.any (·.refKey)=false:=by
      rw [List.any_eq_false];intro y hy;obtain ⟨z,t,hkey⟩:=hk y (Array.mem_toList_iff.mp hy);simp [DictEntry.refKey,hkey]
    have a':¬ es.toList.any (·.refKey)=true:=by rw [a]; exact aT
    rw [h9 a'];exact congrArg some e
variable {C:Addr}
theorem ObjM.look(I:ObjM h x dx C mA):∃ od,PySem.W.InstAt h x (W.instObj C dx) C (some od)/\∀ name,W.lookIn name od=some (mA name) :=
  let ⟨od,ho,hl⟩:=Fa I.ns
  ⟨od,⟨I.obj,rfl,rfl,ho⟩,hl⟩
variable {kw:List (Str×Value)}{pl:Sem Bool}
section
variable {prog:Program}{A:Around}{E:Value->Shared->Prop}{s:Shared}{K:iC}{dx C f:Addr}{mA:Str->Option Value}{name:Str}{v:Value}
theorem Il{expr:Bool}{Q:Value->Shared->Prop}(X:K.In s.heap)(I:ObjM s.heap x dx C mA)(hg:W.plainGet K C name=true)(hh:W.hasDictIn K C=true)(ha:W.findIn K (.ref C) name=some none)(hv:mA name=some v)(hv':W.handedIn v=true)(h:Q v { s with toks:=s.toks+1 }) :
    wpAny (model prog w) A (getAttr (.ref x) name expr) Q E s:=by
  obtain ⟨od,J,hl⟩:=I.look;exact W.get_value X J (eW hg).1 (W.findObj_own hh ha rfl (by rw [hl,hv])) hv' h
theorem F2{Q:Value×List Value->Shared->Prop}(X:K.In s.heap)(I:ObjM s.heap x dx C mA)(hg:W.plainGet K C name=true)(hf:W.findIn K (.ref C) name=some (some (.ref f)))(ht:W.isFn K (.ref f)=true)(hv:mA name=none)(h:Q (.ref f,[.ref x]) s) : wpAny (model prog w) A (getMethod (.ref x) name pl) Q E s:=by
  obtain ⟨od,J,hl⟩:=I.look;exact W.method_fn X J (eW hg).1 (eW hg).2 hf (beq_iff_eq.mp ht) (by show (W.lookIn name od).map (·.isSome)=some false; rw [hl,hv]; rfl) h
theorem IB{ns:List Str}{Q:Unit->Shared->Prop}(X:K.In s.heap)(I:ObjM s.heap x dx C mA)(hs:W.findIn K (.ref C) "__setattr__"=some (some (.builtin "object.__setattr__")))(hp:W.plainOver K C=true)(ht:W.takerIn K C name=some none)(hh:W.hasDictIn K C=true)(hw:PySem.Within mA ns)(hsz:ns.length<=sizeLine)(h:∀ h',ObjM h' x dx C (λy=>if y=name then some v else mA y)->Heap.SameBut dx s.heap h'->Q () { s with heap:=h',toks:=s.toks+2 }) :
    wpAny (model prog w) A (setAttr (.ref x) name v) Q E s:=by
  obtain ⟨od,J,hl⟩:=I.look;refine W.set_plain X J hs (W.osa_open (s:={ s with toks:=s.toks+1 }) (r:=none) X J hp ht λb=>?_);obtain ⟨cd,hc,hd'⟩:=W.any_some hh;have hx:s.heap.get? x=some ⟨.ref C,some dx,.plain,#[]⟩:=I.obj;refine ii (ij (ii (ii (wpAny_loadPart hx (ii (PySem.W.Looks.here (s:={ s with toks:=s.toks+1 }) (W.looks_clsIn X hc) ?_))))));rw [hd'];refine ij (a:=some dx) (ii (ij (ii ?_)));refine wpAny_nsSet1 (s:={ s with toks:=s.toks+1 }) I.ns λh' hn2 hs2=>?_;obtain ⟨oD,esD,epD,hoD,hdD,hcD⟩:=hn2.count (PySem.Within.cons name v hw);refine ii (wpAny_lookBehind hoD (by rw [hdD]; exact pastItsLine_dict (bK hcD (by rw [au]; omega))) ?_);exact ij (h _ ⟨(hs2.2 _ (bZ I.ne)).trans I.obj,hn2,I.ne⟩ hs2)
theorem Gi{R:Result->Shared->Prop}{vs:List Value}(X:K.In s.heap)(hm:W.makesIn K C=true)(hi:W.findIn K (.ref C) "__init__"=some (some (.ref f)))(hf:W.typeIn K (.ref f)=some (.type "function"))(h:codeAny (model prog w) (A.under (.builtin "type.__call__" ⟨.ref C::vs,kw⟩)) (.call (.ref f) ⟨.ref (s.heap.objs.size+1)::vs,kw⟩) (PySem.W.InitBack (s.heap.objs.size+1) R)
      { s with heap:=(s.heap.push W.emptyDict).push (W.instObj C s.heap.objs.size) }) :
    codeAny (model prog w) A (.call (.ref C) ⟨vs,kw⟩) R s:=by
  obtain ⟨hh,g,d,t,os⟩:=s;exact W.make_core (W.makes_of X hm) (W.looks_findIn X hi) (λself=>W.bind_fn X self hf) (.inl rfl) h
end
def putF(f:Str)(v:V):List (Str×V)->List (Str×V)
  | []=>[(f,v)]
  | (g,x)::r=>if g=f then (g,v)::r else (g,x)::putF f v r
theorem vS(f g:Str)(v:V):∀ fs:List (Str×V),(putF f v fs).lookup g=if g=f then some v else fs.lookup g
  | []=>by
    show List.lookup g [(f,v)]=_;by_cases h:g=f
    . have hb:(g==f)=true:=beq_iff_eq.mpr h;simp only [List.lookup,hb,h8 h]
    . have hb:(g==f)=false:=beq_eq_false_iff_ne.mpr h;simp only [List.lookup,hb,h9 h]
  | (k,x)::r=>by
    have ih:=vS f g v r;rw [show putF f v ((k,x)::r)=(if k=f then (k,v)::r else (k,x)::putF f v r) from rfl];by_cases hk:k=f
    . rw [h8 hk];by_cases h:g=k
      . have hb:(g==k)=true:=beq_iff_eq.mpr h;simp only [List.lookup,hb,h8 (h.trans hk)]
      . have hb:(g==k)=false:=beq_eq_false_iff_ne.mpr h;simp only [List.lookup,hb,h9 (λe:g=f=>h (e.trans hk.symm))]
    . rw [h9 hk];by_cases h:g=k
      . have hb:(g==k)=true:=beq_iff_eq.mpr h;simp only [List.lookup,hb,h9 (λe:g=f=>hk (h.symm.trans e))]
      . have hb:(g==k)=false:=beq_eq_false_iff_ne.mpr h;simp only [List.lookup,hb];exact ih
theorem vO(f:Str)(v:V):∀ fs:List (Str×V),f∈(putF f v fs).map (·.1)/\∀ g,g∈fs.map (·.1)->g∈(putF f v fs).map (·.1)
  | []=>⟨by simp [putF],λg h=>by simp at h⟩
  | (k,x)::r=>by
    obtain ⟨i1,i2⟩:=vO f v r;rw [show putF f v ((k,x)::r)=(if k=f then (k,v)::r else (k,x)::putF f v r) from rfl];by_cases hk:k=f
    . rw [h8 hk];subst hk;exact ⟨by simp,λg h=>by simpa using h⟩
    . rw [h9 hk];refine ⟨?_,λg h=>?_⟩
      . rw [aU];exact ay _ i1
      . rw [aU] at h ⊢;rcases aN.mp h with e|e
        . exact aN.mpr (.inl e)
        . exact ay _ (i2 g e)
theorem wc(f:Str)(v:V):∀ fs:List (Str×V),(putF f v fs).length<=fs.length+1
  | []=>by simp [putF]
  | (k,x)::r=>by
    have ih:=wc f v r;rw [show putF f v ((k,x)::r)=(if k=f then (k,v)::r else (k,x)::putF f v r) from rfl];by_cases hk:k=f
    . rw [h8 hk,au,au]; omega
    . rw [h9 hk,au,au]; omega
theorem RelO.some_of{v:V}{o:Option Value}(r:RelO (some v) o):∃ u,o=some u/\RelV v u:=by
  cases o with
  | none=>exact (show False from r).elim
  | some u=>exact ⟨u,rfl,r⟩
theorem RelO.none_of{o:Option Value}(r:RelO none o):o=none:=by
  cases o with
  | none=>rfl
  | some u=>exact (show False from r).elim
theorem Dn{v:V}{u:Value}(r:RelV v u):W.handedIn u=true:=by
  cases v with
  | non=>cases (show u=Value.none from r); rfl
  | bl b=>cases (show u=Value.bool b from r); rfl
  | int i=>obtain ⟨t,e⟩:=(show ∃ t,u=Value.int i t from r); cases e; rfl
  | str x=>obtain ⟨t,e⟩:=(show ∃ t,u=Value.str x t from r); cases e; rfl
  | byt b=>obtain ⟨t,e⟩:=(show ∃ t,u=Value.bytes b t from r); cases e; rfl
  | flt b=>obtain ⟨t,e⟩:=(show ∃ t,u=Value.float b t from r); cases e; rfl
  | ref a=>cases (show u=Value.ref a from r); rfl
  | ty n=>cases (show u=Value.type n from r); rfl
section
variable {C dx:Addr}{fs fs':List (Str×V)}
theorem uB(hok:HOk P w H h)(e:H a=some (.ins C dx fs)):∃ mA,ObjM h a dx C mA/\(∀ f,RelO (fs.lookup f) (mA f))/\PySem.Within mA (fs.map (·.1))/\fs.length<=1000/\H dx=some (.own a):=by
  obtain ⟨d,z,ne,ob,mA,n,r,q⟩:=(show ObjOk P w H h a (.ins C dx fs) from hok a _ e)
  exact ⟨mA,⟨ob,n,ne⟩,r,q,z,d⟩
end
structure Cls(K:iC)(C:Addr):Prop where
  pg:W.plainGet K C Str.empty=true
  hd:W.hasDictIn K C=true
  po:W.plainOver K C=true
  sa:W.findIn K (.ref C) "__setattr__"=some (some (.builtin "object.__setattr__"))
theorem Cls.get{K:iC}(c:Cls K C)(f:Str):W.plainGet K C f=true:=c.pg
def NoAttr(K:iC)(C:Addr)(f:Str):Prop:=W.findIn K (.ref C) f=some none
theorem NoAttr.taker{K:iC}{f:Str}(n:NoAttr K C f):W.takerIn K C f=some none:=by
  unfold W.takerIn;rw [show W.findIn K (.ref C) f=some none from n];rfl
structure Meth(K:iC)(C:Addr)(m:Str)(f:Addr):Prop where
  at_:W.findIn K (.ref C) m=some (some (.ref f))
  fn:W.isFn K (.ref f)=true
  kp:W.keepIn K (.ref f)=true
section
variable {pins:List (Addr×Obj)}{σ:St}{s:Shared}{C dx:Addr}{fs:List (Str×V)}{f:Str}{v:V}{A:Around}{E:Value->Shared->Prop}
theorem Cz{b:Bool}{Q:Value->Shared->Prop}(I:Inv X pins σ H s)(e:H a=some (.ins C dx fs))(c:Cls X.K C)(n:NoAttr X.K C f)(l:fs.lookup f=some v)(h:∀ u s',Inv X pins σ H s'->RelV v u->Q u s'):wpAny (model X.prog X.w) A (getAttr (.ref a) f b) Q E s:=by
  obtain ⟨mA,O,r,_,_,_⟩:=uB I.hok e;obtain ⟨u,hu,ru⟩:=RelO.some_of (v:=v) (o:=mA f) (by rw [<-l]; exact r f);exact Il I.kIn O (c.get f) c.hd n hu (Dn ru) (h u _ (I.tok _) ru)
theorem uw{m:Str}{g:Addr}{Q:Value×List Value->Shared->Prop}(I:Inv X pins σ H s)(e:H a=some (.ins C dx fs))(c:Cls X.K C)(k:Meth X.K C m g)(l:fs.lookup m=none)(h:Q (.ref g,[.ref a]) s):wpAny (model X.prog X.w) A (getMethod (.ref a) m pl) Q E s:=by
  obtain ⟨mA,O,r,_,_,_⟩:=uB I.hok e;have hn:mA m=none:=RelO.none_of (by rw [<-l]; exact r m);exact F2 I.kIn O (c.get m) k.at_ k.fn hn h
theorem CK{u:Value}{Q:Unit->Shared->Prop}(I:Inv X pins σ H s)(e:H a=some (.ins C dx fs))(c:Cls X.K C)(n:NoAttr X.K C f)(hl:fs.length<1000)(ry:RelV y u)(h:∀ s',Inv X pins σ (upd H a (.ins C dx (putF f y fs))) s'->Q () s'):wpAny (model X.prog X.w) A (setAttr (.ref a) f u) Q E s:=by
  obtain ⟨mA,O,r,wi,_,ho⟩:=uB I.hok e;have hz:(fs.map (·.1)).length<=sizeLine:=by rw [aa,io]; omega
  refine IB I.kIn O c.sa c.po n.taker c.hd wi hz λh' O' sb=>h _ ?_;have hd:∃ o,h'.get? dx=some o:=let ⟨o,_,_,e',_⟩:=O'.ns; ⟨o,e'⟩
  refine I.write (x:=a) (e:=dx) (by rw [e]; exact True.intro) (.inr ho) (λb q hb z=>(sb.2 b hb).trans z) hd ?_;refine ⟨by rw [zl O.ne]; exact ho,?_,O.ne,O'.obj,_,O'.ns,λg=>?_,λg hg=>?_⟩
  . have:=wc f y fs; omega
  . show RelO ((putF f y fs).lookup g) (if g=f then some u else mA g);rw [vS];by_cases q:g=f
    . rw [h8 q,h8 q]; exact ry
    . rw [h9 q,h9 q]; exact r g
  . by_cases q:g=f
    . rw [q]; exact (vO f y fs).1
    . refine (vO f y fs).2 g (wi g λz=>hg ?_);show (if g=f then some u else mA g)=none;rw [h9 q]; exact z
theorem Inv.made(I:Inv X pins σ H s):Inv X pins σ (upd (upd H s.heap.objs.size (.own (s.heap.objs.size+1))) (s.heap.objs.size+1) (.ins C s.heap.objs.size [])) { s with heap:=(s.heap.push W.emptyDict).push (W.instObj C s.heap.objs.size) }:=by
  have e1:(s.heap.push W.emptyDict).get? s.heap.objs.size=some W.emptyDict:=Heap.get?_push_size s.heap rfl;have e2:((s.heap.push W.emptyDict).push (W.instObj C s.heap.objs.size)).get? (s.heap.objs.size+1)=some (W.instObj C s.heap.objs.size):=by
    have:=Heap.get?_push_size (s.heap.push W.emptyDict) (o:=W.instObj C s.heap.objs.size) rfl
    rwa [Heap.size_push] at this
  have e3:(s.heap.push W.emptyDict).Ns s.heap.objs.size (λ_=>none):=⟨W.emptyDict,#[],_,e1,rfl,(λe he=>absurd he (!1)),λ_=>rfl⟩
  have I1:=I.laid (a:=s.heap.objs.size) (o:=.own (s.heap.objs.size+1)) (h':=s.heap.push W.emptyDict) (t':=s.toks) (λb u q=>Heap.get?_push_of_some _ q) (ai _) ⟨_,e1⟩;refine I1.laid (a:=s.heap.objs.size+1) (o:=.ins C s.heap.objs.size []) (t':=s.toks) (λb u q=>Heap.get?_push_of_some _ q) (Nat.le_of_eq (Heap.size_push _ _)) ?_;have ne:s.heap.objs.size≠s.heap.objs.size+1:=az (dI _);refine ⟨by rw [zl ne,zg],bS _,ne,e2,λ_=>none,(Heap.Ns1.of_empty e3).at λo q=>Heap.get?_push_of_some _ q,λ_=>True.intro,λy hy=>absurd rfl hy⟩
theorem Hq{prog:Program}{env:Env}{e:Expr}{s:Shared}{Q:Value->Shared->Prop}(hb:attributeBase e f env (eval e env)=eval e env)(h:wpAny (model prog w) A (eval e env) (λo s₁=>wpAny (model prog w) A (getAttr o f true) Q E s₁) E s):wpAny (model prog w) A (eval (.Attribute e f pos) env) Q E s :=
  Attribute_any_ h (by rw [arm_eval_Attribute,hb])
end
def tFld(K:iC)(ta:TE)(f:Str):TE:=λσ H Q=>ta σ H λx H1=>∃ a C dx fs v,x=.ref a/\H1 a=some (.ins C dx fs)/\Cls K C/\NoAttr K C f/\fs.lookup f=some v/\Q v H1
def sFld(K:iC)(ta tv:TE)(f:Str):TS:=λD σ H=>tv σ H λy H1=>ta σ H1 λx H2=>∃ a C dx fs,x=.ref a/\H2 a=some (.ins C dx fs)/\Cls K C/\NoAttr K C f/\fs.length<1000 /\
  D.nx σ (upd H2 a (.ins C dx (putF f y fs)))
variable {o e value:Expr}{f:Str}{pos' tpos:Pos}{ta tv:TE}
theorem KZ(he:PE X e ta)(hb:attributeBase e f X.env (eval e X.env)=eval e X.env):PE X (.Attribute e f pos) (tFld X.K ta f):=by
  intro pins s σ H Q I h;refine Hq hb (thn (he pins s σ H _ I h) λu s1 ⟨x,H1,I1,rx,a,C,dx,fs,v,ex,ea,c,n,l,q⟩=>?_);subst ex;obtain rfl:u=Value.ref a:=rx;exact Cz I1 ea c n l λu' s2 I2 ru=>⟨v,H1,I2,ru,q⟩
theorem tZ(ha:PE X o ta)(hv:PE X value tv)(hs:swapsWith value (some (.Attribute o f pos')) pos.line X.env=pure false):PS X (.Assign [.Attribute o f pos'] value pos) (sFld X.K ta tv f):=by
  intro pins s σ H D I h;refine plainObj_wpAny_Assign_Attribute (thn (hv pins s σ H _ I h) λu s1 ⟨y,H1,I1,ry,q⟩=>thn (ha pins s1 σ H1 _ I1 q) λov s2 ⟨x,H2,I2,rx,a,C,dx,fs,ex,ea,c,n,l,q2⟩=>?_) hs;subst ex;obtain rfl:ov=Value.ref a:=rx;exact CK I2 ea c n l ry λs3 I3=>⟨σ,_,I3,q2⟩
section
variable {pins:List (Addr×Obj)}{σ:St}{s:Shared}{A:Around}{E:Value->Shared->Prop}{Q:Value->Shared->Prop}{c:Value}{b:Bool}
inductive TyOf(K:iC)(H:Hp):V->Value->Prop where
  | non:TyOf K H .non (.type "NoneType")
  | bl (x:Bool):TyOf K H (.bl x) (.type "bool")
  | int (i:Int):TyOf K H (.int i) (.type "int")
  | str (x:Str):TyOf K H (.str x) (.type "str")
  | flt (x:UInt64):TyOf K H (.flt x) (.type "float")
  | lst {a:Addr} {xs:List V} (e:H a=some (.lst xs)):TyOf K H (.ref a) (.type "list")
  | frz {a:Addr} {o:Obj} {xs:List V} (e:H a=some (.frz o (.lst xs))):TyOf K H (.ref a) (.type "list")
  | tup {a:Addr} {xs:List V} (e:H a=some (.tup xs)):TyOf K H (.ref a) (.type "tuple")
  | dK {a:Addr} {kvs:List (Key×V)} (e:H a=some (.dK kvs)):TyOf K H (.ref a) (.type "dict")
  | dT {a:Addr} {kvs:List (List Key×V)} (e:H a=some (.dT kvs)):TyOf K H (.ref a) (.type "dict")
  | ins {a C dx:Addr} {fs:List (Str×V)} (e:H a=some (.ins C dx fs)) (cl:Cls K C) (ha:W.findIn K (.ref C) "__class__"=some (some (.builtin "object.__class__")))
      (hn:W.specialIn K (.builtin "object.__class__") "__get__"=some (some (.builtin "getset_descriptor.__get__"))) (htk:W.takesIn K (.builtin "object.__class__")=some true)
      (hm:W.mroIn K C (.type "object")=some true):TyOf K H (.ref a) (.ref C)
theorem ER{x:V}{u t:Value}(I:Inv X pins σ H s)(rx:RelV x u)(ty:TyOf X.K H x t)(e:W.kitOne X.K t c=some b)(h:∀ tk,Q (.bool b) { s with toks:=tk }) :
    wpAny (model X.prog X.w) A (call (.builtin "isinstance") [u,c]) Q E s:=by
  cases ty with
  | non=>cases (show u=Value.none from rx); exact cu W.kitx_none I.kIn True.intro e (λz=>nomatch z) h
  | bl y=>cases (show u=Value.bool y from rx); exact cu W.kitx_bool I.kIn True.intro e (λz=>nomatch z) h
  | int i=>obtain ⟨t,q⟩:=(show ∃ t,u=Value.int i t from rx); cases q; exact cu W.kitx_int I.kIn True.intro e (λz=>nomatch z) h
  | str y=>obtain ⟨t,q⟩:=(show ∃ t,u=Value.str y t from rx); cases q; exact cu W.kitx_str I.kIn True.intro e (λz=>nomatch z) h
  | flt y=>obtain ⟨t,q⟩:=(show ∃ t,u=Value.float y t from rx); cases q; exact cu W.kitx_float I.kIn True.intro e (λz=>nomatch z) h
  | @lst a xs ea =>
    cases (show u=Value.ref a from rx)
    obtain ⟨_,_,n,_,h1⟩:=(show ObjOk X.prog X.w H s.heap a (.lst xs) from I.hok a _ ea)
    exact cu W.kitx_list I.kIn ⟨_,h1,rfl⟩ e (λz=>nomatch z) h
  | @frz a ob xs ea =>
    cases (show u=Value.ref a from rx)
    obtain ⟨_,_,_,n,_,h1⟩:=(show ObjOk X.prog X.w H s.heap a (.frz ob (.lst xs)) from I.hok a _ ea)
    exact cu W.kitx_list I.kIn ⟨_,h1,rfl⟩ e (λz=>nomatch z) h
  | @tup a xs ea =>
    cases (show u=Value.ref a from rx)
    obtain ⟨_,_,_,p⟩:=(show ObjOk X.prog X.w H s.heap a (.tup xs) from I.hok a _ ea)
    obtain ⟨o,h1,h2,_⟩:=p;exact cu W.kitx_tuple I.kIn ⟨o,h1,h2⟩ e (λz=>nomatch z) h
  | @dK a kvs ea =>
    cases (show u=Value.ref a from rx)
    obtain ⟨_,_,vs,_,p⟩:=(show ObjOk X.prog X.w H s.heap a (.dK kvs) from I.hok a _ ea)
    obtain ⟨o,es,ep,h1,h2,_⟩:=p;exact cu W.kitx_dict I.kIn ⟨o,h1,h2.1⟩ e (λz=>nomatch z) h
  | @dT a kvs ea =>
    cases (show u=Value.ref a from rx)
    obtain ⟨_,_,xs,_,o,es,ep,h1,h2,_⟩:=(show ObjOk X.prog X.w H s.heap a (.dT kvs) from I.hok a _ ea)
    exact cu W.kitx_dict I.kIn ⟨o,h1,h2.1⟩ e (λz=>nomatch z) h
  | @ins a C dx fs ea cl ha hn htk hm =>
    cases (show u=Value.ref a from rx)
    obtain ⟨mA,O,_⟩:=uB I.hok ea;obtain ⟨od,J,_⟩:=O.look;exact cu (W.kitx_own (cl.get _) cl.hd ha hn htk hm) I.kIn J e (λz=>nomatch z) h
end
structure Room(k:Nat)(A:Around):Prop where
  hd:A.handled=none
  dp:A.depth+3*k+5<recursionLimit
  un:A.units+16*k+200<cLine
theorem Room.mono{j k:Nat}{A:Around}(r:Room k A)(h:j<=k):Room j A:=⟨r.hd,by have:=r.dp; omega,by have:=r.un; omega⟩
theorem Room.deeper{k:Nat}{A:Around}(r:Room (k+1) A)(env:Env):Room k (A.deeper env) :=
  ⟨r.hd,by have:=r.dp; show A.depth+1+3*k+5<_; omega,by have:=r.un; show A.units+3+16*k+200<_; omega⟩
theorem CB{A:Around}:(A.under (.builtin "type.__call__" ⟨.ref C::us,kw⟩)).depth=A.depth+1:=by
  first | rfl | simp [Around.under,Code.weight,Code.isCreation,Code.isGuard,Code.isCaller,Code.frames,Code.isFrame,guardIds]
theorem CT{A:Around}:(A.under (.builtin "type.__call__" ⟨.ref C::us,kw⟩)).units=A.units+1:=by
  first | rfl | simp [Around.under,Code.cUnits,Code.frames,Code.isFrame]
theorem Room.make{k:Nat}{A:Around}(r:Room (k+1) A)(C:Addr)(us:List Value)(kw:List (Str×Value)):Room k (A.under (.builtin "type.__call__" ⟨.ref C::us,kw⟩)) :=
  ⟨r.hd,by have:=r.dp; rw [CB]; omega,by have:=r.un; rw [CT]; omega⟩
theorem Room.depth{k:Nat}{A:Around}(r:Room k A):A.depth<recursionLimit:=by have:=r.dp; omega
theorem Room.units{k:Nat}{A:Around}(r:Room k A):A.units+64<cLine:=by have:=r.un; omega
def tNil:TA:=λ_ H Q=>Q [] H
def Ab(ta:TE)(tr:TA):TA:=λσ H Q=>ta σ H λx H1=>tr σ H1 λxs H2=>Q (x::xs) H2
variable {es:List Expr}{te:TE}{t:TA}
theorem yl:PA X [] tNil:=λ_ _ _ _ H Q I h=>Calls.spliced_nil ⟨[],H,I,.nil,h⟩
theorem zr(ha:PE X e te)(hr:PA X es t)(hs:starEach (e::es) X.env=(false,eval e X.env)::starEach es X.env:=by rfl):PA X (e::es) (Ab te t):=by
  intro pos pins s σ H Q I h;rw [hs];show wpAny _ _ (spliced ((false,eval e X.env)::backTo pos (starEach es X.env))) _ _ s;refine Calls.spliced_cons (thn (ha pins s σ H _ I h) λu s1 ⟨x,H1,I1,r1,q1⟩=>?_);exact thn (hr pos pins s1 σ H1 _ I1 q1) λus s2 ⟨xs,H2,I2,r2,q2⟩=>⟨x::xs,H2,I2,.cons r1 r2,q2⟩
def tTup(t:TA):TE:=λσ H Q=>t σ H λxs H1=>xs.length<=sizeLine/\∀ p,H1 p=none->Q (.ref p) (upd H1 p (.tup xs))
def tLst(t:TA):TE:=λσ H Q=>t σ H λxs H1=>xs.length<=sizeLine/\∀ p,H1 p=none->Q (.ref p) (upd H1 p (.lst xs))
theorem zo{x1}(h:PA X es t):PE X (.Tuple es x1 pos) (tTup t):=by
  intro pins s σ H Q I hq;refine wpAny_Tuple_spliced (thn (h pos pins s σ H _ I hq) λus s1 ⟨xs,H1,I1,r,z,q⟩=>⟨by rw [<-r.length]; exact z,?_⟩);have hf:H1 s1.heap.objs.size=none:=I1.hok.fresh (ai _);refine ⟨.ref s1.heap.objs.size,upd H1 s1.heap.objs.size (.tup xs),I1.laid (t':=s1.toks) (λb u e=>Heap.get?_push_of_some _ e) (ai _) ?_,rfl,q _ hf⟩;exact ⟨z,us,r,⟨_,Heap.get?_push_size _ rfl,rfl,_,rfl⟩⟩
theorem zI(h:PA X es t):PE X (.List es pos) (tLst t):=by
  intro pins s σ H Q I hq;refine wpAny_List_spliced (thn (h pos pins s σ H _ I hq) λus s1 ⟨xs,H1,I1,r,z,q⟩=>⟨by rw [<-r.length]; exact z,?_⟩);have hf:H1 s1.heap.objs.size=none:=I1.hok.fresh (ai _);refine ⟨.ref s1.heap.objs.size,upd H1 s1.heap.objs.size (.lst xs),I1.laid (t':=s1.toks) (λb u e=>Heap.get?_push_of_some _ e) (ai _) ?_,rfl,q _ hf⟩;exact ⟨z,us,0,r,Heap.get?_push_size _ rfl⟩
abbrev Sp:=List V->Hp->VK->XK->Prop
abbrev CXT:=List Env->Hp->Shared->XK->Value->Shared->Prop
structure Env0(P:Program)(w:World)(K:iC)(mg:Str->Option Value)(base:Heap)(A:Around)(outer:List Env)(s:Shared)(H:Hp):Prop where
  frames:A.frames=some outer
  mod:Mod K mg base
  bs:∀ b o,base.get? b=some o->s.heap.get? b=some o/\H b=none
  bsz:base.objs.size<=s.heap.objs.size
  funs:s.heap.FunFrames base outer
  frf:∀ b∈frs outer,H b=none
  hok:HOk P w H s.heap
  bare:AllBare s.gens
def CE(outer:List Env)(P:Program)(w:World)(H:Hp)(s:Shared)(Q:VK)(u:Value)(s':Shared):Prop :=
  ∃ v H',s'.os=s.os/\AllBare s'.gens/\Un (frs outer) [] H H' s.heap s'.heap/\HOk P w H' s'.heap/\RelV v u/\Q v H'
def CR(CX:CXT)(outer:List Env)(P:Program)(w:World)(H:Hp)(s:Shared)(Q:VK)(E:XK)(r:Result)(s':Shared):Prop :=
  match r with
  | .ok (.ret u)=>CE outer P w H s Q u s'
  | .ok _=>False
  | .error e=>CX outer H s E e s'
structure FnOk(P:Program)(w:World)(K:iC)(mg:Str->Option Value)(base:Heap)(CX:CXT)(k:Nat)(f:Addr)(fd:FuncData)(ps:List Str)(sp:Sp):Prop where
  len:∀ vs H Q E,sp vs H Q E->vs.length=ps.length
  run:∀ (A:Around) (outer:List Env) (s:Shared) (H:Hp) (args:Args) (us:List Value) (vs:List V) (Q:VK) (E:XK),Room k A->Env0 P w K mg base A outer s H->BindsTo s fd args (ps.zip us)->Vals vs us->sp vs H Q E ->
    codeAny (model P w) A (.call (.ref f) args) (CR CX outer P w H s Q E) s
variable {base:Heap}{outer:List Env}{mg:Str->Option Value}
theorem Env0.make{K:iC}{A:Around}{s:Shared}(e:Env0 P w K mg base A outer s H)(C:Addr)(us:List Value)(kw:List (Str×Value)) : Env0 P w K mg base (A.under (.builtin "type.__call__" ⟨.ref C::us,kw⟩)) outer s H:=⟨by first | exact e.frames | (simpa [Around.under,Code.envs,Code.isFrame,pushEnvs] using e.frames),e.mod,e.bs,e.bsz,e.funs,e.frf,e.hok,e.bare⟩
section
variable {pins:List (Addr×Obj)}{σ:St}{s s':Shared}
theorem Inv.env0(I:Inv X pins σ H s):Env0 X.prog X.w X.K X.mg X.base X.A X.stack s H :=
  ⟨I.ok.frames,I.ok.mod,I.bs,bK I.ok.bsz I.sz,I.stack,I.stkFree,I.hok,I.bare⟩
theorem Inv.after{Q:VK}{u:Value}(I:Inv X pins σ H s)(h:CE X.stack X.prog X.w H s Q u s'):EP X pins σ Q u s':=by
  obtain ⟨v,H',os,bare,un,hok,r,q⟩:=h;obtain ⟨hh,g,d,t,os'⟩:=s';obtain rfl:os'=s.os:=os;exact ⟨v,H',I.call (h':=hh) (g':=g) (d':=d) (t':=t) (ch:=[]) un hok bare (λb z=>absurd z (!1)),r,q⟩
end
def HX(sp:Sp)(dvs:List V)(E:XK)(t:TA):TE:=λσ H Q=>t σ H λvs H1=>sp (vs++dvs) H1 Q E
def D7(C:Addr)(m:Str)(sp:Sp)(dvs:List V)(E:XK)(ta:TE)(t:TA):TE:=λσ H Q=>ta σ H λx H1=>∃ a dx fs,x=.ref a/\H1 a=some (.ins C dx fs)/\fs.lookup m=none /\
  t σ H1 λvs H2=>sp (x::(vs++dvs)) H2 Q E
def HY(C:Addr)(sp:Sp)(dvs:List V)(E:XK)(t:TA):TE:=λσ H Q=>t σ H λvs H1=>∀ x dx,H1 x=none->H1 dx=none->dx≠x ->
  sp (.ref x::(vs++dvs)) (upd (upd H1 dx (.own x)) x (.ins C dx [])) (λv H2=>v=.non/\Q (.ref x) H2) E
def Binds(K:iC)(fd:FuncData)(ps:List Str)(ds:List Value):Prop :=
  ∀ (s:Shared) (us:List Value),K.In s.heap->(us++ds).length=ps.length->BindsTo s fd ⟨us,[]⟩ (ps.zip (us++ds))
variable {ps:List Str}
theorem Binds.all{K:iC}{fd:FuncData}(h:∀ us:List Value,us.length=ps.length->bindArgs fd ⟨us,[]⟩=pure (ps.zip us)):Binds K fd ps []:=λs us _ hl=>by
  rw [dR] at hl ⊢;exact .of_eq (h us hl)
def xS(CX:CXT)(X:Cx)(E:XK):Prop:=∀ (pins:List (Addr×Obj)) (σ:St) (H:Hp) (s:Shared) (e:Value) (s':Shared),Inv X pins σ H s->CX X.stack H s E e s'->X.xe e s'
variable {vs:List V}
section
variable {CX:CXT}{k:Nat}{f C:Addr}{fd:FuncData}{ps:List Str}{sp:Sp}{dvs:List V}{ds:List Value}{E:XK}{x m:Str}{p apos:Pos}
theorem Et{σ:St}{s:Shared}{Q:VK}(F:FnOk X.prog X.w X.K X.mg X.base CX k f fd ps sp)(hr:Room k X.A)(hb:Binds X.K fd ps ds)(hd:Vals dvs ds)(hx:xS CX X E)(I:Inv X pins σ H s)(r:Vals vs us)(h:sp (vs++dvs) H Q E):wpAny (model X.prog X.w) X.A (call (.ref f) us) (EP X pins σ Q) X.xe s:=by
  have r2:Vals (vs++dvs) (us++ds):=r.append hd;have hl:(us++ds).length=ps.length:=by rw [<-r2.length]; exact F.len _ _ _ _ h
  refine wpAny_call (ip (F.run X.A X.stack s H ⟨us,[]⟩ (us++ds) (vs++dvs) Q E hr I.env0 (hb s us I.kIn hl) r2 h) λr s' hq=>?_);cases r with
  | error e=>exact hx pins σ H s e s' I hq
  | ok fl =>
    cases fl with
    | ret u=>exact I.after hq
    | next=>exact False.elim hq
    | brk=>exact False.elim hq
    | cont=>exact False.elim hq
theorem HF(F:FnOk X.prog X.w X.K X.mg X.base CX k f fd ps sp)(hr:Room k X.A)(hg:Gl X x)(hm:X.mg x=some (.ref f))(hk:W.keepIn X.K (.ref f)=true)(hb:Binds X.K fd ps ds)(hd:Vals dvs ds)(hx:xS CX X E)(ha:PA X (e::es) t)(hdb:(x==("__debug__":Str))=false:=by decide)(he:starEach (e::es) X.env=(false,eval e X.env)::starEach es X.env:=by rfl)(hpl:(backTo pos (starEach es X.env)).any (·.1)=false:=by rfl) :
    PE X (.Call (.Name x p) (e::es) [] pos) (HX sp dvs E t):=by
  intro pins s σ H Q I h;refine iq (AL I hg hm ?_ hdb);refine fA (h₀:=X.base) I.ok.mod.kin hk (thn (ha pos pins s σ H _ I h) λus s1 ⟨vs,H1,I1,r,q⟩=>⟨I1.kIn,?_⟩) he hpl;exact Et F hr hb hd hx I1 r q
theorem Ie(he:PE X o ta)(c:Cls X.K C)(hm:Meth X.K C m f)(F:FnOk X.prog X.w X.K X.mg X.base CX k f fd ps sp)(hr:Room k X.A)(hb:Binds X.K fd ps ds)(hd:Vals dvs ds)(hx:xS CX X E)(ha:PA X (e::es) t)(hst:starEach (e::es) X.env=(false,eval e X.env)::starEach es X.env:=by rfl)(hpl:(backTo pos (starEach es X.env)).any (·.1)=false:=by rfl)(ht:eval (.Call (.Attribute o m apos) (e::es) [] pos) X.env=(do
      let ov <-eval o X.env
      standAt apos.atName
      let (f,first) <-holding [ov] (getMethod ov m pl)
      callWith pos f first (backTo pos (starEach (e::es) X.env)) (backToKw pos (keywordEach [] X.env))):=by rfl) :
    PE X (.Call (.Attribute o m apos) (e::es) [] pos) (D7 C m sp dvs E ta t):=by
  intro pins s σ H Q I h;refine gD (pl:=pl) (thn (he pins s σ H _ I h) λu s1 ⟨x,H1,I1,rx,a,dx,fs,ex,ea,l,q⟩=>?_) ht;subst ex;obtain rfl:u=Value.ref a:=rx;refine uw I1 ea c hm l ?_;refine fA (first:=[.ref a]) (h₀:=X.base) I.ok.mod.kin hm.kp (thn (ha pos pins s1 σ H1 _ I1 q) λus s2 ⟨vs,H2,I2,r,q2⟩=>⟨I2.kIn,?_⟩) hst hpl;exact Et (us:=.ref a::us) (vs:=.ref a::vs) F hr hb hd hx I2 (.cons rfl r) q2
theorem FD(he:PE X o ta)(c:Cls X.K C)(hm:Meth X.K C m f)(F:FnOk X.prog X.w X.K X.mg X.base CX k f fd ps sp)(hr:Room k X.A)(hb:Binds X.K fd ps ds)(hd:Vals dvs ds)(hx:xS CX X E)(ht:eval (.Call (.Attribute o m apos) [] [] pos) X.env=(do
      let ov <-eval o X.env
      standAt apos.atName
      let (f,first) <-holding [ov] (getMethod ov m pl)
      callWith pos f first (backTo pos (starEach [] X.env)) (backToKw pos (keywordEach [] X.env))):=by rfl) :
    PE X (.Call (.Attribute o m apos) [] [] pos) (D7 C m sp dvs E ta tNil):=by
  intro pins s σ H Q I h;refine gD (pl:=pl) (thn (he pins s σ H _ I h) λu s1 ⟨x,H1,I1,rx,a,dx,fs,ex,ea,l,q⟩=>?_) ht;subst ex;obtain rfl:u=Value.ref a:=rx;refine uw I1 ea c hm l ?_;exact W.callWith_K0 (first:=[.ref a]) I1.kIn hm.kp (Et (us:=[.ref a]) (vs:=[.ref a]) F hr hb hd hx I1 (.cons rfl .nil) q)
structure Mk(K:iC)(C f:Addr):Prop where
  makes:W.makesIn K C=true
  init:W.findIn K (.ref C) "__init__"=some (some (.ref f))
  fn:W.isFn K (.ref f)=true
  kp:W.keepIn K (.ref C)=true
theorem FY{σ:St}{s:Shared}{Q:VK}(M:Mk X.K C f)(F:FnOk X.prog X.w X.K X.mg X.base CX k f fd ps sp)(hr:Room (k+1) X.A)(hb:Binds X.K fd ps ds)(hd:Vals dvs ds)(hx:xS CX X E)(I:Inv X pins σ H s)(r:Vals vs us)(h:∀ x dx,H x=none->H dx=none->dx≠x->sp (.ref x::(vs++dvs)) (upd (upd H dx (.own x)) x (.ins C dx [])) (λv H2=>v=.non/\Q (.ref x) H2) E) : wpAny (model X.prog X.w) X.A (call (.ref C) us) (EP X pins σ Q) X.xe s:=by
  have hq:=h (s.heap.objs.size+1) s.heap.objs.size (I.hok.fresh (d8 _)) (I.hok.fresh (ai _)) (az (dI _));have I2:=Inv.made (C:=C) I;have r2:Vals (V.ref (s.heap.objs.size+1)::(vs++dvs)) (Value.ref (s.heap.objs.size+1)::(us++ds)):=.cons rfl (r.append hd);have hl:(Value.ref (s.heap.objs.size+1)::us++ds).length=ps.length:=by
    have e:=r2.length;rw [F.len _ _ _ _ hq] at e;exact e.symm
  refine wpAny_call (Gi (f:=f) I.kIn M.makes M.init (beq_iff_eq.mp M.fn) (ip (F.run _ X.stack _ _ ⟨Value.ref (s.heap.objs.size+1)::us,[]⟩ (Value.ref (s.heap.objs.size+1)::(us++ds)) _ _ E (hr.make C us [])
    (I2.env0.make C us []) (hb _ (Value.ref (s.heap.objs.size+1)::us) I2.kIn hl) r2 hq) λr s' hq'=>?_))
  cases r with
  | error e=>exact hx pins σ _ _ e s' I2 hq'
  | ok fl =>
    cases fl with
    | ret u =>
      obtain ⟨v,H',I3,rv,ev,q3⟩:=I2.after hq';subst ev;exact ⟨rv,⟨V.ref (s.heap.objs.size+1),H',I3,rfl,q3⟩⟩
    | next=>exact False.elim hq'
    | brk=>exact False.elim hq'
    | cont=>exact False.elim hq'
theorem HV(M:Mk X.K C f)(F:FnOk X.prog X.w X.K X.mg X.base CX k f fd ps sp)(hr:Room (k+1) X.A)(hg:Gl X x)(hm:X.mg x=some (.ref C))(hb:Binds X.K fd ps ds)(hd:Vals dvs ds)(hx:xS CX X E)(ha:PA X (e::es) t)(hdb:(x==("__debug__":Str))=false:=by decide)(he:starEach (e::es) X.env=(false,eval e X.env)::starEach es X.env:=by rfl)(hpl:(backTo pos (starEach es X.env)).any (·.1)=false:=by rfl) :
    PE X (.Call (.Name x p) (e::es) [] pos) (HY C sp dvs E t):=by
  intro pins s σ H Q I h;refine iq (AL I hg hm ?_ hdb);refine fA (h₀:=X.base) I.ok.mod.kin M.kp (thn (ha pos pins s σ H _ I h) λus s1 ⟨vs,H1,I1,r,q⟩=>⟨I1.kIn,?_⟩) he hpl;exact FY M F hr hb hd hx I1 r q
end
section
variable {CX:CXT}{k:Nat}{f C:Addr}{fd:FuncData}{ps ks:List Str}{sp:Sp}{E:XK}{x m:Str}{p apos kpos:Pos}{kws:List Keyword}{tk:TA}{nm:Option Str}
variable {g:List Value->List Value->List Value}{gV:List V->List V->List V}
end
structure FnScope(N P:List Str)(sc:Scope):Prop where
  kind:sc.kind=.function
  co:sc.isCoroutine=false
  gen:sc.isGenerator=false
  nd:N.Nodup
  pre:N.take P.length=P
  par:∀ x∈P,sc.names.lookup x=some .local\/sc.names.lookup x=some .cell
  nofree:∀ y∈sc.names,y.2≠.free
theorem Ad{kindOf:Str->Option NameKind}{x:Str}:∀ {binds:List (Str×Value)} {m:Str->Option Value},(∀ v,(x,v)∉binds)->bindL kindOf binds m x=m x
  | [],_,_=>rfl
  | (n,v)::r,m,h=>by
    unfold bindL;rw [Ad λw hw=>h w (ay _ hw)];split
    . have:x≠n:=by rintro rfl; exact h v aB
      simp [this]
    . rfl
theorem AC{kindOf:Str->Option NameKind}{x:Str}:∀ {binds:List (Str×Value)} {m:Str->Option Value},(∀ v,(x,v)∉binds)->bindC kindOf binds m x=m x
  | [],_,_=>rfl
  | (n,v)::r,m,h=>by
    unfold bindC;rw [AC λw hw=>h w (ay _ hw)];split
    . rfl
    . have:x≠n:=by rintro rfl; exact h v aB
      simp [this]
theorem tN{kindOf:Str->Option NameKind}{x:Str}{v:Value}:∀ {P:List Str} {vs:List Value} {i:Nat} {m:Str->Option Value},P.Nodup->P[i]?=some x->vs[i]?=some v->kindOf x=some .local -> bindL kindOf (P.zip vs) m x=some v
  | [],_,_,_,_,h,_,_=>by simp at h
  | _::_,[],_,_,_,_,h,_=>by simp at h
  | p::P,w::vs,0,m,nd,h1,h2,hk=>by
    simp at h1 h2; subst h1; subst h2;show bindL kindOf ((p,w)::P.zip vs) m p=_;unfold bindL;rw [Ad λv hv=>(db.mp nd).1 (gE hv).1,h8 hk];simp
  | p::P,w::vs,i+1,m,nd,h1,h2,hk=>by
    show bindL kindOf ((p,w)::P.zip vs) m x=_;unfold bindL;exact tN (i:=i) (db.mp nd).2 (by simpa using h1) (by simpa using h2) hk
theorem Ax{kindOf:Str->Option NameKind}{x:Str}{v:Value}:∀ {P:List Str} {vs:List Value} {i:Nat} {m:Str->Option Value},P.Nodup->P[i]?=some x->vs[i]?=some v->kindOf x≠some .local -> bindC kindOf (P.zip vs) m x=some v
  | [],_,_,_,_,h,_,_=>by simp at h
  | _::_,[],_,_,_,_,h,_=>by simp at h
  | p::P,w::vs,0,m,nd,h1,h2,hk=>by
    simp at h1 h2; subst h1; subst h2;show bindC kindOf ((p,w)::P.zip vs) m p=_;unfold bindC;rw [AC λv hv=>(db.mp nd).1 (gE hv).1,h9 hk];simp
  | p::P,w::vs,i+1,m,nd,h1,h2,hk=>by
    show bindC kindOf ((p,w)::P.zip vs) m x=_;unfold bindC;exact Ax (i:=i) (db.mp nd).2 (by simpa using h1) (by simpa using h2) hk
def start(N:List Str)(vs:List V):St:=vs.map some++List.replicate (N.length - vs.length) none
def cxOf(CX:CXT)(P:Program)(w:World)(K:iC)(mg:Str->Option Value)(base:Heap)(N:List Str)(qual:Str)(scope:Scope)(f:Addr)(cd:Value)(A:Around)(outer:List Env)(s:Shared)(H:Hp)(E:XK):Cx where
  prog:=P
  w:=w
  K:=K
  mg:=mg
  base:=base
  A:=A.deeper (envOfC qual scope s.heap.objs.size f cd)
  N:=N
  s₀:=s
  H₀:=H
  env:=envOfC qual scope s.heap.objs.size f cd
  outer:=outer
  stack:=envOfC qual scope s.heap.objs.size f cd::outer
  ex:=[]
  calm:=true
  fn:=λ_=>true
  pn:=[]
  xe:=λe s'=>wpAny (model P w) (A.deeper (envOfC qual scope s.heap.objs.size f cd)) (leaving (envOfC qual scope s.heap.objs.size f cd) e) (λ_ s''=>CX outer H s E e s'') (λe' s''=>CX outer H s E e' s'') s'
theorem Cd{sc:Scope}{n:Nat}{x:Str}(h:sc.names.lookup x=some .cell):∃ c,(cellsFrom n sc.names []).lookup x=some c:=by
  have q:=gB sc.names n [] (.inl h);exact fS.mp q
variable {CX:CXT}{scope:Scope}{qual:Str}
theorem Dl{K:iC}{N:List Str}{f:Addr}{cd:Value}{A:Around}{s s1:Shared}{E:XK}(S:FnScope N ps scope)(hd:A.handled=none)(e0:Env0 P w K mg base A outer s H)(hl:vs.length=ps.length)(r:Vals vs us)(x:InCallC s s.heap.objs.size (bindL (envOfC qual scope s.heap.objs.size f cd).kindOf (ps.zip us) λ_=>none) (cellsFrom (s.heap.objs.size+1) scope.names []) (bindC (envOfC qual scope s.heap.objs.size f cd).kindOf (ps.zip us) λ_=>none) s1) : Inv (cxOf CX P w K mg base N qual scope f cd A outer s H E) [] (start N vs) H s1:=by
  have hpl:ps.length<=N.length:=by have:=congrArg List.length S.pre; rw [aK] at this; omega
  obtain ⟨h1,tk,rfl,hk⟩:=x.done;have noA:∀ b:Addr,b∉(cxOf CX P w K mg base N qual scope f cd A outer s H E).ex:=λb z=>absurd (show b∈([]:List Addr) from z) (!1);refine ⟨⟨e0.mod,S.kind,rfl,rfl,ai _,λy z c h1 h2=>?_,λy hy=>?_,λy c _ h=>?_,λ_=>hd,Around.frames_deeper e0.frames,.inr ⟨rfl,rfl⟩,λb z=>absurd z (noA b),e0.bs,e0.bsz,λb _ _=>noA b,λb z=>absurd z (noA b),e0.funs,e0.frf⟩,
    rfl,e0.bare,Un.kept hk,⟨_,x.toInCall.ns,λi y v h1 h2 h3=>?_⟩,λy c h=>⟨_,x.cell y c h⟩,e0.hok.fresh (ai _),λy c h=>?_,λp hp=>absurd (show p∈([]:List (Addr×Obj)) from hp) (!1),e0.hok.kept hk,?_⟩
  . exact name_of_addr x.apart (cV h1) (cV h2)
  . have hy:scope.names.lookup y=some .cell\/scope.names.lookup y=some .free:=hy;rcases hy with hy|hy
    . exact Cd hy
    . exact absurd rfl (S.nofree _ (cV hy))
  . exact bf (x.above y c (cV h))
  . have hi:i<vs.length:=by
      unfold start at h2;by_cases hi:i<vs.length
      . exact hi
      . rw [aH (by simpa using hi)] at h2;rw [f8] at h2;split at h2 <;> cases h2
    have ha:vs[i]?=some v:=by
      unfold start at h2;rw [aM (by simpa using hi),ag] at h2;cases e:vs[i]? with
      | none=>rw [e] at h2; cases h2
      | some a=>rw [e] at h2; cases h2; rfl
    obtain ⟨u,hu,rv⟩:=r.get ha;have hp:ps[i]?=some y:=by
      rw [<-S.pre,dc (by omega)]; exact h1
    have ndP:ps.Nodup:=by rw [<-S.pre]; exact S.nd.sublist (List.take_sublist _ _)
    refine ⟨u,rv,?_⟩;rcases S.par y (ar hp) with k|k
    . exact .inl ⟨k,tN ndP hp hu k⟩
    . obtain ⟨c,e⟩:=Cd (n:=s.heap.objs.size+1) k;refine .inr ⟨.inl k,c,e,?_⟩;have q:=x.cell y c e;rw [Ax ndP hp hu (by show scope.names.lookup y≠_; rw [k]; decide)] at q;exact q
  . exact e0.hok.fresh (bf (x.above y c (cV h)))
  . unfold start;show _=N.length;rw [ah,aa,gF];omega
theorem Je{K:iC}{k:Nat}{f:Addr}{name:Str}{params:Arguments}{dV kV doc pm cdv ct oc:Value}{an od:Option Addr}{osl:Array (Option Value)}{N:List Str}{sp:Sp}(lk:K.lookup f=some ⟨oc,od,.func (W.fnOf name qual params body scope dV kV doc pm an cdv ct),osl⟩)(hcd:W.codeIn K cdv qual=true)(S:FnScope N ps scope)(len:∀ vs H Q E,sp vs H Q E->vs.length=ps.length)(hbody:∀ (A:Around) (outer:List Env) (s:Shared) (H:Hp) (vs:List V) (Q:VK) (E:XK),Room k (A.deeper (envOfC qual scope s.heap.objs.size f cdv))->sp vs H Q E ->
      ∃ t,PSs (cxOf CX P w K mg base N qual scope f cdv A outer s H E) body t/\t { nx:=λ_ H'=>Q .non H',rt:=Q } (start N vs) H) :
    FnOk P w K mg base CX (k+1) f (W.fnOf name qual params body scope dV kV doc pm an cdv ct) ps sp:=by
  refine ⟨len,λA outer s H args us vs Q E hr e0 hb r hsp=>?_⟩;have hl:=len _ _ _ _ hsp;have KX:K.In s.heap:=e0.mod.kin.keeps λb o e=>(e0.bs b o e).1;have lim:s.heap.NoLimit:=e0.mod.nolimit.keeps λb o e=>(e0.bs b o e).1;have hkind:∀ y∈ps.zip us,scope.names.lookup y.1=some .local\/(scope.names.lookup y.1=some .cell/\((cellsFrom (s.heap.objs.size+1) scope.names []).lookup y.1).isSome=true):=λ⟨n,v⟩ hy=>by
    rcases S.par n (gE hy).1 with q|q
    . exact .inl q
    . exact .inr ⟨q,gB _ _ _ (.inl q)⟩
  refine codeAny_call_function hr.depth (KX _ _ lk) rfl S.co S.gen rfl (W.codeRec_of KX hcd) (hb _ _ _ _ ?_);refine wpAny_newFunctionEnv_cells S.kind hkind λenv he s1 x=>?_;subst he;refine ⟨lim.keeps x.toInCall.keep,codeAny_func ?_⟩;obtain ⟨t,ht,hq⟩:=hbody A outer s H vs Q E (hr.deeper _) hsp;have I:Inv (cxOf CX P w K mg base N qual scope f cdv A outer s H E) [] (start N vs) H s1:=Dl S hr.hd e0 hl r x;refine ia (ht [] s1 (start N vs) H _ I hq) (λfl s' hs=>?_) λe s' hs=>hs;have fin:∀ {σ':St} {H':Hp} {v:V} {u:Value},Inv (cxOf CX P w K mg base N qual scope f cdv A outer s H E) [] σ' H' s'->RelV v u->Q v H'->CE outer P w H s Q u s' :=
    λ{σ' H' v u} J rv q=>⟨v,H',J.os,J.bare,J.base,J.hok,rv,q⟩
  cases fl with
  | ret u =>
    obtain ⟨v,σ',H',J,rv,q⟩:=hs;exact fin J rv q
  | next =>
    obtain ⟨σ',H',J,q⟩:=hs;exact fin (v:=V.non) (u:=Value.none) J rfl q
  | brk =>
    obtain ⟨_,_,_,q⟩:=hs;exact False.elim q
  | cont =>
    obtain ⟨_,_,_,q⟩:=hs;exact False.elim q
section
variable {x:Str}{p:Pos}{id T:String}{r:List V->Hp->VK->Prop}
def tCB(r:List V->Hp->VK->Prop)(t:TA):TE:=λσ H Q=>t σ H λvs H1=>r vs H1 Q
theorem zm(hc:y8 X (.builtin id) r)(hg:Gl X x)(hm:X.mg x=none)(hv:bootBuiltins x=some (.builtin id))(ha:PA X (e::es) t)(hn:x≠"__name__":=by decide)(hdb:(x==("__debug__":Str))=false:=by decide)(he:starEach (e::es) X.env=(false,eval e X.env)::starEach es X.env:=by rfl)(hpl:(backTo pos (starEach es X.env)).any (·.1)=false:=by rfl):PE X (.Call (.Name x p) (e::es) [] pos) (tCB r t):=by
  intro pins s σ H Q I h;refine iq (wq I hg hm hv ?_ hn hdb);exact PyProof.Rows.callWith_builtin1 (thn (ha pos pins s σ H _ I h) λus s1 ⟨vs,H1,I1,r1,q1⟩=>hc pins s1 σ H1 vs us Q I1 r1 q1) he hpl
theorem zQ(hc:y8 X (.type T) r)(hg:Gl X x)(hm:X.mg x=none)(hv:bootBuiltins x=some (.type T))(ha:PA X (e::es) t)(hn:x≠"__name__":=by decide)(hdb:(x==("__debug__":Str))=false:=by decide)(he:starEach (e::es) X.env=(false,eval e X.env)::starEach es X.env:=by rfl)(hpl:(backTo pos (starEach es X.env)).any (·.1)=false:=by rfl):PE X (.Call (.Name x p) (e::es) [] pos) (tCB r t):=by
  intro pins s σ H Q I h;refine iq (wq I hg hm hv ?_ hn hdb);exact bP (thn (ha pos pins s σ H _ I h) λus s1 ⟨vs,H1,I1,r1,q1⟩=>hc pins s1 σ H1 vs us Q I1 r1 q1) he hpl
end
end L2
namespace HT
open PySem PyProof.Rows
open PySem.SeqAt
open PySem.AutoSeq1 (wpAny_loadPart')
open PySem.MeetsSeq PySem.MeetsSeq2 PySem.MeetsSeq3
variable {sl t:Addr}{hi lo:Option Int}{vl vu:Value}
section
variable {prog:Program}{w:World}{A:Around}{E:Value->Shared->Prop}{s:Shared}
theorem cat_tup{b:Addr}{vs ws:List Value}{Q:Value->Shared->Prop}(ht:IsTup s.heap t vs.toArray)(hb:IsTup s.heap b ws.toArray)(hv:vs≠[])(h1:ws=[]->Q (.ref t) s)(h2:ws≠[]->Q (.ref s.heap.objs.size) { s with heap:=s.heap.push { cls:=.type "tuple",data:=.seq (vs++ws).toArray } })(hsz:vs.length+ws.length<=sizeLine):wpAny (model prog w) A (binaryOp .Add (.ref t) (.ref b)) Q E s:=by
  obtain ⟨⟨cls,dd,data,sl⟩,ho,hc,n,hd⟩:=id ht;obtain ⟨⟨cls2,dd2,data2,sl2⟩,ho2,hc2,n2,hd2⟩:=id hb;simp only at hc hd hc2 hd2;subst hc hd hc2 hd2;have e:vs.toArray++ws.toArray=(vs++ws).toArray:=by simp
  by_cases hw:ws=[]
  . exact concat_meets ⟨_,ho,rfl⟩ ⟨_,ho2,rfl⟩ noFill_tuple_add seq_tuple_add gC f9 (fU _ _)
      (tuple_addW1 t b vs.toArray ws.toArray n n2 dd dd2 sl sl2 (by simpa using hv) (by simp [hw])) ⟨ho,ho2,h1 hw⟩
  . refine concat_meets ⟨_,ho,rfl⟩ ⟨_,ho2,rfl⟩ noFill_tuple_add seq_tuple_add gC f9 (fU _ _)
      (tuple_addW2 t b vs.toArray ws.toArray n n2 dd dd2 sl sl2 (by simpa using hv) (by simpa using hw) (by rw [aG,aG]; exact hsz)) ⟨ho,ho2,?_⟩
    rw [e];exact h2 hw
def sIx(n d:Nat):Option Int->Nat
  | none=>d
  | some v=>if v<0 then (v+(n:Int)).toNat else min v.toNat n
theorem sIx_none(n d:Nat):sIx n d none=d:=rfl
theorem sIx_nat(n d k:Nat):sIx n d (some (k:Int))=min k n:=by
  show (if (k:Int)<0 then ((k:Int)+(n:Int)).toNat else min (k:Int).toNat n)=min k n;rw [h9 (by omega),fV]
theorem Lb(n d:Nat)(hd:d<=n)(o:Option Int):sIx n d o<=n:=by
  cases o with
  | none=>exact hd
  | some v =>
    show (if v<0 then (v+(n:Int)).toNat else min v.toNat n)<=n;by_cases hv:v<0
    . rw [h8 hv]; omega
    . rw [h9 hv]; exact Nat.min_le_right _ _
theorem Ei(v:Int)(n d:Nat):(if v<0 then max (v+(n:Int)) 0 else min v (n:Int))=((sIx n d (some v):Nat):Int):=by
  show (if v<0 then max (v+(n:Int)) 0 else min v (n:Int))=(((if v<0 then (v+(n:Int)).toNat else min v.toNat n):Nat):Int)
  by_cases hv:v<0
  . simp only [h8 hv]; omega
  . simp only [h9 hv]; omega
theorem Cq(lo hi:Option Int)(n:Nat):Builtin.Slice.sliceAdjust lo hi 1 (n:Int)=(((sIx n 0 lo:Nat):Int),((sIx n n hi:Nat):Int)):=by
  have h1:¬ ((1:Int)<0):=by omega
  unfold Builtin.Slice.sliceAdjust;simp only [h1,if_false];refine Prod.ext ?_ ?_
  . cases lo with
    | none=>rfl
    | some v=>exact Ei v n 0
  . cases hi with
    | none=>rfl
    | some v=>exact Ei v n n
theorem Cw(i j:Nat):Builtin.Slice.slicePlaces (i:Int) (j:Int) 1=j - i:=by
  unfold Builtin.Slice.slicePlaces;have h1:(1:Int) > 0:=by omega
  simp only [h1,if_true,Int.ediv_one];split <;> omega
theorem uf{v:Value}{o:Option Int}{Q:Option Int->Shared->Prop}(p:IsPart v o)(h:Q o s):wpAny (model prog w) A (Builtin.Slice.slicePartIndex v) Q E s:=by
  cases p with
  | none=>exact slicePart_none h
  | int i t=>exact slicePart_int h
theorem wY{n:Nat}{Q:Int×Int×Nat->Shared->Prop}(hs:s.heap.IsSliceOf sl vl vu .none)(pl:IsPart vl lo)(pu:IsPart vu hi)(h:Q (((sIx n 0 lo:Nat):Int),1,sIx n n hi - sIx n 0 lo) s):wpAny (model prog w) A (Builtin.Slice.sliceApplied (.ref sl) (pure (n:Int))) Q E s:=by
  obtain ⟨os,hos,hcs,hds⟩:=id hs;unfold Builtin.Slice.sliceApplied Builtin.Slice.sliceFields;refine ii (ii (wpAny_field hos hds (x:=vl) rfl (ii (wpAny_field hos hds (x:=vu) rfl (ii (wpAny_field hos hds (x:=.none) rfl (ij ?_)))))));refine ii (slicePart_none ?_);show wpAny _ _ (if ((1:Int)==0)=true then _ else _) _ _ s;rw [h9 (by decide)];refine ii (uf pl (ii (uf pu (ii (ij ?_)))));show wpAny _ _ (match Builtin.Slice.sliceAdjust lo hi 1 (n:Int) with | (lo,hi)=>pure (lo,(1:Int),Builtin.Slice.slicePlaces lo hi 1)) _ _ s;rw [Cq lo hi n];show wpAny _ _ (pure (((sIx n 0 lo:Nat):Int),(1:Int),Builtin.Slice.slicePlaces ((sIx n 0 lo:Nat):Int) ((sIx n n hi:Nat):Int) 1)) _ _ s;rw [Cw];exact ij h
theorem Fo(xs:Array Value)(i k:Nat):((List.range k).filterMap λ(m:Nat)=>xs[((i:Int)+(m:Int)*1).toNat]?).toArray=((xs.toList.drop i).take k).toArray:=by
  have e:(λ(m:Nat)=>xs[((i:Int)+(m:Int)*1).toNat]?)=λm=>xs[i+m]?:=by
    funext m;have:((i:Int)+(m:Int)*1).toNat=i+m:=by omega
    rw [this]
  rw [e];have:=pick_run xs i k;rw [List.filterMap_map] at this;have e2:((λx=>xs[x]?) ∘ λx=>i+x)=λm=>xs[i+m]?:=rfl;rw [e2] at this;rw [this]
theorem getItem_tuple_cut{items:Array Value}{Q:Value->Shared->Prop}(ht:IsTup s.heap t items)(hs:s.heap.IsSliceOf sl vl vu .none)(pl:IsPart vl lo)(pu:IsPart vu hi)(hw:¬ (sIx items.size 0 lo=0/\sIx items.size items.size hi=items.size))(h:Q (.ref s.heap.objs.size) { s with heap:=s.heap.push { cls:=.type "tuple",data:=.seq ((items.toList.drop (sIx items.size 0 lo)).take (sIx items.size items.size hi - sIx items.size 0 lo)).toArray } })(hsz:items.size<=sizeLine):wpAny (model prog w) A (getItem (.ref t) (.ref sl)) Q E s:=by
  have htake:sizeOk (.seq ((items.toList.drop (sIx items.size 0 lo)).take (sIx items.size items.size hi - sIx items.size 0 lo)).toArray):=by
    show ((items.toList.drop (sIx items.size 0 lo)).take (sIx items.size items.size hi - sIx items.size 0 lo)).toArray.size<=sizeLine;rw [aG,aK,cZ,cU];omega
  have hj:sIx items.size items.size hi<=items.size:=Lb _ _ (ai _) hi;obtain ⟨os,hos,hcs,hds⟩:=id hs;have hTs:s.TypeIs (.ref sl) "slice":=⟨os,hos,hcs⟩
  unfold getItem;try with_reducible refine ir ?_
  first | refine ii (ij ?_) | skip
  refine ii (wpAny_sequenceKey ht.typeIs (by decide) ?_);refine ii (wpAny_callSpecial?_slot (name:=Str.ofString "__getitem__") ht.typeIs de
    (wpAny_call_entry de ht.typeIs entry_tuple_getitem ?_ (args_tuple_getitem _ _)))
  show wpAny _ _ (Builtin.Tuple.tupleItemsOf (.ref t) >>= _) _ _ s;refine ii (tupleItemsOf_ ht ?_);refine ii (iu hTs ?_);rw [h8 (by decide)];refine ii (wY hs pl pu ?_);have hno:¬ ((((sIx items.size 0 lo:Nat):Int)==0 && (1:Int)==1 && (sIx items.size items.size hi - sIx items.size 0 lo)==items.size)=true):=by
    intro q;rw [cQ,cQ] at q;have q1:((sIx items.size 0 lo:Nat):Int)=0:=eq_of_beq q.1.1;have q2:sIx items.size items.size hi - sIx items.size 0 lo=items.size:=eq_of_beq q.2;exact hw ⟨by omega,by omega⟩
  show wpAny _ _ (if (((sIx items.size 0 lo:Nat):Int)==0 && (1:Int)==1 && (sIx items.size items.size hi - sIx items.size 0 lo)==items.size)=true then _ else _) _ _ s;rw [h9 hno,Fo];first
    | exact ii (m:=Builtin.Tuple.tupleExact _) (ik (ij ⟨_,rfl,ij h⟩) htake)
    | exact ii (m:=Builtin.Tuple.tupleExact _) (ik (ii (ij (ij ⟨_,rfl,ij h⟩))) htake)
    | exact ii (ii (m:=Builtin.Tuple.tupleExact _) (ik (ij (ij ⟨_,rfl,ij h⟩)) htake))
    | exact ii (ii (m:=Builtin.Tuple.tupleExact _) (ik (ij ⟨_,rfl,ij h⟩) htake))
end
end HT
namespace L2
open PySem PySem.Spec PyProof.Rows
abbrev TO:=St->Hp->(Option Int->Hp->Prop)->Prop
def PO(X:Cx)(e:Option Expr)(t:TO):Prop :=
  ∀ (pins:List (Addr×Obj)) (s:Shared) (σ:St) (H:Hp) (Q:Option Int->Hp->Prop),Inv X pins σ H s->t σ H Q ->
    wpAny (model X.prog X.w) X.A (evalPart e X.env) (λu s'=>∃ o H',Inv X pins σ H' s'/\IsPart u o/\Q o H') X.xe s
def DJ:TO:=λ_ H Q=>Q none H
def Jo(t:TE):TO:=λσ H Q=>t σ H λx H1=>∃ i,x=.int i/\Q (some i) H1
variable {X:Cx}{e:Expr}{te:TE}{lo hi:Option Expr}{tl th:TO}{pos p2:Pos}
theorem vP:PO X none DJ:=by
  intro pins s σ H Q I h;rw [evalPart_none];exact ij ⟨none,H,I,.none,h⟩
theorem wf(h:PE X e te):PO X (some e) (Jo te):=by
  intro pins s σ H Q I hw;rw [evalPart_some];refine thn (h pins s σ H _ I hw) λu s1 ⟨x,H1,I1,r1,q1⟩=>?_;obtain ⟨i,rfl,q⟩:=q1;obtain ⟨t,rfl⟩:=r1;exact ⟨some i,H1,I1,.int i t,q⟩
def SlR(X:Cx)(r:V->Option Int->Option Int->Hp->VK->Prop):Prop :=
  ∀ (pins:List (Addr×Obj)) (s:Shared) (σ:St) (H:Hp) (x:V) (v vl vu:Value) (lo hi:Option Int) (sl:Addr) (Q:VK),Inv X pins σ H s->RelV x v->s.heap.IsSliceOf sl vl vu .none->IsPart vl lo->IsPart vu hi->r x lo hi H Q ->
    ∃ T id,typeLookup (.type T) "__getitem__"=pure (some (.builtin id))/\s.TypeIs v T/\wpAny (model X.prog X.w) X.A (getItem v (.ref sl)) (EP X pins σ Q) X.xe s
def tSl(r:V->Option Int->Option Int->Hp->VK->Prop)(te:TE)(tl th:TO):TE:=λσ H Q=>te σ H λx H1=>tl σ H1 λl H2=>th σ H2 λu H3=>r x l u H3 Q
theorem xH{r:V->Option Int->Option Int->Hp->VK->Prop}(hr:SlR X r)(he:PE X e te)(hl:PO X lo tl)(hu:PO X hi th):PE X (.Subscript e (.Slice lo hi none p2) pos) (tSl r te tl th):=by
  intro pins s σ H Q I h;refine Subscript_ (thn (he pins s σ H _ I h) λv s1 ⟨x,H1,I1,r1,q1⟩=>?_);refine wpAny_Slice (thn (hl pins s1 σ H1 _ I1 q1) λvl s2 ⟨l,H2,I2,pl,q2⟩=>thn (hu pins s2 σ H2 _ I2 q2) λvu s3 ⟨u,H3,I3,pu,q3⟩=>?_);rw [evalPart_none];refine ij ?_;have I4:Inv X pins σ H3 { s3 with heap:=s3.heap.push { cls:=.type "slice",data:=.fields #[vl,vu,.none] } }:=I3.kept (t':=s3.toks) λb ob q=>Heap.get?_push_of_some _ q;obtain ⟨T,id,hT,ht,hg⟩:=hr pins { s3 with heap:=s3.heap.push { cls:=.type "slice",data:=.fields #[vl,vu,.none] } } σ H3 x v vl vu l u s3.heap.objs.size Q I4 r1 (Heap.IsSliceOf.new ..) pl pu q3;show wpAny (model X.prog X.w) X.A (subscriptTail e (.Slice lo hi none p2) v (.ref s3.heap.objs.size)) (EP X pins σ Q) X.xe { s3 with heap:=s3.heap.push { cls:=.type "slice",data:=.fields #[vl,vu,.none] } };exact tail_any (ops:=[.ref s3.heap.objs.size,v]) ht hT hg (by with_unfolding_all rfl)
def cutV(xs:List V)(lo hi:Option Int):List V:=(xs.drop (HT.sIx xs.length 0 lo)).take (HT.sIx xs.length xs.length hi - HT.sIx xs.length 0 lo)
theorem vB(xs:List V)(lo hi:Option Int):(cutV xs lo hi).length<=xs.length:=by
  unfold cutV;rw [aK,cZ];omega
def rSlT(K:iC):V->Option Int->Option Int->Hp->VK->Prop:=λx lo hi H Q=>∃ a xs,x=.ref a/\SqT K H a xs /\
  ¬ (HT.sIx xs.length 0 lo=0/\HT.sIx xs.length xs.length hi=xs.length)/\∀ p,H p=none->Q (.ref p) (upd H p (.tup (cutV xs lo hi)))
theorem GH:SlR X (rSlT X.K):=by
  intro pins s σ H x v vl vu lo hi sl Q I rx hs pl pu h;obtain ⟨a,xs,rfl,hx,hw,q⟩:=h;cases rx
  obtain ⟨its,r,ht,hz⟩:=I.tuple hx;have hlen:its.toArray.size=xs.length:=by rw [aG]; exact r.length.symm
  refine ⟨"tuple",_,de.lookup,ht.typeIs,?_⟩;refine HT.getItem_tuple_cut ht hs pl pu (by rw [hlen]; exact hw) ?_ (by rw [hlen]; exact hz);rw [hlen];refine ⟨.ref s.heap.objs.size,_,I.laid (t':=s.toks) (o:=.tup (cutV xs lo hi)) (λb ob q=>Heap.get?_push_of_some _ q) (ai _) ?_,rfl,q _ (I.hok.fresh (ai _))⟩;exact ⟨bK (vB xs lo hi) hz,_,(r.drop (HT.sIx xs.length 0 lo)).take (HT.sIx xs.length xs.length hi - HT.sIx xs.length 0 lo),IsTup.new _ _⟩
def J8(K:iC):R2:=λx y H Q=>∃ a b xs ys,x=.ref a/\y=.ref b/\SqT K H a xs/\SqT K H b ys/\xs≠[]/\xs.length+ys.length<=sizeLine /\
  (ys=[]->Q (.ref a) H)/\(ys≠[]->∀ p,H p=none->Q (.ref p) (upd H p (.tup (xs++ys))))
theorem Vals.nil_iff{xs:List V}{us:List Value}(r:Vals xs us):us=[]↔xs=[]:=by
  cases r with
  | nil=>simp
  | cons _ _=>simp
theorem Ic:OpR X (binaryOp .Add) (J8 X.K):=by
  intro pins s σ H x y v u Q I rx ry h;obtain ⟨a,b,xs,ys,rfl,rfl,ha,hb,hx,hz,q1,q2⟩:=h;cases rx
  cases ry
  obtain ⟨its,r1,p1,_⟩:=I.tuple ha;obtain ⟨its2,r2,p2,_⟩:=I.tuple hb;refine HT.cat_tup p1 p2 (λz=>hx (r1.nil_iff.mp z)) (λz=>⟨.ref a,H,I,rfl,q1 (r2.nil_iff.mp z)⟩) (λz=>?_) (by rw [<-r1.length,<-r2.length]; exact hz);refine ⟨.ref s.heap.objs.size,_,I.laid (t':=s.toks) (o:=.tup (xs++ys)) (λb ob q=>Heap.get?_push_of_some _ q) (ai _) ?_,rfl,q2 (λw=>z (r2.nil_iff.mpr w)) _ (I.hok.fresh (ai _))⟩;exact ⟨by rw [ah]; exact hz,_,r1.append r2,IsTup.new _ _⟩
def ixN(n:Nat)(i:Int):Option Nat:=if 0<=i then (if i<n then some i.toNat else none) else if -(n:Int)<=i then some (i+n).toNat else none
def atI{α:Type}(xs:List α)(i:Int):Option α:=(ixN xs.length i).bind λj=>xs[j]?
theorem HA{n:Nat}{i:Int}{j:Nat}(h:ixN n i=some j):seqIndex? i n=some j/\j<n/\-(n:Int)<=i/\i<n:=by
  unfold ixN at h;by_cases h0:0<=i
  . rw [h8 h0] at h;by_cases h1:i<n
    . rw [h8 h1] at h;have e:i.toNat=j:=ax h;exact ⟨by rw [seqIndex_of h0 h1,e],by omega,by omega,h1⟩
    . rw [h9 h1] at h; cases h
  . rw [h9 h0] at h;by_cases h1:-(n:Int)<=i
    . rw [h8 h1] at h;have e:(i+n).toNat=j:=ax h;exact ⟨by rw [seqIndex_neg (by omega) h1,e],by omega,h1,by omega⟩
    . rw [h9 h1] at h; cases h
theorem EI{α:Type}{xs:List α}{i:Int}{v:α}(h:atI xs i=some v):∃ j,seqIndex? i xs.length=some j/\xs[j]?=some v/\j<xs.length/\-(xs.length:Int)<=i/\i<xs.length:=by
  unfold atI at h;cases e:ixN xs.length i with
  | none=>rw [e] at h; cases h
  | some j =>
    rw [e] at h;obtain ⟨h1,h2,h3,h4⟩:=HA e;exact ⟨j,h1,h,h2,h3,h4⟩
theorem zB{α:Type}{xs:List α}{j:Nat}{v:α}(h:xs[j]?=some v):atI xs (j:Int)=some v:=by
  have hj:j<xs.length:=(af.mp h).1;have e:ixN xs.length (j:Int)=some j:=by
    unfold ixN;rw [h8 (by omega),h8 (by omega)]; simp
  unfold atI; rw [e]; exact h
def tD(b:Expr):Prop:=∀ o i,subscripted b false o i=operate [o,i] (getItem o i)
def IxR(X:Cx)(r:R2):Prop :=
  ∀ (value slice:Expr) (pins:List (Addr×Obj)) (s:Shared) (σ:St) (H:Hp) (x y:V) (v u:Value) (Q:VK),Inv X pins σ H s->RelV x v->RelV y u->r x y H Q ->
    subscripted slice false v u=operate [v,u] (getItem v u)->wpAny (model X.prog X.w) X.A (subscriptTail value slice v u) (EP X pins σ Q) X.xe s
def MtR(X:Cx)(id:String)(r:V->List V->Hp->VK->Prop):Prop :=
  ∀ (pins:List (Addr×Obj)) (s:Shared) (σ:St) (H:Hp) (x:V) (xs:List V) (v:Value) (us:List Value) (Q:VK),Inv X pins σ H s->RelV x v->Vals xs us->r x xs H Q ->
    wpAny (model X.prog X.w) X.A (call (.builtin id) (v::us)) (EP X pins σ Q) X.xe s
variable {x y:V}
section
variable {a b:Expr}{ta tb:TE}
theorem Hk{r:R2}(hr:IxR X r)(ha:PE X a ta)(hb:PE X b tb)(hs:tD b):PE X (.Subscript a b pos) (tOp r ta tb):=by
  intro pins s σ H Q I h;exact Subscript_ (binT ha hb I h λv u s2 x y H2 I2 rx ry q=>hr a b pins s2 σ H2 x y v u Q I2 rx ry q (hs _ _))
def rIxL(K:iC):R2:=λx y H Q=>∃ p xs i v,x=.ref p/\y=.int i/\SqL K H p xs/\atI xs i=some v/\Q v H
def rIxT(K:iC):R2:=λx y H Q=>∃ p xs i v,x=.ref p/\y=.int i/\SqT K H p xs/\atI xs i=some v/\Q v H
theorem zK:IxR X (rIxL X.K):=by
  intro value slice pins s σ H x y v u Q I rx ry h hs;obtain ⟨p,xs,i,z,rfl,rfl,hq,he,q⟩:=h;cases rx
  obtain ⟨t,rfl⟩:=ry;obtain ⟨its,r,pl,hz⟩:=I.list hq;obtain ⟨j,h1,h2,h3,h4,h5⟩:=EI he;obtain ⟨w,ew,rw'⟩:=r.get h2;have hl:=r.length;have hn:=EL;have fin:EP X pins σ Q w s:=⟨z,H,I,rw',q⟩
  by_cases h0:0<=i
  . have hj:i.toNat=j:=by
      rw [seqIndex_of h0 h5] at h1;exact ax h1
    exact item_listR pl.isList h0 (by omega) (by rw [hj]; simpa using ew) fin hs
  . have hj:(i+(its.toArray.size:Int)).toNat=j:=by
      rw [seqIndex_neg (by omega) h4] at h1;rw [aG,<-hl];exact ax h1
    exact subscriptTail_builtinR (x:=w) pl.isList.typeIs slot_list_getitem.lookup
      (wpAny_getItem_list_neg (Q:=λr s'=>r=w/\EP X pins σ Q r s') pl.isList (by omega) (by rw [aG] <;> omega) (by omega) (by rw [hj]; simpa using ew) ⟨rfl,fin⟩) hs
theorem zW:IxR X (rIxT X.K):=by
  intro value slice pins s σ H x y v u Q I rx ry h hs;obtain ⟨p,xs,i,z,rfl,rfl,hq,he,q⟩:=h;cases rx
  obtain ⟨t,rfl⟩:=ry;obtain ⟨its,r,pl,hz⟩:=I.tuple hq;obtain ⟨j,h1,h2,h3,h4,h5⟩:=EI he;obtain ⟨w,ew,rw'⟩:=r.get h2;have hl:=r.length;have hn:=EL;have fin:EP X pins σ Q w s:=⟨z,H,I,rw',q⟩
  exact subscriptTail_builtinR (x:=w) pl.typeIs slot_tuple_getitem.lookup
    (getItem_tuple (j:=j) (Q:=λr s'=>r=w/\EP X pins σ Q r s') pl (by omega) (by omega) (by rw [aG,<-hl]; exact h1) (by simpa using ew) ⟨rfl,fin⟩) hs
theorem Ag(lo hi:Option Int)(n:Nat):(sliceBounds lo hi none n).1=((HT.sIx n 0 lo:Nat):Int)/\(sliceBounds lo hi none n).2.1=((HT.sIx n n hi:Nat):Int)/\(sliceBounds lo hi none n).2.2=1:=by
  refine ⟨?_,?_,rfl⟩
  . cases lo with
    | none=>simp [sliceBounds,HT.sIx]
    | some i =>
      simp only [sliceBounds,HT.sIx,Option.getD_none,show (1:Int) > 0 by decide,if_true];by_cases h:i<0
      . simp only [h,if_true] <;> omega
      . simp only [h,if_false] <;> omega
  . cases hi with
    | none=>simp [sliceBounds,HT.sIx]
    | some i =>
      simp only [sliceBounds,HT.sIx,Option.getD_none,show (1:Int) > 0 by decide,if_true];by_cases h:i<0
      . simp only [h,if_true] <;> omega
      . simp only [h,if_false] <;> omega
theorem uZ(its:List Value)(lo hi:Option Int):slicePick its.toArray lo hi none=((its.drop (HT.sIx its.length 0 lo)).take (HT.sIx its.length its.length hi - HT.sIx its.length 0 lo)).toArray:=by
  obtain ⟨h1,h2,h3⟩:=Ag lo hi its.toArray.size;unfold slicePick;rw [h1,h2,h3];simp only [sliceRange_one,pick_run,aG] <;> rfl
def rSlL(K:iC):V->Option Int->Option Int->Hp->VK->Prop:=λx lo hi H Q=>∃ a xs,x=.ref a/\SqL K H a xs/\∀ p,H p=none->Q (.ref p) (upd H p (.lst (cutV xs lo hi)))
theorem u5:SlR X (rSlL X.K):=by
  intro pins s σ H x v vl vu lo hi sl Q I rx hs pl pu h;obtain ⟨a,xs,rfl,hx,q⟩:=h;cases rx
  obtain ⟨its,r,ht,hz⟩:=I.list hx;have hlen:=r.length;refine ⟨"list",_,slot_list_getitem.lookup,ht.isList.typeIs,?_⟩;refine wpAny_getItem_list_slice ht.isList hs pl pu .none (by simp) ?_ (by rw [aG] <;> omega);rw [uZ,<-hlen];refine ⟨.ref s.heap.objs.size,_,I.laid (t':=s.toks) (o:=.lst (cutV xs lo hi)) (λb ob q=>Heap.get?_push_of_some _ q) (ai _) ?_,rfl,q _ (I.hok.fresh (ai _))⟩;exact ⟨bK (vB xs lo hi) hz,_,0,(r.drop (HT.sIx xs.length 0 lo)).take (HT.sIx xs.length xs.length hi - HT.sIx xs.length 0 lo),Heap.get?_push_size _ rfl⟩
def xP:V->Bool
  | .non=>true
  | .bl _=>true
  | .int _=>true
  | .str _=>true
  | _=>false
def eqV:V->V->Bool
  | .non,.non=>true
  | .bl a,.bl b=>a==b
  | .bl a,.int b=>(if a then 1 else 0)==b
  | .int a,.bl b=>a==(if b then 1 else 0)
  | .int a,.int b=>a==b
  | .str a,.str b=>a==b
  | _,_=>false
theorem KR{A:Around}{s:Shared}{u v:Value}(ry:RelV y u)(rx:RelV x v)(fy:xP y=true)(fx:xP x=true):SeqAt.EqAt A s u v (eqV y x):=by
  cases y with
  | non =>
    cases ry
    cases x with
    | non=>cases rx; exact SeqAt.EqAt.same _
    | bl b=>cases rx; exact SeqAt.EqAt.none_bool b
    | int b=>obtain ⟨t,rfl⟩:=rx; exact SeqAt.EqAt.none_int b t
    | str b=>obtain ⟨t,rfl⟩:=rx; exact SeqAt.EqAt.none_str b t
    | _=>exact absurd (show false=true from fx) aT
  | bl a =>
    cases ry
    cases x with
    | non=>cases rx; exact SeqAt.EqAt.bool_none a
    | bl b=>cases rx; exact SeqAt.EqAt.bool_bool a b
    | int b=>obtain ⟨t,rfl⟩:=rx; exact SeqAt.EqAt.bool_int a b t
    | str b=>obtain ⟨t,rfl⟩:=rx; exact SeqAt.EqAt.bool_str a b t
    | _=>exact absurd (show false=true from fx) aT
  | int a =>
    obtain ⟨t',rfl⟩:=ry;cases x with
    | non=>cases rx; exact SeqAt.EqAt.int_none a t'
    | bl b=>cases rx; exact SeqAt.EqAt.int_bool a t' b
    | int b=>obtain ⟨t,rfl⟩:=rx; exact SeqAt.EqAt.int_int a t' b t
    | str b=>obtain ⟨t,rfl⟩:=rx; exact SeqAt.EqAt.int_str a t' b t
    | _=>exact absurd (show false=true from fx) aT
  | str a =>
    obtain ⟨t',rfl⟩:=ry;cases x with
    | non=>cases rx; exact SeqAt.EqAt.str_none a t'
    | bl b=>cases rx; exact SeqAt.EqAt.str_bool a t' b
    | int b=>obtain ⟨t,rfl⟩:=rx; exact SeqAt.EqAt.str_int a t' b t
    | str b=>obtain ⟨t,rfl⟩:=rx; exact SeqAt.EqAt.str_str a t' b t
    | _=>exact absurd (show false=true from fx) aT
  | _=>exact absurd (show false=true from fy) aT
def eqU(x:V)(u:Value):Bool:=match u with
  | .none=>eqV .non x
  | .bool b=>eqV (.bl b) x
  | .int i _=>eqV (.int i) x
  | .str z _=>eqV (.str z) x
  | _=>false
theorem GZ{u:Value}(r:RelV y u)(f:xP y=true):eqU x u=eqV y x:=by
  cases y with
  | non=>cases r; rfl
  | bl b=>cases r; rfl
  | int i=>obtain ⟨t,rfl⟩:=r; rfl
  | str z=>obtain ⟨t,rfl⟩:=r; rfl
  | _=>exact absurd (show false=true from f) aT
theorem vL{x:V}:∀ {xs:List V} {us:List Value},Vals xs us->xs.all xP=true->us.any (eqU x)=xs.any λy=>eqV y x
  | _,_,.nil,_=>rfl
  | y::xs,u::us,.cons r t,f=>by
    rw [List.all_cons,cQ] at f;rw [dS,dS,GZ r f.1,vL t f.2]
theorem wy{A:Around}{s:Shared}{x:V}{v:Value}(rx:RelV x v)(fx:xP x=true):∀ {xs:List V} {us:List Value},Vals xs us->xs.all xP=true->∀ u∈us,SeqAt.EqAt A s u v (eqU x u)
  | _,_,.nil,_=>λu hu=>by cases hu
  | y::xs,u::us,.cons r t,f=>λu' hu=>by
    rw [List.all_cons,cQ] at f;rcases aN.mp hu with rfl|hu
    . rw [GZ r f.1]; exact KR r rx f.1 fx
    . exact wy rx fx t f.2 u' hu
def inV(x:V)(xs:List V):Bool:=xs.any λy=>eqV y x
def rIn(K:iC)(neg:Bool):R2:=λx y H Q=>∃ p xs,y=.ref p/\(SqL K H p xs\/SqT K H p xs)/\xP x=true/\xs.all xP=true/\Q (.bl (if neg then !inV x xs else inV x xs)) H
theorem yt:OpR X (compareOp .In) (rIn X.K false):=by
  intro pins s σ H x y v u Q I rx ry h;obtain ⟨p,xs,rfl,hq,fx,fs,q⟩:=h;cases ry
  rcases hq with hq|hq
  . obtain ⟨its,r,pl,hz⟩:=I.list hq;refine SeqAt.in_listAt (eqU x) pl.isList (λw hw=>wy rx fx r fs w (by simpa using hw)) ⟨.bl _,H,I,rfl,?_⟩;rw [show its.toArray.any (eqU x)=its.any (eqU x) by simp,vL r fs];exact q
  . obtain ⟨its,r,pl,hz⟩:=I.tuple hq;refine SeqAt.in_tupleAt (eqU x) pl (λw hw=>wy rx fx r fs w (by simpa using hw)) ⟨.bl _,H,I,rfl,?_⟩;rw [show its.toArray.any (eqU x)=its.any (eqU x) by simp,vL r fs];exact q
theorem wT:OpR X (compareOp .NotIn) (rIn X.K true):=by
  intro pins s σ H x y v u Q I rx ry h;obtain ⟨p,xs,rfl,hq,fx,fs,q⟩:=h;cases ry
  rcases hq with hq|hq
  . obtain ⟨its,r,pl,hz⟩:=I.list hq;refine SeqAt.notIn_listAt (eqU x) pl.isList (λw hw=>wy rx fx r fs w (by simpa using hw)) ⟨.bl _,H,I,rfl,?_⟩;rw [show its.toArray.any (eqU x)=its.any (eqU x) by simp,vL r fs];exact q
  . obtain ⟨its,r,pl,hz⟩:=I.tuple hq;refine SeqAt.notIn_tupleAt (eqU x) pl (λw hw=>wy rx fx r fs w (by simpa using hw)) ⟨.bl _,H,I,rfl,?_⟩;rw [show its.toArray.any (eqU x)=its.any (eqU x) by simp,vL r fs];exact q
theorem tV:y8 X (.builtin "len") (λxs H Q=>∃ p ys,xs=[.ref p]/\(SqL X.K H p ys\/SqT X.K H p ys)/\Q (.int ys.length) H):=by
  intro pins s σ H xs us Q I r h;obtain ⟨p,ys,rfl,hq,q⟩:=h;obtain ⟨u,rfl,rx⟩:=Cv r;cases rx
  have hn:=EL;rcases hq with hq|hq
  . obtain ⟨its,r',pl,hz⟩:=I.list hq;have hlen:=r'.length;exact Calls.call_len_list pl.isList (by simp only [aG] <;> omega) ⟨.int ys.length,H,I.tok _,⟨s.toks+1,by rw [aG,hlen]⟩,q⟩
  . obtain ⟨its,r',pl,hz⟩:=I.tuple hq;have hlen:=r'.length;exact len_tuple pl (by simp only [aG] <;> omega) ⟨.int ys.length,H,I.tok _,⟨s.toks+1,by rw [aG,hlen]⟩,q⟩
theorem AA:y8 X (.type "list") (λxs H Q=>∃ p ys,xs=[.ref p]/\(SqL X.K H p ys\/SqT X.K H p ys)/\∀ l,H l=none->Q (.ref l) (upd H l (.lst ys))):=by
  intro pins s σ H xs us Q I r h;obtain ⟨p,ys,rfl,hq,q⟩:=h;obtain ⟨u,rfl,rx⟩:=Cv r;cases rx
  have fin:∀ (its:List Value),Vals ys its->ys.length<=sizeLine->∀ (h':Heap) (c':Nat),(∀ b o',s.heap.get? b=some o'->h'.get? b=some o') ->
      h'.get? s.heap.objs.size=some { cls:=.type "list",dict:=none,data:=.seq its.toArray c',slots:=#[] }->EP X pins σ Q (.ref s.heap.objs.size) { s with heap:=h' }:=λits r' hz h' c' kp e =>
    ⟨.ref s.heap.objs.size,_,I.laid (t':=s.toks) kp (ai _) (show ObjOk X.prog X.w _ h' _ (.lst ys) from ⟨hz,its,c',r',e⟩),rfl,q _ (I.hok.fresh (ai _))⟩
  rcases hq with hq|hq
  . obtain ⟨its,r',pl,hz⟩:=I.list hq;have hlen:=r'.length;obtain ⟨o,ho,hc,n,hd⟩:=pl.isList;exact call_list_seq p (.inl rfl) ho hc hd (λh' c' kp e=>fin its r' hz h' c' kp e) (by simp only [aG] <;> omega)
  . obtain ⟨its,r',pl,hz⟩:=I.tuple hq;have hlen:=r'.length;obtain ⟨o,ho,hc,n,hd⟩:=pl;exact call_list_seq p (.inr rfl) ho hc hd (λh' c' kp e=>fin its r' hz h' c' kp e) (by simp only [aG] <;> omega)
theorem uF:y8 X (.type "tuple") (λxs H Q=>∃ p ys,xs=[.ref p]/\((SqL X.K H p ys/\∀ l,H l=none->Q (.ref l) (upd H l (.tup ys)))\/(SqT X.K H p ys/\Q (.ref p) H))):=by
  intro pins s σ H xs us Q I r h;obtain ⟨p,ys,rfl,h⟩:=h;obtain ⟨u,rfl,rx⟩:=Cv r;cases rx
  rcases h with ⟨hq,q⟩|⟨hq,q⟩
  . obtain ⟨its,r',pl,hz⟩:=I.list hq;have hlen:=r'.length;refine call_tuple_list pl.isList (λh' kp=>?_) (by simp only [aG] <;> omega);have I1:Inv X pins σ H { s with heap:=h' }:=I.kept (t':=s.toks) kp;have I2:Inv X pins σ (upd H h'.objs.size (.tup ys)) { s with heap:=h'.push { cls:=.type "tuple",data:=.seq its.toArray } } :=
      I1.laid (t':=s.toks) (λb o e=>Heap.get?_push_of_some _ e) (ai _) (show ObjOk X.prog X.w _ _ _ (.tup ys) from ⟨hz,its,r',IsTup.new _ _⟩)
    exact ⟨.ref h'.objs.size,_,I2,rfl,q _ (I1.hok.fresh (ai _))⟩
  . obtain ⟨its,r',pl,hz⟩:=I.tuple hq;exact call_tuple_same pl ⟨.ref p,H,I,rfl,q⟩
def tyV(K:iC)(T:String)(x:V)(H:Hp):Prop:=match x with
  | .str _=>T="str"
  | .int _=>T="int"
  | .ref p=>(T="list"/\∃ xs,SqL K H p xs)\/(T="tuple"/\∃ o,K.lookup p=some o/\o.cls=.type "tuple"/\o.dict=none) \/
      (T="dict"/\((∃ kvs,H p=some (.dK kvs))\/∃ kvs,H p=some (.dT kvs)))\/(T="set"/\∃ S n,H p=some (.set S n))
  | _=>False
theorem Gq{pins:List (Addr×Obj)}{σ:St}{H:Hp}{s:Shared}{T:String}{v:Value}(I:Inv X pins σ H s)(r:RelV x v)(ty:tyV X.K T x H) : s.TypeIs v T/\∀ a,v=.ref a->∃ ob,s.heap.get? a=some ob/\ob.dict=none:=by
  cases x with
  | str z =>
    obtain ⟨t,rfl⟩:=r;cases (show T="str" from ty)
    exact ⟨typeIs_str s z t,λ_ e=>nomatch e⟩
  | int i =>
    obtain ⟨t,rfl⟩:=r;cases (show T="int" from ty)
    exact ⟨typeIs_int s i t,λ_ e=>nomatch e⟩
  | ref p =>
    cases r
    rcases ty with ⟨rfl,xs,hq⟩|⟨rfl,o,hk,hc,hd⟩|⟨rfl,hk⟩|⟨rfl,S,n,hk⟩
    . obtain ⟨its,_,pl,_⟩:=I.list hq;refine ⟨pl.isList.typeIs,λa e=>?_⟩;cases e
      obtain ⟨o,n,e,c,hd,_⟩:=pl;exact ⟨o,e,hd⟩
    . refine ⟨⟨o,I.kIn p o hk,hc⟩,λa e=>?_⟩;cases e
      exact ⟨o,I.kIn _ o hk,hd⟩
    . have z:∃ o,s.heap.get? p=some o/\o.ExactDict:=by
        rcases hk with ⟨kvs,hk⟩|⟨kvs,hk⟩
        . obtain ⟨_,_,_,_,o,_,_,e,ex,_⟩:=I.hok p _ hk;exact ⟨o,e,ex⟩
        . obtain ⟨_,_,_,_,o,_,_,e,ex,_⟩:=I.hok p _ hk;exact ⟨o,e,ex⟩
      obtain ⟨o,e,ex⟩:=z;refine ⟨⟨o,e,ex.1⟩,λa e2=>?_⟩;cases e2
      exact ⟨o,e,ex.2.1⟩
    . obtain ⟨o,_,_,_,e,ex,_⟩:=I.hok p _ hk;refine ⟨⟨o,e,ex.1⟩,λa e2=>?_⟩;cases e2
      exact ⟨o,e,ex.2.1⟩
  | _=>exact False.elim ty
def tBM0(K:iC)(T:String)(r:V->List V->Hp->VK->Prop)(to:TE):TE:=λσ H Q=>to σ H λx H1=>tyV K T x H1/\r x [] H1 Q
def tBM(K:iC)(T:String)(r:V->List V->Hp->VK->Prop)(to:TE)(t:TA):TE:=λσ H Q=>to σ H λx H1=>tyV K T x H1/\t σ H1 λxs H2=>r x xs H2 Q
variable {o:Expr}{es:List Expr}{to:TE}{t:TA}{name:Str}{apos cpos:Pos}{T id:String}{r:V->List V->Hp->VK->Prop}
theorem Cb(pa:PlainAttrs T)(slot:Slot T name id)(hty:typeOf (.builtin id)=pure (.type "method_descriptor"))(hm:MtR X id r)(ho:PE X o to)(hbase:attributeBase o name X.env (eval o X.env)=eval o X.env:=by rfl)(hline:(apos.endLine==cpos.line)=true:=by rfl):PE X (.Call (.Attribute o name apos) [] [] cpos) (tBM0 X.K T r to):=by
  intro pins s σ H Q I h;refine wpAny_Call_method0_late hbase hline (thn (ho pins s σ H _ I h) λv s1 ⟨x,H1,I1,r1,ty,q1⟩=>?_);obtain ⟨h1,h2⟩:=Gq I1 r1 ty;exact ⟨T,id,pa,slot,hty,h1,h2,Calls.callWith_builtin rfl (PySem.evalArgs_none (hm pins s1 σ H1 x [] v [] Q I1 r1 .nil q1))⟩
theorem xO(pa:PlainAttrs T)(slot:Slot T name id)(hty:typeOf (.builtin id)=pure (.type "method_descriptor"))(hm:MtR X id r)(ho:PE X o to)(ha:PA X (e::es) t)(hbase:attributeBase o name X.env (eval o X.env)=eval o X.env:=by rfl)(hfew:((backTo cpos (starEach (e::es) X.env)).all (λx=>!x.1) && (backToKw cpos (keywordEach [] X.env)).all (λx=>x.1.isSome)
      && decide ((e::es).length+([]:List Keyword).length+(if ([]:List Keyword).isEmpty then 0 else 1)<30))=true:=by rfl)(hline:(apos.endLine==cpos.line)=true:=by rfl)(hs:starEach (e::es) X.env=(false,eval e X.env)::starEach es X.env:=by rfl)(hplain:(backTo cpos (starEach es X.env)).any (·.1)=false:=by rfl) :
    PE X (.Call (.Attribute o name apos) (e::es) [] cpos) (tBM X.K T r to t):=by
  intro pins s σ H Q I h;refine wpAny_Call_method_late hbase hfew hline rfl (thn (ho pins s σ H _ I h) λv s1 ⟨x,H1,I1,r1,ty,q1⟩=>?_);obtain ⟨h1,h2⟩:=Gq I1 r1 ty;refine ⟨T,id,pa,slot,hty,h1,h2,?_⟩;have hA:=ha cpos pins s1 σ H1 _ I1 q1;rw [hs] at hA ⊢;refine Calls.callWith_builtin (by show (false || (backTo cpos (starEach es X.env)).any (·.1))=false; rw [hplain] <;> rfl) (Calls.evalArgs_plain ?_);exact thn hA λus s2 ⟨vs,H2,I2,r2,q2⟩=>hm pins s2 σ H2 x vs v us Q I2 r1 r2 q2
end
def MtM(X:Cx)(id:String)(r:V->List V->Hp->VK->Prop):Prop :=
  ∀ (pins:List (Addr×Obj)) (s:Shared) (σ:St) (H:Hp) (x:V) (xs:List V) (v:Value) (us:List Value) (Q:VK),Inv X pins σ H s->RelV x v->Vals xs us->r x xs H Q ->
    wpAny (model X.prog X.w) X.A (call (.builtin id) (v::us)) (EP X pins σ Q) X.xe s
theorem Vals.one:∀ {x:V} {us:List Value},Vals [x] us->∃ u,us=[u]/\RelV x u
  | _,_,.cons r .nil=>⟨_,rfl,r⟩
theorem Vals.two:∀ {x y:V} {us:List Value},Vals [x,y] us->∃ u v,us=[u,v]/\RelV x u/\RelV y v
  | _,_,_,.cons r (.cons q .nil)=>⟨_,_,rfl,r,q⟩
theorem Vals.zero:∀ {us:List Value},Vals [] us->us=[]
  | _,.nil=>rfl
theorem Vals.reverse{xs:List V}{us:List Value}(h:Vals xs us):Vals xs.reverse us.reverse:=by
  induction h with
  | nil=>exact .nil
  | cons r t ih=>rw [List.reverse_cons,List.reverse_cons]; exact Vals.append ih (.cons r .nil)
variable {its:List Value}{t':Nat}
section
variable {pins:List (Addr×Obj)}{σ:St}{H:Hp}{s:Shared}{l b:Addr}{xs ys zs:List V}
theorem Inv.lset{its':List Value}{n:Nat}{f:Array Value->Array Value}(I:Inv X pins σ H s)(hH:H l=some (.lst xs))(e:s.heap.get? l=some { cls:=.type "list",data:=.seq its.toArray n })(hf:f its.toArray=its'.toArray)(hv:Vals ys its')(hz:ys.length<=sizeLine) :
    Inv X pins σ (upd H l (.lst ys)) { s with heap:=s.heap.update l (Obj.mapSeq f),toks:=t' }:=by
  have q:=PySem.IsL.update e f;rw [hf] at q;refine I.write (x:=l) (e:=l) (by rw [hH]; exact trivial) (.inl rfl) (λb' u hb hu=>(Heap.get?_update_other s.heap (Obj.mapSeq f) (bZ hb)).trans hu) ⟨_,q⟩ ?_;exact ⟨hz,its',_,hv,q⟩
theorem Inv.lnew(I:Inv X pins σ H s)(hv:Vals ys its)(hz:ys.length<=sizeLine) : Inv X pins σ (upd H s.heap.objs.size (.lst ys)) { s with heap:=s.heap.push { cls:=.type "list",data:=.seq its.toArray },toks:=t' } :=
  I.laid (λ_ _ q=>Heap.get?_push_of_some _ q) (ai _) ⟨hz,its,0,hv,Heap.get?_push_size _ rfl⟩
theorem Inv.fresh(I:Inv X pins σ H s):H s.heap.objs.size=none:=I.hok.fresh (ai _)
theorem Inv.lstM(I:Inv X pins σ H s)(hH:H l=some (.lst xs)):xs.length<=sizeLine/\∃ (its:List Value) (n:Nat),Vals xs its/\xs.length=its.length/\s.heap.get? l=some { cls:=.type "list",data:=.seq its.toArray n }:=by
  obtain ⟨z,its,n,r,e⟩:=I.hok l _ hH;exact ⟨z,its,n,r,r.length,e⟩
end
def yf:V->List V->Hp->VK->Prop:=λx vs H Q=>∃ l xs y,x=.ref l/\vs=[y]/\H l=some (.lst xs)/\xs.length<sizeLine/\Q .non (upd H l (.lst (xs++[y])))
theorem zE:MtM X "list.append" yf:=by
  intro pins s σ H x vs v us Q I rx rv h;obtain ⟨l,xs,y,rfl,rfl,hH,hz,q⟩:=h;cases rx
  obtain ⟨u,rfl,ru⟩:=rv.one;obtain ⟨z,its,n,r,hl,e⟩:=I.lstM hH;refine call_meets F.slot_list_append ⟨_,e,rfl⟩ F.entry_list_append (F.args_list_append_2 _ _) (PySem.list_append l its.toArray n u (by rw [aG]; omega)) ⟨e,?_⟩;refine ⟨.non,_,I.lset (its':=its++[u]) hH e (by simp) (r.append (.cons ru .nil)) ?_,rfl,q⟩;rw [ah,List.length_singleton];omega
def BO:V->List V->Hp->VK->Prop:=λx vs H Q=>∃ l xs,x=.ref l/\vs=[]/\H l=some (.lst xs)/\Q .non (upd H l (.lst xs.reverse))
theorem CO:MtM X "list.reverse" BO:=by
  intro pins s σ H x vs v us Q I rx rv h;obtain ⟨l,xs,rfl,rfl,hH,q⟩:=h;cases rx
  have hus:=rv.zero;subst hus;obtain ⟨z,its,n,r,hl,e⟩:=I.lstM hH;refine call_meets F.slot_list_reverse ⟨_,e,rfl⟩ F.entry_list_reverse (F.args_list_reverse_1 _) (AutoSeq1.list_reverse_list_0 l its.toArray n (by rw [aG]; omega)) ⟨e,?_⟩;refine ⟨.non,_,I.lset (its':=its.reverse) hH e (by simp) r.reverse ?_,rfl,q⟩;rw [List.length_reverse];omega
def GA:V->List V->Hp->VK->Prop:=λx vs H Q=>∃ l xs,x=.ref l/\vs=[]/\H l=some (.lst xs)/\Q .non (upd H l (.lst []))
theorem Co:MtM X "list.clear" GA:=by
  intro pins s σ H x vs v us Q I rx rv h;obtain ⟨l,xs,rfl,rfl,hH,q⟩:=h;cases rx
  have hus:=rv.zero;subst hus;obtain ⟨z,its,n,r,hl,e⟩:=I.lstM hH;refine call_meets F.slot_list_clear ⟨_,e,rfl⟩ F.entry_list_clear (F.args_list_clear_1 _) (AutoSeq1.list_clear_list_0 l its.toArray n (by rw [aG]; omega)) ⟨e,?_⟩;exact ⟨.non,_,I.lset (its':=[]) (ys:=[]) hH e rfl .nil (bS _),rfl,q⟩
def rCat:R2:=λx y H Q=>∃ l b xs zs,x=.ref l/\y=.ref b/\H l=some (.lst xs)/\H b=some (.lst zs)/\xs.length+zs.length<=sizeLine/\∀ p,H p=none->Q (.ref p) (upd H p (.lst (xs++zs)))
theorem B1:OpR X (binaryOp .Add) rCat:=by
  intro pins s σ H x y v u Q I rx ry h;obtain ⟨l,b,xs,zs,rfl,rfl,hH,hB,hz,q⟩:=h;cases rx
  cases ry
  obtain ⟨z,its,n,r,hl,e⟩:=I.lstM hH;obtain ⟨z2,its2,n2,r2,hl2,e2⟩:=I.lstM hB;refine PySem.P.add_list e e2 ?_ (by rw [aG,aG]; omega);have ea:its.toArray++its2.toArray=(its++its2).toArray:=by simp
  rw [ea];exact ⟨.ref _,_,I.lnew (t':=s.toks) (r.append r2) (by rw [ah]; omega),rfl,q _ I.fresh⟩
section
variable {prog:Program}{w:World}{A:Around}{E:Value->Shared->Prop}{s:Shared}
end
end L2
namespace Att
open PySem PySem.W PySem.Calls PyProof.Rows
variable {h:Heap}{P:Params}
theorem vt:∀ (ns:List Int) (vs:List Value),WellAll P h vs (ns.map WData.int)->IntsAre vs ns:=by
  intro ns;induction ns with
  | nil =>
    intro vs w;rw [cK] at w;cases w
    exact .nil
  | cons n ns ih =>
    intro vs w;rw [aU] at w;cases w with
    | cons a b =>
      cases a
      exact .cons _ _ (ih _ b)
theorem De{l:OpenLaw}{n:Nat}(hn:l.most=some n){args:List WData}{vals:List Value}(hpre:l.row.toRowW.claim.pre args=true)(hwl:WellAll P h vals args) : ∃ a vs ns,vals=[Value.ref a]/\args=[WData.list (ns.map WData.int)]/\h.get? a=some { cls:=.type "list",data:=.seq vs.toArray }/\IntsAre vs ns/\ns.length<=n:=by
  have hsh:WShape.hasAll [] args [.list .int]=true:=(pre_splitW hpre).1;have hc:l.pre.holds [] { args:=args }=true:=(pre_splitW hpre).2;obtain ⟨d,r,rfl,h1,h2⟩:=hasAllW_cons hsh;obtain rfl:=hasAllW_nil h2;obtain ⟨xs,rfl,h3⟩:=hasW_list h1;obtain ⟨ns,rfl⟩:=items_int h3;have hlen:ns.length<=n:=by
    unfold OpenLaw.pre at hc;have h4:(WTm.not (.lt (.lit (.int (n:Int))) (.len (.arg 0)))).holds [] { args:=[.list (ns.map .int)] }=true:=by
      have h4:=(holds_andW hc).1;rw [hn] at h4;exact h4
    have h5:=condW_of h4 (w_not (w_lt w_lit (w_len_list (w_arg rfl))));rw [aa] at h5;refine Nat.le_of_not_lt λq=>?_;have q':(n:Int)<((ns.length:Nat):Int):=by omega
    first
      | (rw [iw q'] at h5; exact absurd h5 (by decide))
      | (simp at h5; omega)
  cases hwl with
  | cons w1 w2 =>
    cases w2
    cases w1 with
    | list ho hall=>exact ⟨_,_,ns,rfl,rfl,ho,vt ns _ hall,hlen⟩
theorem Dr(l:OpenLaw)(args:List WData):l.row.toRowW.claim.post args (.bool true) args=true :=
  postW_of (r:=l.row.toRowW) (X:=(true==true))
    (show WShape.has [] (.bool true) .bool=true by first | rfl | decide | simp [WShape.has,WShape.arms,WShape.armsAll])
    (show (WTm.eq .res (.lit (.bool true))).value [] { args:=args,res:=some (.bool true),after:=args }=some (.bool (true==true)) from w_eq_bool (w_res rfl) w_lit) rfl
section
variable {prog:Program}{w:World}{A:Around}{E:Value->Shared->Prop}{s:Shared}{K:Frag}
end
end Att
namespace L2
open PySem PySem.Spec PyProof.Rows
theorem tQ:∀ {vs:List Value} {ns:List Int},IntsAre vs ns->Vals (ns.map V.int) vs
  | _,_,.nil=>.nil
  | _,_,.cons n t h=>.cons ⟨t,rfl⟩ (tQ h)
def Only(H:Hp):Prop:=∀ b,H b=none\/∃ o xs,H b=some (.frz o (.lst xs))
variable {a:Addr}{fd:FuncData}{sp:Sp}{x:Str}
theorem F3{P:Program}{w:World}{K:iC}{mg mb:Str->Option Value}{CX:CXT}{k:Nat}{fa:Addr}{s₁:Shared}{vs:List Value}{ns:List Int}(KX:K.In s₁.heap)(hns:s₁.heap.Ns mainGlobals mg)(hb:s₁.heap.Ns builtinsNs mb)(hbb:∀ x:Str,x≠"__name__"->mb x=bootBuiltins x)(hlim:s₁.heap.NoLimit)(hg:s₁.gens=#[])(ha:s₁.heap.get? a=some { cls:=.type "list",data:=.seq vs.toArray })(hi:IntsAre vs ns)(hl:ns.length<=sizeLine)(hr:Room k callerA)(F:∀ base:Heap,K.In base->base.Ns mainGlobals mg->FnOk P w K mg base CX k fa fd [x] sp)(hbind:∀ (s:Shared) (u:Value),BindsTo s fd ⟨[u],[]⟩ [(x,u)])(hsp:∀ H:Hp,Only H->SqL K H a (ns.map V.int)->sp [.ref a] H (λv _=>v=.bl true) λ_ _ _=>False)(hCX:∀ H e s',CX [] H s₁ (λ_ _ _=>False) e s'->False) :
    codeAny (model P w) callerA (.call (.ref fa) ⟨[.ref a],[]⟩) (λr s'=>r=.ok (.ret (.bool true))/\OldK s₁.heap s'.heap/\s'.os=s₁.os/\AllBare s'.gens) s₁:=by
  have rv:=tQ hi;have lenV:=hi.length;have core:∀ H:Hp,Only H->SqL K H a (ns.map V.int)->HOk P w H s₁.heap->(∀ b,H b≠none->b=a)->(H a≠none->K.lookup a=none) ->
      codeAny (model P w) callerA (.call (.ref fa) ⟨[.ref a],[]⟩) (λr s'=>r=.ok (.ret (.bool true))/\OldK s₁.heap s'.heap/\s'.os=s₁.os/\AllBare s'.gens) s₁:=by
    intro H hO hS hok hA hK;have base_of:∀ {b:Addr} {o:Obj},s₁.heap.get? b=some o->H b=none->(hidT s₁.heap H).get? b=some o:=λe n=>Gc e n;have noA:∀ {b:Addr} {o:Obj} {es:Array DictEntry} {ep:Nat},s₁.heap.get? b=some o->o.data=.dict es ep->H b=none:=λ{b o es ep} e d=>by
      cases q:H b with
      | none=>rfl
      | some u =>
        have e':b=a:=hA b (by rw [q]; simp);subst e';rw [ha] at e; cases e;have d':Data.seq vs.toArray _=Data.dict es ep:=d;cases d'
    have nsK:∀ {b:Addr} {m:Str->Option Value},s₁.heap.Ns b m->(hidT s₁.heap H).Ns b m:=λ{b m} ⟨o,es,ep,e,d,r⟩=>⟨o,es,ep,base_of e (noA e d),d,r⟩
    have hKb:K.In (hidT s₁.heap H):=λb o e=>base_of (KX b o e) (by
      cases q:H b with
      | none=>rfl
      | some u =>
        have e':b=a:=hA b (by rw [q]; simp);subst e';rw [hK (by rw [q]; simp)] at e; cases e)
    have hM:Mod K mg (hidT s₁.heap H):=⟨hKb,nsK hns,⟨mb,nsK hb,hbb⟩,let ⟨mc,h1,h2⟩:=hlim; ⟨mc,nsK h1,h2⟩⟩
    have e0:Env0 P w K mg (hidT s₁.heap H) callerA [] s₁ H:=⟨rfl,hM,λb o e=>Iv e,Nat.le_of_eq (Es _ _),trivial,λb hb=>absurd (show b∈([]:List Addr) from hb) (by simp),hok,.of_eq hg⟩
    refine ip ((F _ hKb (nsK hns)).run callerA [] s₁ H ⟨[.ref a],[]⟩ [.ref a] [.ref a] _ _ hr e0 (hbind s₁ (.ref a)) (.cons rfl .nil) (hsp H hO hS)) λr s' h=>?_;cases r with
    | error e=>exact (hCX H e s' h).elim
    | ok fl =>
      cases fl with
      | next=>exact False.elim h
      | brk=>exact False.elim h
      | cont=>exact False.elim h
      | ret u =>
        obtain ⟨v,H',os,bare,un,hok',r',q⟩:=h;have q':v=.bl true:=q;subst q';obtain rfl:u=Value.bool true:=r';refine ⟨rfl,OldK.of_keep λb o e=>?_,os,bare⟩;cases q:H b with
        | none=>exact un.keep b o e q (by intro z; exact absurd (show b∈([]:List Addr) from z) (by simp)) (by simp)
        | some u =>
          rcases hO b with z|⟨ob,xs,z⟩
          . rw [q] at z; cases z
          . have z2:=un.frzs b ob _ z;obtain ⟨e1,_⟩:=hok b _ z;obtain ⟨e2,_⟩:=hok' b _ z2;rw [e] at e1; cases e1;exact e2
  cases hk:K.lookup a with
  | some o =>
    have e:=KX a o hk;rw [ha] at e;cases e
    refine core (λ_=>none) (λ_=>.inl rfl) (.inr ⟨_,vs.toArray,_,hk,rfl,rfl,rfl,by rw [aG,lenV]; exact hl,by simpa using rv⟩) (λb u z=>by have z':(none:Option HO)=some u:=z; cases z') (λb z=>absurd rfl z) λz=>absurd rfl z
  | none =>
    refine core (λb=>if b=a then some (.frz { cls:=.type "list",data:=.seq vs.toArray } (.lst (ns.map V.int))) else none) (λb=>?_) (.inl (.inr ⟨{ cls:=.type "list",data:=.seq vs.toArray },h8 rfl⟩)) (λb u z=>?_) (λb z=>?_) λ_=>hk
    . by_cases hb:b=a
      . exact .inr ⟨_,_,h8 hb⟩
      . exact .inl (h9 hb)
    . by_cases hb:b=a
      . have z':=(h8 hb).symm.trans z;cases z'
        subst hb;exact ⟨ha,by rw [aa]; exact hl,vs,_,rv,ha⟩
      . have z':=(h9 hb).symm.trans z;cases z'
    . by_cases hb:b=a
      . exact hb
      . exact absurd (h9 hb) z
def wM(s:Stmt)(j:Nat):Stmt:=match s with
  | .ClassDef _ _ _ body _ _ _ _ _ _ _=>body.getD j (.Pass ⟨0,0,0,0⟩)
  | _=>.Pass ⟨0,0,0,0⟩
def defArgs(s:Stmt):Arguments:=match s with
  | .FunctionDef _ a _ _ _ _ _ _ _ _=>a
  | _=>{ posonlyargs:=[],args:=[],vararg:=none,kwonlyargs:=[],kw_defaults:=[],kwarg:=none,defaults:=[] }
def defBody(s:Stmt):List Stmt:=match s with
  | .FunctionDef _ _ b _ _ _ _ _ _ _=>b
  | _=>[]
def defScope(s:Stmt):Scope:=match s with
  | .FunctionDef _ _ _ _ _ _ sc _ _ _=>sc
  | _=>{ kind:=.function,names:=[],isGenerator:=false,isCoroutine:=false }
abbrev CX0:CXT:=λ_ _ _ _ _ _=>False
abbrev E0:XK:=λ_ _ _=>False
theorem tP{X:Cx}:xS CX0 X E0:=λ_ _ _ _ _ _ _ h=>h.elim
structure Fun(K:iC)(x qual:Str)(st:Stmt)(f:Addr)(fd:FuncData):Prop where
  ex:∃ (oc:Value) (od:Option Addr) (kV doc pm:Value) (an:Option Addr) (cdv ct:Value) (osl:Array (Option Value)),
    fd=W.fnOf x qual (defArgs st) (defBody st) (defScope st) .none kV doc pm an cdv ct/\K.lookup f=some ⟨oc,od,.func fd,osl⟩/\W.codeIn K cdv qual=true
  kp:W.keepIn K (.ref f)=true
variable {f:Addr}{ps:List Str}{qual:Str}
section
variable {P:Program}{w:World}{K:iC}{mg:Str->Option Value}{base:Heap}
theorem Fun.ok{st:Stmt}{N:List Str}{k:Nat}(F:Fun K x qual st f fd)(S:FnScope N ps (defScope st))(len:∀ vs H Q E,sp vs H Q E->vs.length=ps.length)(hbody:∀ (cdv:Value) (A:Around) (outer:List Env) (s:Shared) (H:Hp) (vs:List V) (Q:VK) (E:XK),Room k (A.deeper (envOfC qual (defScope st) s.heap.objs.size f cdv))->sp vs H Q E ->
      ∃ t,PSs (cxOf CX0 P w K mg base N qual (defScope st) f cdv A outer s H E).nox (defBody st) t/\t { nx:=λ_ H'=>Q .non H',rt:=Q } (start N vs) H):FnOk P w K mg base CX0 (k+1) f fd ps sp:=by
  obtain ⟨oc,od,kV,doc,pm,an,cdv,ct,osl,rfl,lk,hcd⟩:=F.ex;refine Je lk hcd S len λA outer s H vs Q E hr hsp=>?_;obtain ⟨t,h,q⟩:=hbody cdv A outer s H vs Q E hr hsp;exact ⟨t,h.nox,q⟩
theorem Fun.binds{st:Stmt}(F:Fun K x qual st f fd)(h:∀ (kV doc pm:Value) (an:Option Addr) (cdv ct:Value) (us:List Value),us.length=ps.length->bindArgs (W.fnOf x qual (defArgs st) (defBody st) (defScope st) .none kV doc pm an cdv ct) ⟨us,[]⟩=pure (ps.zip us)):Binds K fd ps []:=by
  obtain ⟨oc,od,kV,doc,pm,an,cdv,ct,osl,rfl,lk,hcd⟩:=F.ex;exact .all (h kV doc pm an cdv ct)
theorem Gp{st:Stmt}{oc:Value}{od an:Option Addr}{osl:Array (Option Value)}{kV doc pm cdv ct:Value}(l:K.lookup f=some ⟨oc,od,.func (W.fnOf x qual (defArgs st) (defBody st) (defScope st) .none kV doc pm an cdv ct),osl⟩)(c:W.codeIn K cdv qual=true)(k:W.keepIn K (.ref f)=true):Fun K x qual st f (W.fnOf x qual (defArgs st) (defBody st) (defScope st) .none kV doc pm an cdv ct):=⟨⟨oc,od,kV,doc,pm,an,cdv,ct,osl,rfl,l,c⟩,k⟩
end
theorem yS{A:Around}{k:Nat}(hr:Room k A):A.units+1<cLine:=bn (Nat.add_le_add_left (by decide:1<=64) _) hr.units
theorem DP{n:Nat}(h:n<=1000):n<sizeLine:=bn h (by decide)
variable {X:Cx}
theorem pv(i:Nat){pos:Pos}(hN:X.N[i]?=some x:=by rfl)(hv:Vis X.env.scope x:=by first | exact Or.inl rfl | exact Or.inr (Or.inl rfl) | exact Or.inr (Or.inr rfl))(hd:(x==("__debug__":Str))=false:=by decide)(hcd:(x==("__classdict__":Str))=false:=by decide):PE X (.Name x pos) (tVar i):=JC hN hv hd hcd
def Same(H H':Hp):Prop:=∀ b o,H b=some o->H' b=some o
theorem Same.refl(H:Hp):Same H H:=λ_ _ h=>h
variable {H:Hp}
theorem Same.trans{H1 H2:Hp}(a:Same H H1)(b:Same H1 H2):Same H H2:=λc o h=>b c o (a c o h)
theorem Same.seq{K:iC}{H':Hp}{xs:List V}(e:Same H H')(h:SqL K H a xs):SqL K H' a xs:=by
  rcases h with (h|⟨o,h⟩)|h
  . exact .inl (.inl (e _ _ h))
  . exact .inl (.inr ⟨o,e _ _ h⟩)
  . exact .inr h
end L2
noncomputable section
set_option linter.all false
namespace Hd
open PySem PySem.W PySem.Calls PyProof.Rows
abbrev lf0:Life:=@PySem.Life.mk (@List.nil.{0} @Nat) (@List.nil.{0} @Nat) (@List.nil.{0} @Nat) (@OfNat.ofNat.{0} @Nat (nat_lit 0) (@instOfNatNat (nat_lit 0))) (@List.nil.{0} (@Prod.{0,0} @Nat @Nat)) (@List.nil.{0} @Nat) @Bool.false (@List.toArray.{0} @Nat (@List.nil.{0} @Nat)) (@List.nil.{0} @Nat) (@OfNat.ofNat.{0} @Nat (nat_lit 0) (@instOfNatNat (nat_lit 0))) @Bool.false @Bool.false @Bool.false (@OfNat.ofNat.{0} @Int (nat_lit 0) (@instOfNat (nat_lit 0))) (@List.cons.{0} @Int (@OfNat.ofNat.{0} @Int (nat_lit 2000) (@instOfNat (nat_lit 2000))) (@List.cons.{0} @Int (@OfNat.ofNat.{0} @Int (nat_lit 10) (@instOfNat (nat_lit 10))) (@List.cons.{0} @Int (@OfNat.ofNat.{0} @Int (nat_lit 10) (@instOfNat (nat_lit 10))) (@List.nil.{0} @Int)))) @Bool.false (@OfNat.ofNat.{0} @Nat (nat_lit 0) (@instOfNatNat (nat_lit 0))) @Bool.true (@List.nil.{0} @Nat) (@List.nil.{0} @Nat) (@OfNat.ofNat.{0} @Nat (nat_lit 0) (@instOfNatNat (nat_lit 0))) @Bool.false
abbrev dr1:Drawn:=@PySem.Drawn.mk (@OfNat.ofNat.{0} @Nat (nat_lit 0) (@instOfNatNat (nat_lit 0))) (@OfNat.ofNat.{0} @Nat (nat_lit 0) (@instOfNatNat (nat_lit 0))) (@OfNat.ofNat.{0} @Nat (nat_lit 0) (@instOfNatNat (nat_lit 0))) (@OfNat.ofNat.{0} @Nat (nat_lit 0) (@instOfNatNat (nat_lit 0)))
abbrev p:Program:=PySem.Challenge.pw_boardglue_k56_plans_told
def top(i:Nat):Stmt:=p.main.body.getD i (.Pass ⟨0,0,0,0⟩)
def sub(s:Stmt)(j:Nat):Stmt:=match s with | .ClassDef (body:=b) ..=>b.getD j (.Pass ⟨0,0,0,0⟩) | _=>s
def fn(x q:Str)(s:Stmt)(g:Addr)(cl:List (Str×Addr))(dV kV doc pm:Value)(an:Option Addr)(cd ct:Value)(bl:Addr):FuncData:={ name:=x,qualname:=q,params:=L2.defArgs s,body:=.stmts (L2.defBody s),scope:=L2.defScope s,globals:=g,closure:=cl,defaults:=dV,kwdefaults:=kV,doc:=doc,pyModule:=pm,annotations:=an,code:=cd,closureTuple:=ct,builtins:=bl }
def z0:Value:=.int 0 0
def cp (n:Tok):Value:=.str "/claim/cut.py" n
def co (a:Array Value):Obj:=⟨.type "code",none,.fields a,#[]⟩
def fo (f:FuncData):Obj:=⟨.type "function",none,.func f,#[]⟩
abbrev so(x:String):Str:=Str.ofString x
abbrev R(n:Addr):Value:=.ref n
abbrev N:=@BT.node
abbrev Z:BT:=.nil
abbrev L(o:Obj):BT:=.node o .nil .nil
def cO(x:String)(t:Tok)(y:String)(u v:Tok)(l a b c n:Int)(e:Value)(g:Bool)(k:Int)(m A B C D:Value)(i j:Int)(z:Tok):Obj:=co #[.str x t,.str y u,cp v,.int l 0,.int a 0,.int b 0,.int c 0,.int n 0,e,.bool g,.int k 0,m,A,B,C,D,.int i 0,.int j 0,cp z]
def f0(x q:Str)(s:Stmt):Obj:=⟨.none,none,.func (fn x q s 0 [] .none .none .none .none none .none .none 0),#[]⟩
def fO(x q:Str)(s:Stmt)(d m:Value)(c:Addr):Obj:=fo (fn x q s 3 [] d .none .none m none (.ref c) .none 0)
abbrev m0m:Value:=.str "__main__" 164
abbrev m1m:Value:=.str "boardglue.lengths" 294
abbrev m2m:Value:=.str "boardglue.bases" 430
abbrev m3m:Value:=.str "boardglue.normal" 485
abbrev m4m:Value:=.str "boardglue.boards" 525
abbrev m5m:Value:=.str "boardglue.yard" 533
abbrev m6m:Value:=.str "boardglue.plans" 680
abbrev m7m:Value:=.str "boardglue.tables" 736
abbrev m8m:Value:=.str "boardglue.likes" 794
abbrev m9m:Value:=.str "law_boardglue_k56_plans_told" 812
def tu (a:Array Value):Obj:=⟨.type "tuple",none,.seq a 0,#[]⟩
def en(P:Params)(x:String)(t:Tok)(v:Value):DictEntry:=⟨PyData.keyHash P x,.str x t,v⟩
def env:Env:={ scope:=p.main.scope,locals:=mainNs,globals:=mainNs,cells:=[],code:=(.ref 13),frame:=some 14 }
abbrev b:List Stmt:=behindTheImports p
abbrev cE:Code:=.body b env
abbrev q:Pos:=⟨0,0,0,0⟩
abbrev B:List Frame:=[topFrame q]
abbrev m0:Nat:=nat_lit 11
abbrev ann:Option Value:=(some (.ref 6))
def o0:Obj:=tu #[]
def o1:Obj:=⟨.none,none,(.fields #[]),#[]⟩
def o2:Obj:=cO "<module>" 182 "<module>" 183 184 1 0 0 0 0 (R 11) false 181 (R 12) .none .none .none .none 185 1 186
def o3:Obj:=⟨(.type "frame"),none,.plain,#[(some (.ref 13)),(some (.ref 3)),(some (.ref 3)),none,(some (.str "__main__" 164)),none,(some (.ref 0))]⟩
def Ha(P:Params):Heap:=⟨⟨[boot_o_0 P,boot_o_1 P,boot_o_2 P,boot_o_3 P,boot_o_4 P,boot_o_5 P,boot_o_6 P,boot_o_7 P,boot_o_8 P,boot_o_9 P,boot_o_10 P,o0,o1,o2,o3]⟩,lf0⟩
def T0(P:Params):BT:=(N (boot_o_0 P) (N (boot_o_1 P) (N (boot_o_3 P) (L (boot_o_7 P)) (L o0)) (N (boot_o_5 P) (L (boot_o_9 P)) (L o2))) (N (boot_o_2 P) (N (boot_o_4 P) (L (boot_o_8 P)) (L o1)) (N (boot_o_6 P) (L (boot_o_10 P)) (L o3))))
theorem pre'(w:World):(λos=>PySem.W.Fast.tw15667345088766844465 PySem.W.Fast.tw14364793385576792824 p w m0 ann (nat_lit 12) (⟨boot_heap w.params,⟨[]⟩,boot_drawn,boot_toks,os⟩:Shared) (W.topStub p))=λos=>some ((⟨Ha w.params,⟨[]⟩,dr1,nat_lit 187,os⟩:Shared),Thread.mk (PySem.W.Fast.tw11892475500146522536 PySem.W.Fast.tw14364793385576792824 cE) cE ⟨0,0,0,0⟩ B):=by kernel_rfl
theorem pre(w:World)(os:OsState):topGo treeTable p w m0 ann (nat_lit 12) (⟨boot_heap w.params,⟨[]⟩,boot_drawn,boot_toks,os⟩:Shared) (topStub p)=some ((⟨Ha w.params,⟨[]⟩,dr1,nat_lit 187,os⟩:Shared),Thread.mk (denote treeTable cE) cE ⟨0,0,0,0⟩ B):=by
  rw [PySem.W.Fast.te15667345088766844465,cG,PySem.W.Fast.te11892475500146522536];exact congrFun (pre' w) os
theorem blk'(w:World):(λos=>PySem.W.Fast.tw14374325043358763698 PySem.W.Fast.tw14364793385576792824 p w m0 ann (nat_lit 1) (nat_lit 1) (⟨Ha w.params,⟨[]⟩,dr1,nat_lit 187,os⟩:Shared) (W.blockOf b env cE ⟨0,0,0,0⟩ B))=λos=>some (Flow.next,SharedT.abs (⟨T0 w.params,nat_lit 15,lf0,⟨[]⟩,dr1,nat_lit 187,os⟩:SharedT),cE,⟨0,0,0,0⟩):=by kernel_rfl
theorem blk(w:World)(os:OsState):segRun treeTable p w m0 ann (nat_lit 1) (nat_lit 1) (⟨Ha w.params,⟨[]⟩,dr1,nat_lit 187,os⟩:Shared) (blockOf b env cE ⟨0,0,0,0⟩ B)=some (Flow.next,SharedT.abs (⟨T0 w.params,nat_lit 15,lf0,⟨[]⟩,dr1,nat_lit 187,os⟩:SharedT),cE,⟨0,0,0,0⟩):=by
  rw [PySem.W.Fast.te14374325043358763698,cG];exact congrFun (blk' w) os
def nm:Stmt->Str | .FunctionDef (name:=n) ..=>n | _=>⟨#[]⟩
def ln:Stmt->Nat | .FunctionDef _ _ _ _ _ _ _ _ _ q=>q.line | _=>0
def vr(s:Stmt):List Str:=((L2.defScope s).names.filter λx=>match x.2 with | .local=>true | _=>false).map (·.1)
def sT:Tok->List Str->List Value
  | _,[]=>[]
  | n,x::r=>.str x n::sT (n+1) r
def tS(n:Tok)(l:List Str):Obj:=tu ⟨sT n l⟩
def cD(x y:Str)(s:Stmt)(e t i:Nat)(A B C:Value):Obj:=co #[.str x t,.str y (t+1),cp (t+2),.int (ln s) 0,.int (L2.defArgs s).args.length 0,z0,z0,.int 3 0,.ref e,.bool true,.int 181 0,.ref (e+1),.none,A,B,C,.int i 0,.int (ln s) 0,cp (i+1)]
def fP(x y:Str)(s:Stmt)(e t:Nat)(d m:Value):List Obj:=[o0,o1,tS (t+3) (vr s),o0,f0 x y s,cD x y s e t (t+3+(vr s).length) (R (e+2)) (R (e+3)) (R (e+4)),fO x y s d m (e+5)]
def fQ(x y:Str)(s:Stmt)(e t:Nat)(d m:Value):List Obj:=[o0,o1,f0 x y s,cD x y s e t (t+3) .none .none (R (e+2)),fO x y s d m (e+3)]
structure Op where
  e:Addr
  ks:List Nat
  os:Params->List Obj
  d:List (Str×Tok×Value)
  l:List Value
def ll(l:Int)(c:Addr):List Value:=[.int l 0,z0,.ref c]
def F(i e t:Nat)(m:Value):Op:=⟨e,[0,2,3,5,6],λ_=>fP (nm (top i)) (nm (top i)) (top i) e t .none m,[(nm (top i),t+5+(vr (top i)).length,.ref (e+6))],ll (ln (top i)) (e+5)⟩
def Q(i e t:Nat)(m:Value):Op:=⟨e,[0,3,4],λ_=>fQ (nm (top i)) (nm (top i)) (top i) e t .none m,[(nm (top i),t+5,.ref (e+4))],ll (ln (top i)) (e+3)⟩
def Dv(i e t:Nat)(m:Value)(v:List Value):Op:=⟨e - 1,[0,1,3,4,6,7],λ_=>tu ⟨v⟩::fP (nm (top i)) (nm (top i)) (top i) e t (.ref (e - 1)) m,[(nm (top i),t+5+(vr (top i)).length,.ref (e+6))],ll (ln (top i)) (e+5)⟩
def bm (x:String) (v:Value):Obj:=⟨.type "builtin_function_or_method",none,.fields #[.builtin x,v],#[]⟩
def di (l:List DictEntry) (n:Nat):Obj:=⟨.type "dict",none,.dict ⟨l⟩ n,#[]⟩
def me:Value:=.str "boardglue.errors" 194
def Kl (x:Str) (b t:Nat) (l:Int):Op:=⟨b,[0,7,8,9],λP=>[tu #[.ref 31],bm "type.__prepare__" (.type "type"),di [en P "__module__" (t+7) me,en P "__qualname__" (t+9) (.str x (t+8)),en P "__firstlineno__" (t+11) (.int l (t+10)),en P "__static_attributes__" (t+12) (.ref (b+7))] 4,o0,o1,co #[.str x (t+2),.str x (t+3),cp (t+4),.int l 0,z0,z0,z0,z0,.ref (b+3),.bool false,.int 181 0,.ref (b+4),.none,.none,.none,.none,.int (t+5:Nat) 0,.int l 0,cp (t+6)],⟨.type "frame",none,.plain,#[some (.ref (b+5)),some (.ref 3),some (.ref (b+2)),none,some me,none,some (.ref 0)]⟩,o0,di [en P "__module__" (t+7) me,en P "__firstlineno__" (t+11) (.int l (t+10)),en P "__static_attributes__" (t+12) (.ref (b+7)),en P "__doc__" (t+13) .none] 2,⟨.type "type",none,.cls ⟨x,[.ref 31],[.ref (b+9),.ref 31,.type "ValueError",.type "Exception",.type "BaseException",.type "object"],b+8,x,true,[],[],false,none,false⟩,#[some (.ref b),none,some (.str x t),some (.str x (t+8)),some (.builtin "ValueError.__new__"),some (.bool true)]⟩,⟨.type "super",none,.fields #[.ref (b+9),.ref (b+9),.ref (b+9)],#[]⟩,bm "object.__init_subclass__" (.ref (b+9))],[(x,t+15,.ref (b+9))],ll l (b+5)⟩
def ops:List Op:=[F 0 15 187 m0m,⟨22,[0,7,8,9,10],λP=>[tu #[(.type "ValueError")],⟨(.type "builtin_function_or_method"),none,(.fields #[(.builtin "type.__prepare__"),(.type "type")]),#[]⟩,⟨(.type "dict"),none,(.dict #[en P "__module__" 203 (.str "boardglue.errors" 194),en P "__qualname__" 205 (.str "YardError" 204),en P "__firstlineno__" 207 (.int (5) 206),en P "__static_attributes__" 208 (.ref 29)] 4),#[]⟩,o0,o1,cO "YardError" 198 "YardError" 199 200 5 0 0 0 0 (R 25) false 181 (R 26) .none .none .none .none 201 5 202,⟨(.type "frame"),none,.plain,#[(some (.ref 27)),(some (.ref 3)),(some (.ref 24)),none,(some (.str "boardglue.errors" 194)),none,(some (.ref 0))]⟩,o0,⟨(.type "dict"),none,(.dict #[en P "__module__" 203 (.str "boardglue.errors" 194),en P "__firstlineno__" 207 (.int (5) 206),en P "__static_attributes__" 208 (.ref 29),en P "__weakref__" 210 (.ref 32),en P "__doc__" 211 .none] 3),#[]⟩,⟨(.type "type"),none,(.cls ⟨"YardError",[(.type "ValueError")],[(.ref 31),(.type "ValueError"),(.type "Exception"),(.type "BaseException"),(.type "object")],30,"YardError",true,[],[(.ref 44),(.ref 56),(.ref 68),(.ref 80),(.ref 92)],false,none,false⟩),#[(some (.ref 22)),none,(some (.str "YardError" 196)),(some (.str "YardError" 204)),(some (.builtin "ValueError.__new__")),(some (.bool true))]⟩,⟨(.type "getset_descriptor"),none,(.fields #[(.str "__weakref__" 209),(.ref 31),(.builtin "ExceptionGroup.__weakref__"),.none]),#[]⟩,⟨(.type "super"),none,(.fields #[(.ref 31),(.ref 31),(.ref 31)]),#[]⟩,⟨(.type "builtin_function_or_method"),none,(.fields #[(.builtin "object.__init_subclass__"),(.ref 31)]),#[]⟩],[("YardError",213,.ref 31)],ll 5 27⟩,Kl "NoLength" 35 214 7,Kl "NoDeed" 47 230 9,Kl "NoName" 59 246 11,Kl "Grain" 71 262 13,Kl "Unfit" 83 278 15,⟨95,[0],λ_=>[tu #[(.int (0) 296),(.int (0) 297),(.int (1) 298)]],[("NOUGHT",299,.ref 95)],[]⟩,⟨0,[],λ_=>[],[("GREAT_BITS",301,(.int (8192) 300))],[]⟩,⟨0,[],λ_=>[],[("HEAD_BITS",303,(.int (64) 302))],[]⟩,F 12 96 304 m1m,F 13 103 311 m1m,F 14 110 321 m1m,F 15 117 331 m1m,F 16 124 344 m1m,Dv 17 132 354 m1m [(.int (0) 352),(.int (1) 353)],Dv 18 140 365 m1m [(.int (1) 364)],F 19 147 374 m1m,F 20 154 381 m1m,F 21 161 395 m1m,F 22 168 403 m1m,F 23 175 412 m1m,F 24 182 421 m1m,F 26 189 432 m2m,F 27 196 440 m2m,F 28 203 450 m2m,F 29 210 458 m2m,F 30 217 470 m2m,Q 31 224 479 m2m,F 33 229 487 m3m,F 34 236 496 m3m,F 35 243 513 m3m,Q 37 250 527 m4m,⟨255,[0],λ_=>[tS 535 ["across","along"]],[("CUTS",537,.ref 255)],[]⟩,⟨256,[0],λ_=>[tS 538 ["beside","atop"]],[("GLUINGS",540,.ref 256)],[]⟩,⟨257,[0],λ_=>[tS 541 ["stack","spread"]],[("SHIFTS",543,.ref 257)],[]⟩,⟨0,[],λ_=>[],[("TURN",545,(.str "turn" 544))],[]⟩,F 43 258 546 m5m,F 44 265 553 m5m,F 45 272 560 m5m,F 46 279 567 m5m,F 47 286 574 m5m,F 48 293 583 m5m,F 49 300 591 m5m,⟨307,[7,8,11,12,13,16,17,18,20,21,23,24,25,28,29,30,32,33,35,36,37,40,41,42,45,46,47,49,50,52,53,54,55,56,57,58],λP=>[o0,⟨(.type "builtin_function_or_method"),none,(.fields #[(.builtin "type.__prepare__"),(.type "type")]),#[]⟩,⟨(.type "dict"),none,(.dict #[en P "__module__" 608 (.str "boardglue.yard" 533),en P "__qualname__" 610 (.str "Yard" 609),en P "__firstlineno__" 612 (.int (191) 611),en P "__init__" 618 (.ref 319),en P "do" 624 (.ref 324),en P "check_names" 633 (.ref 331),en P "put_by" 639 (.ref 336),en P "board_ever" 647 (.ref 343),en P "boards" 653 (.ref 348),en P "heap" 659 (.ref 353),en P "log" 666 (.ref 360),en P "__static_attributes__" 672 (.ref 361)] 12),#[]⟩,o0,⟨.none,none,(.fields #[(.int (193) 0),(.int (4) 0),(.ref 318),(.int (200) 0),(.int (4) 0),(.ref 323),(.int (215) 0),(.int (4) 0),(.ref 330),(.int (222) 0),(.int (4) 0),(.ref 335),(.int (238) 0),(.int (4) 0),(.ref 342),(.int (241) 0),(.int (4) 0),(.ref 347),(.int (244) 0),(.int (4) 0),(.ref 352),(.int (247) 0),(.int (4) 0),(.ref 359)]),#[]⟩,cO "Yard" 603 "Yard" 604 605 191 0 0 0 0 (R 310) false 181 (R 311) .none .none .none .none 606 191 607,⟨(.type "frame"),none,.plain,#[(some (.ref 312)),(some (.ref 3)),(some (.ref 309)),none,(some (.str "boardglue.yard" 533)),none,(some (.ref 0))]⟩]++[tu #[(.bool false)]]++fQ "__init__" "Yard.__init__" (sub (top 50) 0) 315 613 (.ref 314) m5m++fQ "do" "Yard.do" (sub (top 50) 1) 320 619 .none m5m++fP "check_names" "Yard.check_names" (sub (top 50) 2) 325 625 .none m5m++fQ "put_by" "Yard.put_by" (sub (top 50) 3) 332 634 .none m5m++fP "board_ever" "Yard.board_ever" (sub (top 50) 4) 337 640 .none m5m++fQ "boards" "Yard.boards" (sub (top 50) 5) 344 648 .none m5m++fQ "heap" "Yard.heap" (sub (top 50) 6) 349 654 .none m5m++fP "log" "Yard.log" (sub (top 50) 7) 354 660 .none m5m++[tS 667 ["done","known","lying","root","turning"],⟨(.type "dict"),none,(.dict #[en P "__module__" 608 (.str "boardglue.yard" 533),en P "__firstlineno__" 612 (.int (191) 611),en P "__init__" 618 (.ref 319),en P "do" 624 (.ref 324),en P "check_names" 633 (.ref 331),en P "put_by" 639 (.ref 336),en P "board_ever" 647 (.ref 343),en P "boards" 653 (.ref 348),en P "heap" 659 (.ref 353),en P "log" 666 (.ref 360),en P "__static_attributes__" 672 (.ref 361),en P "__dict__" 674 (.ref 364),en P "__weakref__" 676 (.ref 365),en P "__doc__" 677 .none] 4),#[]⟩,⟨(.type "type"),none,(.cls ⟨"Yard",[(.type "object")],[(.ref 363),(.type "object")],362,"Yard",true,[],[],false,none,false⟩),#[none,none,(some (.str "Yard" 601)),(some (.str "Yard" 609)),(some (.builtin "object.__new__")),(some (.bool true))]⟩,⟨(.type "getset_descriptor"),none,(.fields #[(.str "__dict__" 673),(.ref 363),(.builtin "function.__dict__"),(.builtin "function.__dict__#set")]),#[]⟩,⟨(.type "getset_descriptor"),none,(.fields #[(.str "__weakref__" 675),(.ref 363),(.builtin "ExceptionGroup.__weakref__"),.none]),#[]⟩,⟨(.type "super"),none,(.fields #[(.ref 363),(.ref 363),(.ref 363)]),#[]⟩,⟨(.type "builtin_function_or_method"),none,(.fields #[(.builtin "object.__init_subclass__"),(.ref 363)]),#[]⟩],[("Yard",679,.ref 363)],ll 191 312⟩,F 52 368 682 m6m,F 53 375 694 m6m,Q 54 382 704 m6m,Q 55 387 710 m6m,Q 56 392 716 m6m,F 57 397 722 m6m,Q 58 404 730 m6m,⟨409,[0,1,2,3,4,5,6],λ_=>[tu #[(.int (0) 738),(.int (1) 739)],tu #[(.int (0) 740),(.int (1) 741)],tu #[(.ref 409),(.ref 410)],tu #[(.int (0) 742),(.int (1) 743)],tu #[(.int (0) 744),(.int (1) 745)],tu #[(.ref 412),(.ref 413)],tu #[(.ref 411),(.ref 414)]],[("EMPTY",746,.ref 415)],[]⟩,F 61 416 747 m7m,F 62 423 758 m7m,F 63 430 768 m7m,F 64 437 777 m7m,F 65 444 786 m7m,F 67 451 796 m8m,Q 68 458 806 m8m,F 70 463 814 m9m,F 71 470 822 m9m,F 72 477 829 m9m,F 73 484 838 m9m,F 74 491 849 m9m,F 75 498 857 m9m,F 76 505 867 m9m,F 77 512 876 m9m,F 78 519 887 m9m,F 79 526 896 m9m,Q 80 533 906 m9m,F 81 538 912 m9m,Q 82 545 926 m9m,F 83 550 932 m9m,F 84 557 942 m9m,Q 85 564 954 m9m,Q 86 569 960 m9m,F 87 574 966 m9m,F 88 581 975 m9m,F 89 588 982 m9m,Q 90 595 992 m9m,Q 91 600 998 m9m,Q 92 605 1004 m9m,F 93 610 1010 m9m]
def o4 (P:Params):Obj:=⟨.type "dict",none,.dict ⟨[en P "__name__" 165 (.str "law_boardglue_k56_plans_told" 812),en P "__doc__" 166 .none,en P "__package__" 167 .none,en P "__loader__" 168 (.builtin "__main__.__loader__#opaque"),en P "__spec__" 169 .none,en P "__annotations__" 170 (.ref 6),en P "__builtins__" 171 (.ref 4),en P "__file__" 173 (cp 172),en P "__cached__" 174 .none]++(ops.flatMap (·.d)).map λx=>⟨PyData.keyHash P x.1,.str x.1 x.2.1,x.2.2⟩⟩ 93,#[]⟩
def ob(P:Params):List Obj:=[(boot_o_0 P),(boot_o_1 P),(boot_o_2 P),o4 P,(boot_o_4 P),(boot_o_5 P),(boot_o_6 P),(boot_o_7 P),(boot_o_8 P),(boot_o_9 P),(boot_o_10 P),(o0),⟨.none,none,.fields ⟨ops.flatMap (·.l)⟩,#[]⟩,(o2),(o3)]++ops.flatMap (·.os P)
noncomputable def ev (l:List Obj):Bool->List Obj:=List.rec (λ_=>[]) (λx _ h b=>bif b then x::h false else h true) l
noncomputable def tr (n:Nat):List Obj->BT:=Nat.rec (λ_=>.nil) (λ_ h l=>match l with | []=>.nil | x::r=>.node x (h (ev r true)) (h (ev r false))) n
def T1(P:Params):BT:=tr 12 (ob P)
theorem pc0'(w:World):(λos=>PySem.W.Fast.tw10110043849684766642 PySem.W.Fast.tw14364793385576792824 p w m0 ann (nat_lit 1) (nat_lit 3982) (⟨T0 w.params,nat_lit 15,lf0,⟨[]⟩,dr1,nat_lit 187,os⟩:SharedT) (W.piecesOf ((b.drop 0).take 94) env cE ⟨0,0,0,0⟩ B))=λos=>some (Flow.next,(⟨T1 w.params,nat_lit 617,lf0,⟨[]⟩,dr1,nat_lit 1023,os⟩:SharedT),cE,⟨528,0,540,204⟩):=by kernel_rfl
theorem pc0(w:World)(os:OsState):segRun treeTable p w m0 ann (nat_lit 1) (nat_lit 3982) (SharedT.abs (⟨T0 w.params,nat_lit 15,lf0,⟨[]⟩,dr1,nat_lit 187,os⟩:SharedT)) (piecesOf ((b.drop 0).take 94) env cE ⟨0,0,0,0⟩ B)=some (Flow.next,SharedT.abs (⟨T1 w.params,nat_lit 617,lf0,⟨[]⟩,dr1,nat_lit 1023,os⟩:SharedT),cE,⟨528,0,540,204⟩):=by
  refine segRun_of ?_;rw [PySem.W.Fast.te10110043849684766642,cG];exact congrFun (pc0' w) os
def H1(P:Params):Heap:=⟨⟨ob P⟩,lf0⟩
theorem fin'(w:World):(λos=>PySem.W.Fast.tw14082659384304107361 PySem.W.Fast.tw14364793385576792824 p w m0 ann (nat_lit 2) (SharedT.abs (⟨T1 w.params,nat_lit 617,lf0,⟨[]⟩,dr1,nat_lit 1023,os⟩:SharedT)) (Thread.mk (W.doneF Flow.next) cE ⟨528,0,540,204⟩ B))=λos=>some (⟨H1 w.params,⟨[]⟩,dr1,nat_lit 1023,os⟩:Shared):=by kernel_rfl
theorem fin(w:World)(os:OsState):topRun treeTable p w m0 ann (nat_lit 2) (SharedT.abs (⟨T1 w.params,nat_lit 617,lf0,⟨[]⟩,dr1,nat_lit 1023,os⟩:SharedT)) (Thread.mk (doneF Flow.next) cE ⟨528,0,540,204⟩ B)=some (⟨H1 w.params,⟨[]⟩,dr1,nat_lit 1023,os⟩:Shared):=by
  rw [PySem.W.Fast.te14082659384304107361,cG];exact congrFun (fin' w) os
def as:List Addr:=[2,3]++ops.flatMap λx=>x.ks.map (x.e+·)
def K(P:Params):Frag:=[(2,boot_o_2 P),(3,o4 P)]++ops.flatMap λx=>x.ks.map λk=>(x.e+k,(x.os P).getD k o0)
theorem asK(P:Params):as=(K P).map (·.1):=by kernel_rfl
theorem at_{w:World}{n N:Nat}{s s' r:Shared}{i k:Nat}{pos p':Pos}(h:segRun treeTable p w m0 ann 1 n s (piecesOf ((b.drop i).take k) env cE pos B)=some (.next,s',cE,p'))(g:topRun treeTable p w m0 ann N s' (restOf (b.drop (i+k)) env cE p' B)=some r):topRun treeTable p w m0 ann (n+N) s (restOf (b.drop i) env cE pos B)=some r:=by
  have z:=piece_app h g
  rwa [<-List.drop_drop,dn] at z
theorem bend:b.drop 94=[]:=by kernel_rfl
theorem run(w:World)(os:OsState):topRun treeTable p w m0 ann (12+(1+(3982+2))) (⟨boot_heap w.params,⟨[]⟩,boot_drawn,boot_toks,os⟩:Shared) (topStub p)=some (⟨H1 w.params,⟨[]⟩,dr1,nat_lit 1023,os⟩:Shared):=go_top (pre w os) (piece_block (blk w os) (show topRun treeTable p w m0 ann _ _ (restOf (b.drop 0) env cE _ B)=_ from (at_ (i:=0) (k:=94) (pc0 w os) (by rw [show b.drop 94=[] from bend]; exact piece_nil (fin w os)))))
theorem size (w:World):((boot_heap w.params).isNs mainGlobals && (⟨[]⟩:Array GenState).size==0,(boot_heap w.params).objs.size,(boot_heap w.params).nsMap mainGlobals "__annotations__")=(true,m0,ann):=by kernel_rfl
def qv:Program:=view p [93]
def loose:List Str:=((ops.flatMap (·.d)).map (·.1)).dropLast
def Xt(s:Shared):Bool:=xlAt qv [] s && recOk [] s
def Yf(s:Shared):List (Option Obj):=as.map s.heap.get?
def Ya(w:World):List (Option Obj):=(K w.params).map λp=>some p.2
theorem Jl(w:World):(λos:OsState=>(staticsOk (importedModules p.main.body) (boot_heap w.params) (H1 w.params) && namesBound p (H1 w.params) && gensDone (⟨H1 w.params,⟨[]⟩,dr1,nat_lit 1023,os⟩:Shared) && laidKept (boot_heap w.params) (H1 w.params)))=λ_=>true:=by kernel_rfl
theorem Ju(w:World):(λos:OsState=>openSeen qv loose (importedModules p.main.body) Xt true (⟨H1 w.params,⟨[]⟩,dr1,nat_lit 1023,os⟩:Shared))=λ_=>openGood qv loose:=by kernel_rfl
theorem Js(w:World):(λos:OsState=>Yf (⟨H1 w.params,⟨[]⟩,dr1,nat_lit 1023,os⟩:Shared))=λ_=>Ya w:=by kernel_rfl
theorem left:LeftO p qv loose Xt Yf Ya 8088:=by
  refine LeftO.of_pieces (H₀:=boot_heap) (H₁:=H1) (gs₀:=⟨[]⟩) (gs₁:=⟨[]⟩) (d₀:=boot_drawn) (d₁:=dr1) (k₀:=boot_toks) (k₁:=nat_lit 1023) (m₀:=m0) (ann:=ann) (M:=(12+(1+(3982+2)))) (boot_open (by kernel_rfl) (by decide) (λs=>by kernel_rfl)) size run (by decide) (λw=>funext λos=>?_);exact looks_pair (congrFun (Jl w) os) (looks_pair (congrFun (Ju w) os) (congrFun (Js w) os))
end Hd
end
local macro_rules | `(tactic| omega)=>`(tactic| first | lia | omega +splitNatSub)
namespace L2
open PySem PySem.Spec PyProof.Rows
variable {κ:Type}[DecidableEq κ]
def valV(kvs:List (κ×V))(k:κ):Option V:=(kvs.find? λkv=>decide (kv.1=k)).map (·.2)
def putK(kvs:List (κ×V))(k:κ)(v:V):List (κ×V) :=
  if (kvs.any λkv=>decide (kv.1=k))=true then kvs.map (λkv=>if kv.1=k then (kv.1,v) else kv) else kvs++[(k,v)]
def uc(kvs:List (κ×V))(k:κ):List (κ×V):=kvs.filter λkv=>decide (kv.1≠k)
theorem yc{p:κ×V}{r:List (κ×V)}{k:κ}(e:p.1=k):valV (p::r) k=some p.2:=by simp [valV,dq,e]
theorem zZ{p:κ×V}{r:List (κ×V)}{k:κ}(e:¬ p.1=k):valV (p::r) k=valV r k:=by simp [valV,dq,e]
theorem wz(k:κ):∀ kvs:List (κ×V),(kvs.any λkv=>decide (kv.1=k))=(valV kvs k).isSome
  | []=>rfl
  | p::r=>by
    rw [dS];by_cases e:p.1=k
    . simp only [yc e,iw e,Bool.true_or,Option.isSome_some]
    . rw [zZ e,h7 e,Bool.false_or]; exact wz k r
theorem Ci(k j:κ)(y:V):∀ kvs:List (κ×V),valV (kvs.map λkv=>if kv.1=k then (kv.1,y) else kv) j=(valV kvs j).map λx=>if j=k then y else x
  | []=>rfl
  | p::r=>by
    have ih:=Ci k j y r;rw [aU];by_cases h:p.1=k
    . rw [h8 h];by_cases e:p.1=j
      . rw [yc (p:=(p.1,y)) e,yc e,dr,h8 (e.symm.trans h)]
      . rw [zZ (p:=(p.1,y)) e,zZ e,ih]
    . rw [h9 h];by_cases e:p.1=j
      . rw [yc (p:=p) e,yc e,dr,h9 (λz=>h (e.trans z))]
      . rw [zZ (p:=p) e,zZ e,ih]
theorem Ar(k j:κ)(y:V):∀ kvs:List (κ×V),valV kvs k=none->valV (kvs++[(k,y)]) j=if j=k then some y else valV kvs j
  | [],_=>by
    by_cases e:k=j
    . rw [h8 e.symm]; exact yc (p:=(k,y)) e
    . rw [h9 (λz=>e z.symm)]; exact zZ (p:=(k,y)) e
  | p::r,hn=>by
    rw [List.cons_append];have hk:¬ p.1=k:=λz=>by rw [yc z] at hn; cases hn
    rw [zZ hk] at hn;have ih:=Ar k j y r hn;by_cases e:p.1=j
    . rw [yc e,yc e,h9 (λz=>hk (e.trans z))]
    . rw [zZ e,zZ e,ih]
theorem wA(kvs:List (κ×V))(k j:κ)(y:V):valV (putK kvs k y) j=if j=k then some y else valV kvs j:=by
  unfold putK;by_cases a:(kvs.any λkv=>decide (kv.1=k))=true
  . rw [h8 a,Ci];rw [wz] at a;by_cases e:j=k
    . obtain ⟨x,hx⟩:=fS.mp a;rw [h8 e,e,hx,dr,h8 rfl]
    . rw [h9 e];cases valV kvs j with
      | none=>rfl
      | some x=>rw [dr,h9 e]
  . rw [h9 a];refine Ar k j y kvs ?_;rw [wz] at a;cases q:valV kvs k with
    | none=>rfl
    | some x=>rw [q] at a; exact (a rfl).elim
theorem yO(kvs:List (κ×V))(k:κ)(v:V):(putK kvs k v).length<=kvs.length+1:=by
  unfold putK;split
  . rw [aa]; omega
  . rw [ah,au,aP]; omega
theorem vk{kvs:List (κ×V)}{k:κ}(v:V)(h:valV kvs k=none):putK kvs k v=kvs++[(k,v)]:=by
  unfold putK;rw [wz,h];exact h9 (by decide)
variable {o:Option V}
theorem RelO.isSome_eq{u:Option Value}(r:RelO o u):o.isSome=u.isSome:=by
  cases o with
  | none=>cases u with
    | none=>rfl
    | some _=>exact (show False from r).elim
  | some _=>cases u with
    | none=>exact (show False from r).elim
    | some _=>rfl
theorem KV.val{kvs:List (κ×V)}{vs:List (κ×Value)}(r:KV kvs vs)(k:κ):RelO (valV kvs k) (valueAt vs k):=by
  unfold KV at r;induction r with
  | nil=>exact True.intro
  | @cons p q ps qs h t ih =>
    obtain ⟨h1,h2⟩:=h;by_cases e:p.1=k
    . have e':q.1=k:=h1.symm.trans e;have b:valueAt (q::qs) k=some q.2:=by simp [valueAt,dq,e']
      rw [yc e,b]; exact h2
    . have e':¬ q.1=k:=λz=>e (h1.trans z);have b:valueAt (q::qs) k=valueAt qs k:=by simp [valueAt,dq,e']
      rw [zZ e,b]; exact ih
theorem KV.any{kvs:List (κ×V)}{vs:List (κ×Value)}(r:KV kvs vs)(k:κ):(kvs.any λkv=>decide (kv.1=k))=vs.any λkv=>decide (kv.1=k):=by
  unfold KV at r;induction r with
  | nil=>rfl
  | cons h t ih=>rw [dS,dS,ih,h.1]
variable {y:V}
theorem KV.repl{kvs:List (κ×V)}{vs:List (κ×Value)}(r:KV kvs vs)(k:κ){u:Value}(ry:RelV y u) : KV (kvs.map λkv=>if kv.1=k then (kv.1,y) else kv) (vs.map λkv=>if kv.1=k then (kv.1,u) else kv):=by
  unfold KV at r ⊢;induction r with
  | nil=>exact .nil
  | @cons p q ps qs h t ih =>
    rw [aU,aU];refine .cons ?_ ih;obtain ⟨h1,h2⟩:=h;by_cases e:p.1=k
    . rw [h8 e,h8 (h1.symm.trans e)]; exact ⟨h1,ry⟩
    . rw [h9 e,h9 (λz=>e (h1.trans z))]; exact ⟨h1,h2⟩
theorem KV.put{kvs:List (κ×V)}{vs:List (κ×Value)}(r:KV kvs vs)(k:κ){u:Value}(ry:RelV y u):KV (putK kvs k y) (stored vs k u):=by
  unfold putK stored;rw [r.any k];by_cases e:(vs.any λkv=>decide (kv.1=k))=true
  . rw [h8 e,h8 e]; exact r.repl k ry
  . rw [h9 e,h9 e]; exact Paired.snoc r ⟨rfl,ry⟩
theorem KV.drop{kvs:List (κ×V)}{vs:List (κ×Value)}(r:KV kvs vs)(k:κ):KV (uc kvs k) (without vs k):=by
  unfold KV at r ⊢;unfold uc without;induction r with
  | nil=>exact .nil
  | @cons p q ps qs h t ih =>
    obtain ⟨h1,h2⟩:=h;rw [cJ,cJ];by_cases e:p.1=k
    . have a:¬ decide (p.1≠k)=true:=by simp [e]
      have b:¬ decide (q.1≠k)=true:=by simp [h1.symm.trans e]
      rw [h9 a,h9 b]; exact ih
    . have e':¬ q.1=k:=λz=>e (h1.trans z);have a:decide (p.1≠k)=true:=by simp [e]
      have b:decide (q.1≠k)=true:=by simp [e']
      rw [h8 a,h8 b]; exact .cons ⟨h1,h2⟩ ih
theorem KV.keys{kvs:List (κ×V)}{vs:List (κ×Value)}(r:KV kvs vs):kvs.map (·.1)=vs.map (·.1):=by
  unfold KV at r;induction r with
  | nil=>rfl
  | cons h t ih=>rw [aU,aU,ih,h.1]
theorem KV.length{kvs:List (κ×V)}{vs:List (κ×Value)}(r:KV kvs vs):kvs.length=vs.length:=Paired.length r
theorem F0(kvs:List (κ×V))(k:κ):(uc kvs k).length<=kvs.length:=eI _ _
theorem CS{P:Program}{w:World}{k:Key}{u:Value}(r:RelV (kV k) u):(zX P w).is k u=true:=by
  cases k with
  | inl i=>obtain ⟨t,e⟩:=(show ∃ t,u=Value.int i t from r); subst e; exact AG P w i t
  | inr x=>obtain ⟨t,e⟩:=(show ∃ t,u=Value.str x t from r); subst e; exact AJ P w x t
theorem Au{P:Program}{w:World}:∀ {ks:List Key} {us:List Value},Vals (ks.map kV) us->ItemsAre (zX P w) ks us
  | [],_,r=>by rw [cK] at r; cases r; exact .nil
  | k::ks,_,r=>by
    rw [aU] at r;cases r with
    | cons h t=>exact .cons (CS h) (Au t)
abbrev KT(H:Hp):List (List Key×V)->List (List Key×Addr×Value)->Prop:=Paired λp q=>p.1=q.1/\H q.2.1=some (.tup (p.1.map kV))/\RelV p.2 q.2.2
variable {kvs:List (List Key×V)}
theorem KT.val{H:Hp}{xs:List (List Key×Addr×Value)}(r:KT H kvs xs)(k:List Key):RelO (valV kvs k) ((atKey xs k).map (·.2)):=by
  induction r with
  | nil=>exact True.intro
  | @cons p q ps qs h t ih =>
    obtain ⟨h1,_,h2⟩:=h;by_cases e:p.1=k
    . have e':q.1=k:=h1.symm.trans e;have b:atKey (q::qs) k=some q.2:=by simp [atKey,dq,e']
      rw [yc e,b]; exact h2
    . have e':¬ q.1=k:=λz=>e (h1.trans z);have b:atKey (q::qs) k=atKey qs k:=by simp [atKey,dq,e']
      rw [zZ e,b]; exact ih
theorem KT.repl{H:Hp}{xs:List (List Key×Addr×Value)}(r:KT H kvs xs)(k:List Key){u:Value}(ry:RelV y u) : KT H (kvs.map λkv=>if kv.1=k then (kv.1,y) else kv) (xs.map (putAt k u)):=by
  induction r with
  | nil=>exact .nil
  | @cons p q ps qs h t ih =>
    rw [aU,aU];refine .cons ?_ ih;obtain ⟨h1,h2,h3⟩:=h;unfold putAt;by_cases e:p.1=k
    . rw [h8 e,h8 (h1.symm.trans e)]; exact ⟨h1,h2,ry⟩
    . rw [h9 e,h9 (λz=>e (h1.trans z))]; exact ⟨h1,h2,h3⟩
theorem KT.put{H:Hp}{xs:List (List Key×Addr×Value)}(r:KT H kvs xs)(k:List Key){b:Addr}{u:Value}(hb:H b=some (.tup (k.map kV)))(ry:RelV y u) : KT H (putK kvs k y) (storedH xs k b u):=by
  have e:(kvs.any λkv=>decide (kv.1=k))=(atKey xs k).isSome:=by
    rw [wz,(r.val k).isSome_eq,Option.isSome_map]
  unfold putK storedH;rw [e];by_cases q:(atKey xs k).isSome=true
  . rw [h8 q,h8 q]; exact r.repl k ry
  . rw [h9 q,h9 q]; exact Paired.snoc r ⟨rfl,hb,ry⟩
variable {H':Hp}
theorem KT.keeps{H:Hp}{xs:List (List Key×Addr×Value)}(r:KT H kvs xs)(ht:∀ b ys,H b=some (.tup ys)->H' b=some (.tup ys)):KT H' kvs xs :=
  Paired.mapP r λ_ _ z=>⟨z.1,ht _ _ z.2.1,z.2.2⟩
variable {P:Program}{w:World}{H:Hp}{h:Heap}{a:Addr}
theorem Jp{u:HO}(ok:HOk P w H h)(e:Rd H a u):ObjOk P w H h a u:=e.ok ok
theorem CA{kvs:List (Key×V)}(ok:HOk P w H h)(e:Rd H a (.dK kvs)):kvs.length<=sizeLine/\(a==sysModules)=false/\∃ vs,KV kvs vs/\h.DictOf (zX P w) a vs :=
  show ObjOk P w H h a (.dK kvs) from Jp ok e
theorem Ki{kvs:List (Key×V)}(ok:HOk P w H h)(e:H a=some (.dK kvs)):kvs.length<=sizeLine/\(a==sysModules)=false/\∃ vs,KV kvs vs/\h.DictOf (zX P w) a vs:=CA ok (.inl e)
theorem B0{ks:List Key}(ok:HOk P w H h)(e:H a=some (.tup (ks.map kV))):(tupleKind (zX P w)).is h ks a:=by
  obtain ⟨_,its,r,o,h1,h2,n,h3⟩:=(show ObjOk P w H h a (.tup (ks.map kV)) from ok a _ e)
  exact ⟨o,its.toArray,n,h1,h2,h3,by simpa using Au r⟩
theorem Dg(ok:HOk P w H h)(e:Rd H a (.dT kvs)):kvs.length<=sizeLine/\(a==sysModules)=false /\ ∃ xs,KT H kvs xs/\h.DictOfH (tupleKind (zX P w)) a xs:=by
  obtain ⟨z,y,xs,r,o,es,ep,h1,h2,h3,h4,h5⟩:=(show ObjOk P w H h a (.dT kvs) from Jp ok e)
  refine ⟨z,y,xs,r,o,es,ep,h1,h2,h3,h4,λx hx=>?_,h5⟩;have all:∀ {l:List (List Key×V)} {m:List (List Key×Addr×Value)},KT H l m->∀ x∈m,(tupleKind (zX P w)).is h x.1 x.2.1:=by
    intro l m q;induction q with
    | nil=>intro x hx; exact nomatch hx
    | @cons p q ps qs hq t ih =>
      intro x hx;rcases aN.mp hx with e|hx
      . subst e;exact B0 ok (by rw [<-hq.1]; exact hq.2.1)
      . exact ih x hx
  exact all r x hx
theorem Lc(ok:HOk P w H h)(e:H a=some (.dT kvs)):kvs.length<=sizeLine/\(a==sysModules)=false /\ ∃ xs,KT H kvs xs/\h.DictOfH (tupleKind (zX P w)) a xs:=Dg ok (.inl e)
def DGet(H:Hp)(a:Addr)(y:V)(r:Option V):Prop :=
  (∃ kvs k,Rd H a (.dK kvs)/\y=kV k/\r=valV kvs k)\/∃ kvs k b,Rd H a (.dT kvs)/\y=.ref b/\H b=some (.tup (k.map kV))/\r=valV kvs k
def DPut(H:Hp)(a:Addr)(y v:V)(H':Hp):Prop :=
  (∃ kvs k,H a=some (.dK kvs)/\y=kV k/\kvs.length<sizeLine/\H'=upd H a (.dK (putK kvs k v))) \/
  ∃ kvs k b,H a=some (.dT kvs)/\y=.ref b/\H b=some (.tup (k.map kV))/\kvs.length<sizeLine/\H'=upd H a (.dT (putK kvs k v))
theorem DGet.k{H:Hp}{a:Addr}{kvs:List (Key×V)}{k:Key}(e:H a=some (.dK kvs)):DGet H a (kV k) (valV kvs k):=.inl ⟨kvs,k,.inl e,rfl,rfl⟩
theorem DPut.k{H:Hp}{a:Addr}{kvs:List (Key×V)}{k:Key}{v:V}(e:H a=some (.dK kvs))(hl:kvs.length<sizeLine):DPut H a (kV k) v (upd H a (.dK (putK kvs k v))):=.inl ⟨kvs,k,e,rfl,hl,rfl⟩
variable {h':Heap}
section
variable {X:Cx}{pins:List (Addr×Obj)}{σ:St}{s:Shared}{y v:V}{u r:Value}{o:Option V}{A:Around}{E:Value->Shared->Prop}
theorem Inv.big(I:Inv X pins σ H s):sysModules<s.heap.objs.size:=by
  have h:mainGlobals<s.heap.objs.size:=(I.mod.glob.keeps I.bk).lt;exact fC (by decide) h
theorem EN{Q:Value->Shared->Prop}(hu:A.units+1<cLine)(I:Inv X pins σ H s)(g:DGet H a y (some v))(ry:RelV y u)(h:∀ w' s',Inv X pins σ H s'->RelV v w'->Q w' s') : wpAny (model X.prog X.w) A (getItem (.ref a) u) Q E s:=by
  rcases g with ⟨kvs,k,e,ey,l⟩|⟨kvs,k,b,e,ey,eb,l⟩
  . subst ey;obtain ⟨z,hd,vs,rel,dd⟩:=CA I.hok e;obtain ⟨w',hw,rw'⟩:=RelO.some_of (v:=v) (o:=valueAt vs k) (by rw [l]; exact rel.val k);exact wpAny_getItem_of (CS ry) dd.mapOf hw (h w' _ (I.tok _) rw')
  . subst ey;cases (show u=Value.ref b from ry)
    obtain ⟨z,hd,xs,rel,dd⟩:=Dg I.hok e;obtain ⟨w',hw,rw'⟩:=RelO.some_of (v:=v) (o:=(atKey xs k).map (·.2)) (by rw [l]; exact rel.val k);obtain ⟨p,hp,hp2⟩:=am.mp hw;refine wpAny_getItem_heap (ix hu) (B0 I.hok eb) dd hp ?_;rw [hp2];exact h w' _ (I.tok _) rw'
theorem HK{Q:Value->Shared->Prop}(hu:A.units+1<cLine)(I:Inv X pins σ H s)(g:DGet H a y o)(ry:RelV y u)(h:∀ s',Inv X pins σ H s'->Q (.bool (!o.isSome)) s') : wpAny (model X.prog X.w) A (compareOp .NotIn u (.ref a)) Q E s:=by
  rcases g with ⟨kvs,k,e,ey,l⟩|⟨kvs,k,b,e,ey,eb,l⟩
  . subst ey;obtain ⟨z,hd,vs,rel,dd⟩:=CA I.hok e;refine wpAny_notIn_of (CS ry) hd dd.mapOf ?_;rw [<-(rel.val k).isSome_eq,<-l];exact h _ (I.tok _)
  . subst ey;cases (show u=Value.ref b from ry)
    obtain ⟨z,hd,xs,rel,dd⟩:=Dg I.hok e;refine wpAny_notIn_heap (ix hu) (B0 I.hok eb) hd dd ?_;have q:=(rel.val k).isSome_eq;rw [Option.isSome_map] at q;rw [<-q,<-l];exact h _ (I.tok _)
theorem Bb{t':Nat}{ob:HO}(I:Inv X pins σ H s)(mu:Mut (H a))(hs:Heap.SameBut a s.heap h')(he:∃ q,h'.get? a=some q)(new:ObjOk X.prog X.w (upd H a ob) h' a ob) : Inv X pins σ (upd H a ob) { s with heap:=h',toks:=t' } :=
  I.write (x:=a) (e:=a) mu (.inl rfl) (λb q hb z=>(hs.2 b hb).trans z) he new
theorem BX{kvs:List (Key×V)}{vs:List (Key×Value)}(z:kvs.length<=sizeLine)(hd:(a==sysModules)=false)(rel:KV kvs vs)(dd:h'.DictOf (zX P w) a vs) : ObjOk P w H' h' a (.dK kvs):=⟨z,hd,vs,rel,dd⟩
theorem Dy{Q:Unit->Shared->Prop}(hu:A.units+1<cLine)(I:Inv X pins σ H s)(g:DPut H a y v H')(ry:RelV y u)(rv:RelV v r)(h:∀ s',Inv X pins σ H' s'->Q () s') : wpAny (model X.prog X.w) A (setItem (.ref a) u r) Q E s:=by
  rcases g with ⟨kvs,k,e,ey,l,eH⟩|⟨kvs,k,b,e,ey,eb,l,eH⟩
  . subst ey eH;obtain ⟨z,hd,vs,rel,dd⟩:=Ki I.hok e;have hz:vs.length<=sizeLine:=by rw [<-rel.length]; exact z
    have hl:(putK kvs k v).length<=sizeLine:=by have:=yO kvs k v; omega
    refine wpAny_setItem_pairs (hsz:=hz) (CS ry) dd λh' dd' hs=>h _ ?_;have he:∃ q,h'.get? a=some q:=let ⟨q,_,_,hq,_⟩:=dd'; ⟨q,hq⟩
    exact Bb I (by rw [e]; exact True.intro) hs he (BX hl hd (rel.put k rv) dd')
  . subst ey eH;cases (show u=Value.ref b from ry)
    obtain ⟨z,hd,xs,rel,dd⟩:=Lc I.hok e;have hz:xs.length<=sizeLine:=by rw [<-Paired.length rel]; exact z
    have hl:(putK kvs k v).length<=sizeLine:=by have:=yO kvs k v; omega
    refine wpAny_setItem_heap (hsz:=hz) (ix hu) (B0 I.hok eb) dd λh' dd' hs=>h _ ?_;obtain ⟨q,es,ep,hq,h2,h3,h4,_,h5⟩:=dd';refine Bb I (by rw [e]; exact True.intro) hs ⟨q,hq⟩ ⟨hl,hd,_,(rel.put k eb rv).keeps λc ys ec=>?_,q,es,ep,hq,h2,h3,h4,h5⟩;rw [zl (ya ec e (λz=>nomatch z))];exact ec
end
section
variable {X:Cx}{pins:List (Addr×Obj)}{σ:St}{s:Shared}{kvs:List (Key×V)}{k:Key}{u:Value}{A:Around}{E:Value->Shared->Prop}
theorem Ls{v:V}{more:List Value}{Q:Value->Shared->Prop}(I:Inv X pins σ H s)(e:H a=some (.dK kvs))(ry:RelV (kV k) u)(l:valV kvs k=some v)(hm:more=[]\/∃ x,more=[x])(h:∀ w' s',Inv X pins σ (upd H a (.dK (uc kvs k))) s'->RelV v w'->Q w' s'):wpAny (model X.prog X.w) A (call (.builtin "dict.pop") (.ref a::u::more)) Q E s:=by
  obtain ⟨z,hd,vs,rel,dd⟩:=Ki I.hok e;obtain ⟨w',hw,rw'⟩:=RelO.some_of (v:=v) (o:=valueAt vs k) (by rw [<-l]; exact rel.val k);have hp:(keyPart u).isSome=true:=by
    cases k with
    | inl i=>obtain ⟨t,q⟩:=(show ∃ t,u=Value.int i t from ry); subst q; rfl
    | inr x=>obtain ⟨t,q⟩:=(show ∃ t,u=Value.str x t from ry); subst q; rfl
  have ha:argsOk "dict.pop" ⟨.ref a::u::more,[]⟩:=by
    rcases hm with q|⟨x,q⟩
    . subst q; exact PySem.F.args_dict_pop_2 _ _
    . subst q; exact PySem.F.args_dict_pop_3 _ _ _
  refine call_meetsIn gG dd.typeIs PySem.F.entry_dict_pop ha (meets_dict_pop_there (zX X.prog X.w) a (CS ry) more hm hp)
    ⟨vs,w',dd,by rw [<-rel.length]; exact z,hw,λh' dd' hs=>h w' _ ?_ rw'⟩
  have he:∃ q,h'.get? a=some q:=let ⟨q,_,_,hq,_⟩:=dd'; ⟨q,hq⟩
  exact Bb I (by rw [e]; exact True.intro) hs he (BX (bK (F0 kvs k) z) hd (rel.drop k) dd')
end
def NoSl(i:Expr):Prop:=∀ ov iv,subscripted i false ov iv=operate [ov,iv] (getItem ov iv)
theorem Io{prog:Program}{A:Around}{E:Value->Shared->Prop}{s:Shared}{env:Env}{value slice:Expr}{pos:Pos}{T id:String}{Q:Value->Shared->Prop}(hl:typeLookup (.type T) "__getitem__"=pure (some (.builtin id)))(hs:NoSl slice)(h:wpAny (model prog w) A (eval value env) (λo s₁=>wpAny (model prog w) A (eval slice env) (λi s₂=>s₂.TypeIs o T/\wpAny (model prog w) A (getItem o i) Q E s₂) E s₁) E s) : wpAny (model prog w) A (eval (.Subscript value slice pos) env) Q E s:=by
  refine Subscript_ (ia h (λo s₁ h₁=>ia h₁ (λi s₂ h₂=>?_) λ_ _ x=>x) λ_ _ x=>x);obtain ⟨hT,h₂⟩:=h₂;unfold subscriptTail;refine ii ?_;rw [getitemInPython_of_ne hT.not_modules];refine ii (wpAny_specialOf hT hl ?_);have fin:wpAny (model prog w) A (subscripted slice false o i) (λr s₃=>wpAny (model prog w) A (letTemporaryGo value o r >>= λ_=>pure r) Q E s₃) E s₂:=by
    rw [hs o i];exact wpAny_operating (ia h₂ (λr s₃ h₃=>ii (wpAny_letTemporaryGo (ij h₃))) λ_ _ x=>x)
  first
    | exact ij (ii fin)
    | exact ii (ij (ii fin))
    | exact ii fin
variable {pins:List (Addr×Obj)}
theorem AW{X:Cx}{σ:St}{s:Shared}(I:Inv X pins σ H s)(g:DGet H a y o):s.TypeIs (.ref a) "dict":=by
  rcases g with ⟨kvs,k,e,_,_⟩|⟨kvs,k,b,e,_,_,_⟩
  . obtain ⟨_,_,vs,_,dd⟩:=CA I.hok e;exact dd.typeIs
  . obtain ⟨_,_,xs,_,dd⟩:=Dg I.hok e;exact dd.typeIs
def Kz(td ty:TE):TE:=λσ H Q=>td σ H λx H1=>ty σ H1 λy H2=>∃ a v,x=.ref a/\DGet H2 a y (some v)/\Q v H2
def DY(ty td:TE):TE:=λσ H Q=>ty σ H λy H1=>td σ H1 λx H2=>∃ a o,x=.ref a/\DGet H2 a y o/\Q (.bl (!o.isSome)) H2
def JG(td ty tv:TE):TS:=λD σ H=>tv σ H λv H1=>td σ H1 λx H2=>ty σ H2 λy H3=>∃ a H4,x=.ref a/\DPut H3 a y v H4/\D.nx σ H4
section
variable {X:Cx}{o i e value:Expr}{pos pos' tpos:Pos}{td ty tv:TE}
theorem yJ(hu:X.A.units+1<cLine)(ho:PE X o td)(hi:PE X i ty)(hs:NoSl i):PE X (.Subscript o i pos) (Kz td ty):=by
  intro pins s σ H Q I h;refine Io PySem.F.slot_dict_getitem.lookup hs (thn (ho pins s σ H _ I h) λu s1 ⟨x,H1,I1,rx,q1⟩=>thn (hi pins s1 σ H1 _ I1 q1) λiv s2 ⟨y,H2,I2,ry,a,v,ex,g,q2⟩=>?_);subst ex;obtain rfl:u=Value.ref a:=rx;exact ⟨AW I2 g,EN hu I2 g ry λw' s3 I3 rw'=>⟨v,H2,I3,rw',q2⟩⟩
theorem vn(hu:X.A.units+1<cLine)(hi:PE X i ty)(ho:PE X o td):PC X .NotIn i o (DY ty td):=by
  intro pins s σ H Q I h;refine thn (hi pins s σ H _ I h) λiv s1 ⟨y,H1,I1,ry,q1⟩=>thn (ho pins s1 σ H1 _ I1 q1) λu s2 ⟨x,H2,I2,rx,a,ov,ex,g,q2⟩=>?_;subst ex;obtain rfl:u=Value.ref a:=rx;exact HK hu I2 g ry λs3 I3=>⟨.bl (!ov.isSome),H2,I3,rfl,q2⟩
theorem xV(hu:X.A.units+1<cLine)(ho:PE X o td)(hi:PE X i ty)(hv:PE X value tv)(hs:swapsWith value (some (.Subscript o i pos')) pos.line X.env=pure false) : PS X (.Assign [.Subscript o i pos'] value pos) (JG td ty tv):=by
  intro pins s σ H D I h;refine wpAny_Assign_Subscript (thn (hv pins s σ H _ I h) λr s1 ⟨v,H1,I1,rv,q1⟩=>thn (ho pins s1 σ H1 _ I1 q1) λu s2 ⟨x,H2,I2,rx,q2⟩=>thn (hi pins s2 σ H2 _ I2 q2) λiv s3 ⟨y,H3,I3,ry,a,H4,ex,g,q3⟩=>?_) hs;subst ex;obtain rfl:u=Value.ref a:=rx;exact Dy hu I3 g ry rv λs4 I4=>⟨σ,H4,I4,q3⟩
end
variable {X:Cx}{pos:Pos}
structure M1(X:Cx)(o:Expr)(m:Str)(apos:Pos)(e:Expr)(cpos:Pos):Prop where
  base:attributeBase o m X.env (eval o X.env)=eval o X.env
  few:((backTo cpos (starEach [e] X.env)).all (λx=>!x.1) && (backToKw cpos (keywordEach [] X.env)).all (λx=>x.1.isSome)
    && decide (([e]:List Expr).length+([]:List Keyword).length+(if ([]:List Keyword).isEmpty then 0 else 1)<30))=true
  line:(apos.endLine==cpos.line)=true
  trees:backTo cpos (starEach [e] X.env)=[(false,eval e X.env)]
def IsD(H:Hp)(a:Addr):Prop:=(∃ kvs,Rd H a (.dK kvs))\/∃ kvs,Rd H a (.dT kvs)
theorem Kp{σ:St}{s:Shared}(I:Inv X pins σ H s)(d:IsD H a) : s.TypeIs (.ref a) "dict"/\(∀ b,Value.ref a=.ref b->∃ ob,s.heap.get? b=some ob/\ob.dict=none)/\(a==sysModules)=false:=by
  rcases d with ⟨kvs,e⟩|⟨kvs,e⟩
  . obtain ⟨_,hd,vs,_,dd⟩:=CA I.hok e;refine ⟨dd.typeIs,λb q=>?_,hd⟩;cases q
    obtain ⟨ob,_,_,h1,h2,_⟩:=dd;exact ⟨ob,h1,h2.2.1⟩
  . obtain ⟨_,hd,xs,_,dd⟩:=Dg I.hok e;refine ⟨dd.typeIs,λb q=>?_,hd⟩;cases q
    obtain ⟨ob,_,_,h1,h2,_⟩:=dd;exact ⟨ob,h1,h2.2.1⟩
section
variable {pins:List (Addr×Obj)}{σ:St}{s:Shared}{y d:V}{u r:Value}{o:Option V}{A:Around}{E:Value->Shared->Prop}
end
def GF(td ty:TE):TE:=λσ H Q=>td σ H λx H1=>∃ a,x=.ref a/\IsD H1 a/\ty σ H1 λy H2=>∃ kvs k v,H2 a=some (.dK kvs)/\y=kV k/\valV kvs k=some v/\Q v (upd H2 a (.dK (uc kvs k)))
section
variable {o e f:Expr}{apos cpos:Pos}{td ty tx:TE}
theorem u9(ho:PE X o td)(he:PE X e ty)(m:M1 X o "pop" apos e cpos):PE X (.Call (.Attribute o "pop" apos) [e] [] cpos) (GF td ty):=by
  intro pins s σ H Q I h;refine wpAny_Call_method m.base m.few m.line PySem.F.plainAttrs_dict gG PySem.F.type_dict_pop (thn (ho pins s σ H _ I h) λu s1 ⟨x,H1,I1,rx,a,ex,d,q1⟩=>?_);subst ex;obtain rfl:u=Value.ref a:=rx;obtain ⟨t1,t2,_⟩:=Kp I1 d;refine ⟨t1,t2,?_⟩;rw [m.trees];refine Calls.callWith_builtin rfl (Calls.evalArgs_plain (Calls.spliced_cons (thn (he pins s1 σ H1 _ I1 q1) λiv s2 ⟨y,H2,I2,ry,kvs,k,v,ea,ey,l,q2⟩=>Calls.spliced_nil ?_)));subst ey;exact Ls I2 ea ry l (.inl rfl) λw' s3 I3 rw'=>⟨v,_,I3,rw',q2⟩
end
section
variable {pins:List (Addr×Obj)}{σ:St}{s:Shared}{kvs:List (Key×V)}{A:Around}{E:Value->Shared->Prop}
theorem Gj{Q:Value->Shared->Prop}(I:Inv X pins σ H s)(e:Rd H a (.dK kvs))(h:∀ p s',H p=none->Inv X pins σ (upd H p (.dK kvs)) s'->Q (.ref p) s'):wpAny (model X.prog X.w) A (call (.type "dict") [.ref a]) Q E s:=by
  obtain ⟨z,hd,vs,rel,dd⟩:=CA I.hok e;refine kt_call_dict hd dd (by rw [<-rel.length]; exact z) λh' dd' hs=>?_;refine h _ _ (I.hok.fresh (ai _)) (I.laid (a:=s.heap.objs.size) (o:=.dK kvs) (t':=s.toks) (λb q hq=>?_) (ai _) (BX z (beq_eq_false_iff_ne.mpr (bZ (az I.big))) rel dd'));exact (hs.2 b (az (Heap.lt_size hq))).trans (Heap.get?_push_of_some _ hq)
end
section
variable {pins:List (Addr×Obj)}{σ:St}{s:Shared}{y:V}{u:Value}{A:Around}{E:Value->Shared->Prop}
end
end L2
namespace Att
open PySem PySem.W PySem.Calls PyProof.Rows
end Att
namespace L2
open PySem PySem.Spec PyProof.Rows
variable {X:Cx}
variable {κ:Type}[DecidableEq κ]
end L2
namespace Bg
theorem Fr(a b:Int):Int.gcd b (a.fmod b)=Int.gcd a b:=by
  rw [Int.fmod_def,av,eZ,c7]
theorem Fl(a b:Int):Int.gcd b (a % b)=Int.gcd a b:=by
  rw [Int.emod_def,av,eZ,c7]
variable {a:Int}
theorem IC{b:Int}(h:b≠0):(a.fmod b).natAbs<b.natAbs:=by
  rw [Int.fmod_eq_emod];have h1:=b8 a h;have h2:=Int.emod_lt a h;by_cases c:0<=b\/b∣a
  . rw [h8 c]; omega
  . rw [h9 c];have hb:b<0:=by
      rcases gH b 0 with z|z
      . exact z
      . exact absurd (Or.inl z) c
    have hd:¬ b∣a:=λz=>c (Or.inr z);have hn:a % b≠0:=λz=>hd (Int.dvd_of_emod_eq_zero z);omega
def Bd(k:Nat)(x:Int):Prop:=x.natAbs<2 ^ k
instance {k:Nat} {x:Int}:Decidable (Bd k x):=inferInstanceAs (Decidable (x.natAbs<2 ^ k))
variable {x:Int}
theorem Bd.mono{j k:Nat}(h:Bd j x)(l:j<=k):Bd k x:=aE h (Nat.pow_le_pow_right (by decide) l)
theorem Bd.neg{k:Nat}(h:Bd k x):Bd k (-x):=by unfold Bd at *; rw [Int.natAbs_neg]; exact h
variable {y:Int}
theorem Bd.mul{j k:Nat}(h:Bd j x)(g:Bd k y):Bd (j+k) (x*y):=by
  unfold Bd at *
  rw [b9,Nat.pow_add];exact Nat.mul_lt_mul_of_lt_of_lt h g
theorem Bd.add{k:Nat}(h:Bd k x)(g:Bd k y):Bd (k+1) (x+y):=by
  unfold Bd at *
  rw [Nat.pow_succ];omega
theorem Bd.sub{k:Nat}(h:Bd k x)(g:Bd k y):Bd (k+1) (x - y):=by
  unfold Bd at *
  rw [Nat.pow_succ];omega
theorem Bd.of_le{k:Nat}(h:Bd k y)(l:x.natAbs<=y.natAbs):Bd k x:=bn l h
theorem vV(a b:Int):(a.fdiv b).natAbs<=a.natAbs:=by
  by_cases hb:b=0
  . subst hb; simp
  have key:∀ a b:Int,0<b->(a.fdiv b).natAbs<=a.natAbs:=λa b hb=>by
    rw [fm a (by omega)];have h1:b*(a / b)+a % b=a:=Int.mul_ediv_add_emod a b;have h2:=b8 a (show b≠0 by omega);have h3:=cg a hb;rcases gH (a / b) 0 with q|q
    . have e:a<=a / b:=by
        have:b*(a / b)<=1*(a / b) - (b - 1):=by
          have z:(b - 1)*(a / b)<=(b - 1)*(-1):=eK (by omega) (by omega);have z2:b*(a / b)=(b - 1)*(a / b)+a / b:=by rw [gU]; omega
          omega
        omega
      omega
    . have e:a / b<=a:=by
        have z:1*(a / b)<=b*(a / b):=Int.mul_le_mul_of_nonneg_right (by omega) q;omega
      omega
  rcases gH b 0 with h|h
  . have e:a.fdiv b=(-a).fdiv (-b):=by rw [Int.neg_fdiv_neg]
    rw [e];have:=key (-a) (-b) (by omega);omega
  . exact key a b (by omega)
theorem Bd.fdiv{k:Nat}{x:Int}(h:Bd k x)(y:Int):Bd k (x.fdiv y):=h.of_le (vV x y)
theorem Bd.emod{k:Nat}(h:Bd k y)(hy:y≠0)(x:Int):Bd k (x % y):=by
  refine h.of_le ?_;have h1:=b8 x hy;have h2:=Int.emod_lt x hy;omega
theorem Bd.log{k:Nat}(h:Bd k x):x.natAbs.log2<=k:=by
  by_cases z:x.natAbs=0
  . rw [z]; simp
  . exact bf ((gW z).mpr h)
def g3(a b n:Int):Nat:=Int.gcd (Int.gcd n a) b
def gd(a b n:Int):Int:=if n<0 then -(g3 a b n:Int) else (g3 a b n:Int)
theorem g3_n(a b n:Int):(g3 a b n:Int)∣n:=aX (bG ..) (bG ..)
theorem g3_a(a b n:Int):(g3 a b n:Int)∣a:=aX (bG ..) (bM ..)
theorem g3_b(a b n:Int):(g3 a b n:Int)∣b:=bM ..
theorem DG{b n:Int}(h:n≠0):0<g3 a b n:=by
  rcases Nat.eq_zero_or_pos (g3 a b n) with z|z
  . have:=g3_n a b n;rw [z] at this;exact absurd (Int.zero_dvd.mp (by simpa using this)) h
  . exact z
theorem IU(a b n:Int):Int.gcd (Int.gcd a b) n=g3 a b n:=by
  unfold g3;rw [c7,<-Int.gcd_assoc]
theorem Ho{b n:Int}(h:n≠0):gd a b n≠0:=by
  have:=DG (a:=a) (b:=b) h;unfold gd;split <;> omega
theorem GG(a b n:Int):(gd a b n).natAbs=g3 a b n:=by
  unfold gd;split <;> simp
theorem EQ{b n:Int}(h:(g3 a b n:Int)∣x):gd a b n∣x:=by
  unfold gd;split
  . exact Int.neg_dvd.mpr h
  . exact h
theorem Ip{k:Nat}{b n:Int}(hn:n≠0)(h:Bd k n):Bd k (gd a b n):=by
  refine h.of_le ?_;rw [GG];exact g7 (by omega) (by
    have:=bQ.mpr (g3_n a b n);simpa using this)
def lA(a b n:Int):Int:=a.fdiv (gd a b n)
def lB(a b n:Int):Int:=b.fdiv (gd a b n)
def lN(a b n:Int):Int:=n.fdiv (gd a b n)
theorem GN{b n:Int}:lA a b n*gd a b n=a:=fe (EQ (g3_a a b n))
theorem GU{b n:Int}:lB a b n*gd a b n=b:=fe (EQ (g3_b a b n))
theorem lN_mul{b n:Int}:lN a b n*gd a b n=n:=fe (EQ (g3_n a b n))
theorem l_a{b n:Int}:lA a b n*n=a*lN a b n:=by
  have h1:=GN (a:=a) (b:=b) (n:=n);have h2:=lN_mul (a:=a) (b:=b) (n:=n)
  calc lA a b n*n=lA a b n*(lN a b n*gd a b n):=by rw [h2]
    _=lA a b n*gd a b n*lN a b n:=by rw [ao,av (gd a b n)]
    _=a*lN a b n:=by rw [h1]
theorem l_b{b n:Int}:lB a b n*n=b*lN a b n:=by
  have h1:=GU (a:=a) (b:=b) (n:=n);have h2:=lN_mul (a:=a) (b:=b) (n:=n)
  calc lB a b n*n=lB a b n*(lN a b n*gd a b n):=by rw [h2]
    _=lB a b n*gd a b n*lN a b n:=by rw [ao,av (gd a b n)]
    _=b*lN a b n:=by rw [h1]
theorem l_n{b n:Int}(h:n≠0):1<=lN a b n:=by
  have h2:=lN_mul (a:=a) (b:=b) (n:=n);have hp:=DG (a:=a) (b:=b) h;have hs:0<lN a b n:=by
    by_cases c:n<0
    . have e:gd a b n=-(g3 a b n:Int):=h8 c;rw [e] at h2;refine eM λz=>?_;have:0<=lN a b n*-(g3 a b n:Int):=dO z (by omega);omega
    . have e:gd a b n=(g3 a b n:Int):=h9 c;rw [e] at h2;refine eM λz=>?_;have:lN a b n*(g3 a b n:Int)<=0:=cX z (by omega);omega
  omega
theorem xQ{b n:Int}(h:n≠0):g3 (lA a b n) (lB a b n) (lN a b n)=1:=by
  have hp:=DG (a:=a) (b:=b) h;have e:g3 a b n=g3 (lA a b n) (lB a b n) (lN a b n)*(gd a b n).natAbs:=by
    have h1:=GN (a:=a) (b:=b) (n:=n);have h2:=GU (a:=a) (b:=b) (n:=n);have h3:=lN_mul (a:=a) (b:=b) (n:=n);have:g3 (lA a b n*gd a b n) (lB a b n*gd a b n) (lN a b n*gd a b n)=g3 (lA a b n) (lB a b n) (lN a b n)*(gd a b n).natAbs:=by
      unfold g3;rw [Int.gcd_mul_right];have e1:((Int.gcd (lN a b n) (lA a b n)*(gd a b n).natAbs:Nat):Int).gcd (lB a b n*gd a b n)=Int.gcd ((Int.gcd (lN a b n) (lA a b n):Int)*gd a b n) (lB a b n*gd a b n):=by
        rw [a9,a9];congr 1;rw [b9,bV,bV]
      rw [e1,Int.gcd_mul_right]
    rw [h1,h2,h3] at this;exact this
  rw [GG] at e;have:1*g3 a b n=g3 (lA a b n) (lB a b n) (lN a b n)*g3 a b n:=by omega
  exact (Nat.eq_of_mul_eq_mul_right hp this).symm
end Bg
namespace L2
open PySem PySem.Spec PyProof.Rows Bg
theorem Eg{k:Nat}{x:Int}(h:Bd k x):Builtin.Int.intBits x<=k:=by
  unfold Builtin.Int.intBits;split
  . exact bS _
  . rename_i z;have z':x≠0:=by simpa using z
    exact (gW (by omega)).mpr h
variable {y:Int}
theorem Bd.ok{j k:Nat}{x:Int}(h:Bd j x)(g:Bd k y)(l:j+k<=134217728):IntMulOk x y:=by
  have h1:=Eg h;have h2:=Eg g;unfold IntMulOk;have:Builtin.Int.intTooBig (Builtin.Int.intBits x+Builtin.Int.intBits y)=false:=by
    unfold Builtin.Int.intTooBig bitsLine;simp only [decide_eq_false_iff_not,eU,gt_iff_lt];have:(2 ^ 27:Nat)=134217728:=by decide
    omega
  rw [this];simp
variable {X:Cx}
theorem zn:OpR X (binaryOp .Mult) (rI IntMulOk λi j=>.int (i*j)):=opI λ_ _ _ _ _ _ _ hc q=>mul_int q hc
abbrev CFd(_ j:Int):Prop:=j≠0/\j.natAbs.log2<9000
abbrev CFp(_ j:Int):Prop:=0<j/\j.natAbs.log2<9000
abbrev CPw(i j:Int):Prop:=0<=j/\(Builtin.Int.intBits i:Int)*j<=2 ^ 27
theorem zS:OpR X (binaryOp .FloorDiv) (rI CFd λi j=>.int (i.fdiv j)):=opI λ_ _ _ _ _ _ _ hc q=>floordiv_int hc.1 q (.inl (fW hc.2))
theorem z7:OpR X (binaryOp .FloorDiv) (rI CFp λi j=>.int (i / j)):=opI λi j _ _ _ _ _ hc q=>by
  have h1:(0:Int)<j:=hc.1;exact floordiv_int (by omega) (by rw [fm i (by omega)]; exact q) (.inl (fW hc.2))
theorem Bf:OpR X (binaryOp .Pow) (rI CPw λi j=>.int (i ^ j.toNat)):=opI λ_ _ _ _ _ _ _ hc q=>pow_int hc.1 hc.2 q
def rIs(K:iC):List V->Hp->VK->Prop:=λxs H Q=>∃ x T t b,xs=[x,.ty T]/\TyOf K H x t/\W.kitOne K t (.type T)=some b/\Q (.bl b) H
theorem zJ:y8 X (.builtin "isinstance") (rIs X.K):=by
  intro pins s σ H xs us Q I r h;obtain ⟨x,T,t,b,rfl,ty,e,q⟩:=h;obtain ⟨u,c,rfl,ru,rc⟩:=Le r;cases (show c=Value.type T from rc)
  exact ER I ru ty e λtk=>⟨.bl b,H,I.tok tk,rfl,q⟩
theorem uH(K:iC)(T:String):W.kitOne K (.type T) (.type T)=some true:=by
  unfold W.kitOne;rw [h8];simp
theorem Ae(K:iC):W.kitOne K (.type "int") (.type "bool")=some false:=by
  unfold W.kitOne;rw [h9 (by decide)];show (if W.kitMeta "bool"=true then W.subIn K (.type "int") (.type "bool") else none)=some false;rw [h8 (by decide +kernel)];show (fastBuiltinMro "int").map (·.contains (Value.type "bool"))=some false;decide +kernel
section
variable {K:iC}{H:Hp}{Q:VK}
theorem Fx{i:Int}(h:Q (.bl true) H):rIs K [.int i,.ty "int"] H Q:=⟨_,_,_,_,rfl,.int i,uH K _,h⟩
theorem DN{i:Int}(h:Q (.bl false) H):rIs K [.int i,.ty "bool"] H Q:=⟨_,_,_,_,rfl,.int i,Ae K,h⟩
theorem Fk{a:Addr}{xs:List V}(e:H a=some (.tup xs))(h:Q (.bl true) H):rIs K [.ref a,.ty "tuple"] H Q:=⟨_,_,_,_,rfl,.tup e,uH K _,h⟩
end
def Own(P:Program)(w:World)(K:iC)(mg:Str->Option Value)(base:Heap)(k:Nat)(x:Str)(ps:List Str)(dvs:List V)(sp:Sp):Prop :=
  ∃ (f:Addr) (fd:FuncData) (ds:List Value),FnOk P w K mg base CX0 k f fd ps sp/\mg x=some (.ref f)/\W.keepIn K (.ref f)=true/\Binds K fd ps ds/\Vals dvs ds
variable {ps:List Str}{dvs:List V}{sp:Sp}{x:Str}{t:TA}
theorem ze{k j:Nat}{p pos:Pos}{e:Expr}{es:List Expr}(O:Own X.prog X.w X.K X.mg X.base k x ps dvs sp)(hr:Room j X.A)(hg:Gl X x)(ha:PA X (e::es) t)(hk:k<=j:=by decide)(hdb:(x==("__debug__":Str))=false:=by decide)(he:starEach (e::es) X.env=(false,eval e X.env)::starEach es X.env:=by rfl)(hpl:(backTo pos (starEach es X.env)).any (·.1)=false:=by rfl) :
    PE X (.Call (.Name x p) (e::es) [] pos) (HX sp dvs E0 t):=by
  obtain ⟨f,fd,ds,F,hm,kp,hb,hd⟩:=O;exact HF F (hr.mono hk) hg hm kp hb hd tP ha hdb he hpl
structure FunD(K:iC)(x qual:Str)(st:Stmt)(f:Addr)(fd:FuncData)(its:List Value):Prop where
  ex:∃ (oc:Value) (od:Option Addr) (T:Addr) (kV doc pm:Value) (an:Option Addr) (cdv ct:Value) (osl:Array (Option Value)) (to:Obj) (n:Nat),
    fd=W.fnOf x qual (defArgs st) (defBody st) (defScope st) (.ref T) kV doc pm an cdv ct/\K.lookup f=some ⟨oc,od,.func fd,osl⟩/\W.codeIn K cdv qual=true/\K.lookup T=some to/\to.data=.seq its.toArray n
  kp:W.keepIn K (.ref f)=true
variable {f:Addr}{fd:FuncData}{its:List Value}{qual:Str}
section
variable {P:Program}{w:World}{K:iC}{mg:Str->Option Value}{base:Heap}
theorem FunD.ok{st:Stmt}{N:List Str}{k:Nat}(F:FunD K x qual st f fd its)(S:FnScope N ps (defScope st))(len:∀ vs H Q E,sp vs H Q E->vs.length=ps.length)(hbody:∀ (cdv:Value) (A:Around) (outer:List Env) (s:Shared) (H:Hp) (vs:List V) (Q:VK) (E:XK),Room k (A.deeper (envOfC qual (defScope st) s.heap.objs.size f cdv))->sp vs H Q E ->
      ∃ t,PSs (cxOf CX0 P w K mg base N qual (defScope st) f cdv A outer s H E).nox (defBody st) t/\t { nx:=λ_ H'=>Q .non H',rt:=Q } (start N vs) H):FnOk P w K mg base CX0 (k+1) f fd ps sp:=by
  obtain ⟨oc,od,T,kV,doc,pm,an,cdv,ct,osl,to,n,rfl,lk,hcd,_⟩:=F.ex;refine Je lk hcd S len λA outer s H vs Q E hr hsp=>?_;obtain ⟨t,h,q⟩:=hbody cdv A outer s H vs Q E hr hsp;exact ⟨t,h.nox,q⟩
end
def Top(K:iC)(mg:Str->Option Value)(x:Str)(st:Stmt):Prop:=∃ (f:Addr) (fd:FuncData),Fun K x x st f fd/\mg x=some (.ref f)
def TopD(K:iC)(mg:Str->Option Value)(x:Str)(st:Stmt)(its:List Value):Prop:=∃ (f:Addr) (fd:FuncData),FunD K x x st f fd its/\mg x=some (.ref f)
variable {osl:Array (Option Value)}{h:Heap}{an od:Option Addr}{mg:Str->Option Value}{cdv ct doc oc pm:Value}
theorem top_mk{K:iC}{st:Stmt}{kV:Value}(X:K.In h)(G:h.Ns mainGlobals mg)(a:W.nsIn K mainGlobals x=some (some (.ref f)))(l:K.lookup f=some ⟨oc,od,.func (W.fnOf x x (defArgs st) (defBody st) (defScope st) .none kV doc pm an cdv ct),osl⟩)(c:W.codeIn K cdv x=true)(k:W.keepIn K (.ref f)=true):Top K mg x st:=⟨f,_,Gp l c k,dB X G a⟩
theorem topD_mk{K:iC}{st:Stmt}{T:Addr}{kV:Value}{n:Nat}{to:Obj}(X:K.In h)(G:h.Ns mainGlobals mg)(a:W.nsIn K mainGlobals x=some (some (.ref f)))(l:K.lookup f=some ⟨oc,od,.func (W.fnOf x x (defArgs st) (defBody st) (defScope st) (.ref T) kV doc pm an cdv ct),osl⟩)(c:W.codeIn K cdv x=true)(k:W.keepIn K (.ref f)=true)(t:K.lookup T=some to)(d:to.data=.seq its.toArray n):TopD K mg x st its:=⟨f,_,⟨⟨oc,od,T,kV,doc,pm,an,cdv,ct,osl,_,n,rfl,l,c,t,d⟩,k⟩,dB X G a⟩
theorem Top.own{P:Program}{w:World}{K:iC}{base:Heap}{k:Nat}{st:Stmt}(T:Top K mg x st)(hb:∀ (kV doc pm:Value) (an:Option Addr) (cdv ct:Value) (us:List Value),us.length=ps.length->bindArgs (W.fnOf x x (defArgs st) (defBody st) (defScope st) .none kV doc pm an cdv ct) ⟨us,[]⟩=pure (ps.zip us))(h:∀ f fd,Fun K x x st f fd->FnOk P w K mg base CX0 k f fd ps sp):Own P w K mg base k x ps [] sp:=by
  obtain ⟨f,fd,F,m⟩:=T;exact ⟨f,fd,[],h f fd F,m,F.kp,F.binds hb,.nil⟩
def NewL(xs:List V)(H:Hp)(Q:VK):Prop:=xs.length<=sizeLine/\∀ p,H p=none->Q (.ref p) (upd H p (.lst xs))
def NewT(xs:List V)(H:Hp)(Q:VK):Prop:=xs.length<=sizeLine/\∀ p,H p=none->Q (.ref p) (upd H p (.tup xs))
def rLen(K:iC):List V->Hp->VK->Prop:=λxs H Q=>∃ p ys,xs=[.ref p]/\(SqL K H p ys\/SqT K H p ys)/\Q (.int ys.length) H
def rAbs:List V->Hp->VK->Prop:=λxs H Q=>∃ i,xs=[.int i]/\Q (.int (if i<0 then -i else i)) H
def rInt:List V->Hp->VK->Prop:=λxs H Q=>(∃ i,xs=[.int i]/\Q (.int i) H)\/∃ k,xs=[.bl k]/\Q (.int (if k then 1 else 0)) H
theorem zt:y8 X (.builtin "len") (rLen X.K):=tV
theorem vG:y8 X (.builtin "abs") rAbs:=FK
theorem xy:y8 X (.type "int") rInt:=Ew
variable {g:Int->Int->V}{ta te:TE}{c:TT}
section
variable {σ:St}{H:Hp}{Q:VK}{B:Bool->Hp->Prop}{D:Ends}{K:iC}
theorem LA{t u:TS}(h:t { D with nx:=u D } σ H):tSeq t u D σ H:=h
theorem i_next(h:D.nx σ H):Kb D σ H:=h
theorem i_asg{g:TG}(h:te σ H λx H1=>g x σ H1 D.nx):tAsg te g D σ H:=h
theorem i_gname{i:Nat}{v:V}{R:St->Hp->Prop}(h:R (σ.set i (some v)) H):Cr i v σ H R:=h
theorem i_ret(h:te σ H D.rt):tRet te D σ H:=h
theorem i_drop(h:te σ H λ_ H1=>D.nx σ H1):IX te D σ H:=h
theorem i_ifS{t u:TS}(h:c σ H λb H1=>if b=true then t D σ H1 else u D σ H1):tIfS c t u D σ H:=h
theorem i_var{i:Nat}{v:V}(e:σ[i]?=some (some v))(h:Q v H):tVar i σ H Q:=⟨v,e,h⟩
theorem i_c{v:V}(h:Q v H):tC v σ H Q:=h
theorem i_op{r:R2}{tb:TE}(h:ta σ H λx H1=>tb σ H1 λy H2=>r x y H2 Q):tOp r ta tb σ H Q:=h
theorem i_un{r:V->Hp->VK->Prop}(h:ta σ H λx H1=>r x H1 Q):tUn r ta σ H Q:=h
theorem i_I0{i j:Int}(h:Q (g i j) H):rI0 g (.int i) (.int j) H Q:=⟨i,j,rfl,rfl,h⟩
theorem i_I{C:Int->Int->Prop}{i j:Int}(h:Q (g i j) H)(c:C i j):rI C g (.int i) (.int j) H Q:=⟨i,j,rfl,rfl,c,h⟩
theorem i_U{g:Int->V}{i:Int}(h:Q (g i) H):rU g (.int i) H Q:=⟨i,rfl,h⟩
theorem Ld{i j:Int}(h:Q (.bl (decide (i=j))) H):rEq (.int i) (.int j) H Q:=⟨rfl,by
  have e:decide (V.int i=V.int j)=decide (i=j):=by rw [tj]; exact gI i j
  rw [e]; exact h⟩
theorem Ma{i j:Int}(h:Q (.bl (!decide (i=j))) H):rNe (.int i) (.int j) H Q:=⟨rfl,by
  have e:decide (V.int i=V.int j)=decide (i=j):=by rw [tj]; exact gI i j
  rw [e]; exact h⟩
theorem KH{t:TE}(h:t σ H λx H'=>∃ k,x=.bl k/\B k H'):J2 t σ H B:=h
theorem i_tB{t:TE}(h:t σ H λx H'=>∃ k,x=.bl k/\B k H'):tB t σ H B:=h
theorem i_bl{k:Bool}{R:Bool->Prop}(h:R k):∃ k',V.bl k=.bl k'/\R k':=⟨k,rfl,h⟩
theorem LW{t u:TT}(h:t σ H λc H1=>if c=true then u σ H1 B else B false H1):tAnd t u σ H B:=h
theorem i_or{t u:TT}(h:t σ H λc H1=>if c=true then B true H1 else u σ H1 B):tOr t u σ H B:=h
theorem Lp{t:TT}(h:t σ H λc H1=>B (!c) H1):tNot t σ H B:=h
theorem IN{t u:TE}(h:t σ H λx H1=>∃ c,x=.bl c/\if c=true then u σ H1 Q else Q (.bl false) H1):KU t u σ H Q:=h
theorem LL{t u:TE}(h:t σ H λx H1=>∃ c,x=.bl c/\if c=true then Q (.bl true) H1 else u σ H1 Q):tOrV t u σ H Q:=h
theorem IL{t:TE}(h:t σ H λx H1=>∃ c,x=.bl c/\Q (.bl (!c)) H1):JU t σ H Q:=h
theorem Lv{tb:TE}(h:c σ H λb H1=>if b=true then ta σ H1 Q else tb σ H1 Q):tIf c ta tb σ H Q:=h
theorem Lh{R:List V->Hp->Prop}(h:R [] H):tNil σ H R:=h
theorem JZ{tr:TA}{R:List V->Hp->Prop}(h:ta σ H λx H1=>tr σ H1 λxs H2=>R (x::xs) H2):Ab ta tr σ H R:=h
theorem KA{E:XK}(h:t σ H λvs H1=>sp (vs++dvs) H1 Q E):HX sp dvs E t σ H Q:=h
theorem i_cb{r:List V->Hp->VK->Prop}(h:t σ H λvs H1=>r vs H1 Q):tCB r t σ H Q:=h
theorem Lm(h:t σ H λxs H1=>NewT xs H1 Q):tTup t σ H Q:=h
theorem Ll(h:t σ H λxs H1=>NewL xs H1 Q):tLst t σ H Q:=h
theorem yX{n:Nat}(h:n<=1000):n<=sizeLine:=bf (DP h)
theorem xn{p:Addr}{xs:List V}{i:Int}{v:V}(h:H p=some (.tup xs))(e:atI xs i=some v)(q:Q v H):rIxT K (.ref p) (.int i) H Q:=⟨p,xs,i,v,rfl,rfl,SqT.of h,e,q⟩
theorem zu{p:Addr}{xs:List V}{i:Int}{v:V}(h:H p=some (.lst xs))(e:atI xs i=some v)(q:Q v H):rIxL K (.ref p) (.int i) H Q:=⟨p,xs,i,v,rfl,rfl,SqL.of h,e,q⟩
theorem Jc{p:Addr}{xs:List V}(h:H p=some (.tup xs))(q:Q (.int xs.length) H):rLen K [.ref p] H Q:=⟨p,xs,rfl,.inr (SqT.of h),q⟩
theorem Jf{p:Addr}{xs:List V}(h:H p=some (.lst xs))(q:Q (.int xs.length) H):rLen K [.ref p] H Q:=⟨p,xs,rfl,.inl (SqL.of h),q⟩
theorem Lg{i:Int}(q:Q (.int (if i<0 then -i else i)) H):rAbs [.int i] H Q:=⟨i,rfl,q⟩
theorem Jm{k:Bool}(q:Q (.int (if k then 1 else 0)) H):rInt [.bl k] H Q:=.inr ⟨k,rfl,q⟩
theorem LP{i j:Nat}{ta:TA}(h:ta σ H λvs H1=>∃ v w,vs=[v,w]/\D.nx ((σ.set i (some v)).set j (some w)) H1):tPar i j ta D σ H:=h
theorem IZ{v w:V}{R:V->V->Prop}(h:R v w):∃ v' w',[v,w]=[v',w']/\R v' w':=⟨v,w,rfl,h⟩
end
theorem if_d{p A B:Prop}[Decidable p](h1:p->A)(h2:¬ p->B):if decide p=true then A else B:=by
  by_cases h:p
  . rw [h8 (iw h)]; exact h1 h
  . rw [h9 (by simp [h])]; exact h2 h
theorem AN{p A B:Prop}[Decidable p](h1:¬ p->A)(h2:p->B):if (!decide p)=true then A else B:=by
  by_cases h:p
  . rw [h9 (by simp [h])]; exact h2 h
  . rw [h8 (by simp [h])]; exact h1 h
theorem vK{α:Type}{x y:α}{A B:Prop}[Decidable (x=y)](e:x=y)(h:B):if (!decide (x=y))=true then A else B:=AN (λc=>absurd e c) λ_=>h
theorem if_t{A B:Prop}(h:A):if true=true then A else B:=by rw [h8 rfl]; exact h
theorem if_f{A B:Prop}(h:B):if false=true then A else B:=by rw [h9 aT]; exact h
theorem Jz{A B:Prop}(h:B):if (!true)=true then A else B:=by rw [h9 (by decide)]; exact h
theorem LE{A B:Prop}(h:A):if (!false)=true then A else B:=by rw [h8 (by decide)]; exact h
theorem zD{H:Hp}{p:Addr}(h:H p=none)(o:HO):Same H (upd H p o):=λb u q=>by rw [zl (zb q h)]; exact q
theorem Dx(x:Int):Bd (x.natAbs.log2+1) x:=by
  unfold Bd;exact Nat.lt_log2_self
theorem HN{j k:Nat}{x:Int}(h:Bd j x)(g:Bd k y):Bd (j+k+1) (x+y):=(h.mono (dj ..)).add (g.mono (Nat.le_add_left ..))
theorem Ii{j k:Nat}{x:Int}(h:Bd j x)(g:Bd k y):Bd (j+k+1) (x - y):=(h.mono (dj ..)).sub (g.mono (Nat.le_add_left ..))
variable {ds:List Value}
section
variable {P:Program}{w:World}{K:iC}{mg:Str->Option Value}{base:Heap}
theorem FunD.binds{st:Stmt}(F:FunD K x qual st f fd its)(h:∀ (T:Addr) (kV doc pm:Value) (an:Option Addr) (cdv ct:Value) (us:List Value),(us++ds).length=ps.length->∃ k:Option (Array Value)->Sem (List (Str×Value)),
      bindArgs (W.fnOf x qual (defArgs st) (defBody st) (defScope st) (.ref T) kV doc pm an cdv ct) ⟨us,[]⟩=seqItems? (.ref T) >>= k/\k (some its.toArray)=pure (ps.zip (us++ds))):Binds K fd ps ds:=by
  obtain ⟨oc,od,T,kV,doc,pm,an,cdv,ct,osl,to,n,rfl,lk,hcd,lT,hs⟩:=F.ex;intro s us KX hl;obtain ⟨k,h1,h2⟩:=h T kV doc pm an cdv ct us hl;exact BindsTo.of_defaults rfl (KX _ _ lT) hs h1 h2
theorem TopD.own{k:Nat}{st:Stmt}(T:TopD K mg x st its)(hb:∀ (T:Addr) (kV doc pm:Value) (an:Option Addr) (cdv ct:Value) (us:List Value),(us++ds).length=ps.length->∃ k:Option (Array Value)->Sem (List (Str×Value)),
      bindArgs (W.fnOf x x (defArgs st) (defBody st) (defScope st) (.ref T) kV doc pm an cdv ct) ⟨us,[]⟩=seqItems? (.ref T) >>= k/\k (some its.toArray)=pure (ps.zip (us++ds)))(hd:Vals dvs ds)(h:∀ f fd,FunD K x x st f fd its->FnOk P w K mg base CX0 k f fd ps sp):Own P w K mg base k x ps dvs sp:=by
  obtain ⟨f,fd,F,m⟩:=T;exact ⟨f,fd,ds,h f fd F,m,F.kp,F.binds hb,hd⟩
end
end L2
namespace Att
open PySem PySem.W PySem.Calls PyProof.Rows Bg
theorem vT{x:WData}:∀ {xs:List WData},x∈xs->WData.weight x<=WData.weightAll xs
  | [],h=>absurd h (by simp)
  | y::ys,h=>by
    simp only [WData.weightAll];rcases aN.mp h with e|e
    . subst e; omega
    . have:=vT e;omega
theorem Fi{ns:List Int}(h:WData.layableAll [WData.list (ns.map WData.int)]=true):∀ x∈ns,Bd 1048576 x:=λx hx=>by
  have h1:WData.layable (WData.list (ns.map WData.int))=true:=by simpa [WData.layableAll] using h
  unfold WData.layable at h1;rw [cQ] at h1;have h2:WData.weight (WData.list (ns.map WData.int))<=2 ^ 20:=of_decide_eq_true h1.2;simp only [WData.weight] at h2;have h3:WData.weight (WData.int x)<=WData.weightAll (ns.map WData.int):=vT (aY.mpr ⟨x,hx,rfl⟩);simp only [WData.weight] at h3;unfold Bd;by_cases z:x=0
  . subst z;exact Nat.pow_pos (by decide)
  . rw [h9 (by simpa using z)] at h3;have e:(2:Nat) ^ 20=1048576:=by decide
    exact (gW (by omega)).mp (by omega)
theorem attach_callB{l:OpenLaw}{n:Nat}{q:Program}{loose:List Str}{XP:(Str->Option Value)->Heap->Prop}{YP:World->Heap->Prop}{d:DefRec}(hn:l.most=some n)(hdf:d.params.defaults=[])(call:∀ (w:World) (s₀ s₁:Shared) (mg mb:Str->Option Value) (fa:Addr) (a:Addr) (vs:List Value) (ns:List Int),
      Ground q loose [] XP w s₀ mg mb s₁.heap->YP w s₁.heap->mg d.name=some (.ref fa) ->
      s₁.heap.get? a=some { cls:=.type "list",data:=.seq vs.toArray }->IntsAre vs ns->ns.length<=n->(∀ x∈ns,Bd 1048576 x)->s₁.gens=#[] ->
      codeAny (model l.prog w) callerA (.call (.ref fa) ⟨[.ref a],[]⟩) (λr s'=>r=.ok (.ret (.bool true))/\OldK s₁.heap s'.heap/\s'.os=s₁.os/\AllBare s'.gens) s₁) :
    WalkO q loose XP YP l.row.toRowW d [] (λf vs=>PySem.call f vs):=by
  intro w s₀ s₁ mg mb G Y fa o pm cd doc dV kV ho hd hcd hD hmg hg args vals as hpre hlay hrd hwl hlo;obtain ⟨a,vs,ns,rfl,rfl,hobj,hints,hlen⟩:=De hn hpre hwl;refine enter_call (ip (call w s₀ s₁ mg mb fa a vs ns G Y hmg hobj hints hlen (Fi hlay) hg) λr s' hq=>?_);obtain ⟨rfl,h2,h3,h4⟩:=hq;exact ⟨.inl ⟨.bool true,.bool true,[],rfl,λ_=>rfl,.bool true,Dr l _,λ_=>⟨List.Pairwise.nil,λ_ hm=>(nomatch hm)⟩⟩,h2,h3,h4⟩
end Att
namespace L2
open PySem PySem.Spec PyProof.Rows Bg
def FX(K:iC):Sp:=λvs H Q _=>∃ (a:Addr) (ns:List Int),vs=[.ref a]/\SqL K H a (ns.map V.int)/\ns.length<=63/\(∀ x∈ns,Bd 1048576 x)/\∀ H',Q (.bl true) H'
variable {x:Str}
theorem walk_B{l:PySem.W.OpenLaw}{k:Nat}{q:Program}{loose:List Str}{XP:(Str->Option Value)->Heap->Prop}{YP:World->Heap->Prop}{d:DefRec}{K:Params->iC}(hn:l.most=some 63)(hdf:d.params.defaults=[])(hr:Room k callerA)(hY:∀ (w:World) (h:Heap),YP w h->(K w.params).In h)(F:∀ (w:World) (mg:Str->Option Value) (fa:Addr) (h:Heap),(K w.params).In h->h.Ns mainGlobals mg->mg d.name=some (.ref fa) ->
      ∃ fd:FuncData,(∀ (s:Shared) (u:Value),BindsTo s fd ⟨[u],[]⟩ [(x,u)]) /\
        ∀ base:Heap,(K w.params).In base->base.Ns mainGlobals mg->FnOk l.prog w (K w.params) mg base CX0 k fa fd [x] (FX (K w.params))) :
    PySem.W.WalkO q loose XP YP l.row.toRowW d [] (λf vs=>PySem.call f vs):=by
  refine Att.attach_callB hn hdf λw s₀ s₁ mg mb fa a vs ns G Y hmg hobj hints hlen hbd hg=>?_;have KX:=hY w _ Y;obtain ⟨fd,hb,hF⟩:=F w mg fa _ KX G.T.g hmg;exact F3 KX G.T.g G.T.b G.T.builtins G.T.nolimit hg hobj hints (bK hlen (by decide)) hr hF hb (λH hO hS=>⟨a,ns,rfl,hS,hlen,hbd,λ_=>rfl⟩) λH e s' z=>z
theorem law_mk{P:Program}{w:World}{K:iC}{mg:Str->Option Value}{fa:Addr}{k:Nat}{st:Stmt}(T:Top K mg "law" st)(hfa:mg "law"=some (.ref fa))(hb:∀ (kV doc pm:Value) (an:Option Addr) (cdv ct:Value) (v:Value),bindArgs (W.fnOf "law" "law" (defArgs st) (defBody st) (defScope st) .none kV doc pm an cdv ct) ⟨[v],[]⟩=pure [(x,v)])(h:∀ base f fd,Fun K "law" "law" st f fd->FnOk P w K mg base CX0 k f fd [x] (FX K)) : ∃ fd:FuncData,(∀ (s:Shared) (u:Value),BindsTo s fd ⟨[u],[]⟩ [(x,u)])/\∀ base:Heap,K.In base->base.Ns mainGlobals mg->FnOk P w K mg base CX0 k fa fd [x] (FX K):=by
  obtain ⟨f,fd,F,m⟩:=T;have e:=hfa.symm.trans m;cases e
  obtain ⟨oc,od,kV,doc,pm,an,cdv,ct,osl,e1,lk,hcd⟩:=id F.ex;refine ⟨fd,λs u=>?_,λbase _ _=>h base _ _ F⟩;rw [e1];exact .of_eq (hb kV doc pm an cdv ct u)
end L2
namespace Bg
def fg(t b:Int):Int:=if b<0 then -((Int.gcd t b:Nat):Int) else ((Int.gcd t b:Nat):Int)
def fT(t b:Int):Int:=t.fdiv (fg t b)
def fB(t b:Int):Int:=b.fdiv (fg t b)
theorem FP(t b:Int):fg t b=gd t t b:=by
  have e:g3 t t b=Int.gcd t b:=by
    unfold g3;rw [c7 b t];have h:((Int.gcd t b:Nat):Int)∣t:=bG ..;rw [c7];have:=Int.gcd_eq_right_iff_dvd (a:=t) (b:=((Int.gcd t b:Nat):Int));rw [a9];rw [Nat.gcd_eq_right (bQ.mpr h)];simp
  unfold fg gd;rw [e]
theorem JN(t b:Int):fT t b=lA t t b:=by unfold fT lA; rw [FP]
theorem HW(t b:Int):fB t b=lN t t b:=by unfold fB lN; rw [FP]
variable {t:Int}
theorem f_b{b:Int}(h:b≠0):1<=fB t b:=by rw [HW]; exact l_n h
theorem f_t{b:Int}:fT t b*b=t*fB t b:=by rw [JN,HW]; exact l_a
theorem LG{b:Int}(h:b≠0):Int.gcd (fT t b) (fB t b)=1:=by
  have:=xQ (a:=t) (b:=t) (n:=b) h;rw [JN,HW];unfold g3 at this;have e:lB t t b=lA t t b:=rfl;rw [e] at this;have d:((Int.gcd (lN t t b) (lA t t b):Nat):Int)∣lA t t b:=bM ..;rw [a9,Nat.gcd_eq_left (bQ.mpr d),bV] at this;rw [c7];exact this
theorem Lf{b:Int}(h:b≠0):fg t b≠0:=by rw [FP]; exact Ho h
theorem LR{k:Nat}{b:Int}(h:b≠0)(hb:Bd k b):Bd k (fg t b):=by rw [FP]; exact Ip h hb
theorem GI(c x y z:Int):g3 (c*x) (c*y) (c*z)=c.natAbs*g3 x y z:=by
  unfold g3;rw [eP];have e1:((c.natAbs*Int.gcd z x:Nat):Int).gcd (c*y)=Int.gcd (c*(Int.gcd z x:Nat)) (c*y):=by
    rw [a9,a9];congr 1;rw [b9,bV,bV]
  rw [e1,eP]
variable {x y z:Int}
theorem BG{d:Int}(hx:d∣x)(hy:d∣y)(hz:d∣z):d∣(g3 x y z:Int):=dU (dU hz hx) hy
variable {x' y' z':Int}
theorem DT(hg:g3 x y z=1)(hx:x*z'=x'*z)(hy:y*z'=y'*z):z∣z':=by
  have h1:z∣z'*x:=⟨x',by rw [av z',hx,av]⟩
  have h2:z∣z'*y:=⟨y',by rw [av z',hy,av]⟩
  have h3:z∣z'*z:=⟨z',by rw [av]⟩
  have h:=BG h1 h2 h3;rw [GI,hg,gc] at h;exact Int.dvd_natAbs.mp h
theorem Gn(h1:1<=z)(h2:1<=z')(g1:g3 x y z=1)(g2:g3 x' y' z'=1)(hx:x*z'=x'*z)(hy:y*z'=y'*z):x=x'/\y=y'/\z=z':=by
  have d1:z∣z':=DT g1 hx hy;have d2:z'∣z:=DT g2 hx.symm hy.symm;have e:z=z':=by
    have a1:=g8 (by omega) d1;have a2:=g8 (by omega) d2;omega
  subst e;exact ⟨aC (by omega) hx,aC (by omega) hy,rfl⟩
theorem ym{a b n:Int}(h1:1<=z)(g1:g3 x y z=1)(hn:n≠0)(hx:x*n=a*z)(hy:y*n=b*z):x=lA a b n/\y=lB a b n/\z=lN a b n:=by
  refine Gn h1 (l_n hn) g1 (xQ hn) ?_ ?_
  . have e:=l_a (a:=a) (b:=b) (n:=n);refine aC hn ?_
    calc x*lN a b n*n=x*n*lN a b n:=by rw [ao,av (lN a b n),ao]
      _=a*z*lN a b n:=by rw [hx]
      _=a*lN a b n*z:=by rw [ao,av z,ao]
      _=lA a b n*n*z:=by rw [e]
      _=lA a b n*z*n:=by rw [ao,av n,ao]
  . have e:=l_b (a:=a) (b:=b) (n:=n);refine aC hn ?_
    calc y*lN a b n*n=y*n*lN a b n:=by rw [ao,av (lN a b n),ao]
      _=b*z*lN a b n:=by rw [hy]
      _=b*lN a b n*z:=by rw [ao,av z,ao]
      _=lB a b n*n*z:=by rw [e]
      _=lB a b n*z*n:=by rw [ao,av n,ao]
theorem Hs(h1:1<=z)(h2:1<=z')(g1:Int.gcd x z=1)(g2:Int.gcd x' z'=1)(hx:x*z'=x'*z):x=x'/\z=z':=by
  have k:∀ {a b:Int},Int.gcd a b=1->g3 a a b=1:=λ{a b} h=>by
    unfold g3;rw [c7 b a,h];simp
  have:=Gn h1 h2 (k g1) (k g2) hx hx;exact ⟨this.1,this.2.2⟩
theorem A9{k:Nat}(h:Bd k x):Bd k (x / y):=h.of_le (Int.natAbs_ediv_le_natAbs x y)
theorem Hm{k:Nat}(h:Bd k y)(hy:0<y):Bd k (x % y):=h.emod (by omega) x
theorem zR{k:Nat}{B:Int}(h0:0<=x)(h1:x<=B)(hB:B.natAbs<2 ^ k):Bd k x:=by
  unfold Bd;omega
theorem xN(k:Nat)(h0:-1000000<=x)(h1:x<=1000000)(hk:20<=k):Bd k x:=by
  have h:Bd 20 x:=by
    unfold Bd;have:(2:Nat) ^ 20=1048576:=by decide
    omega
  exact h.mono hk
theorem FT(a b:Int):Int.gcd (if a<0 then -a else a) (if b<0 then -b else b)=Int.gcd a b:=by
  have e:∀ x:Int,(if x<0 then -x else x)=(x.natAbs:Int):=λx=>by split <;> omega
  rw [e,e,a9,a9,bV,bV]
end Bg
namespace L2
open PySem PySem.Spec PyProof.Rows Bg
variable {l:Addr}{X:Cx}{g:TG}{t:TS}
section
variable {σ:St}{H:Hp}{Q:VK}{D:Ends}{K:iC}
def tCut(t:TS):TS:=λD σ H=>∃ T:St->Hp->Prop,(∀ σ' H',T σ' H'->D.nx σ' H')/\t { D with nx:=T } σ H
theorem vE{st:Stmt}(h:PS X st t):PS X st (tCut t):=by
  intro pins s σ H D I hw;obtain ⟨T,hT,hw⟩:=hw;refine thn (h pins s σ H _ I hw) λf s' q=>?_;cases f with
  | next=>obtain ⟨σ',H',I',q⟩:=q; exact ⟨σ',H',I',hT _ _ q⟩
  | brk=>exact q
  | cont=>exact q
  | ret v=>exact q
theorem AI{T:St->Hp->Prop}(h:t { D with nx:=T } σ H)(hT:∀ σ' H',T σ' H'->D.nx σ' H'):tCut t D σ H:=⟨T,hT,h⟩
theorem zC{xs:List V}(hl:xs.length<=1000)(h:∀ p H2,Same H H2->H2 p=some (.tup xs)->Q (.ref p) H2):NewT xs H Q :=
  ⟨yX hl,λp hp=>h p _ (zD hp _) zg⟩
theorem GX{xs:List V}(hl:xs.length<=1000)(h:∀ p H2,Same H H2->H2 p=some (.lst xs)->Q (.ref p) H2):NewL xs H Q :=
  ⟨yX hl,λp hp=>h p _ (zD hp _) zg⟩
theorem zy{xs:List V}(hl:xs.length<=1000)(h:∀ p H2,H p=none->Same H H2->H2 p=some (.lst xs)->Q (.ref p) H2):NewL xs H Q :=
  ⟨yX hl,λp hp=>h p _ hp (zD hp _) zg⟩
theorem Ke{b:Addr}{xs zs:List V}(h1:H l=some (.lst xs))(h2:H b=some (.lst zs))(hz:xs.length+zs.length<=1000)(h:∀ p H2,Same H H2->H2 p=some (.lst (xs++zs))->Q (.ref p) H2):rCat (.ref l) (.ref b) H Q :=
  ⟨l,b,xs,zs,rfl,rfl,h1,h2,yX hz,λp hp=>h p _ (zD hp _) zg⟩
theorem i_sl{r:V->Option Int->Option Int->Hp->VK->Prop}{te:TE}{tl th:TO}(h:te σ H λx H1=>tl σ H1 λl H2=>th σ H2 λu H3=>r x l u H3 Q):tSl r te tl th σ H Q:=h
theorem FC{R:Option Int->Hp->Prop}(h:R none H):DJ σ H R:=h
theorem Kk{t:TE}{R:Option Int->Hp->Prop}(h:t σ H λx H1=>∃ i,x=.int i/\R (some i) H1):Jo t σ H R:=h
theorem L5{k:Int}{R:Int->Prop}(h:R k):∃ k',V.int k=.int k'/\R k':=⟨k,rfl,h⟩
theorem yU{tl:TE}{tb:TS}(h:tl σ H λx H1=>∃ a,x=.ref a/\(∃ xs,SqL K H1 a xs)/\∃ W:Nat->Nat->St->Hp->Prop,(∃ m,W 0 m σ H1)/\∀ i m σ H,W i m σ H ->
  ((Itl K a).stop i H/\D.nx σ H)\/((Itl K a).go i H/\∃ N:St->Hp->Prop,(∀ σ' H',N σ' H'->∃ m',m'<m/\W (i+1) m' σ' H')/\∀ x H',(Itl K a).yld i H x H'->g x σ H' λσ2 H2=>tb { D with nx:=N,ct:=N,bk:=D.nx } σ2 H2)) :
  tFor (HB K tl) g tb D σ H:=h
end
def EqV(X:Cx)(n:Nat)(H:Hp)(x y:V)(b:Bool):Prop :=
  ∀ (pins:List (Addr×Obj)) (σ:St) (s:Shared) (v u:Value) (A:Around),Inv X pins σ H s->RelV x v->RelV y u->A.units+4*n<cLine->SeqAt.EqAt A s v u b
theorem EqV.int{X:Cx}{n:Nat}{H:Hp}(i j:Int):EqV X n H (.int i) (.int j) (i==j):=λ_ _ s v u A _ rv ru _=>by
  obtain ⟨t,rfl⟩:=rv;obtain ⟨t',rfl⟩:=ru;exact SeqAt.EqAt.int_int i t j t'
inductive EqVs(X:Cx)(n:Nat)(H:Hp):List V->List V->List Bool->Prop
  | nil:EqVs X n H [] [] []
  | cons {x y:V} {b:Bool} {xs ys:List V} {bs:List Bool}:EqV X n H x y b->EqVs X n H xs ys bs->EqVs X n H (x::xs) (y::ys) (b::bs)
theorem EqVs.at{X:Cx}{n:Nat}{H:Hp}:∀ {xs ys:List V} {bs:List Bool},EqVs X n H xs ys bs->∀ {j:Nat} {x y:V},xs[j]?=some x->ys[j]?=some y->EqV X n H x y (bs.getD j false)
  | _,_,_,.nil,j,x,y,h,_=>by simp at h
  | _,_,_,.cons e _,0,x,y,h1,h2=>by
    simp at h1 h2;subst h1; subst h2;exact e
  | _,_,_,.cons _ r,j+1,x,y,h1,h2=>by
    have:=EqVs.at r (j:=j) (x:=x) (y:=y) (by simpa using h1) (by simpa using h2);simpa using this
theorem EqVs.len{X:Cx}{n:Nat}{H:Hp}:∀ {xs ys:List V} {bs:List Bool},EqVs X n H xs ys bs->xs.length=bs.length/\ys.length=bs.length
  | _,_,_,.nil=>⟨rfl,rfl⟩
  | _,_,_,.cons _ r=>by
    have:=r.len;simp only [au];omega
theorem uI(bs:List Bool):((List.range bs.length).all λj=>bs.getD j false)=bs.all id:=by
  rw [cr];simp only [dJ,bC,id];constructor
  . intro h b hb;obtain ⟨j,hj,e⟩:=List.mem_iff_getElem.mp hb;have:=h j hj;rw [cY,ae hj] at this;rw [<-e];exact this
  . intro h j hj;rw [cY,ae hj];exact h _ (bH hj)
variable {a:Addr}{H:Hp}
theorem DK{n:Nat}{b:Addr}{xs ys:List V}{bs:List Bool}{pins:List (Addr×Obj)}{σ:St}{s:Shared}{A:Around}(ha:SqT X.K H a xs)(hb:SqT X.K H b ys)(he:EqVs X n H xs ys bs)(I:Inv X pins σ H s)(hu:A.units+4*(n+1)<cLine) : ∃ (is js:Array Value),s.heap.IsTuple a is/\s.heap.IsTuple b js/\(∀ j (h1:j<is.size) (h2:j<js.size),SeqAt.EqAt A.in1 s is[j] js[j] (bs.getD j false))/\((List.range (min is.size js.size)).all (λj=>bs.getD j false) && is.size==js.size)=bs.all id:=by
  obtain ⟨is,r1,p1,_⟩:=I.tuple ha;obtain ⟨js,r2,p2,_⟩:=I.tuple hb;obtain ⟨l1,l2⟩:=he.len;have q1:=r1.length;have q2:=r2.length;refine ⟨is.toArray,js.toArray,(show s.heap.IsTuple a is.toArray from p1),(show s.heap.IsTuple b js.toArray from p2),λj h1 h2=>?_,?_⟩
  . have hj1:j<xs.length:=by rw [q1]; simpa using h1
    have hj2:j<ys.length:=by rw [q2]; simpa using h2
    obtain ⟨v,ev,rv⟩:=r1.get (ae hj1);obtain ⟨u,eu,ru⟩:=r2.get (ae hj2);have e1:is.toArray[j]=v:=by
      have:is[j]?=some v:=ev;rw [ae (by simpa using h1)] at this;simpa using ax this
    have e2:js.toArray[j]=u:=by
      have:js[j]?=some u:=eu;rw [ae (by simpa using h2)] at this;simpa using ax this
    rw [e1,e2];exact he.at (ae hj1) (ae hj2) pins σ s v u A.in1 I rv ru (by show A.units+1+4*n<cLine; omega)
  . have e1:is.toArray.size=bs.length:=by rw [aG]; omega
    have e2:js.toArray.size=bs.length:=by rw [aG]; omega
    rw [e1,e2,Nat.min_self,uI];simp
theorem EqV.tup{X:Cx}{n:Nat}{H:Hp}{a b:Addr}{xs ys:List V}{bs:List Bool}(ha:SqT X.K H a xs)(hb:SqT X.K H b ys)(he:EqVs X n H xs ys bs)(hs:a=b->bs.all id=true):EqV X (n+1) H (.ref a) (.ref b) (bs.all id):=λpins σ s v u A I rv ru hu=>by
  cases rv
  cases ru
  by_cases hab:a=b
  . subst hab;rw [hs rfl];exact SeqAt.EqAt.same _
  . obtain ⟨is,js,p1,p2,hj,e⟩:=DK ha hb he I hu;have:=SeqAt.RcAt.tuples (A:=A) (e:=λj=>bs.getD j false) p1 p2 (by omega) hj;rw [e] at this;exact SeqAt.EqAt.of_refs hab this
def rEqT(X:Cx):R2:=λx y H Q=>∃ a b xs ys bs n,x=.ref a/\y=.ref b/\n<=9/\SqT X.K H a xs/\SqT X.K H b ys/\EqVs X n H xs ys bs/\Q (.bl (bs.all id)) H
def rNeT(X:Cx):R2:=λx y H Q=>∃ a b xs ys bs n,x=.ref a/\y=.ref b/\n<=9/\SqT X.K H a xs/\SqT X.K H b ys/\EqVs X n H xs ys bs/\Q (.bl (!(bs.all id))) H
theorem CV(hu:X.A.units+64<cLine):OpR X (compareOp .Eq) (rEqT X):=by
  intro pins s σ H x y v u Q I rx ry h;obtain ⟨a,b,xs,ys,bs,n,rfl,rfl,hn,ha,hb,he,q⟩:=h;cases rx
  cases ry
  obtain ⟨is,js,p1,p2,hj,e⟩:=DK (A:=X.A) ha hb he I (by omega);refine SeqAt.eq_tupleAt p1 p2 (by omega) hj ?_;rw [e];exact ⟨.bl _,H,I,rfl,q⟩
theorem CZ(hu:X.A.units+64<cLine):OpR X (compareOp .NotEq) (rNeT X):=by
  intro pins s σ H x y v u Q I rx ry h;obtain ⟨a,b,xs,ys,bs,n,rfl,rfl,hn,ha,hb,he,q⟩:=h;cases rx
  cases ry
  obtain ⟨is,js,p1,p2,hj,e⟩:=DK (A:=X.A) ha hb he I (by omega);refine SeqAt.RcNeAt.tuples p1 p2 (by omega) hj X.prog X.w X.xe _ ?_;rw [e];exact ⟨.bl _,H,I,rfl,q⟩
variable {x x' y y' z z':Int}
theorem i_eq3{Q:VK}{b:Addr}(ha:H a=some (.tup [.int x,.int y,.int z]))(hb:H b=some (.tup [.int x',.int y',.int z']))(q:Q (.bl (decide (x=x'/\y=y'/\z=z'))) H):rEqT X (.ref a) (.ref b) H Q:=by
  refine ⟨a,b,_,_,_,0,rfl,rfl,bS _,SqT.of ha,SqT.of hb,.cons (.int x x') (.cons (.int y y') (.cons (.int z z') .nil)),?_⟩;have e:([x==x',y==y',z==z']:List Bool).all id=decide (x=x'/\y=y'/\z=z'):=by
    rw [cr];simp
  rw [e];exact q
theorem LB{Q:VK}{b:Addr}(ha:H a=some (.tup [.int x,.int y,.int z]))(hb:H b=some (.tup [.int x',.int y',.int z']))(q:Q (.bl (!decide (x=x'/\y=y'/\z=z'))) H):rNeT X (.ref a) (.ref b) H Q:=by
  refine ⟨a,b,_,_,_,0,rfl,rfl,bS _,SqT.of ha,SqT.of hb,.cons (.int x x') (.cons (.int y y') (.cons (.int z z') .nil)),?_⟩;have e:([x==x',y==y',z==z']:List Bool).all id=decide (x=x'/\y=y'/\z=z'):=by
    rw [cr];simp
  rw [e];exact q
theorem Kc{Q:VK}{b:Addr}(ha:H a=some (.tup [.int x,.int z]))(hb:H b=some (.tup [.int x',.int z']))(q:Q (.bl (!decide (x=x'/\z=z'))) H):rNeT X (.ref a) (.ref b) H Q:=by
  refine ⟨a,b,_,_,_,0,rfl,rfl,bS _,SqT.of ha,SqT.of hb,.cons (.int x x') (.cons (.int z z') .nil),?_⟩;have e:([x==x',z==z']:List Bool).all id=decide (x=x'/\z=z'):=by
    rw [cr];simp
  rw [e];exact q
theorem eqv3{b:Addr}(ha:H a=some (.tup [.int x,.int y,.int z]))(hb:H b=some (.tup [.int x,.int y,.int z])):EqV X 1 H (.ref a) (.ref b) true:=by
  have e:([x==x,y==y,z==z]:List Bool).all id=true:=by simp
  have:=EqV.tup (X:=X) (n:=0) (SqT.of ha) (SqT.of hb) (.cons (.int x x) (.cons (.int y y) (.cons (.int z z) .nil))) (λ_=>e);rw [e] at this;exact this
def SameX(l:Addr)(H H':Hp):Prop:=∀ b o,H b=some o->b≠l->H' b=some o
theorem Same.sameX{H':Hp}(s:Same H H')(l:Addr):SameX l H H':=λb o e _=>s b o e
theorem SameX.trans{H1 H2:Hp}(a:SameX l H H1)(b:SameX l H1 H2):SameX l H H2:=λc o e n=>b c o (a c o e n) n
theorem SameX.tup{l p:Addr}{H H':Hp}{xs ys:List V}(s:SameX l H H')(h:H p=some (.tup xs))(hl:H l=some (.lst ys)):H' p=some (.tup xs):=s _ _ h (ya h hl (λz=>nomatch z))
section
variable {σ:St}{H:Hp}{Q:VK}{D:Ends}{K:iC}
theorem zp{xs:List V}{y:V}(h:H l=some (.lst xs))(hz:xs.length<1000)(q:∀ H2,SameX l H H2->H2 l=some (.lst (xs++[y]))->Q .non H2):yf (.ref l) [y] H Q :=
  ⟨l,xs,y,rfl,rfl,h,aE hz (yX (ai _)),q _ (λb o e n=>by rw [zl n]; exact e) zg⟩
theorem i_bm{T:String}{r:V->List V->Hp->VK->Prop}{to:TE}{t:TA}(h:to σ H λx H1=>tyV K T x H1/\t σ H1 λxs H2=>r x xs H2 Q):tBM K T r to t σ H Q:=h
theorem LJ{xs:List V}{R:Prop}(h:H l=some (.lst xs))(q:R):tyV K "list" (.ref l) H/\R:=⟨.inl ⟨rfl,_,SqL.of h⟩,q⟩
theorem wN{ta:TA}{tb:TS}(h:ta σ H λvs H1=>∃ j:Int,vs=[.int j]/\-(2 ^ 62)<=j/\j<2 ^ 62/\∃ W:Nat->Nat->St->Hp->Prop,(∃ m,W 0 m σ H1)/\∀ i m σ H,W i m σ H ->
  ((Itr 0 j.toNat).stop i H/\D.nx σ H)\/((Itr 0 j.toNat).go i H/\∃ N:St->Hp->Prop,(∀ σ' H',N σ' H'->∃ m',m'<m/\W (i+1) m' σ' H')/\∀ x H',(Itr 0 j.toNat).yld i H x H'->g x σ H' λσ2 H2=>tb { D with nx:=N,ct:=N,bk:=D.nx } σ2 H2)) :
  tFor (IF ta) g tb D σ H:=h
end
end L2
namespace Bg
local macro_rules | `(!4)=>`(by omega)
structure Rt(d:Int):Prop where
  lo:2<=d
  hi:d<=99
  ns:∀ k:Nat,((k*k:Nat):Int)≠d
variable {d:Int}
theorem Lz(h:2<=d/\d<=99)(n:d≠4/\d≠9/\d≠16/\d≠25/\d≠36/\d≠49/\d≠64/\d≠81):Rt d:=by
  refine ⟨h.1,h.2,λk e=>?_⟩;have hk:k<10:=by
    refine Nat.lt_of_not_le λz=>?_;have:10*10<=k*k:=Nat.mul_le_mul z z;omega
  have:k=0\/k=1\/k=2\/k=3\/k=4\/k=5\/k=6\/k=7\/k=8\/k=9:=by omega
  rcases this with q|q|q|q|q|q|q|q|q|q <;> subst q <;> omega
theorem irrN{D A B:Nat}(ns:∀ k:Nat,k*k≠D)(e:A*A=D*B*B):B=0:=by
  rcases Nat.eq_zero_or_pos B with z|hB
  . exact z
  exfalso;have hg:0<Nat.gcd A B:=Nat.gcd_pos_of_pos_right A hB;have hc:=Nat.coprime_div_gcd_div_gcd hg;obtain ⟨a,ha⟩:=Nat.gcd_dvd_left A B;obtain ⟨b,hb⟩:=Nat.gcd_dvd_right A B;have ea:A / Nat.gcd A B=a:=by rw [fh hg (Nat.gcd_dvd_left A B)]; exact ha
  have eb:B / Nat.gcd A B=b:=by rw [fh hg (Nat.gcd_dvd_right A B)]; exact hb
  rw [ea,eb] at hc;generalize Nat.gcd A B=g at *
  have e2:a*a=D*b*b:=by
    have h1:g*g*(a*a)=g*g*(D*b*b):=by
      rw [ha,hb] at e
      calc g*g*(a*a)=g*a*(g*a):=by simp only [hJ,Nat.mul_left_comm]
        _=D*(g*b)*(g*b):=e
        _=g*g*(D*b*b):=by simp only [hJ,Nat.mul_left_comm]
    exact dF (Nat.mul_pos hg hg) h1
  have d1:b∣a*a:=⟨D*b,by rw [e2,Nat.mul_comm b]⟩
  have d2:b∣a:=hc.symm.dvd_of_dvd_mul_left d1;have d3:b=1:=by
    have:b∣Nat.gcd a b:=Nat.dvd_gcd d2 (Nat.dvd_refl b);rw [show Nat.gcd a b=1 from hc] at this;exact Nat.dvd_one.mp this
  rw [d3,gc,gc] at e2;exact ns a e2
variable {a:Int}
theorem irr{b:Int}(h:Rt d)(e:a*a=d*b*b):b=0:=by
  have hd:(d.toNat:Int)=d:=Int.toNat_of_nonneg (by have:=h.lo; omega);have:=irrN (D:=d.toNat) (A:=a.natAbs) (B:=b.natAbs) (λk q=>h.ns k (by rw [q]; exact hd)) (by
    have h1:((a.natAbs*a.natAbs:Nat):Int)=((d.toNat*b.natAbs*b.natAbs:Nat):Int):=by
      have ea:((a.natAbs*a.natAbs:Nat):Int)=a*a:=Int.natAbs_mul_self;have eb:((b.natAbs*b.natAbs:Nat):Int)=b*b:=Int.natAbs_mul_self;rw [ea,hJ,Int.natCast_mul,eb,hd,<-ao];exact e
    exact dh h1)
  omega
def sgn(d a b:Int):Int:=if 0<=a/\0<=b then (if 0<a+b then 1 else 0) else if a<=0/\b<=0 then -1 else if 0<a then (if d*b*b<a*a then 1 else -1) else (if a*a<d*b*b then 1 else -1)
theorem Do{b:Int}(h:b≠0):0<b*b:=by
  rcases Int.lt_or_gt_of_ne h with q|q
  . exact dG q q
  . exact aZ q q
theorem Im{b:Int}(h:2<=d)(hb:b≠0):0<d*b*b:=by rw [ao]; exact aZ (!4) (Do hb)
def nrm(d a b:Int):Int:=a*a - d*b*b
theorem BU{b:Int}(h:Rt d)(e:nrm d a b=0):a=0/\b=0:=by
  unfold nrm at e;have hb:=irr (a:=a) (b:=b) h (!4);subst hb;rw [cL] at e;refine ⟨?_,rfl⟩;rcases Int.lt_trichotomy a 0 with q|q|q
  . have:=dG q q; omega
  . exact q
  . have:=aZ q q; omega
def sg(x:Int):Int:=if 0<x then 1 else if x<0 then -1 else 0
theorem y9{b:Int}(h:Rt d)(n:0<nrm d a b):sgn d a b=sg a:=by
  unfold nrm at n;have ha:a≠0:=λz=>by
    subst z;by_cases hb:b=0
    . subst hb; simp at n
    . have:=Im h.lo hb;omega
  unfold sgn sg
  repeat' split
  all_goals omega
theorem yC{b:Int}(h:Rt d)(n:nrm d a b<0):sgn d a b=sg b:=by
  unfold nrm at n;have hb:b≠0:=λz=>by
    subst z;rw [cL] at n;by_cases ha:a=0
    . subst ha; simp at n
    . have:=Do ha;omega
  unfold sgn sg
  repeat' split
  all_goals omega
theorem yr(d:Int):sgn d 0 0=0:=by simp [sgn]
theorem nrm_tri{b:Int}(h:Rt d):(0<nrm d a b)\/(nrm d a b<0)\/(a=0/\b=0):=by
  rcases Int.lt_trichotomy (nrm d a b) 0 with q|q|q
  . exact .inr (.inl q)
  . exact .inr (.inr (BU h q))
  . exact .inl q
theorem GQ(x:Int):sg (-x)=- sg x:=by unfold sg; repeat' split <;> omega
theorem Fc(d a b:Int):nrm d (-a) (-b)=nrm d a b:=by unfold nrm; rw [cM,ao,cM,<-ao]
theorem xw(h:Rt d)(a b:Int):sgn d (-a) (-b)=- sgn d a b:=by
  rcases nrm_tri (a:=a) (b:=b) h with q|q|⟨rfl,rfl⟩
  . rw [y9 h q,y9 h (by rw [Fc]; exact q),GQ]
  . rw [yC h q,yC h (by rw [Fc]; exact q),GQ]
  . rfl
theorem sg_cases(x:Int):(0<x/\sg x=1)\/(x<0/\sg x=-1)\/(x=0/\sg x=0):=by unfold sg; repeat' split <;> omega
theorem uv{k:Int}(hk:0<k)(x:Int):sg (k*x)=sg x:=by
  rcases sg_cases x with ⟨q,e⟩|⟨q,e⟩|⟨q,e⟩
  . have:=aZ hk q;rw [e]; unfold sg; rw [h8 this]
  . have:=c9 hk q;rw [e]; unfold sg; rw [h9 (!4),h8 this]
  . subst q; simp
theorem Fd(d k a b:Int):nrm d (k*a) (k*b)=k*k*nrm d a b:=by
  unfold nrm;rw [fi];congr 1
  . simp only [ao,br]
  . simp only [ao,br,av d]
theorem xC{k:Int}(h:Rt d)(hk:0<k)(a b:Int):sgn d (k*a) (k*b)=sgn d a b:=by
  have kk:0<k*k:=aZ hk hk;rcases nrm_tri (a:=a) (b:=b) h with q|q|⟨rfl,rfl⟩
  . rw [y9 h q,y9 h (by rw [Fd]; exact aZ kk q),uv hk]
  . rw [yC h q,yC h (by rw [Fd]; exact c9 kk q),uv hk]
  . simp
variable {a' b':Int}
theorem xm{k m b:Int}(h:Rt d)(hk:0<k)(hm:0<m)(ea:k*a=m*a')(eb:k*b=m*b'):sgn d a b=sgn d a' b':=by
  rw [<-xC h hk a b,<-xC h hm a' b',ea,eb]
theorem Gd(d a b a' b':Int):nrm d (a*a'+d*b*b') (a*b'+b*a')=nrm d a b*nrm d a' b':=by
  unfold nrm;simp only [Int.mul_add,Int.add_mul,fi,gU];have e1:a*a'*(a*a')=a*a*(a'*a'):=by simp only [ao,br]
  have e2:d*b*b'*(d*b*b')=d*b*b*(d*b'*b'):=by simp only [ao,br]
  have e3:d*(a*b')*(a*b')=a*a*(d*b'*b'):=by simp only [ao,br]
  have e4:d*(b*a')*(b*a')=d*b*b*(a'*a'):=by simp only [ao,br,av]
  have e5:d*b*b'*(a*a')=d*(b*a')*(a*b'):=by simp only [ao,br,av]
  have e6:a*a'*(d*b*b')=d*(a*b')*(b*a'):=by simp only [ao,br,av]
  omega
theorem wo{x y:Int}(hx:0<x)(h:y*y<x*x):-x<y/\y<x:=by
  constructor
  . refine eM λz=>?_;have:x*x<=(-y)*(-y):=fG (!4) (!4) (!4) (!4);rw [cM] at this;omega
  . refine eM λz=>?_;have:x*x<=y*y:=fG z z (!4) (!4);omega
theorem xo{p q r s:Int}(h1:p<q)(h2:r<s)(hp:0<=p)(hr:0<=r):p*r<q*s:=by
  have a1:p*r<=p*s:=eK (!4) hp;have a2:p*s<q*s:=Int.mul_lt_mul_of_pos_right h1 (!4);omega
theorem CF(x:Int):0<=x*x:=by
  by_cases h:x=0
  . subst h; simp
  . exact Int.le_of_lt (Do h)
theorem Ay(h:2<=d)(x:Int):0<=d*x*x:=by rw [ao]; exact fH (!4) (CF x)
theorem B7{b:Int}(h:Rt d)(h1:sgn d a b=1)(h2:sgn d a' b'=1):sgn d (a*a'+d*b*b') (a*b'+b*a')=1:=by
  have hd:=h.lo;have np:=Gd d a b a' b';rcases nrm_tri (a:=a) (b:=b) h with q|q|⟨rfl,rfl⟩
  . have sa:0<a:=by rw [y9 h q] at h1; unfold sg at h1; split at h1 <;> omega
    rcases nrm_tri (a:=a') (b:=b') h with q' | q' | ⟨rfl,rfl⟩
    . have sa':0<a':=by rw [y9 h q'] at h2; unfold sg at h2; split at h2 <;> omega
      have n:0<nrm d (a*a'+d*b*b') (a*b'+b*a'):=by rw [np]; exact aZ q q'
      rw [y9 h n];unfold nrm at q q';have k:=xo (p:=d*b*b) (q:=a*a) (r:=d*b'*b') (s:=a'*a') (!4) (!4) (Ay hd b) (Ay hd b');have e1:d*b*b*(d*b'*b')=(d*b*b')*(d*b*b'):=by simp only [ao,br]
      have e2:a*a*(a'*a')=a*a'*(a*a'):=by simp only [ao,br]
      rw [e1,e2] at k;have:=(wo (aZ sa sa') k).1;unfold sg;rw [h8 (!4)]
    . have sb':0<b':=by rw [yC h q'] at h2; unfold sg at h2; split at h2 <;> omega
      have n:nrm d (a*a'+d*b*b') (a*b'+b*a')<0:=by rw [np]; exact c9 q q'
      rw [yC h n];unfold nrm at q q';have k:=xo (p:=d*b*b) (q:=a*a) (r:=a'*a') (s:=d*b'*b') (!4) (!4) (Ay hd b) (CF a');have e1:d*b*b*(a'*a')=d*(b*a'*(b*a')):=by simp only [ao,br]
      have e2:a*a*(d*b'*b')=d*(a*b'*(a*b')):=by simp only [ao,br]
      rw [e1,e2] at k;have k':=fI k (!4);have:=(wo (aZ sa sb') k').1;unfold sg;rw [h8 (!4)]
    . rw [yr] at h2; omega
  . have sb:0<b:=by rw [yC h q] at h1; unfold sg at h1; split at h1 <;> omega
    rcases nrm_tri (a:=a') (b:=b') h with q' | q' | ⟨rfl,rfl⟩
    . have sa':0<a':=by rw [y9 h q'] at h2; unfold sg at h2; split at h2 <;> omega
      have n:nrm d (a*a'+d*b*b') (a*b'+b*a')<0:=by rw [np]; exact Int.mul_neg_of_neg_of_pos q q'
      rw [yC h n];unfold nrm at q q';have k:=xo (p:=a*a) (q:=d*b*b) (r:=d*b'*b') (s:=a'*a') (!4) (!4) (CF a) (Ay hd b');have e1:a*a*(d*b'*b')=d*(a*b'*(a*b')):=by simp only [ao,br]
      have e2:d*b*b*(a'*a')=d*(b*a'*(b*a')):=by simp only [ao,br]
      rw [e1,e2] at k;have k':=fI k (!4);have:=(wo (aZ sb sa') k').1;unfold sg;rw [h8 (!4)]
    . have sb':0<b':=by rw [yC h q'] at h2; unfold sg at h2; split at h2 <;> omega
      have n:0<nrm d (a*a'+d*b*b') (a*b'+b*a'):=by rw [np]; exact dG q q'
      rw [y9 h n];unfold nrm at q q';have k:=xo (p:=a*a) (q:=d*b*b) (r:=a'*a') (s:=d*b'*b') (!4) (!4) (CF a) (CF a');have e1:a*a*(a'*a')=a*a'*(a*a'):=by simp only [ao,br]
      have e2:d*b*b*(d*b'*b')=(d*b*b')*(d*b*b'):=by simp only [ao,br]
      rw [e1,e2] at k;have:=(wo (aZ (aZ (!4) sb) sb') k).1;unfold sg;rw [h8 (!4)]
    . rw [yr] at h2; omega
  . rw [yr] at h1; omega
theorem sgn_tri(h:Rt d)(a b:Int):sgn d a b=1\/sgn d a b=-1\/(a=0/\b=0):=by
  rcases nrm_tri (a:=a) (b:=b) h with q|q|q
  . have ha:a≠0:=λz=>by
      subst z;unfold nrm at q;have:=Ay h.lo b;omega
    rw [y9 h q];rcases sg_cases a with ⟨_,e⟩|⟨_,e⟩|⟨e,_⟩
    . exact .inl e
    . exact .inr (.inl e)
    . exact absurd e ha
  . have hb:b≠0:=λz=>by
      subst z;unfold nrm at q;rw [cL] at q;have:=CF a;omega
    rw [yC h q];rcases sg_cases b with ⟨_,e⟩|⟨_,e⟩|⟨e,_⟩
    . exact .inl e
    . exact .inr (.inl e)
    . exact absurd e hb
  . exact .inr (.inr q)
theorem B6{b:Int}(h:Rt d):sgn d (a*a'+d*b*b') (a*b'+b*a')=sgn d a b*sgn d a' b':=by
  have neg1:∀ a b,sgn d a b=-1->sgn d (-a) (-b)=1:=λa b e=>by rw [xw h,e]; rfl
  rcases sgn_tri h a b with p|p|⟨rfl,rfl⟩
  . rcases sgn_tri h a' b' with q | q | ⟨rfl,rfl⟩
    . rw [B7 h p q,p,q]; rfl
    . have:=B7 h p (neg1 _ _ q);have e1:a*-a'+d*b*-b'=-(a*a'+d*b*b'):=by rw [gf,gf,gY]
      have e2:a*-b'+b*-a'=-(a*b'+b*a'):=by rw [gf,gf,gY]
      rw [e1,e2,xw h] at this;rw [p,q]; omega
    . simp [yr]
  . rcases sgn_tri h a' b' with q | q | ⟨rfl,rfl⟩
    . have:=B7 h (neg1 _ _ p) q;have e1:-a*a'+d*-b*b'=-(a*a'+d*b*b'):=by rw [dw,gf,dw,gY]
      have e2:-a*b'+-b*a'=-(a*b'+b*a'):=by rw [dw,dw,gY]
      rw [e1,e2,xw h] at this;rw [p,q]; omega
    . have:=B7 h (neg1 _ _ p) (neg1 _ _ q);have e1:-a*-a'+d*-b*-b'=a*a'+d*b*b':=by rw [cM,ao d,cM,<-ao]
      have e2:-a*-b'+-b*-a'=a*b'+b*a':=by rw [cM,cM]
      rw [e1,e2] at this;rw [this,p,q]; rfl
    . simp [yr]
  . simp [yr]
theorem uu{b:Int}(h:0<=a)(k:0<=b):sgn d a b=if 0<a+b then 1 else 0:=by unfold sgn; rw [h8 ⟨h,k⟩]
theorem GJ{b:Int}(n:¬ (0<=a/\0<=b))(h:a<=0)(k:b<=0):sgn d a b=-1:=by unfold sgn; rw [h9 n,h8 ⟨h,k⟩]
theorem EY{b:Int}(h:0<a)(k:b<0):sgn d a b=if d*b*b<a*a then 1 else -1:=by unfold sgn; rw [h9 (!4),h9 (!4),h8 h]
theorem DC{b:Int}(h:a<0)(k:0<b):sgn d a b=if a*a<d*b*b then 1 else -1:=by unfold sgn; rw [h9 (!4),h9 (!4),h9 (!4)]
end Bg
namespace L2
open PySem PySem.Spec PyProof.Rows Bg
theorem xW(env:Env):∀ (names:List (Str×NameKind)) (acc:List (Str×Addr)),(∀ y∈names,y.2=.free->∃ c,env.cells.lookup y.1=some c)->(∀ x c,acc.lookup x=some c->env.cells.lookup x=some c) -> ∃ cl, (forIn names acc (fun (x : Str × NameKind) (r : List (Str × Addr)) => if (x.snd == NameKind.free) = true then do
                  let a <-cellOf env x.fst
                  pure (ForInStep.yield ((x.fst,a)::r))
                else pure (ForInStep.yield r)):Sem (List (Str×Addr)))=pure cl/\(∀ x c,cl.lookup x=some c->env.cells.lookup x=some c) /\
      ∀ x,((∃ c,acc.lookup x=some c)\/∃ y∈names,y.1=x/\y.2=.free)->∃ c,cl.lookup x=some c
  | [],acc,_,ha=>⟨acc,rfl,ha,λx h=>by
      rcases h with h|⟨y,hy,_⟩
      . exact h
      . simp at hy⟩
  | y::r,acc,hn,ha=>by
    by_cases hf:y.2=.free
    . obtain ⟨c,hc⟩:=hn y aB hf;obtain ⟨cl,e,h1,h2⟩:=xW env r ((y.1,c)::acc) (λz hz=>hn z (ay _ hz)) (λx d hx=>by
        rw [cv] at hx;split at hx
        . rename_i q;have q':x=y.1:=by simpa using q
          rw [q',hc]; exact hx
        . exact ha x d hx)
      refine ⟨cl,?_,h1,λx h=>h2 x ?_⟩
      . rw [List.forIn_cons,h8 (by rw [hf]; rfl)];unfold cellOf;rw [hc];exact e
      . by_cases q:x=y.1
        . exact .inl ⟨c,by rw [cv,q]; simp⟩
        . rcases h with ⟨d,hd⟩ | ⟨z,hz,e1,e2⟩
          . exact .inl ⟨d,by
              rw [cv];have:(x==y.1)=false:=by simpa using q
              rw [this]; exact hd⟩
          . rcases aN.mp hz with e3 | e3
            . subst e3; exact absurd e1.symm q
            . exact .inr ⟨z,e3,e1,e2⟩
    . obtain ⟨cl,e,h1,h2⟩:=xW env r acc (λz hz=>hn z (ay _ hz)) ha;refine ⟨cl,?_,h1,λx h=>h2 x ?_⟩
      . rw [List.forIn_cons,h9 (by simpa using hf)];exact e
      . rcases h with h | ⟨z,hz,e1,e2⟩
        . exact .inl h
        . rcases aN.mp hz with e3 | e3
          . subst e3; exact absurd e2 hf
          . exact .inr ⟨z,e3,e1,e2⟩
variable {scope:Scope}
theorem CP{env:Env}(h:∀ y∈scope.names,y.2=.free->∃ c,env.cells.lookup y.1=some c) : ∃ cl,closureFor scope env=pure cl/\(∀ x c,cl.lookup x=some c->env.cells.lookup x=some c)/\∀ y∈scope.names,y.2=.free->∃ c,cl.lookup y.1=some c:=by
  obtain ⟨cl,e,h1,h2⟩:=xW env scope.names [] h (λx c q=>by simp at q);refine ⟨cl,?_,h1,λy hy hf=>h2 y.1 (.inr ⟨y,hy,rfl,hf⟩)⟩;exact congrArg (λz:Sem (List (Str×Addr))=>z >>= λcs=>pure cs) e
variable {elt iter:Expr}{ifs:List Expr}{pos:Pos}
section
variable {prog:Program}{w:World}{A:Around}{R:Result->Shared->Prop}{s:Shared}
abbrev NoX:Value->Shared->Prop:=λ_ _=>False
theorem wj{target:Expr}{it acc:Value}{env:Env}(I:Nat->Shared->Prop)(turn:∀ n s,I n s->wpAny (model prog w) A (pyNext it) (λr s₁=>match r with
      | none=>R (.ok .next) s₁
      | some v=>wpAny (model prog w) A (letOwnedTupleGo target it v) (λ_ s₁'=>wpAny (model prog w) A (assign target env v) (λ_ s₂ =>
          wpAny (model prog w) A (forIn ifs true λc r=>if r=true then do let ok <-isTrue c env (eval c env); pure (ForInStep.yield ok) else pure (ForInStep.yield r)) (λok s₃ =>
            if ok=true then wpAny (model prog w) A (eval elt env) (λx s₄ =>
              wpAny (model prog w) A (call (.builtin "list.append") [acc,x]) (λ_ s₅=>∃ m,m<n/\I m s₅) NoX s₄) NoX s₃
            else ∃ m,m<n/\I m s₃) NoX s₂) NoX s₁') NoX s₁) NoX s)(n:Nat)(h:I n s) :
    codeAny (model prog w) A (.compLoop (.ListComp elt [⟨target,iter,ifs,0⟩] scope pos) 0 it acc env) R s:=by
  refine codeAny_loop rfl I (λn s hI=>?_) n h;show wpAny _ A ((compTurn (.ListComp elt [⟨target,iter,ifs,0⟩] scope pos) 0 it acc env).onRaise (λx=>do noteFrame x env; theTreesLotGoes x)) _ _ s;refine wpAny_noted ?_;rw [compTurn_list];refine ii (wpAny_standAt (ii (ia (turn n s hI) (λr s₁ h₁=>?_) λ_ _ h'=>h'.elim)));cases r with
  | none=>exact ij h₁
  | some v =>
    refine ii (ia h₁ (λ_ s₁' h₁'=>?_) λ_ _ h'=>h'.elim);refine ii (ia h₁' (λ_ s₂ h₂=>ii (ia h₂ (λok s₃ h₃=>?_) λ_ _ h'=>h'.elim)) λ_ _ h'=>h'.elim);cases ok with
    | false=>exact ij ⟨rfl,h₃⟩
    | true =>
      exact ii (ii (ia h₃ (λx s₄ h₄=>ii (ia h₄ (λ_ s₅ h₅=>ij (ij ⟨rfl,h₅⟩)) λ_ _ h'=>h'.elim)) λ_ _ h'=>h'.elim))
end
theorem yQ{env:Env}(hk:env.scope.kind=.function):∀ {names:List (Str×NameKind)} {x:Str},names.lookup x=some .free->env.kindOf x=some .cell -> (names.map λ(n,k)=>if (k==NameKind.free && env.scope.kind==.function && env.kindOf n==some .cell) then (n,NameKind.cell) else (n,k)).lookup x=some .cell
  | [],_,h,_=>by simp at h
  | (n,k)::r,x,h,he=>by
    have ih:=@yQ env hk r x;show List.lookup x ((if (k==NameKind.free && env.scope.kind==.function && env.kindOf n==some .cell)=true then (n,NameKind.cell) else (n,k))::_)=_;cases hx:x==n with
    | true =>
      simp only [cv,hx] at h;cases h
      have hxn:x=n:=by simpa using hx
      subst hxn;have hc:(NameKind.free==NameKind.free && env.scope.kind==.function && env.kindOf x==some .cell)=true:=by rw [hk,he]; rfl
      rw [h8 hc];simp [cv]
    | false =>
      simp only [cv,hx] at h;by_cases hc:(k==NameKind.free && env.scope.kind==.function && env.kindOf n==some .cell)=true
      . rw [h8 hc]; simp only [cv,hx]; exact ih h he
      . rw [h9 hc]; simp only [cv,hx]; exact ih h he
theorem uo{env:Env}:∀ {names:List (Str×NameKind)} {x:Str} {k:NameKind},(∀ y∈names,y.2≠.cell)->(k=.cell\/k=.free) -> (names.map λ(n,k)=>if (k==NameKind.free && env.scope.kind==.function && env.kindOf n==some .cell) then (n,NameKind.cell) else (n,k)).lookup x=some k->∃ y∈names,y.1=x/\y.2=.free
  | [],_,_,_,_,h=>by simp at h
  | (n,k)::r,x,k',hn,hk,h=>by
    have h':List.lookup x ((if (k==NameKind.free && env.scope.kind==.function && env.kindOf n==some .cell)=true then (n,NameKind.cell) else (n,k))::_)=some k':=h;have ih:=@uo env r x k' (λy hy=>hn y (ay _ hy)) hk;have kn:k≠.cell:=hn (n,k) aB;by_cases hc:(k==NameKind.free && env.scope.kind==.function && env.kindOf n==some .cell)=true
    . rw [h8 hc,cv] at h';have kf:k=.free:=by
        rw [cQ,cQ] at hc;simpa using hc.1.1
      cases hx:x==n with
      | true =>
        have hxn:x=n:=by simpa using hx
        exact ⟨(n,k),aB,hxn.symm,kf⟩
      | false =>
        rw [hx] at h';obtain ⟨y,hy,q⟩:=ih h';exact ⟨y,ay _ hy,q⟩
    . rw [h9 hc,cv] at h';cases hx:x==n with
      | true =>
        have hxn:x=n:=by simpa using hx
        rw [hx] at h';have e:k=k':=ax h';refine ⟨(n,k),aB,hxn.symm,?_⟩;rcases hk with q|q
        . exact absurd (e.trans q) kn
        . exact e.trans q
      | false =>
        rw [hx] at h';obtain ⟨y,hy,q⟩:=ih h';exact ⟨y,ay _ hy,q⟩
variable {ns:List (Str×NameKind)}
theorem AH(h:(scope.names.all λy=>y.2 != .free || ns.lookup y.1==some .cell)=true):∀ y∈scope.names,y.2=.free->ns.lookup y.1=some .cell:=λy hy hf=>by
  have:=dJ.mp h y hy;rw [hf] at this;simpa using this
variable {js:List Nat}
theorem HI{N:List Str}(h:(js.all λj=>scope.names.lookup (N.getD j Str.empty)==some .free && ns.lookup (N.getD j Str.empty)==some .cell)=true):∀ j∈js,scope.names.lookup (N.getD j Str.empty)=some .free/\ns.lookup (N.getD j Str.empty)=some .cell:=λj hj=>by
  have:=dJ.mp h j hj;rw [cQ] at this;exact ⟨eq_of_beq this.1,eq_of_beq this.2⟩
theorem AQ(h:(scope.names.all λy=>y.2 != .cell)=true):∀ y∈scope.names,y.2≠.cell:=λy hy=>by
  have:=dJ.mp h y hy;simpa using this
theorem uG(h:(scope.names.all λy=>y.2 != .local || scope.names.lookup y.1==some .local)=true):∀ y∈scope.names,y.2=.local->scope.names.lookup y.1=some .local:=λy hy hf=>by
  have:=dJ.mp h y hy;rw [hf] at this;simpa using this
def ub(n:Nat)(js:List Nat)(σ:St):St:=List.replicate n none++js.map λj=>(σ[j]?).join
def z9(X:Cx)(scope:Scope)(cl:List (Str×Addr))(own:List Str)(js:List Nat)(fp:List Addr)(C:Addr)(s3:Shared)(H3:Hp):Cx :=
  { X with N:=own++js.map (λj=>X.N.getD j Str.empty),s₀:=s3,H₀:=H3,env:=compEnvC scope cl C X.env,outer:=X.stack,ex:=fp,fn:=λ_=>false,pn:=[],xe:=λ_ _=>False }
def PIfs(X:Cx)(ifs:List Expr)(t:TT):Prop:=∀ (pins:List (Addr×Obj)) (s:Shared) (σ:St) (H:Hp) (Q:Bool->Hp->Prop),Inv X pins σ H s->t σ H Q ->
  wpAny (model X.prog X.w) X.A (forIn ifs true λc r=>if r=true then do let ok <-isTrue c X.env (eval c X.env); pure (ForInStep.yield ok) else pure (ForInStep.yield r)) (TP X pins σ Q) X.xe s
def tAll:TT:=λ_ H B=>B true H
variable {X:Cx}
theorem zP:PIfs X [] tAll:=λ_ _ _ H _ I h=>wpAny_tests_nil ⟨H,I,h⟩
theorem tw{c:Expr}{t:TT}(h:PT X c t):PIfs X [c] t:=λpins s σ H Q I q=>wpAny_tests_one (h pins s σ H Q I q)
def AE(wi:TI)(g:TG)(tc:TT)(te:TE)(n:Nat)(js:List Nat):TE:=λσ H Q=>wi σ H λJ H1=>∀ D,H1 D=none->∃ W:Nat->Nat->St->Hp->Prop,(∃ m,W 0 m (ub n js σ) (upd H1 D (.lst []))) /\
  ∀ i m σ' H',W i m σ' H'->(J.stop i H'/\Q (.ref D) H')\/(J.go i H'/\∀ x H2,J.yld i H' x H2->g x σ' H2 λσ3 H3=>tc σ3 H3 λb H4 =>
    if b=true then te σ3 H4 λv H5=>yf (.ref D) [v] H5 λ_ H6=>∃ m',m'<m/\W (i+1) m' σ3 H6 else ∃ m',m'<m/\W (i+1) m' σ3 H4)
section
variable {X:Cx}{pins:List (Addr×Obj)}{σ:St}{H:Hp}{s:Shared}{scope:Scope}{cl:List (Str×Addr)}{own:List Str}{js:List Nat}{fp:List Addr}
theorem El(I:Inv X pins σ H s)(hkind:scope.kind=.function)(hcell:∀ y∈scope.names,y.2≠.cell)(cl1:∀ x c,cl.lookup x=some c->X.env.cells.lookup x=some c)(cl2:∀ y∈scope.names,y.2=.free->∃ c,cl.lookup y.1=some c)(hf:∀ b∈fp,FpOk X pins H b)(hl:∀ b∈fp,b<s.heap.objs.size):(z9 X scope cl own js fp s.heap.objs.size s H).Ok:=by
  have hno:∀ b o,X.base.get? b=some o->b∉fp:=λb o e hb=>by
    rcases (hf b hb).2.2.2.1 with z|z
    . exact I.ok.noex b o e z
    . exact absurd (aE (Heap.lt_size e) (bK I.ok.bsz z)) (cS _)
  have hex:∀ b∈fp,b∉frs X.stack:=λb hb z=>by
    rcases aN.mp (I.stkSub b z) with e|e
    . exact (hf b hb).2.1 e
    . exact (hf b hb).2.2.1 e
  exact ⟨I.ok.mod,hkind,I.ok.glob,I.ok.blt,ai _,λx y c h1 h2=>I.ok.inj x y c (cl1 x c h1) (cl1 y c h2),
    λx hx=>by
      have hx':(∃ k,(k=NameKind.cell\/k=.free)/\(relabel scope X.env).names.lookup x=some k):=by
        rcases hx with z|z
        . exact ⟨_,.inl rfl,z⟩
        . exact ⟨_,.inr rfl,z⟩
      obtain ⟨k,hk,z⟩:=hx';obtain ⟨y,hy,e1,e2⟩:=uo hcell hk z;obtain ⟨c,hc⟩:=cl2 y hy e2;exact ⟨c,by rw [<-e1]; exact hc⟩,
    λx c h _=>absurd h (by show ¬ (false=true); decide),I.ok.hd,I.ok.frames,.inl rfl,
    λb hb=>⟨az (hl b hb),λx c e=>(hf b hb).2.2.2.2.1 x c (cl1 x c e)⟩,
    I.bs,bK I.ok.bsz I.sz,hno,hex,I.stack,I.stkFree⟩
theorem Gb{h₁:Heap}{m:Str->Option Value}{t':Nat}(I:Inv X pins σ H s)(hkind:scope.kind=.function)(hcell:∀ y∈scope.names,y.2≠.cell)(cl1:∀ x c,cl.lookup x=some c->X.env.cells.lookup x=some c)(cl2:∀ y∈scope.names,y.2=.free->∃ c,cl.lookup y.1=some c)(hjs:∀ j∈js,scope.names.lookup (X.N.getD j Str.empty)=some .free/\X.env.scope.names.lookup (X.N.getD j Str.empty)=some .cell)(hf:∀ b∈fp,FpOk X pins H b)(hl:∀ b∈fp,b<s.heap.objs.size)(hn:h₁.Ns s.heap.objs.size m)(k:∀ b o,s.heap.get? b=some o->h₁.get? b=some o) : Inv (z9 X scope cl own js fp s.heap.objs.size s H) [] (ub own.length js σ) H { s with heap:=h₁,toks:=t' }:=by
  refine ⟨El I hkind hcell cl1 cl2 hf hl,rfl,I.bare,Un.kept k,⟨m,hn,λi x v h1 h2 h3=>?_⟩,λx c e=>?_,I.hok.fresh (ai _),λx c e=>I.freeC x c (cl1 x c e),λp hp=>absurd (show p∈([]:List (Addr×Obj)) from hp) (by simp),I.hok.kept k,?_⟩
  . have hi:own.length<=i:=by
      unfold ub at h2;by_cases z:i<own.length
      . rw [aM (by simpa using z),f8,h8 z] at h2;cases h2
      . omega
    unfold ub at h2;rw [aH (by simpa using hi),gF,ag] at h2;have h1':(own++js.map (λj=>X.N.getD j Str.empty))[i]?=some x:=h1;rw [aH hi,ag] at h1';cases ej:js[i - own.length]? with
    | none=>rw [ej] at h2; cases h2
    | some j =>
      rw [ej] at h2 h1';have ex:X.N.getD j Str.empty=x:=ax h1';have ev:(σ[j]?).join=some v:=ax h2;have ev':σ[j]?=some (some v):=by
        cases q:σ[j]? with
        | none=>rw [q] at ev; cases ev
        | some z=>rw [q] at ev; rw [show z=some v from ev]
      have hjl:j<X.N.length:=by
        rw [<-I.len];exact (af.mp ev').1
      have eN:X.N[j]?=some x:=by
        rw [<-ex,cY,ae hjl];rfl
      obtain ⟨f1,f2⟩:=hjs j (ar ej);rw [ex] at f1 f2;obtain ⟨mm,hnn,hll⟩:=I.loc;obtain ⟨u,r,lk⟩:=hll j x v eN ev' (.inr (.inl f2));refine ⟨u,r,?_⟩;rcases lk with ⟨q,_⟩|⟨_,c,e,ic⟩
      . rw [show X.env.kindOf x=some .cell from f2] at q; cases q
      . obtain ⟨y,hy,e1,e2⟩:∃ y∈scope.names,y.1=x/\y.2=.free:=⟨_,cV f1,rfl,rfl⟩
        obtain ⟨c',hc'⟩:=cl2 y hy e2;rw [e1] at hc';have:c'=c:=by
          have:=cl1 x c' hc';rw [e] at this;exact (ax this).symm
        subst this;obtain ⟨o,ho,hd⟩:=ic;exact .inr ⟨.inl (yQ I.ok.kind f1 f2),c',hc',⟨o,k _ _ ho,hd⟩⟩
  . obtain ⟨v,o,ho,hd⟩:=I.cell x c (cl1 x c e);exact ⟨v,o,k _ _ ho,hd⟩
  . show _=(own++js.map _).length;unfold ub;simp
theorem vF{H':Hp}{σ':St}{s':Shared}{h':Heap}(I:Inv X pins σ H s)(hf:∀ b∈fp,FpOk X pins H b)(I':Inv (z9 X scope cl own js fp s.heap.objs.size s H) [] σ' H' s')(sb:Heap.SameBut s.heap.objs.size s'.heap h'):Inv X pins σ H' { s' with heap:=h' }:=by
  have u:=I'.base;have ne:∀ b o,s.heap.get? b=some o->b≠s.heap.objs.size:=λb o e=>az (Heap.lt_size e);refine I.call' (ch:=fp) I'.os ⟨λb o e n hb hx=>?_,λb o e n hb hx=>?_,u.free,λb o e hx=>?_,u.tups,u.frzs,u.tbls⟩ (λb o e=>?_) I'.bare λb hb=>⟨(hf b hb).2.2.2.1,(hf b hb).2.1,(hf b hb).2.2.2.2.1,(hf b hb).2.2.2.2.2⟩
  . exact (sb.2 b (ne b o e)).trans (u.keep b o e n hb hx)
  . obtain ⟨sl,z⟩:=u.slot b o e n hb hx;exact ⟨sl,(sb.2 b (ne b o e)).trans z⟩
  . obtain ⟨o',z⟩:=u.there b o e hx;exact ⟨o',(sb.2 b (ne b o e)).trans z⟩
  . have hfr:H' s.heap.objs.size=none:=I'.free;refine (I'.hok b o e).stay (λc v hc q=>(sb.2 c ?_).trans q) (λ_ q=>q) λ_ _ q=>q;rintro rfl;rcases hc with rfl|hc
    . rw [hfr] at e; cases e
    . rw [hfr] at hc; cases hc
end
variable {tgt:Expr}{H:Hp}{te:TE}{g:TG}{wi:TI}{tc:TT}
theorem uQ{use:Option (Value->Sem Unit)}{R:Value->Shared->Prop}{pins:List (Addr×Obj)}{σ:St}{s:Shared}{Q:VK}(own:List Str)(js:List Nat)(hc:X.calm=true)(hi:PI X tgt iter wi)(hg:∀ cl fp C s3 H3,PG (z9 X scope cl own js fp C s3 H3) tgt g)(ht:∀ cl fp C s3 H3,PIfs (z9 X scope cl own js fp C s3 H3) ifs tc)(he:∀ cl fp C s3 H3,PE (z9 X scope cl own js fp C s3 H3) elt te)(hfree:∀ y∈scope.names,y.2=.free->X.env.scope.names.lookup y.1=some .cell)(hjs:∀ j∈js,scope.names.lookup (X.N.getD j Str.empty)=some .free/\X.env.scope.names.lookup (X.N.getD j Str.empty)=some .cell)(hcell:∀ y∈scope.names,y.2≠.cell)(hnames:∀ y∈scope.names,y.2=.local->scope.names.lookup y.1=some .local)(hkind:scope.kind=.function)(hs:∀ x,foldedSetIterable iter X.env x=pure x)(I:Inv X pins σ H s)(h:AE wi g tc te own.length js σ H Q)(hend:∀ (D:Addr) (H3 H5:Hp) (σ5:St) (s3 s6:Shared) (fp:List Addr) (cl:List (Str×Addr)),Inv X pins σ H3 s3->(∀ b∈fp,FpOk X pins H3 b)->Inv (z9 X scope cl own js fp s3.heap.objs.size s3 H3) [] σ5 H5 s6->Q (.ref D) H5 ->
      compPost (model X.prog X.w) X.A X.xe use R (.ref D) s3.heap.objs.size (.ok .next) s6) :
    wpAny (model X.prog X.w) X.A (comprehension (.ListComp elt [⟨tgt,iter,ifs,0⟩] scope pos) scope X.env (firstIterPos [⟨tgt,iter,ifs,0⟩] pos) (newList []) false (eval iter X.env) use) R X.xe s:=by
  have hk:=I.ok.kind;obtain ⟨cl,hcl,cl1,cl2⟩:=CP (scope:=scope) (env:=X.env) λy hy hf=>I.ok.has y.1 (.inl (hfree y hy hf));refine wpAny_comprehension_free rfl hs hcl hkind hnames (thn (hi pins s σ H _ I h) λv s1 h1=>thn h1 λitv s2 h2=>?_);obtain ⟨it,fp,tn,J,H2,e,I2,T,st2,f2,q2⟩:=h2;subst e;obtain ⟨W,⟨m0,w0⟩,turn⟩:=q2 s2.heap.objs.size I2.fresh;have I3:=I2.lnew (ys:=[]) (its:=[]) (t':=s2.toks) .nil (bS _);refine ik (wpAny_newFunctionEnv hcell (by intro y hy; simp at hy) (λh₁ hns₁ hsb₁=>?_) hkind);have hl3:∀ b∈fp,b<(s2.heap.push ({ cls:=.type "list",data:=.seq ([]:List Value).toArray }:Obj)).objs.size:=λb hb=>by
    obtain ⟨o,e,_⟩:=T.obj _ _ st2 b hb;rw [Heap.size_push];exact dC (Heap.lt_size e)
  have f3:∀ b∈fp,FpOk X pins (upd H2 s2.heap.objs.size (.lst [])) b:=λb hb=>by
    obtain ⟨o,e,_⟩:=T.obj _ _ st2 b hb;refine ⟨?_,(f2 b hb).2⟩;rw [zl (az (Heap.lt_size e))];exact (f2 b hb).1
  have I4:=Gb (own:=own) (js:=js) (h₁:=h₁) (t':=s2.toks+([]:List (Str×Value)).length) I3 hkind hcell cl1 cl2 hjs f3 hl3 hns₁ (λb o e=>(hsb₁.2 b (az (Heap.lt_size e))).trans (Heap.get?_push_of_some _ e));have st4:tn 0 h₁:=T.keep _ _ _ st2 λb hb o e=>(hsb₁.2 b (az (hl3 b hb))).trans (Heap.get?_push_of_some _ (Heap.get?_push_of_some _ e));have loop:codeAny (model X.prog X.w) X.A (.compLoop (.ListComp elt [⟨tgt,iter,ifs,0⟩] scope pos) 0 (.ref it) (.ref s2.heap.objs.size) (compEnvC scope cl (s2.heap.push ({ cls:=.type "list",data:=.seq ([]:List Value).toArray }:Obj)).objs.size X.env))
      (compPost (model X.prog X.w) X.A X.xe use R (.ref s2.heap.objs.size) (s2.heap.push ({ cls:=.type "list",data:=.seq ([]:List Value).toArray }:Obj)).objs.size) { s2 with heap:=h₁,toks:=s2.toks+([]:List (Str×Value)).length }:=by
    refine wj (λn s'=>∃ i σ' H',Inv (z9 X scope cl own js fp _ _ _) [] σ' H' s'/\tn i s'.heap/\(∀ b∈fp,H' b=none)/\W i n σ' H') ?_ m0 ⟨0,_,_,I4,st4,λb hb=>(f3 b hb).1,w0⟩;rintro n s5 ⟨i,σ5,H5,I5,st5,fr5,w5⟩;have stat:∀ {H':Hp},(∀ b∈fp,H' b=none)->∀ b∈fp,FpOk (z9 X scope cl own js fp _ _ _) [] H' b:=λhn b hb =>
      ⟨hn b hb,(I4.ok.exf b hb).1,I4.ok.exfs b hb,.inl hb,(I4.ok.exf b hb).2,λp hp=>absurd (show p∈([]:List (Addr×Obj)) from hp) (by simp)⟩
    rcases turn i n σ5 H5 w5 with ⟨stop,qn⟩|⟨go,step⟩
    . refine thn (T.done (z9 X scope cl own js fp _ _ _) rfl rfl rfl hc i [] s5 σ5 H5 NoX I5 (stat fr5) st5 stop) λr s6 ⟨hr,I6⟩=>?_;subst hr;exact hend _ _ _ _ _ _ _ _ I3 f3 I6 qn
    . refine thn (T.item (z9 X scope cl own js fp _ _ _) rfl rfl rfl hc i [] s5 σ5 H5 NoX I5 (stat fr5) st5 go) λr s6 ⟨u,hr,h6⟩=>?_;subst hr;refine thn h6 λ_ s7 ⟨x,H7,I7,r7,y7,st7,fr7⟩=>?_;have I7':=I7.pinned (stat fr7) (T.obj _ _ st7);refine thn (hg cl fp _ _ _ _ s7 σ5 H7 x u _ I7' r7 (step x H7 y7)) λ_ s8 ⟨σ8,H8,I8,q8⟩=>?_;have again:∀ {C3:Addr} {s3:Shared} {H3:Hp} {σ9:St} {H9:Hp} {s9:Shared} {m':Nat},Inv (z9 X scope cl own js fp C3 s3 H3) ([]++Ai fp s7.heap) σ9 H9 s9->m'<n->W (i+1) m' σ9 H9->∃ m,m<n/\∃ i σ' H',Inv (z9 X scope cl own js fp C3 s3 H3) [] σ' H' s9/\tn i s9.heap/\(∀ b∈fp,H' b=none)/\W i m σ' H':=λ{C3 s3 H3 σ9 H9 s9 m'} I9 hm w9=>by
        refine ⟨m',hm,i+1,σ9,H9,I9.unpinned,T.keep _ _ _ st7 λb hb o e=>(I9.pin (b,o) (aW _ (aW _ (xF hb e)))).1,λb hb=>?_,w9⟩;obtain ⟨o,e,d⟩:=T.obj _ _ st7 b hb;exact (I9.pin (b,o) (aW _ (aW _ (xF hb e)))).2.1
      refine thn (ht cl fp _ _ _ _ s8 σ8 H8 _ I8 q8) λb s9 ⟨H9,I9,q9⟩=>?_;cases b with
      | false =>
        rw [h9 aT] at q9 ⊢;obtain ⟨m',hm,w9⟩:=q9;exact again I9 hm w9
      | true =>
        rw [h8 rfl] at q9 ⊢;refine thn (he cl fp _ _ _ _ s9 σ8 H9 _ I9 q9) λy s10 ⟨v,H10,I10,r10,q10⟩=>?_;exact thn (zE (X:=z9 X scope cl own js fp _ _ _) _ s10 σ8 H10 (.ref s2.heap.objs.size) [v] (.ref s2.heap.objs.size) [y] _ I10 rfl (.cons r10 .nil) q10) λ_ s11 ⟨_,H11,I11,_,m',hm,w11⟩=>again I11 hm w11
  exact codeAny_compStart_list loop (T.self _ 0 _ _ _ st4 loop)
theorem ye(own:List Str)(js:List Nat)(hc:X.calm=true)(hi:PI X tgt iter wi)(hg:∀ cl fp C s3 H3,PG (z9 X scope cl own js fp C s3 H3) tgt g)(ht:∀ cl fp C s3 H3,PIfs (z9 X scope cl own js fp C s3 H3) ifs tc)(he:∀ cl fp C s3 H3,PE (z9 X scope cl own js fp C s3 H3) elt te)(hfree':(scope.names.all λy=>y.2 != .free || X.env.scope.names.lookup y.1==some .cell)=true:=by rfl)(hjs':(js.all λj=>scope.names.lookup (X.N.getD j Str.empty)==some .free && X.env.scope.names.lookup (X.N.getD j Str.empty)==some .cell)=true:=by rfl)(hcell':(scope.names.all λy=>y.2 != .cell)=true:=by rfl)(hnames':(scope.names.all λy=>y.2 != .local || scope.names.lookup y.1==some .local)=true:=by rfl)(hkind:scope.kind=.function:=by rfl)(hs:∀ x,foldedSetIterable iter X.env x=pure x:=by intro _; rfl) :
    PE X (.ListComp elt [⟨tgt,iter,ifs,0⟩] scope pos) (AE wi g tc te own.length js):=by
  have hfree:∀ y∈scope.names,y.2=.free->X.env.scope.names.lookup y.1=some .cell:=AH hfree';have hjs:∀ j∈js,scope.names.lookup (X.N.getD j Str.empty)=some .free/\X.env.scope.names.lookup (X.N.getD j Str.empty)=some .cell:=HI hjs';have hcell:∀ y∈scope.names,y.2≠.cell:=AQ hcell';have hnames:∀ y∈scope.names,y.2=.local->scope.names.lookup y.1=some .local:=uG hnames';intro pins s σ H Q I h;rw [eval_ListComp];refine uQ own js hc hi hg ht he hfree hjs hcell hnames hkind hs I h λD H3 H5 σ5 s3 s6 fp cl I3 f3 I6 qn=>?_;obtain ⟨m,hm,_⟩:=id I6.loc;exact ⟨m,hm,λh' sb=>⟨.ref D,H5,vF I3 f3 I6 sb,rfl,qn⟩⟩
theorem tt{i:Nat}{x:Str}{spos px:Pos}(hN:X.N.Nodup)(hiN:X.N[i]?=some x)(hx:X.env.scope.names.lookup x=some .local)(own:List Str)(js:List Nat)(hc:X.calm=true)(hi:PI X tgt iter wi)(hg:∀ cl fp C s3 H3,PG (z9 X scope cl own js fp C s3 H3) tgt g)(ht:∀ cl fp C s3 H3,PIfs (z9 X scope cl own js fp C s3 H3) ifs tc)(he:∀ cl fp C s3 H3,PE (z9 X scope cl own js fp C s3 H3) elt te)(hfree':(scope.names.all λy=>y.2 != .free || X.env.scope.names.lookup y.1==some .cell)=true:=by rfl)(hjs':(js.all λj=>scope.names.lookup (X.N.getD j Str.empty)==some .free && X.env.scope.names.lookup (X.N.getD j Str.empty)==some .cell)=true:=by rfl)(hcell':(scope.names.all λy=>y.2 != .cell)=true:=by rfl)(hnames':(scope.names.all λy=>y.2 != .local || scope.names.lookup y.1==some .local)=true:=by rfl)(hkind:scope.kind=.function:=by rfl)(hs:∀ x,foldedSetIterable iter X.env x=pure x:=by intro _; rfl)(hsw:swapsWith (.ListComp elt [⟨tgt,iter,ifs,0⟩] scope pos) (some (.Name x px)) spos.line X.env=pure true:=by rfl) :
    PS X (.Assign [.Name x px] (.ListComp elt [⟨tgt,iter,ifs,0⟩] scope pos) spos) (tAsg (AE wi g tc te own.length js) (Cr i)):=by
  have hfree:∀ y∈scope.names,y.2=.free->X.env.scope.names.lookup y.1=some .cell:=AH hfree';have hjs:∀ j∈js,scope.names.lookup (X.N.getD j Str.empty)=some .free/\X.env.scope.names.lookup (X.N.getD j Str.empty)=some .cell:=HI hjs';have hcell:∀ y∈scope.names,y.2≠.cell:=AQ hcell';have hnames:∀ y∈scope.names,y.2=.local->scope.names.lookup y.1=some .local:=uG hnames';intro pins s σ H D I h;rw [exec_Assign_Name_used _ _ _ _ hsw];refine ii (wpAny_standAt (ii ?_));show wpAny _ X.A (do let _ <-comprehension (.ListComp elt [⟨tgt,iter,ifs,0⟩] scope pos) scope X.env _ (newList []) false (eval iter X.env) (some (assign (.Name x px) X.env))) _ _ s;refine ii (thn (uQ (use:=some (assign (.Name x px) X.env)) (R:=λ_ s'=>SP X pins D .next s') own js hc hi hg ht he hfree hjs hcell hnames hkind hs I h λD' H3 H5 σ5 s3 s6 fp cl I3 f3 I6 qn=>?_) λ_ s' hq=>ij (ij hq));have I7:Inv X pins σ H5 s6:=vF I3 f3 I6 (Heap.SameBut.refl ..);have hlt:X.env.locals<s3.heap.objs.size:=I3.lt;have hcl:∀ y c,X.env.cells.lookup y=some c->c≠s3.heap.objs.size:=λy c e z=>by
    obtain ⟨v,q⟩:=I3.cell y c e;exact absurd q.lt (by rw [z]; exact cS _)
  refine wpAny_assign_Name (Aw I7 hN hiN (.inl hx) (v:=.ref D') (u:=.ref D') rfl (λs7 I8 hch=>?_) (.inr hx));obtain ⟨m,hm,_⟩:=id I6.loc;have hne:s3.heap.objs.size≠X.env.locals:=fw hlt;have hm7:s7.heap.Ns s3.heap.objs.size m:=by
    obtain ⟨a,sb,ha⟩:=hch;refine Heap.Ns.sameBut hm sb ?_;rcases ha with ha|ha
    . rw [ha]; exact hne
    . exact λz=>hcl x a ha z.symm
  refine ⟨m,hm7,λh' sb=>?_⟩;refine ⟨_,H5,I8.turned (t':=s7.toks) (it:=s3.heap.objs.size) (λb o hb e=>(sb.2 b hb).trans e) I6.free hne (.inr I3.sz) hcl (λp hp z=>?_),qn⟩;exact absurd (Heap.lt_size (I3.pin p hp).1) (by rw [z]; exact cS _)
def tE(n:Nat)(Pv:Nat->List V->St->Hp->Prop)(i:Nat)(σ:St)(H:Hp):Prop:=∃ m',m'<n - i/\m'=n - (i+1)/\i+1<=n/\∃ xs,Pv (i+1) xs σ H
theorem yv{n:Nat}{Pv:Nat->List V->St->Hp->Prop}{i:Nat}{xs:List V}{σ:St}(h:i<n)(p:Pv (i+1) xs σ H):tE n Pv i σ H:=⟨n - (i+1),by omega,rfl,h,xs,p⟩
variable {a:Addr}{y:Int}{ys:List V}{ta:TA}{tl:TE}{x:V}
section
variable {g:TG}{tc:TT}{te:TE}{D:Addr}{H1:Hp}{σ0:St}{Q:VK}
theorem yM{R:Hp->Prop}{lo:Int}{n:Nat}(Pv:Nat->List V->St->Hp->Prop)(h0:Pv 0 [] σ0 (upd H1 D (.lst [])))(hs:∀ i xs σ H,i<n->Pv i xs σ H->g (.int (lo+i)) σ H λσ3 H3=>tc σ3 H3 λb H4=>if b=true then te σ3 H4 λv H5=>yf (.ref D) [v] H5 λ_ H6=>tE n Pv i σ3 H6 else tE n Pv i σ3 H4)(hd:∀ xs σ H,Pv n xs σ H->R H) : ∃ W:Nat->Nat->St->Hp->Prop,(∃ m,W 0 m σ0 (upd H1 D (.lst [])))/\∀ i m σ' H',W i m σ' H'->((Itr lo n).stop i H'/\R H')\/((Itr lo n).go i H'/\∀ x H2,(Itr lo n).yld i H' x H2->g x σ' H2 λσ3 H3=>tc σ3 H3 λb H4 =>
      if b=true then te σ3 H4 λv H5=>yf (.ref D) [v] H5 λ_ H6=>∃ m',m'<m/\W (i+1) m' σ3 H6 else ∃ m',m'<m/\W (i+1) m' σ3 H4):=by
  refine ⟨λi m σ H=>m=n - i/\i<=n/\∃ xs,Pv i xs σ H,⟨n,by simp,bS _,[],h0⟩,?_⟩;rintro i m σ H ⟨rfl,hi,xs,p⟩;by_cases hlt:i<n
  . refine .inr ⟨hlt,λx H' y=>?_⟩;obtain ⟨e,y⟩:=y;subst e y;exact hs i xs σ _ hlt p
  . have e:i=n:=by omega
    subst e;exact .inl ⟨ai _,hd xs σ H p⟩
theorem zT{R:Hp->Prop}{K:iC}(Pv:Nat->List V->St->Hp->Prop)(h0:Pv 0 [] σ0 (upd H1 D (.lst [])))(hl:∀ i xs σ H,i<=ys.length->Pv i xs σ H->SqL K H a ys)(hs:∀ i x xs σ H,ys[i]?=some x->Pv i xs σ H->g x σ H λσ3 H3=>tc σ3 H3 λb H4=>if b=true then te σ3 H4 λv H5=>yf (.ref D) [v] H5 λ_ H6=>tE ys.length Pv i σ3 H6 else tE ys.length Pv i σ3 H4)(hd:∀ xs σ H,Pv ys.length xs σ H->R H) : ∃ W:Nat->Nat->St->Hp->Prop,(∃ m,W 0 m σ0 (upd H1 D (.lst [])))/\∀ i m σ' H',W i m σ' H'->((Itl K a).stop i H'/\R H')\/((Itl K a).go i H'/\∀ x H2,(Itl K a).yld i H' x H2->g x σ' H2 λσ3 H3=>tc σ3 H3 λb H4 =>
      if b=true then te σ3 H4 λv H5=>yf (.ref D) [v] H5 λ_ H6=>∃ m',m'<m/\W (i+1) m' σ3 H6 else ∃ m',m'<m/\W (i+1) m' σ3 H4):=by
  refine ⟨λi m σ H=>m=ys.length - i/\i<=ys.length/\∃ xs,Pv i xs σ H,⟨ys.length,by simp,bS _,[],h0⟩,?_⟩;rintro i m σ H ⟨rfl,hi,xs,p⟩;have q:=hl i xs σ H hi p;by_cases hlt:i<ys.length
  . refine .inr ⟨⟨ys,ys[i],q,by simp [hlt]⟩,λx H' y=>?_⟩;obtain ⟨e,y⟩:=y;subst e;exact hs i x xs σ _ (y ys q) p
  . have e:i=ys.length:=by omega
    subst e;exact .inl ⟨⟨ys,q,ai _⟩,hd xs σ H p⟩
theorem BN{R:Hp->Prop}{K:iC}(Pv:Nat->List V->St->Hp->Prop)(h0:Pv 0 [] σ0 (upd H1 D (.lst [])))(hl:∀ i xs σ H,i<=ys.length->Pv i xs σ H->SqT K H a ys)(hs:∀ i x xs σ H,ys[i]?=some x->Pv i xs σ H->g x σ H λσ3 H3=>tc σ3 H3 λb H4=>if b=true then te σ3 H4 λv H5=>yf (.ref D) [v] H5 λ_ H6=>tE ys.length Pv i σ3 H6 else tE ys.length Pv i σ3 H4)(hd:∀ xs σ H,Pv ys.length xs σ H->R H) : ∃ W:Nat->Nat->St->Hp->Prop,(∃ m,W 0 m σ0 (upd H1 D (.lst [])))/\∀ i m σ' H',W i m σ' H'->((Itt K a).stop i H'/\R H')\/((Itt K a).go i H'/\∀ x H2,(Itt K a).yld i H' x H2->g x σ' H2 λσ3 H3=>tc σ3 H3 λb H4 =>
      if b=true then te σ3 H4 λv H5=>yf (.ref D) [v] H5 λ_ H6=>∃ m',m'<m/\W (i+1) m' σ3 H6 else ∃ m',m'<m/\W (i+1) m' σ3 H4):=by
  refine ⟨λi m σ H=>m=ys.length - i/\i<=ys.length/\∃ xs,Pv i xs σ H,⟨ys.length,by simp,bS _,[],h0⟩,?_⟩;rintro i m σ H ⟨rfl,hi,xs,p⟩;have q:=hl i xs σ H hi p;by_cases hlt:i<ys.length
  . refine .inr ⟨⟨ys,ys[i],q,by simp [hlt]⟩,λx H' y=>?_⟩;obtain ⟨e,y⟩:=y;subst e;exact hs i x xs σ _ (y ys q) p
  . have e:i=ys.length:=by omega
    subst e;exact .inl ⟨⟨ys,q,ai _⟩,hd xs σ H p⟩
theorem Ce{σ:St}{n:Nat}(h:ta σ H λvs H1=>∃ i j:Int,vs=[.int i,.int j]/\(-(2 ^ 62)<=i/\i<2 ^ 62/\-(2 ^ 62)<=j/\j<2 ^ 62)/\∀ D,H1 D=none->∃ W:Nat->Nat->St->Hp->Prop,(∃ m,W 0 m (ub n js σ) (upd H1 D (.lst []))) /\
  ∀ i_1 m σ' H',W i_1 m σ' H'->((Itr i (j - i).toNat).stop i_1 H'/\Q (.ref D) H')\/((Itr i (j - i).toNat).go i_1 H'/\∀ x H2,(Itr i (j - i).toNat).yld i_1 H' x H2->g x σ' H2 λσ3 H3=>tc σ3 H3 λb H4 =>
    if b=true then te σ3 H4 λv H5=>yf (.ref D) [v] H5 λ_ H6=>∃ m',m'<m/\W (i_1+1) m' σ3 H6 else ∃ m',m'<m/\W (i_1+1) m' σ3 H4)):AE (IA ta) g tc te n js σ H Q:=h
theorem vd{σ:St}{n:Nat}(h:ta σ H λvs H1=>∃ j:Int,vs=[.int j]/\-(2 ^ 62)<=j/\j<2 ^ 62/\∀ D,H1 D=none->∃ W:Nat->Nat->St->Hp->Prop,(∃ m,W 0 m (ub n js σ) (upd H1 D (.lst []))) /\
  ∀ i m σ' H',W i m σ' H'->((Itr 0 j.toNat).stop i H'/\Q (.ref D) H')\/((Itr 0 j.toNat).go i H'/\∀ x H2,(Itr 0 j.toNat).yld i H' x H2->g x σ' H2 λσ3 H3=>tc σ3 H3 λb H4 =>
    if b=true then te σ3 H4 λv H5=>yf (.ref D) [v] H5 λ_ H6=>∃ m',m'<m/\W (i+1) m' σ3 H6 else ∃ m',m'<m/\W (i+1) m' σ3 H4)):AE (IF ta) g tc te n js σ H Q:=h
theorem yz{K:iC}{σ:St}{n:Nat}(h:tl σ H λx H1=>∃ a,x=.ref a/\(∃ xs,SqL K H1 a xs)/\∀ D,H1 D=none->∃ W:Nat->Nat->St->Hp->Prop,(∃ m,W 0 m (ub n js σ) (upd H1 D (.lst []))) /\
  ∀ i m σ' H',W i m σ' H'->((Itl K a).stop i H'/\Q (.ref D) H')\/((Itl K a).go i H'/\∀ x H2,(Itl K a).yld i H' x H2->g x σ' H2 λσ3 H3=>tc σ3 H3 λb H4 =>
    if b=true then te σ3 H4 λv H5=>yf (.ref D) [v] H5 λ_ H6=>∃ m',m'<m/\W (i+1) m' σ3 H6 else ∃ m',m'<m/\W (i+1) m' σ3 H4)):AE (HB K tl) g tc te n js σ H Q:=h
theorem D9{K:iC}{σ:St}{n:Nat}(h:tl σ H λx H1=>∃ a,x=.ref a/\(∃ xs,SqT K H1 a xs)/\∀ D,H1 D=none->∃ W:Nat->Nat->St->Hp->Prop,(∃ m,W 0 m (ub n js σ) (upd H1 D (.lst []))) /\
  ∀ i m σ' H',W i m σ' H'->((Itt K a).stop i H'/\Q (.ref D) H')\/((Itt K a).go i H'/\∀ x H2,(Itt K a).yld i H' x H2->g x σ' H2 λσ3 H3=>tc σ3 H3 λb H4 =>
    if b=true then te σ3 H4 λv H5=>yf (.ref D) [v] H5 λ_ H6=>∃ m',m'<m/\W (i+1) m' σ3 H6 else ∃ m',m'<m/\W (i+1) m' σ3 H4)):AE (iTup K tl) g tc te n js σ H Q:=h
theorem L0{B:Bool->Hp->Prop}{σ:St}(h:B true H):tAll σ H B:=h
theorem FB{K:iC}{p:Addr}(h:H p=some (.tup ys))(fx:xP x=true)(fs:ys.all xP=true)(q:Q (.bl (!inV x ys)) H):rIn K true x (.ref p) H Q:=⟨p,ys,rfl,.inr (SqT.of h),fx,fs,q⟩
theorem LH{K:iC}{p:Addr}(h:H p=some (.tup ys))(fx:xP x=true)(fs:ys.all xP=true)(q:Q (.bl (inV x ys)) H):rIn K false x (.ref p) H Q:=⟨p,ys,rfl,.inr (SqT.of h),fx,fs,q⟩
theorem LZ{K:iC}{p:Addr}{xs:List V}{i:Int}{v:V}(h:SqT K H p xs)(e:atI xs i=some v)(q:Q v H):rIxT K (.ref p) (.int i) H Q:=⟨p,xs,i,v,rfl,rfl,h,e,q⟩
theorem Ji{b:Addr}{x z x' y' z':Int}(ha:SqT X.K H a [.int x,.int y,.int z])(hb:SqT X.K H b [.int x',.int y',.int z'])(q:Q (.bl (decide (x=x'/\y=y'/\z=z'))) H):rEqT X (.ref a) (.ref b) H Q:=by
  refine ⟨a,b,_,_,_,0,rfl,rfl,bS _,ha,hb,.cons (.int x x') (.cons (.int y y') (.cons (.int z z') .nil)),?_⟩;have e:([x==x',y==y',z==z']:List Bool).all id=decide (x=x'/\y=y'/\z=z'):=by
    rw [cr];simp
  rw [e];exact q
theorem Er{σ:St}{E:Ends}{tb:TS}(h:ta σ H λvs H1=>∃ i j:Int,vs=[.int i,.int j]/\(-(2 ^ 62)<=i/\i<2 ^ 62/\-(2 ^ 62)<=j/\j<2 ^ 62)/\∃ W:Nat->Nat->St->Hp->Prop,(∃ m,W 0 m σ H1)/\∀ k m σ H,W k m σ H ->
  ((Itr i (j - i).toNat).stop k H/\E.nx σ H)\/((Itr i (j - i).toNat).go k H/\∃ N:St->Hp->Prop,(∀ σ' H',N σ' H'->∃ m',m'<m/\W (k+1) m' σ' H')/\∀ x H',(Itr i (j - i).toNat).yld k H x H'->g x σ H' λσ2 H2=>tb { E with nx:=N,ct:=N,bk:=E.nx } σ2 H2)) :
  tFor (IA ta) g tb E σ H:=h
end
section
variable {σ:St}{H:Hp}{K:iC}{R:St->Hp->Prop}
theorem IM{n:Nat}{t:TGs}{xs:List V}(h:H a=some (.tup xs))(hn:xs.length=n)(q:t xs σ H R):gTup K n t (.ref a) σ H R:=⟨a,xs,rfl,SqT.of h,hn,q⟩
theorem Hu{t:TG}{u:TGs}{v:V}{r:List V}(q:t v σ H λσ' H'=>u r σ' H' R):KM t u (v::r) σ H R:=⟨v,r,rfl,q⟩
theorem JY(q:R σ H):gNil [] σ H R:=⟨rfl,q⟩
end
def TopI(mg:Str->Option Value)(x:Str)(i:Int):Prop:=∃ u,mg x=some u/\RelV (.int i) u
def TopT(K:iC)(mg:Str->Option Value)(x:Str)(xs:List V):Prop:=∃ a,mg x=some (.ref a)/\∀ H:Hp,SqT K H a xs
variable {h:Heap}{mg:Str->Option Value}
theorem topT_mk{K:iC}{x:Str}{o:Obj}{its:Array Value}{n:Nat}{xs:List V}(X:K.In h)(G:h.Ns mainGlobals mg)(e:W.nsIn K mainGlobals x=some (some (.ref a)))(l:K.lookup a=some o)(c:o.cls=.type "tuple")(d:o.data=.seq its n)(z:its.size<=sizeLine)(v:Vals xs its.toList):TopT K mg x xs:=⟨a,dB X G e,λ_=>.inr ⟨o,its,n,l,c,d,z,v⟩⟩
theorem topI_mk{K:iC}{x:Str}{i:Int}{t:Tok}(X:K.In h)(G:h.Ns mainGlobals mg)(e:W.nsIn K mainGlobals x=some (some (.int i t))):TopI mg x i:=⟨_,dB X G e,⟨t,rfl⟩⟩
theorem bl_q{Q:VK}{x y:Bool}(e:x=y)(q:Q (.bl y) H):Q (.bl x) H:=by rw [e]; exact q
theorem EB{Q:VK}{x:Int}(e:x=y)(q:Q (.int y) H):Q (.int x) H:=by rw [e]; exact q
def rIsN:R2:=λx y H Q=>y=.non/\Q (.bl (decide (x=.non))) H
def KC:R2:=λx y H Q=>y=.non/\Q (.bl (!decide (x=.non))) H
theorem HQ:OpR X (compareOp .Is) rIsN:=KJ
theorem FN:OpR X (compareOp .IsNot) KC:=HG
theorem LC{Q:VK}(q:Q (.bl (decide (x=.non))) H):rIsN x .non H Q:=⟨rfl,q⟩
theorem KE{Q:VK}(q:Q (.bl (!decide (x=.non))) H):KC x .non H Q:=⟨rfl,q⟩
def sqs:List Int:=[4,9,16,25,36,49,64,81]
def yP(n:Nat):List Int:=((List.range n).map λ(i:Nat)=>(2:Int)+i).filter λd=>!sqs.contains d
theorem wU(n:Nat):yP (n+1)=yP n++(if sqs.contains ((2:Int)+n) then [] else [(2:Int)+n]):=by
  unfold yP;rw [dW,aj,List.filter_append];congr 1;simp only [aU,cK,cJ,List.filter_nil];cases sqs.contains ((2:Int)+n) <;> rfl
theorem CC{n:Nat}(hn:n<=98){d:Int}(h:d∈yP n):Rt d:=by
  unfold yP at h;rw [dQ,aY] at h;obtain ⟨⟨i,hi,rfl⟩,hc⟩:=h;rw [bC] at hi;refine Lz ⟨by omega,by omega⟩ ?_;simp only [sqs,List.contains_cons,List.contains_nil,Bool.or_false,Bool.not_eq_true',Bool.or_eq_false_iff,beq_eq_false_iff_ne,ne_eq] at hc;exact hc
theorem Aa:(yP 98).length=90:=by decide +kernel
theorem Ih(d:Int):inV (.int d) [.int 4,.int 9,.int 16,.int 25,.int 36,.int 49,.int 64,.int 81]=sqs.contains d:=by
  simp only [inV,dS,List.any_nil,eqV,sqs,List.contains_cons,List.contains_nil,Bool.or_false];simp only [BEq.comm (b:=d)]
theorem Bz{xs:List Int}{i:Int}(h0:0<=i)(h1:i<xs.length):∃ d∈xs,atI (xs.map V.int) i=some (.int d):=by
  have hi:i.toNat<xs.length:=by omega
  refine ⟨xs[i.toNat],bH hi,?_⟩;have e:=zB (xs:=xs.map V.int) (j:=i.toNat) (v:=.int xs[i.toNat]) (by rw [ag,ae hi]; rfl);rw [show ((i.toNat:Nat):Int)=i by omega] at e;exact e
end L2
namespace Bg
local macro_rules | `(⋯)=>`(by decide)
local macro_rules | `(!4)=>`(by omega)
variable {a d:Int}
theorem JQ{b:Int}(h:Rt d)(z:¬ (a=0/\b=0)):a*a - d*b*b≠0:=λe=>z (BU h e)
theorem Am{b k:Int}(hk:k≠0)(h:a*k=b*k):a=b:=aC hk h
variable {x y z:Int}
theorem Fj(h1:1<=z)(g:g3 x y z=1):lA x y z=x/\lB x y z=y/\lN x y z=z:=by
  have:=ym (x:=x) (y:=y) (z:=z) (a:=x) (b:=y) (n:=z) h1 g (!4) rfl rfl;exact ⟨this.1.symm,this.2.1.symm,this.2.2.symm⟩
variable {t:Int}
theorem xX{b:Int}(h1:1<=z)(g:Int.gcd x z=1)(hb:b≠0)(e:x*b=t*z):x=fT t b/\z=fB t b:=by
  refine Hs h1 (f_b hb) g (LG hb) ?_;have f1:=f_t (t:=t) (b:=b);generalize fT t b=u at *
  generalize fB t b=v at *
  refine aC hb ?_;grind
theorem vN{b:Int}(h:Int.gcd x a=1)(k:Int.gcd x b=1):Int.gcd x (a*b)=1:=by
  rw [a9] at *
  rw [b9];exact Nat.Coprime.mul_right h k
theorem uA{b:Int}(h:Int.gcd a x=1)(k:Int.gcd b x=1):Int.gcd (a*b) x=1:=by
  rw [c7] at *
  exact vN h k
theorem wG{b:Int}(h:Int.gcd x a=1)(hy:y∣x)(hb:b∣a):Int.gcd y b=1:=by
  have h1:((Int.gcd y b:Nat):Int)∣x:=aX (bG ..) hy;have h2:((Int.gcd y b:Nat):Int)∣a:=aX (bM ..) hb;have h3:=dU h1 h2;rw [h] at h3;have:=g8 ⋯ h3;have h4:Int.gcd y b≠0:=λz=>by
    rw [z] at h3;exact absurd (Int.zero_dvd.mp h3) ⋯
  omega
theorem yq{b:Int}(h:1<=b):(0:Int)<(Int.gcd a b:Nat):=by
  have:=(Int.gcd_pos_iff (a:=a) (b:=b)).mpr (.inr (show b≠0 by omega));omega
theorem wm{b:Int}(ha:1<=a)(hb:0<b)(h:b∣a):1<=a / b:=by
  have e:=bT h;rcases gH (a / b) 1 with z|z
  . have:a / b*b<=0:=cX (!4) (!4);omega
  . exact z
theorem vg{b:Int}(h:1<=b):Int.gcd (a / (Int.gcd a b:Nat)) (b / (Int.gcd a b:Nat))=1:=Int.gcd_ediv_gcd_ediv_gcd (by have:=yq (a:=a) h; omega)
def plT(t b t' b':Int):Int:=t*(b' / (Int.gcd b b':Nat))+t'*(b / (Int.gcd b b':Nat))
variable {b' t':Int}
theorem Fz{b:Int}(hb:1<=b)(hb':1<=b')(g:Int.gcd t b=1)(g':Int.gcd t' b'=1) : plT t b t' b' / (Int.gcd (plT t b t' b') (Int.gcd b b':Nat):Nat)=fT (t*b'+t'*b) (b*b')/\b / (Int.gcd b b':Nat)*(b' / (Int.gcd (plT t b t' b') (Int.gcd b b':Nat):Nat))=fB (t*b'+t'*b) (b*b'):=by
  have hs:=yq (a:=b) hb';have hsb:((Int.gcd b b':Nat):Int)∣b:=bG ..;have hsb':((Int.gcd b b':Nat):Int)∣b':=bM ..;have hq:=vg (a:=b) hb';have htop:plT t b t' b'=t*(b' / (Int.gcd b b':Nat))+t'*(b / (Int.gcd b b':Nat)):=rfl;generalize ((Int.gcd b b':Nat):Int)=s at *
  have eb:=bT hsb;have eb':=bT hsb';have p1:=wm hb hs hsb;have p2:=wm hb' hs hsb';have c1:Int.gcd t (b / s)=1:=wG g (dy _) ⟨s,eb.symm⟩;have c2:Int.gcd t' (b' / s)=1:=wG g' (dy _) ⟨s,eb'.symm⟩;generalize b / s=B at *
  generalize b' / s=B' at *
  generalize plT t b t' b'=T at *
  have hl:=yq (a:=T) (b:=s) (!4);have hlT:((Int.gcd T s:Nat):Int)∣T:=bG ..;have hls:((Int.gcd T s:Nat):Int)∣s:=bM ..;have hq2:=vg (a:=T) (b:=s) (!4);generalize ((Int.gcd T s:Nat):Int)=l at *
  have eT:=bT hlT;have es:=bT hls;have p3:=wm (!4) hl hls;have e1:b' / l=s / l*B':=by
    refine aC (show l≠0 by omega) ?_;rw [bT (aX hls hsb'),<-eb'];grind
  rw [e1];generalize T / l=U at *
  generalize s / l=S at *
  have d1:Int.gcd T B=1:=by
    rw [htop,av t' B,fJ];exact uA c1 (by rw [c7]; exact hq)
  have d2:Int.gcd T B'=1:=by
    rw [htop,fD,av t B',fJ];exact uA c2 hq
  have u1:Int.gcd U B=1:=wG d1 ⟨l,eT.symm⟩ (dy _);have u2:Int.gcd U B'=1:=wG d2 ⟨l,eT.symm⟩ (dy _);have pos:0<B*(S*B'):=aZ (!4) (aZ (!4) (!4));refine xX (!4) (vN u1 (vN hq2 u2)) (aI (!4) (!4)) ?_;subst eb eb' eT es;clear hs hsb hsb' hq p1 p2 c1 c2 hl hlT hls hq2 p3 e1 d1 d2 u1 u2 pos hb hb' g g';grind
theorem EJ{b:Int}(hb:1<=b)(hb':1<=b')(g:Int.gcd t b=1)(g':Int.gcd t' b'=1) : t / (Int.gcd t b':Nat)*(t' / (Int.gcd t' b:Nat))=fT (t*t') (b*b')/\b / (Int.gcd t' b:Nat)*(b' / (Int.gcd t b':Nat))=fB (t*t') (b*b'):=by
  have hf:=yq (a:=t) hb';have hs:=yq (a:=t') hb;have f1:((Int.gcd t b':Nat):Int)∣t:=bG ..;have f2:((Int.gcd t b':Nat):Int)∣b':=bM ..;have s1:((Int.gcd t' b:Nat):Int)∣t':=bG ..;have s2:((Int.gcd t' b:Nat):Int)∣b:=bM ..;have q1:=vg (a:=t) hb';have q2:=vg (a:=t') hb;generalize ((Int.gcd t b':Nat):Int)=f at *
  generalize ((Int.gcd t' b:Nat):Int)=s at *
  have et:=bT f1;have eb':=bT f2;have et':=bT s1;have eb:=bT s2;have p1:=wm hb hs s2;have p2:=wm hb' hf f2;have c1:Int.gcd (t / f) (b / s)=1:=wG g ⟨f,et.symm⟩ ⟨s,eb.symm⟩;have c2:Int.gcd (t' / s) (b' / f)=1:=wG g' ⟨s,et'.symm⟩ ⟨f,eb'.symm⟩;generalize t / f=T at *
  generalize t' / s=T' at *
  generalize b / s=B at *
  generalize b' / f=B' at *
  have pos:0<B*B':=aZ (!4) (!4);refine xX (!4) (uA (vN c1 q1) (vN q2 c2)) (aI (!4) (!4)) ?_;subst et eb et' eb';clear hf hs f1 f2 s1 s2 q1 q2 p1 p2 c1 c2 pos hb hb' g g';grind
theorem LT{k:Nat}{b:Int}(h:Bd k t):Bd k (fT t b):=h.fdiv _
theorem LF{k:Nat}{b:Int}(h:Bd k b):Bd k (fB t b):=h.fdiv _
theorem den_pos(q:Rat):(1:Int)<=(q.den:Int):=by have:=q.den_pos; omega
theorem xU(q:Rat):(q.den:Int)≠0:=by have:=q.den_pos; omega
theorem red(q:Rat):Int.gcd q.num q.den=1:=by
  have:=q.reduced;rw [a9,bV];exact this
theorem wk(q:Rat):Rat.divInt q.num q.den=q:=Rat.num_divInt_den q
theorem rf{b:Int}(hb:b≠0):fT t b=(Rat.divInt t b).num/\fB t b=((Rat.divInt t b).den:Int):=by
  have e:(Rat.divInt t b).num*b=t*((Rat.divInt t b).den:Int):=by
    have:=wk (Rat.divInt t b);exact (cN (xU _) hb).mp this
  have:=xX (den_pos (Rat.divInt t b)) (red _) hb e;exact ⟨this.1.symm,this.2.symm⟩
theorem CN{b:Int}(hb:b≠0)(hb':b'≠0):Rat.divInt (t*b'+t'*b) (b*b')=Rat.divInt t b+Rat.divInt t' b':=(Rat.divInt_add_divInt t t' hb hb').symm
theorem w8{b:Int}:Rat.divInt (t*t') (b*b')=Rat.divInt t b*Rat.divInt t' b':=(Rat.divInt_mul_divInt t t').symm
theorem L7(q q':Rat):Rat.divInt (q.num*q'.den+q'.num*q.den) (q.den*q'.den)=q+q':=by rw [CN (xU q) (xU q'),wk,wk]
theorem LX(q q':Rat):Rat.divInt (q.num*q'.num) (q.den*q'.den)=q*q':=by rw [w8,wk,wk]
def Bq(k:Nat)(q:Rat):Prop:=Bd k q.num/\Bd k (q.den:Int)
theorem GT(q q':Rat):plT q.num q.den q'.num q'.den / (Int.gcd (plT q.num q.den q'.num q'.den) (Int.gcd q.den q'.den:Nat):Nat)=(q+q').num/\(q.den:Int) / (Int.gcd q.den q'.den:Nat)*((q'.den:Int) / (Int.gcd (plT q.num q.den q'.num q'.den) (Int.gcd q.den q'.den:Nat):Nat))=((q+q').den:Int):=by
  have h:=Fz (den_pos q) (den_pos q') (red q) (red q');have e:=rf (t:=q.num*q'.den+q'.num*q.den) (b:=q.den*q'.den) (aI (xU _) (xU _));rw [L7] at e;exact ⟨h.1.trans e.1,h.2.trans e.2⟩
theorem Fg(q q':Rat):q.num / (Int.gcd q.num q'.den:Nat)*(q'.num / (Int.gcd q'.num q.den:Nat))=(q*q').num/\(q.den:Int) / (Int.gcd q'.num q.den:Nat)*((q'.den:Int) / (Int.gcd q.num q'.den:Nat))=((q*q').den:Int):=by
  have h:=EJ (den_pos q) (den_pos q') (red q) (red q');have e:=rf (t:=q.num*q'.num) (b:=q.den*q'.den) (aI (xU _) (xU _));rw [LX] at e;exact ⟨h.1.trans e.1,h.2.trans e.2⟩
theorem Cc{k:Nat}{b:Int}(hb:b≠0)(h:Bd k b):Bd k ((Int.gcd a b:Nat):Int):=h.of_le (by
  have h1:=bQ.mpr (bM a b);exact g7 (!4) h1)
def Br(j k:Nat)(q:Rat):Prop:=Bd j q.num/\Bd k (q.den:Int)
theorem Br.mono{j k j' k':Nat}{q:Rat}(h:Br j k q)(l:j<=j')(l':k<=k'):Br j' k' q:=⟨h.1.mono l,h.2.mono l'⟩
theorem Br.bq{j k n:Nat}{q:Rat}(h:Br j k q)(l:j<=n)(l':k<=n):Bq n q:=⟨h.1.mono l,h.2.mono l'⟩
theorem ui{j k:Nat}{b:Int}(hb:b≠0)(h1:Bd j t)(h2:Bd k b):Br j k (Rat.divInt t b):=⟨by rw [<-(rf hb).1]; exact LT h1,by rw [<-(rf hb).2]; exact LF h2⟩
structure Tb where
  a:Rat
  b:Rat
  c:Rat
  e:Rat
theorem Tb.ext{s t:Tb}(h1:s.a=t.a)(h2:s.b=t.b)(h3:s.c=t.c)(h4:s.e=t.e):s=t:=by
  cases s
  cases t
  simp_all
def Tb.zero:Tb:=⟨0,0,0,0⟩
def Tb.add(s t:Tb):Tb:=⟨s.a+t.a,s.b+t.b,s.c+t.c,s.e+t.e⟩
def Tb.sub(s t:Tb):Tb:=⟨s.a - t.a,s.b - t.b,s.c - t.c,s.e - t.e⟩
def Tb.tr(s:Tb):Tb:=⟨s.a,s.c,s.b,s.e⟩
structure Tb.Bt(j k:Nat)(t:Tb):Prop where
  a:Br j k t.a
  b:Br j k t.b
  c:Br j k t.c
  e:Br j k t.e
theorem Tb.Bt.mono{j k j' k':Nat}{t:Tb}(h:t.Bt j k)(l:j<=j')(l':k<=k'):t.Bt j' k':=⟨h.a.mono l l',h.b.mono l l',h.c.mono l l',h.e.mono l l'⟩
theorem Tb.add_comm(s t:Tb):s.add t=t.add s:=Tb.ext (gJ ..) (gJ ..) (gJ ..) (gJ ..)
theorem Tb.add_assoc(s t u:Tb):(s.add t).add u=s.add (t.add u):=Tb.ext (gh ..) (gh ..) (gh ..) (gh ..)
theorem Tb.zero_add(t:Tb):Tb.zero.add t=t:=Tb.ext (gL _) (gL _) (gL _) (gL _)
structure Sd where
  x:Int
  y:Int
  z:Int
structure Sd.Ok(d:Int)(s:Sd):Prop where
  z1:1<=s.z
  g:g3 s.x s.y s.z=1
  bx:Bd 120 s.x
  bY:Bd 120 s.y
  bz:Bd 30 s.z
  up:sgn d s.x s.y=1
def Sd.p(s:Sd):Rat:=Rat.divInt s.x s.z
def Sd.q(s:Sd):Rat:=Rat.divInt s.y s.z
structure Bo where
  w:Sd
  h:Sd
def Bo.Ok(d:Int)(b:Bo):Prop:=b.w.Ok d/\b.h.Ok d
def Bo.tb(b:Bo):Tb:=⟨b.w.p*b.h.p,b.w.p*b.h.q,b.w.q*b.h.p,b.w.q*b.h.q⟩
def tbs:List Bo->Tb
  | []=>Tb.zero
  | b::l=>b.tb.add (tbs l)
theorem ud(l m:List Bo):tbs (l++m)=(tbs l).add (tbs m):=by
  induction l with
  | nil=>exact (Tb.zero_add _).symm
  | cons b l ih =>
    show b.tb.add (tbs (l++m))=(b.tb.add (tbs l)).add (tbs m);rw [ih,Tb.add_assoc]
theorem vQ(b:Bo):tbs [b]=b.tb:=by
  show b.tb.add Tb.zero=b.tb;rw [Tb.add_comm,Tb.zero_add]
theorem Gh(l:List Bo)(b:Bo):tbs (l++[b])=(tbs l).add b.tb:=by rw [ud,vQ]
structure Ms where
  f:Rat
  g:Rat
def Ms.Ok(m:Ms):Prop:=Br 90 10 m.f/\Br 90 10 m.g
def Sd.ms(s:Sd):Ms:=⟨s.p,s.q⟩
theorem FV{n p q:Int}(hR:Rt d)(hn:0<n)(h:sgn d p q=1):sgn d (n+p) q=1:=by
  have d2:=hR.lo;by_cases hp:0<=p
  . by_cases hq:0<=q
    . rw [uu (!4) hq,h8 (!4)]
    . have p0:0<p:=by
        rcases Int.lt_or_eq_of_le hp with z|z
        . exact z
        . subst z;rw [GJ (!4) (!4) (!4)] at h;exact absurd h ⋯
      rw [EY p0 (!4)] at h;rw [EY (!4) (!4)];have h1:d*q*q<p*p:=by
        by_cases z:d*q*q<p*p
        . exact z
        . rw [h9 z] at h;exact absurd h ⋯
      have h2:p*p<=(n+p)*(n+p):=fG (!4) (!4) (!4) (!4);rw [h8 (!4)]
  . by_cases hq:0<q
    . rw [DC (!4) hq] at h;have h1:p*p<d*q*q:=by
        by_cases z:p*p<d*q*q
        . exact z
        . rw [h9 z] at h;exact absurd h ⋯
      by_cases hs:0<=n+p
      . rw [uu hs (!4),h8 (!4)]
      . rw [DC (!4) hq];have h2:(-(n+p))*(-(n+p))<=(-p)*(-p):=fG (!4) (!4) (!4) (!4);rw [cM,cM] at h2;rw [h8 (!4)]
    . rw [GJ (!4) (!4) (!4)] at h;exact absurd h ⋯
variable {a':Int}
theorem uM{b:Int}(hR:Rt d)(h:sgn d a b=1)(h':sgn d a' b'=1):sgn d (a+a') (b+b')=1:=by
  have hN:a*a - d*b*b≠0:=by
    refine JQ hR λz=>?_;rw [z.1,z.2,yr] at h;exact absurd h ⋯
  obtain ⟨k,w,v,hk,e1,e2,e3,e4⟩:∃ k w v:Int,0<k/\k*a'=w*a+d*v*b/\k*b'=w*b+v*a/\k*(a+a')=(k+w)*a+d*v*b/\k*(b+b')=(k+w)*b+v*a:=by
    rcases Int.lt_or_gt_of_ne hN with z|z
    . refine ⟨-(a*a - d*b*b),-(a'*a - d*b'*b),-(b'*a - a'*b),by omega,?_,?_,?_,?_⟩ <;> grind
    . refine ⟨a*a - d*b*b,a'*a - d*b'*b,b'*a - a'*b,z,?_,?_,?_,?_⟩ <;> grind
  have s1:=xC hR hk a' b';rw [e1,e2,B6 hR,h,cC,h'] at s1;have s2:=FV hR hk s1;have s3:=xC hR hk (a+a') (b+b');rw [e3,e4,B6 hR,h,s2] at s3;rw [<-s3];rfl
def Tb.A(d:Int)(t:Tb):Rat:=t.a+(d:Rat)*t.e
def Tb.B(t:Tb):Rat:=t.b+t.c
variable {e:Int}
theorem yi{v:Int}(h:e∣x*v)(g:Int.gcd e v=1):e∣x:=by
  have h1:e∣x*v:=h;have h2:e∣x*e:=⟨x,av ..⟩
  have h3:e∣(Int.gcd (x*e) (x*v):Nat):=dU h2 h1;rw [eP,g,gc] at h3;exact Int.dvd_natAbs.mp h3
theorem xg{b:Int}(h:∀ e:Int,e∣a->e∣b->e∣1):Int.gcd a b=1:=by
  have:=h (Int.gcd a b:Nat) (bG ..) (bM ..);have h2:=bQ.mpr this;simpa using h2
theorem wH{b:Int}(h:Int.gcd a b=1)(ha:e∣a)(hb:e∣b):e∣1:=by
  have:=dU ha hb;rw [h] at this;exact this
theorem xv{b:Int}(h:Int.gcd a b=1)(ha:e∣a):Int.gcd e b=1 :=
  xg λ_ h1 h2=>wH h (aX h1 ha) h2
variable {c:Int}
theorem vw{b:Int}(h1:Int.gcd a b=1)(h2:Int.gcd a c=1):Int.gcd a (b*c)=1 :=
  xg λe ha hb=>by
    have e1:Int.gcd e c=1:=xv h2 ha;exact wH h1 ha (yi hb e1)
variable {z':Int}
theorem ES(h1:1<=z)(h2:1<=z'):∃ s u v:Int,s=(Int.gcd z z':Nat)/\1<=s/\1<=u/\1<=v/\z=s*u/\z'=s*v/\z.fdiv s=u/\z'.fdiv s=v/\Int.gcd u v=1:=by
  have d1:((Int.gcd z z':Nat):Int)∣z:=bG ..;have d2:((Int.gcd z z':Nat):Int)∣z':=bM ..;have hp:0<Int.gcd z z':=cI _ (!4);obtain ⟨u,hu⟩:=d1;obtain ⟨v,hv⟩:=d2;have hs:(1:Int)<=(Int.gcd z z':Nat):=by omega
  have hg:Int.gcd u v=1:=by
    have e:Int.gcd z z'=Int.gcd ((Int.gcd z z':Nat)*u) ((Int.gcd z z':Nat)*v):=by rw [<-hu,<-hv]
    rw [eP,bV] at e;exact (dF hp (by rw [gc]; exact e)).symm
  generalize ((Int.gcd z z':Nat):Int)=s at *
  subst hu; subst hv;refine ⟨s,u,v,rfl,hs,?_,?_,rfl,rfl,cP _ (!4),cP _ (!4),hg⟩
  . refine eU.mp λq=>?_;have:=bL (show (0:Int)<=s by omega) (show u<=0 by omega);omega
  . refine eU.mp λq=>?_;have:=bL (show (0:Int)<=s by omega) (show v<=0 by omega);omega
def aS(z z':Int):Int:=(Int.gcd z z':Nat)
def aA(x z x' z':Int):Int:=x*z'.fdiv (aS z z')+x'*z.fdiv (aS z z')
def aL(x y z x' y' z':Int):Int:=(Int.gcd (Int.gcd (aS z z') (aA x z x' z'):Nat) (aA y z y' z'):Nat)
theorem IH{x' y':Int}(h1:1<=z)(h2:1<=z')(g1:g3 x y z=1)(g2:g3 x' y' z'=1) : 1<=aS z z'/\1<=aL x y z x' y' z'/\(aA x z x' z').fdiv (aL x y z x' y' z')=lA (x*z'+x'*z) (y*z'+y'*z) (z*z')/\(aA y z y' z').fdiv (aL x y z x' y' z')=lB (x*z'+x'*z) (y*z'+y'*z) (z*z') /\ z.fdiv (aS z z')*z'.fdiv (aL x y z x' y' z')=lN (x*z'+x'*z) (y*z'+y'*z) (z*z'):=by
  obtain ⟨s,u,v,hs,s1,u1,v1,ez,ez',fu,fv,guv⟩:=ES h1 h2;have eS:aS z z'=s:=hs.symm;have eA:∀ p q,aA p z q z'=p*v+q*u:=λp q=>by unfold aA; rw [eS,fu,fv]
  have eL:aL x y z x' y' z'=(Int.gcd (Int.gcd s (x*v+x'*u):Nat) (y*v+y'*u):Nat):=by unfold aL; rw [eS,eA,eA]
  rw [eS,eA,eA,fu];generalize hl:aL x y z x' y' z'=l at *
  generalize ha:x*v+x'*u=a at *
  generalize hb:y*v+y'*u=b at *
  have l1:1<=l:=by
    have:0<Int.gcd (Int.gcd s a:Nat) b:=cI _ (by
      have:=cI a (show s≠0 by omega);omega)
    omega
  have dls:l∣s:=by rw [eL]; exact aX (bG ..) (bG ..)
  have dla:l∣a:=by rw [eL]; exact aX (bG ..) (bM ..)
  have dlb:l∣b:=by rw [eL]; exact bM ..
  obtain ⟨m,hm⟩:=dls;obtain ⟨X,hX⟩:=dla;obtain ⟨Y,hY⟩:=dlb;have l0:l≠0:=by omega
  have fX:a.fdiv l=X:=by rw [hX]; exact cP _ l0
  have fY:b.fdiv l=Y:=by rw [hY]; exact cP _ l0
  have fZ:z'.fdiv l=m*v:=by rw [ez',hm,ao]; exact cP _ l0
  rw [fX,fY,fZ];have m1:1<=m:=by
    refine eU.mp λq=>?_;have:=bL (show (0:Int)<=l by omega) (show m<=0 by omega);omega
  refine ⟨s1,l1,?_⟩;have gm:g3 X Y m=1:=by
    have e:(g3 (l*X) (l*Y) (l*m):Int)=l:=by
      unfold g3;rw [<-hX,<-hY,<-hm,<-eL]
    rw [GI] at e;have e2:l.natAbs*g3 X Y m=l.natAbs*1:=by omega
    exact dF (!4) e2
  have cop:∀ e:Int,e∣X->e∣Y->Int.gcd e u=1/\Int.gcd e v=1/\Int.gcd e m=1:=λe eX eY=>by
    have ea:e∣a:=by rw [hX]; exact aX eX (ca ..)
    have eb:e∣b:=by rw [hY]; exact aX eY (ca ..)
    refine ⟨xg λf f1 f2=>?_,xg λf f1 f2=>?_,xg λf f1 f2=>?_⟩
    . have fv1:Int.gcd f v=1:=xv guv f2;have k1:f∣x*v:=by
        have:=gZ (aX f1 ea) (aX f2 (ca x' u));rw [<-ha,d4] at this;exact this
      have k2:f∣y*v:=by
        have:=gZ (aX f1 eb) (aX f2 (ca y' u));rw [<-hb,d4] at this;exact this
      have:=BG (yi k1 fv1) (yi k2 fv1) (aX f2 (show u∣z by rw [ez]; exact ca ..));rw [g1] at this;exact this
    . have fu1:Int.gcd f u=1:=xv (c7 u v ▸ guv) f2;have k1:f∣x'*u:=by
        have:=gZ (aX f1 ea) (aX f2 (ca x v));rw [<-ha,fD,d4] at this;exact this
      have k2:f∣y'*u:=by
        have:=gZ (aX f1 eb) (aX f2 (ca y v));rw [<-hb,fD,d4] at this;exact this
      have:=BG (yi k1 fu1) (yi k2 fu1) (aX f2 (show v∣z' by rw [ez']; exact ca ..));rw [g2] at this;exact this
    . have:=BG (aX f1 eX) (aX f1 eY) f2;rw [gm] at this;exact this
  have gX:g3 X Y (u*(m*v))=1:=by
    have dX:=g3_a X Y (u*(m*v));have dY:=g3_b X Y (u*(m*v));have dZ:=g3_n X Y (u*(m*v));obtain ⟨c1,c2,c3⟩:=cop _ dX dY;have c4:=vw c1 (vw c3 c2);have:=wH c4 (dy _) dZ;have:=bQ.mpr this;simpa using this
  refine ym ?_ gX (aI (!4) (!4)) ?_ ?_
  . exact aZ (!4) (aZ (!4) (!4))
  . subst ez ez';refine dH l0 ?_;clear cop gX gm eL hl eA hs fu fv fX fY fZ guv g1 g2;have e1:l*(X*(s*u*(s*v)))=a*(s*u*(s*v)):=by rw [hX,ao l X]
    have e2:l*((x*(s*v)+x'*(s*u))*(u*(m*v)))=(x*v+x'*u)*s*(u*(l*m*v)):=by grind
    rw [e1,e2,<-hm,ha];grind
  . subst ez ez';refine dH l0 ?_;clear cop gX gm eL hl eA hs fu fv fX fY fZ guv g1 g2;have e1:l*(Y*(s*u*(s*v)))=b*(s*u*(s*v)):=by rw [hY,ao l Y]
    have e2:l*((y*(s*v)+y'*(s*u))*(u*(m*v)))=(y*v+y'*u)*s*(u*(l*m*v)):=by grind
    rw [e1,e2,<-hm,hb];grind
theorem uP{k:Nat}(h:z≠0)(hb:Bd k z):Bd k ((Int.gcd z a:Nat):Int):=hb.of_le (by
  rw [bV];exact g7 (!4) (by simpa using bQ.mpr (bG z a)))
theorem Jd(x y z:Int):g3 (-x) (-y) z=g3 x y z:=by
  unfold g3;rw [Int.gcd_neg,Int.gcd_neg]
theorem EC{b n n':Int}(hn:n≠0)(hn':n'≠0)(ea:a*n'=a'*n)(eb:b*n'=b'*n):lA a b n=lA a' b' n'/\lB a b n=lB a' b' n'/\lN a b n=lN a' b' n':=by
  refine ym (l_n hn) (xQ hn) hn' ?_ ?_
  . have e:=l_a (a:=a) (b:=b) (n:=n);refine aC hn ?_;generalize lA a b n=u at *
    generalize lN a b n=v at *
    have h1:u*n'*n=u*n*n':=by rw [ao,av n',ao]
    have h2:a'*v*n=a'*n*v:=by rw [ao,av v,ao]
    rw [h1,h2,e,<-ea,ao,av v,ao]
  . have e:=l_b (a:=a) (b:=b) (n:=n);refine aC hn ?_;generalize lB a b n=u at *
    generalize lN a b n=v at *
    have h1:u*n'*n=u*n*n':=by rw [ao,av n',ao]
    have h2:b'*v*n=b'*n*v:=by rw [ao,av v,ao]
    rw [h1,h2,e,<-eb,ao,av v,ao]
structure B4 where
  a:Int
  b:Int
  c:Int
  e:Int
def B4.nx(d:Int)(s:B4):B4:=if 0<sgn d (s.a - s.c) (s.b - s.e) then ⟨s.a - s.c,s.b - s.e,s.c,s.e⟩ else ⟨s.a,s.b,s.c - s.a,s.e - s.b⟩
def b4:B4:=⟨0,1,1,0⟩
structure GB(d:Int)(k:Nat)(s:B4):Prop where
  det:s.a*s.e - s.b*s.c=1\/s.a*s.e - s.b*s.c=-1
  p1:sgn d s.a s.b=1
  q1:sgn d s.c s.e=1
  ba:Bd k s.a
  bb:Bd k s.b
  bc:Bd k s.c
  be:Bd k s.e
theorem GB.mono{d:Int}{j k:Nat}{s:B4}(g:GB d j s)(l:j<=k):GB d k s:=⟨g.det,g.p1,g.q1,g.ba.mono l,g.bb.mono l,g.bc.mono l,g.be.mono l⟩
theorem uz(d:Int):GB d 1 b4:=⟨.inr ⋯,by rw [show b4.a=0 from rfl,show b4.b=1 from rfl,uu ⋯ ⋯]; rfl,by rw [show b4.c=1 from rfl,show b4.e=0 from rfl,uu ⋯ ⋯]; rfl,by decide,by decide,by decide,by decide⟩
theorem GB.next{k:Nat}{s:B4}(hR:Rt d)(g:GB d k s):GB d (k+1) (s.nx d):=by
  obtain ⟨a,b,c,e⟩:=s;obtain ⟨det,p1,q1,ba,bb,bc,be⟩:=g;simp only at *
  have key:sgn d (a - c) (b - e)=1\/sgn d (a - c) (b - e)=-1:=by
    rcases sgn_tri hR (a - c) (b - e) with h|h|⟨h1,h2⟩
    . exact .inl h
    . exact .inr h
    . have e1:a=c:=by omega
      have e2:b=e:=by omega
      subst e1; subst e2;have:a*b - b*a=0:=by rw [av]; omega
      omega
  unfold B4.nx;simp only;by_cases z:0<sgn d (a - c) (b - e)
  . rw [h8 z];refine ⟨?_,by show sgn d (a - c) (b - e)=1; omega,q1,ba.sub bc,bb.sub be,bc.mono (!4),be.mono (!4)⟩;show (a - c)*e - (b - e)*c=1\/(a - c)*e - (b - e)*c=-1;have:(a - c)*e - (b - e)*c=a*e - b*c:=by rw [gU,gU,av e c]; omega
    omega
  . rw [h9 z];refine ⟨?_,p1,?_,ba.mono (!4),bb.mono (!4),bc.sub ba,be.sub bb⟩
    . show a*(e - b) - b*(c - a)=1\/a*(e - b) - b*(c - a)=-1;have:a*(e - b) - b*(c - a)=a*e - b*c:=by rw [fi,fi,av b a]; omega
      omega
    . show sgn d (c - a) (e - b)=1;have:=xw hR (a - c) (b - e);rw [show -(a - c)=c - a by omega,show -(b - e)=e - b by omega] at this;omega
theorem xK{N p0 p2 q0 q2:Int}(h1:p0*N=a*p2)(h2:q0*N=c*q2):N*(p0*q2 - q0*p2)=p2*q2*(a - c):=by
  have e1:N*(p0*q2)=p2*q2*a:=by
    rw [<-ao,av N,h1,av a,ao,ao,av a]
  have e2:N*(q0*p2)=p2*q2*c:=by
    rw [<-ao,av N,h2,av c,ao,av c,<-ao,av q2]
  rw [fi,fi,e1,e2]
theorem F5{b N:Int}(hR:Rt d)(hN:1<=N):sgn d (lA a b N*lN c e N - lA c e N*lN a b N) (lB a b N*lN c e N - lB c e N*lN a b N)=sgn d (a - c) (b - e):=by
  have n0:N≠0:=by omega
  refine xm hR (k:=N) (m:=lN a b N*lN c e N) (!4) (aZ (l_n n0) (l_n n0)) ?_ ?_
  . exact xK l_a l_a
  . exact xK l_b l_b
theorem BZ{b N:Int}(hN:1<=N):lA (lA a b N*lN c e N - lA c e N*lN a b N) (lB a b N*lN c e N - lB c e N*lN a b N) (lN a b N*lN c e N)=lA (a - c) (b - e) N/\lB (lA a b N*lN c e N - lA c e N*lN a b N) (lB a b N*lN c e N - lB c e N*lN a b N) (lN a b N*lN c e N)=lB (a - c) (b - e) N/\lN (lA a b N*lN c e N - lA c e N*lN a b N) (lB a b N*lN c e N - lB c e N*lN a b N) (lN a b N*lN c e N)=lN (a - c) (b - e) N:=by
  have n0:N≠0:=by omega
  have h1:=l_n (a:=a) (b:=b) n0;have h2:=l_n (a:=c) (b:=e) n0;refine EC (aI (!4) (!4)) n0 ?_ ?_
  . rw [av,xK l_a l_a,av]
  . rw [av,xK l_b l_b,av]
theorem vc(x y z w:Int):x*y+-z*w=x*y - z*w:=by rw [dw]; omega
theorem Bm{b N:Int}:(lA a b N*lB c e N - lB a b N*lA c e N)*N*N=lN a b N*lN c e N*(a*e - b*c):=by
  have h1:=l_a (a:=a) (b:=b) (n:=N);have h2:=l_b (a:=a) (b:=b) (n:=N);have h3:=l_a (a:=c) (b:=e) (n:=N);have h4:=l_b (a:=c) (b:=e) (n:=N);generalize lA a b N=p0 at *
  generalize lB a b N=p1 at *
  generalize lN a b N=p2 at *
  generalize lA c e N=q0 at *
  generalize lB c e N=q1 at *
  generalize lN c e N=q2 at *
  calc (p0*q1 - p1*q0)*N*N=(p0*N)*(q1*N) - (p1*N)*(q0*N):=by grind
    _=(a*p2)*(e*q2) - (b*p2)*(c*q2):=by rw [h1,h2,h3,h4]
    _=p2*q2*(a*e - b*c):=by grind
theorem z4{b N:Int}(hR:Rt d)(hN:1<=N):sgn d (lA a b N) (lB a b N)=sgn d a b:=by
  have n0:N≠0:=by omega
  have h1:=l_n (a:=a) (b:=b) n0;refine xm hR (k:=N) (m:=lN a b N) (!4) (!4) ?_ ?_
  . rw [av,l_a,av]
  . rw [av,l_b,av]
def B4.det(s:B4):Int:=s.a*s.e - s.b*s.c
def B4.i(s:B4)(x y:Int):Int:=s.det*(x*s.e - y*s.c)
def B4.j(s:B4)(x y:Int):Int:=s.det*(s.a*y - s.b*x)
theorem Gz{k:Nat}{s:B4}(g:GB d k s):s.det*s.det=1:=by
  unfold B4.det;rcases g.det with h|h <;> rw [h] <;> decide
theorem AK{k:Nat}{s:B4}(g:GB d k s)(x y:Int):s.i x y*s.a+s.j x y*s.c=x/\s.i x y*s.b+s.j x y*s.e=y:=by
  have h:=Gz g;unfold B4.i B4.j B4.det at *
  generalize s.a=a at *
  generalize s.b=b at *
  generalize s.c=c at *
  generalize s.e=e at *
  clear g;constructor
  . have:(a*e - b*c)*(x*e - y*c)*a+(a*e - b*c)*(a*y - b*x)*c=(a*e - b*c)*(a*e - b*c)*x:=by grind
    rw [this,h,d9]
  . have:(a*e - b*c)*(x*e - y*c)*b+(a*e - b*c)*(a*y - b*x)*e=(a*e - b*c)*(a*e - b*c)*y:=by grind
    rw [this,h,d9]
theorem Kr(d:Int)(s:B4):(s.nx d).det=s.det:=by
  unfold B4.nx;split <;> unfold B4.det <;> dsimp only <;> grind
theorem Gy(d:Int)(s:B4)(x y:Int):(0<sgn d (s.a - s.c) (s.b - s.e)->(s.nx d).i x y=s.i x y/\(s.nx d).j x y=s.i x y+s.j x y)/\(¬ 0<sgn d (s.a - s.c) (s.b - s.e)->(s.nx d).i x y=s.i x y+s.j x y/\(s.nx d).j x y=s.j x y):=by
  have h:=Kr d s;constructor
  . intro z;unfold B4.i B4.j;rw [h];generalize s.det=D;unfold B4.nx;rw [h8 z];dsimp only;clear h z;grind
  . intro z;unfold B4.i B4.j;rw [h];generalize s.det=D;unfold B4.nx;rw [h9 z];dsimp only;clear h z;grind
theorem DM{b q:Int}(hb:b≠0)(h:t=q*b):t.fdiv b=q:=by rw [h]; exact Int.mul_fdiv_cancel _ hb
theorem LD{k:Nat}{s:B4}{N:Int}(g:GB d k s)(hN:1<=N) : lN x y N*(lA s.a s.b N*lB s.c s.e N - lB s.a s.b N*lA s.c s.e N)≠0 /\ ((lA x y N*lB s.c s.e N - lB x y N*lA s.c s.e N)*lN s.a s.b N).fdiv (lN x y N*(lA s.a s.b N*lB s.c s.e N - lB s.a s.b N*lA s.c s.e N))=s.i x y /\ ((lA s.a s.b N*lB x y N - lB s.a s.b N*lA x y N)*lN s.c s.e N).fdiv (lN x y N*(lA s.a s.b N*lB s.c s.e N - lB s.a s.b N*lA s.c s.e N))=s.j x y:=by
  have n0:N≠0:=by omega
  have z1:=l_n (a:=s.a) (b:=s.b) n0;have z2:=l_n (a:=s.c) (b:=s.e) n0;have z3:=l_n (a:=x) (b:=y) n0;have D:=Bm (a:=s.a) (b:=s.b) (c:=s.c) (e:=s.e) (N:=N);have D1:=Bm (a:=x) (b:=y) (c:=s.c) (e:=s.e) (N:=N);have D2:=Bm (a:=s.a) (b:=s.b) (c:=x) (e:=y) (N:=N);have sq:=Gz g;have hd:s.a*s.e - s.b*s.c=s.det:=rfl;have hi:s.i x y=s.det*(x*s.e - y*s.c):=rfl;have hj:s.j x y=s.det*(s.a*y - s.b*x):=rfl;rw [hd] at D;rw [hi,hj];generalize x*s.e - y*s.c=U at *
  generalize s.a*y - s.b*x=V at *
  generalize hE:lA s.a s.b N*lB s.c s.e N - lB s.a s.b N*lA s.c s.e N=E at *
  generalize lA x y N*lB s.c s.e N - lB x y N*lA s.c s.e N=F at *
  generalize lA s.a s.b N*lB x y N - lB s.a s.b N*lA x y N=G at *
  generalize lN s.a s.b N=p at *
  generalize lN s.c s.e N=q at *
  generalize lN x y N=r at *
  generalize s.det=t at *
  have NN:N*N≠0:=aI n0 n0;have t0:t≠0:=λz=>by rw [z] at sq; exact absurd sq ⋯
  have E0:E≠0:=λz=>by
    rw [z,bR,bR] at D;exact aI (aI (!4) (!4)) t0 D.symm
  have b0:r*E≠0:=aI (!4) E0;refine ⟨b0,DM b0 (aC NN ?_),DM b0 (aC NN ?_)⟩
  . calc F*p*(N*N)=F*N*N*p:=by grind
      _=r*q*U*p:=by rw [D1]
      _=1*(p*q*r*U):=by grind
      _=t*t*(p*q*r*U):=by rw [sq]
      _=t*U*r*(p*q*t):=by grind
      _=t*U*r*(E*N*N):=by rw [D]
      _=t*U*(r*E)*(N*N):=by grind
  . calc G*q*(N*N)=G*N*N*q:=by grind
      _=p*r*V*q:=by rw [D2]
      _=1*(p*q*r*V):=by grind
      _=t*t*(p*q*r*V):=by rw [sq]
      _=t*V*r*(p*q*t):=by grind
      _=t*V*r*(E*N*N):=by rw [D]
      _=t*V*(r*E)*(N*N):=by grind
structure Sg(s:B4):Prop where
  a:s.a<=0
  b:0<=s.b
  c:0<=s.c
  e:s.e<=0
theorem Sg.nx{s:B4}(d:Int)(h:Sg s):Sg (s.nx d):=by
  obtain ⟨h1,h2,h3,h4⟩:=h;unfold B4.nx;split
  . exact ⟨by dsimp only; omega,by dsimp only; omega,h3,h4⟩
  . exact ⟨h1,h2,by dsimp only; omega,by dsimp only; omega⟩
def B4.srv(s:B4)(x y:Int):Prop:=0<=s.i x y/\0<=s.j x y
instance {s:B4} {x y:Int}:Decidable (s.srv x y):=inferInstanceAs (Decidable (0<=s.i x y/\0<=s.j x y))
theorem GP{s:B4}(d:Int)(h:s.srv x y):(s.nx d).srv x y:=by
  obtain ⟨h1,h2⟩:=h;obtain ⟨n1,n2⟩:=Gy d s x y;unfold B4.srv;by_cases c:0<sgn d (s.a - s.c) (s.b - s.e)
  . rw [(n1 c).1,(n1 c).2]; exact ⟨h1,by omega⟩
  . rw [(n2 c).1,(n2 c).2]; exact ⟨by omega,h2⟩
theorem AM{k:Nat}{s:B4}(hR:Rt d)(g:GB d k s)(h:sgn d x y=1):0<s.i x y\/0<s.j x y:=by
  obtain ⟨cx,cy⟩:=AK g x y;generalize s.i x y=i at *
  generalize s.j x y=j at *
  refine fK λn=>?_;have hi:i<=0:=by omega
  have hj:j<=0:=by omega
  have p1:=g.p1;have q1:=g.q1;have e1:sgn d ((-i)*s.a+(-j)*s.c) ((-i)*s.b+(-j)*s.e)=-1:=by
    rw [show (-i)*s.a+(-j)*s.c=-x by rw [<-cx,dw,dw]; omega,show (-i)*s.b+(-j)*s.e=-y by rw [<-cy,dw,dw]; omega,xw hR,h]
  have sc:∀ (t a b:Int),0<=t->sgn d a b=1->(t=0\/sgn d (t*a) (t*b)=1):=λt a b ht hs=>by
    by_cases z:t=0
    . exact .inl z
    . right;rw [xC hR (!4)];exact hs
  rcases sc (-i) s.a s.b (!4) p1 with z1|z1
  . rcases sc (-j) s.c s.e (!4) q1 with z2 | z2
    . rw [z1,z2,bR,bR,bR,bR,cq,yr] at e1;exact absurd e1 ⋯
    . rw [z1,bR,bR,dg,dg,z2] at e1;exact absurd e1 ⋯
  . rcases sc (-j) s.c s.e (!4) q1 with z2 | z2
    . rw [z2,bR,bR,cq,cq,z1] at e1;exact absurd e1 ⋯
    . have:=uM hR z1 z2;rw [this] at e1;exact absurd e1 ⋯
theorem yp{i u:Int}(h:i≠0):u.natAbs<=(i*u).natAbs:=by
  rw [b9];exact d7 _ (!4)
theorem En{i u:Int}(h:i<=0)(k:0<=u):i*u<=0:=cX h k
theorem DU{i u:Int}(h:i<=0)(k:u<=0):0<=i*u:=dO h k
theorem BL{i u:Int}(h:0<=i)(k:u<=0):i*u<=0:=bL h k
theorem BS{k:Nat}{s:B4}(hR:Rt d)(g:GB d k s)(z:Sg s)(h:sgn d x y=1)(n:¬ s.srv x y) : s.a.natAbs<=x.natAbs/\s.c.natAbs<=x.natAbs/\s.b.natAbs<=y.natAbs/\s.e.natAbs<=y.natAbs:=by
  have hp:=AM hR g h;obtain ⟨cx,cy⟩:=AK g x y;unfold B4.srv at n;obtain ⟨h1,h2,h3,h4⟩:=z;generalize s.i x y=i at *
  generalize s.j x y=j at *
  by_cases c:i<0
  . have hj:0<j:=by omega
    have a1:=yp (i:=i) (u:=s.a) (!4);have a2:=yp (i:=j) (u:=s.c) (!4);have a3:=yp (i:=i) (u:=s.b) (!4);have a4:=yp (i:=j) (u:=s.e) (!4);have p1:=DU (i:=i) (u:=s.a) (!4) h1;have p2:=fH (a:=j) (b:=s.c) (!4) h3;have p3:=En (i:=i) (u:=s.b) (!4) h2;have p4:=BL (i:=j) (u:=s.e) (!4) h4;omega
  . have hj:j<0:=by omega
    have hi:0<i:=by omega
    have a1:=yp (i:=i) (u:=s.a) (!4);have a2:=yp (i:=j) (u:=s.c) (!4);have a3:=yp (i:=i) (u:=s.b) (!4);have a4:=yp (i:=j) (u:=s.e) (!4);have p1:=BL (i:=i) (u:=s.a) (!4) h1;have p2:=En (i:=j) (u:=s.c) (!4) h3;have p3:=fH (a:=i) (b:=s.b) (!4) h2;have p4:=DU (i:=j) (u:=s.e) (!4) h4;omega
def st(d:Int):Nat->B4
  | 0=>b4
  | k+1=>(st d k).nx d
theorem HZ(d:Int)(k:Nat):st d (k+1)=(st d k).nx d:=rfl
theorem Eu{d:Int}(hR:Rt d):∀ k,GB d (k+1) (st d k)
  | 0=>uz d
  | k+1=>(Eu hR k).next hR
theorem HE(d:Int):∀ k,Sg (st d k)
  | 0=>⟨show b4.a<=0 by decide,show 0<=b4.b by decide,show 0<=b4.c by decide,show b4.e<=0 by decide⟩
  | k+1=>(HE d k).nx d
variable {m:Nat}
theorem EF{k:Nat}(h:(st d k).srv x y)(l:k<=m):(st d m).srv x y:=by
  induction m with
  | zero => have : k = 0 := by omega
            subst this; exact h
  | succ m ih =>
    by_cases c:k=m+1
    . subst c; exact h
    . exact GP d (ih (!4))
theorem IS(hR:Rt d)(h:sgn d x y=1):∀ (m k:Nat),((st d k).i x y).natAbs+((st d k).j x y).natAbs<=m->∃ K,(st d K).srv x y:=by
  intro m;induction m with
  | zero =>
    intro k hk;exact ⟨k,by omega,by omega⟩
  | succ m ih =>
    intro k hk;by_cases c:(st d k).srv x y
    . exact ⟨k,c⟩
    by_cases c2:(st d (k+1)).srv x y
    . exact ⟨_,c2⟩
    refine ih (k+1) ?_;have g1:=AM hR (Eu hR k) h;have g2:=AM hR (Eu hR (k+1)) h;obtain ⟨n1,n2⟩:=Gy d (st d k) x y;rw [HZ] at *
    unfold B4.srv at c c2;by_cases cc:0<sgn d ((st d k).a - (st d k).c) ((st d k).b - (st d k).e)
    . obtain ⟨e1,e2⟩:=n1 cc;rw [e1,e2] at *
      omega
    . obtain ⟨e1,e2⟩:=n2 cc;rw [e1,e2] at *
      omega
theorem Fp(hR:Rt d)(h:sgn d x y=1):∃ K,(st d K).srv x y:=IS hR h _ 0 (ai _)
theorem GE{d:Int}(hR:Rt d):∀ (L:List (Int×Int)),(∀ u∈L,sgn d u.1 u.2=1)->∃ K,∀ u∈L,(st d K).srv u.1 u.2
  | [],_=>⟨0,λu h=>absurd h (by simp)⟩
  | v::L,h=>by
    obtain ⟨K,hK⟩:=GE hR L λu hu=>h u (ay _ hu);obtain ⟨K',hK'⟩:=Fp hR (h v aB);refine ⟨max K K',λu hu=>?_⟩;rcases aN.mp hu with z|z
    . subst z; exact EF hK' (Nat.le_max_right ..)
    . exact EF (hK u z) (Nat.le_max_left ..)
def Fst(d:Int)(L:List (Int×Int))(K:Nat):Prop:=(∀ u∈L,(st d K).srv u.1 u.2)/\∀ k,k<K->∃ u∈L,¬ (st d k).srv u.1 u.2
theorem Fst.unique{L L':List (Int×Int)}{K K':Nat}(hL:∀ u,u∈L↔u∈L')(h:Fst d L K)(h':Fst d L' K'):K=K':=by
  rcases Nat.lt_trichotomy K K' with c|c|c
  . obtain ⟨u,hu,n⟩:=h'.2 K c;exact absurd (h.1 u ((hL u).mpr hu)) n
  . exact c
  . obtain ⟨u,hu,n⟩:=h.2 K' c;exact absurd (h'.1 u ((hL u).mp hu)) n
theorem Fst.gb(hR:Rt d){L:List (Int×Int)}{K k:Nat}(hk:1<=k)(h:Fst d L K)(hp:∀ u∈L,sgn d u.1 u.2=1)(hb:∀ u∈L,Bd k u.1/\Bd k u.2):GB d (k+1) (st d K):=by
  cases K with
  | zero=>exact (uz d).mono (!4)
  | succ m =>
    obtain ⟨u,hu,n⟩:=h.2 m (!4);have g:=Eu hR m;obtain ⟨b1,b2,b3,b4⟩:=BS hR g (HE d m) (hp u hu) n;obtain ⟨c1,c2⟩:=hb u hu;have g':GB d k (st d m):=⟨g.det,g.p1,g.q1,c1.of_le b1,c2.of_le b3,c1.of_le b2,c2.of_le b4⟩
    exact g'.next hR
theorem Fst.gb_le(hR:Rt d){L:List (Int×Int)}{K k:Nat}(hk:1<=k)(h:Fst d L K)(hm:m<=K)(hp:∀ u∈L,sgn d u.1 u.2=1)(hb:∀ u∈L,Bd k u.1/\Bd k u.2):GB d (k+1) (st d m):=by
  cases m with
  | zero=>exact (uz d).mono (!4)
  | succ m =>
    obtain ⟨u,hu,n⟩:=h.2 m (!4);have g:=Eu hR m;obtain ⟨b1,b2,b3,b4⟩:=BS hR g (HE d m) (hp u hu) n;obtain ⟨c1,c2⟩:=hb u hu;have g':GB d k (st d m):=⟨g.det,g.p1,g.q1,c1.of_le b1,c2.of_le b3,c1.of_le b2,c2.of_le b4⟩
    exact g'.next hR
theorem An(s:B4)(t x y:Int):s.i (t*x) (t*y)=t*s.i x y/\s.j (t*x) (t*y)=t*s.j x y:=by
  unfold B4.i B4.j;constructor <;> grind
theorem Di{s:B4}(ht:1<=t):s.srv (t*x) (t*y)↔s.srv x y:=by
  unfold B4.srv;rw [(An s t x y).1,(An s t x y).2];have k:∀ u:Int,0<=t*u↔0<=u:=λu=>by
    constructor
    . intro h;refine eU.mp λn=>?_;have:t*u<0:=c9 (!4) n;omega
    . exact λh=>fH (!4) h
  rw [k,k]
def lcmI(f z:Int):Int:=f.fdiv (Int.gcd f z:Nat)*z
theorem wK{f:Int}(hf:1<=f)(hz:1<=z):1<=lcmI f z/\f∣lcmI f z/\z∣lcmI f z/\(lcmI f z).natAbs<=(f*z).natAbs:=by
  obtain ⟨s,u,v,hs,s1,u1,v1,ez,ez',fu,fv,guv⟩:=ES hf hz;unfold lcmI;rw [<-hs,fu];refine ⟨aZ (!4) (!4),⟨v,by rw [ez',ez,av s u,ao]⟩,ca ..,?_⟩;rw [b9,b9];refine Nat.mul_le_mul_right _ ?_;rw [ez,b9];exact d7 _ (!4)
def cbs(zs:List Int):Int:=zs.foldl lcmI 1
theorem Fh(zs:List Int)(z:Int):cbs (zs++[z])=lcmI (cbs zs) z:=by unfold cbs; rw [df]; rfl
theorem BF:∀ (zs:List Int) (f:Int) (k n:Nat),1<=f->(∀ z∈zs,1<=z/\Bd k z)->Bd n f->1<=zs.foldl lcmI f/\f∣zs.foldl lcmI f/\(∀ z∈zs,z∣zs.foldl lcmI f)/\Bd (n+k*zs.length) (zs.foldl lcmI f)
  | [],f,k,n,hf,_,hb=>⟨hf,dy _,λz h=>absurd h (by simp),hb⟩
  | z::zs,f,k,n,hf,h,hb=>by
    have hz:=h z aB;obtain ⟨a1,a2,a3,a4⟩:=wK hf hz.1;obtain ⟨b1,b2,b3,b4⟩:=BF zs (lcmI f z) k (n+k) a1 (λu hu=>h u (ay _ hu)) ((hb.mul hz.2).of_le a4);refine ⟨b1,aX a2 b2,λu hu=>?_,?_⟩
    . rcases aN.mp hu with e | e
      . subst e; exact aX a3 b2
      . exact b3 u e
    . rw [List.foldl_cons,au,Nat.mul_succ,Nat.add_comm (k*zs.length),<-gi];exact b4
theorem ED{zs:List Int}{k:Nat}(h:∀ z∈zs,1<=z/\Bd k z):1<=cbs zs/\(∀ z∈zs,z∣cbs zs)/\Bd (1+k*zs.length) (cbs zs):=by
  obtain ⟨a,_,b,c⟩:=BF zs 1 k 1 ⋯ h ⋯;exact ⟨a,b,c⟩
theorem Lx{P:Nat->Prop}:∀ n,P n->∃ m,P m/\∀ k,k<m->¬ P k:=by
  intro n;induction n using Nat.strongRecOn with
  | ind n ih =>
    intro h;by_cases c:∃ k,k<n/\P k
    . obtain ⟨k,hk,hp⟩:=c;exact ih k hk hp
    . exact ⟨n,h,λk hk hp=>c ⟨k,hk,hp⟩⟩
theorem Gs(hR:Rt d){L:List (Int×Int)}(h:∀ u∈L,sgn d u.1 u.2=1):∃ K,Fst d L K:=by
  obtain ⟨K,hK⟩:=GE hR L h;obtain ⟨m,hm,hn⟩:=Lx (P:=λK=>∀ u∈L,(st d K).srv u.1 u.2) K hK;refine ⟨m,hm,λk hk=>?_⟩;have:=hn k hk;refine fM λc=>this λu hu=>?_;exact fM λz=>c ⟨u,hu,z⟩
def BsE(s s':B4)(N:Int):Prop:=(lA s.a s.b N=lA s'.a s'.b N/\lB s.a s.b N=lB s'.a s'.b N/\lN s.a s.b N=lN s'.a s'.b N)/\(lA s.c s.e N=lA s'.c s'.e N/\lB s.c s.e N=lB s'.c s'.e N/\lN s.c s.e N=lN s'.c s'.e N)
instance {s s':B4} {N:Int}:Decidable (BsE s s' N):=inferInstanceAs (Decidable (_/\_))
theorem Bp(x y:Int):lA x y 1=x/\lB x y 1=y/\lN x y 1=1:=by
  have e:g3 x y 1=1:=by
    unfold g3;rw [Int.one_gcd];exact Int.one_gcd
  have:=ym (x:=x) (y:=y) (z:=1) (a:=x) (b:=y) (n:=1) ⋯ e ⋯ rfl rfl;exact ⟨this.1.symm,this.2.1.symm,this.2.2.symm⟩
def tmS(m:Int)(s:Sd):Sd:=⟨lA (m*s.x) (m*s.y) s.z,lB (m*s.x) (m*s.y) s.z,lN (m*s.x) (m*s.y) s.z⟩
def adS(s t:Sd):Sd:=⟨lA (s.x*t.z+t.x*s.z) (s.y*t.z+t.y*s.z) (s.z*t.z),lB (s.x*t.z+t.x*s.z) (s.y*t.z+t.y*s.z) (s.z*t.z),lN (s.x*t.z+t.x*s.z) (s.y*t.z+t.y*s.z) (s.z*t.z)⟩
structure SK(k j:Nat)(s:Sd):Prop where
  z1:1<=s.z
  g:g3 s.x s.y s.z=1
  bx:Bd k s.x
  by':Bd k s.y
  bz:Bd j s.z
theorem SK.mono{k j k' j':Nat}{s:Sd}(h:SK k j s)(l:k<=k')(l':j<=j'):SK k' j' s:=⟨h.z1,h.g,h.bx.mono l,h.by'.mono l,h.bz.mono l'⟩
theorem SK.ne{k j:Nat}{s:Sd}(h:SK k j s):s.z≠0:=by have:=h.z1; omega
theorem wJ{b n:Int}(hn:n≠0):Rat.divInt (lA a b n) (lN a b n)=Rat.divInt a n/\Rat.divInt (lB a b n) (lN a b n)=Rat.divInt b n:=by
  have z:=l_n (a:=a) (b:=b) hn;exact ⟨(cN (!4) hn).mpr l_a,(cN (!4) hn).mpr l_b⟩
def nul:Sd:=⟨0,0,1⟩
def mny(s:B4)(N:Int)(pl:Nat)(w:Sd):Int:=if pl=0 then s.i (N / w.z*w.x) (N / w.z*w.y) else s.j (N / w.z*w.x) (N / w.z*w.y)
def hg(s:B4)(N:Int)(pl:Nat):List Bo->Sd:=λL=>L.foldl (λa b=>adS a (tmS (mny s N pl b.w) b.h)) nul
structure B5(d N:Int)(b:Bo):Prop where
  w:SK 20 12 b.w
  h:SK 20 12 b.h
  wu:sgn d b.w.x b.w.y=1
  hu:sgn d b.h.x b.h.y=1
  dv:b.w.z∣N
theorem Jg{k n:Nat}{s:B4}(g:GB d k s)(bx:Bd n x)(by':Bd n y):Bd (1+(n+k+1)) (s.i x y)/\Bd (1+(n+k+1)) (s.j x y):=by
  have hd:Bd 1 s.det:=by
    unfold B4.det;rcases g.det with h|h <;> rw [h] <;> decide
  refine ⟨hd.mul ((bx.mul g.be).sub (by'.mul g.bc)),hd.mul (Bd.mono ((g.ba.mul by').sub (g.bb.mul bx)) (!4))⟩
def bw1(s:B4)(N:Int):Sd:=⟨lA s.a s.b N,lB s.a s.b N,lN s.a s.b N⟩
def bw2(s:B4)(N:Int):Sd:=⟨lA s.c s.e N,lB s.c s.e N,lN s.c s.e N⟩
end Bg
namespace L2
open PySem PySem.Spec PyProof.Rows Bg
def rSum(K:iC):List V->Hp->VK->Prop:=λxs H Q=>∃ (a:Addr) (ns:List Int),xs=[.ref a]/\SqL K H a (ns.map V.int)/\Q (.int ns.sum) H
def Kn(K:iC):List V->Hp->VK->Prop:=λxs H Q=>∃ (a:Addr) (bs:List Bool),xs=[.ref a]/\SqL K H a (bs.map V.bl)/\Q (.bl (bs.all id)) H
theorem xL:∀ {ns:List Int} {us:List Value},Vals (ns.map V.int) us->∃ xs:Array (Int×Tok),us.toArray=intItems xs/\xs.toList.map (·.1)=ns
  | [],us,h=>by
    rw [Vals.zero h];exact ⟨#[],by simp [intItems],rfl⟩
  | n::ns,u::us,.cons r t=>by
      obtain ⟨tk,rfl⟩:=r;obtain ⟨xs,e1,e2⟩:=xL t;refine ⟨#[(n,tk)]++xs,?_,by simp [e2]⟩;have e3:(Value.int n tk::us).toArray=#[Value.int n tk]++us.toArray:=by simp
      rw [e3,e1];simp [intItems]
theorem AS{xs:Array (Int×Tok)}:preSum (numAt xs) xs.size=(xs.toList.map (·.1)).sum:=by
  rw [preSum_eq,bJ (by simp)]
variable {X:Cx}
theorem Af(hc:X.calm=true):y8 X (.builtin "sum") (rSum X.K):=by
  intro pins s σ H xs us Q I r h;obtain ⟨a,ns,rfl,hq,q⟩:=h;obtain ⟨u,rfl,ru⟩:=Vals.one r;cases ru
  obtain ⟨its,rv,p,hz⟩:=I.list hq;obtain ⟨ys,e1,e2⟩:=xL rv;have hl:s.heap.IsList a (intItems ys):=by rw [<-e1]; exact p.isList
  refine sum_intListG (I.ok.hd hc) hl λh' tk t' hk=>?_;rw [AS,e2];exact ⟨.int ns.sum,H,I.kept (t':=tk) hk,⟨t',rfl⟩,q⟩
theorem DW(hc:X.calm=true):y8 X (.builtin "all") (Kn X.K):=by
  intro pins s σ H xs us Q I r h;obtain ⟨a,bs,rfl,hq,q⟩:=h;obtain ⟨u,rfl,ru⟩:=Vals.one r;cases ru
  obtain ⟨its,rv,p,hz⟩:=I.list hq;have hlt:a<s.heap.objs.size:=by
    obtain ⟨o,_,e,_⟩:=p;exact Heap.lt_size e
  refine call_all_walk (im p.isList ?_);refine ⟨_,_,_,_,_,_,(λi=>bs.getD i false),rfl,Walks.list (A:=X.A.in1) (show X.A.in1.handled=none from I.ok.hd hc) _ a (az hlt) its.toArray,⟨⟨_,Heap.get?_push_size _ rfl,rfl,rfl⟩,p.isList.push _⟩,?_,λh' tk hk=>?_⟩
  . intro i v s' Q' E' hP hQ;have hP':its[i]?=some v:=by simpa using hP
    have hi:i<bs.length:=by
      have:=rv.length;rw [aa] at this;have:=(af.mp hP').1;omega
    obtain ⟨u,hu,ru⟩:=rv.get (i:=i) (x:=.bl bs[i]) (by rw [ag,ae hi]; rfl);rw [hP'] at hu;cases hu
    cases ru
    have e:bs.getD i false=bs[i]:=by rw [cY,ae hi]; rfl
    have hQ':Q' (bs.getD i false) s':=hQ;rw [e] at hQ';exact ib hQ'
  . have e:(List.range its.toArray.size).all (λi=>bs.getD i false)=bs.all id:=by
      have:=rv.length;rw [aa] at this;rw [aG,<-this,uI]
    rw [e];refine ⟨.bl _,H,I.kept (t':=tk) λb o e'=>hk b o ?_ (Heap.get?_push_of_some _ e'),rfl,q⟩;intro hb;have e2:b=s.heap.objs.size:=by simpa using hb
    exact absurd (Heap.lt_size e') (by rw [e2]; exact cS _)
def JT(t c:String):Option Bool:=if (Value.type t==Value.type c)=true then some true else if W.kitMeta c=true then (fastBuiltinMro t).map (·.contains (Value.type c)) else none
theorem Kj{K:iC}{t c:String}{b:Bool}(h:JT t c=some b):W.kitOne K (.type t) (.type c)=some b:=h
inductive Kd(H:Hp):V->String->Prop where
  | non:Kd H .non "NoneType"
  | bl (x:Bool):Kd H (.bl x) "bool"
  | int (i:Int):Kd H (.int i) "int"
  | str (x:Str):Kd H (.str x) "str"
  | lst {a:Addr} {xs:List V} (e:H a=some (.lst xs)):Kd H (.ref a) "list"
  | tup {a:Addr} {xs:List V} (e:H a=some (.tup xs)):Kd H (.ref a) "tuple"
  | dK {a:Addr} {xs:List (Key×V)} (e:H a=some (.dK xs)):Kd H (.ref a) "dict"
variable {H:Hp}
theorem Kd.ty{K:iC}{x:V}{t:String}(k:Kd H x t):TyOf K H x (.type t):=by
  cases k with
  | non=>exact .non
  | bl b=>exact .bl b
  | int i=>exact .int i
  | str s=>exact .str s
  | lst e=>exact .lst e
  | tup e=>exact .tup e
  | dK e=>exact .dK e
variable {T:String}
theorem JW{K:iC}{Q:VK}{x:V}{t:String}{b:Bool}(k:Kd H x t)(e:JT t T=some b)(q:Q (.bl b) H):rIs K [x,.ty T] H Q:=⟨_,_,_,_,rfl,k.ty,Kj e,q⟩
variable {a:Addr}
theorem Ku{K:iC}{Q:VK}{ns:List Int}(h:SqL K H a (ns.map V.int))(q:Q (.int ns.sum) H):rSum K [.ref a] H Q:=⟨a,ns,rfl,h,q⟩
theorem Jq{K:iC}{Q:VK}{bs:List Bool}(h:SqL K H a (bs.map V.bl))(q:Q (.bl (bs.all id)) H):Kn K [.ref a] H Q:=⟨a,bs,rfl,h,q⟩
inductive T0 where
  | flat (x:V)
  | tup (xs:List V)
  | lst (xs:List V)
section
variable {H0 H:Hp}{Q:VK}{ls:List (Addr×HO)}
end
variable {tg:Expr}
abbrev Fq(H:Hp)(p:Addr)(x:Rat):Prop:=H p=some (.tup [.int x.num,.int (x.den:Int)])
abbrev Fs(K:iC)(H:Hp)(p:Addr)(x:Rat):Prop:=SqT K H p [.int x.num,.int (x.den:Int)]
theorem FL{p:Addr}{t b:Int}(hb:b≠0)(e:H p=some (.tup [.int (fT t b),.int (fB t b)])):Fq H p (Rat.divInt t b):=by
  rw [(rf hb).1,(rf hb).2] at e;exact e
variable {x y:Rat}
theorem Iz{p:Addr}(e:H p=some (.tup [.int (plT x.num x.den y.num y.den / (Int.gcd (plT x.num x.den y.num y.den) (Int.gcd x.den y.den:Nat):Nat)),.int ((x.den:Int) / (Int.gcd x.den y.den:Nat)*((y.den:Int) / (Int.gcd (plT x.num x.den y.num y.den) (Int.gcd x.den y.den:Nat):Nat)))])):Fq H p (x+y):=by
  rw [(GT x y).1,(GT x y).2] at e;exact e
theorem FJ{p:Addr}(e:H p=some (.tup [.int (x.num / (Int.gcd x.num y.den:Nat)*(y.num / (Int.gcd y.num x.den:Nat))),.int ((x.den:Int) / (Int.gcd y.num x.den:Nat)*((y.den:Int) / (Int.gcd x.num y.den:Nat)))])):Fq H p (x*y):=by
  rw [(Fg x y).1,(Fg x y).2] at e;exact e
variable {H':Hp}
theorem Same.sqT{K:iC}{xs:List V}(e:Same H H')(h:SqT K H a xs):SqT K H' a xs:=by
  rcases h with h|h
  . rcases h with h | ⟨o,h⟩
    . exact .inl (.inl (e _ _ h))
    . exact .inl (.inr ⟨o,e _ _ h⟩)
  . exact .inr h
abbrev SdAt(H:Hp)(p:Addr)(s:Sd):Prop:=H p=some (.tup [.int s.x,.int s.y,.int s.z])
structure Cell where
  p:Addr
  pw:Addr
  ph:Addr
  b:Bo
def Cell.v(c:Cell):V:=.ref c.p
structure Cell.At(H:Hp)(c:Cell):Prop where
  t:H c.p=some (.tup [.ref c.pw,.ref c.ph])
  w:SdAt H c.pw c.b.w
  h:SdAt H c.ph c.b.h
variable {c:Cell}
theorem Cell.At.same(h:c.At H)(s:Same H H'):c.At H':=⟨s _ _ h.t,s _ _ h.w,s _ _ h.h⟩
theorem Cell.At.sameX{D:Addr}{xs:List V}(h:c.At H)(s:SameX D H H')(e:H D=some (.lst xs)):c.At H':=⟨s.tup h.t e,s.tup h.w e,s.tup h.h e⟩
theorem uU{L:List Cell}{i:Nat}{y:V}(h:(L.map Cell.v)[i]?=some y):∃ c,y=.ref c.p/\c∈L/\L[i]?=some c:=by
  rw [ag] at h;cases e:L[i]? with
  | none=>rw [e] at h; cases h
  | some c =>
    rw [e] at h;exact ⟨c,(ax h).symm,ar e,rfl⟩
theorem Cp{L:List Cell}{i:Nat}(h:L[i]?=some c):(L.take (i+1)).map Cell.b=(L.take i).map Cell.b++[c.b]:=by
  rw [a8,h,aj];rfl
structure TbS(K:iC)(H:Hp)(p r0 r1 f0 f1 f2 f3:Addr)(t:Tb):Prop where
  p:SqT K H p [.ref r0,.ref r1]
  r0:SqT K H r0 [.ref f0,.ref f1]
  r1:SqT K H r1 [.ref f2,.ref f3]
  f0:Fs K H f0 t.a
  f1:Fs K H f1 t.b
  f2:Fs K H f2 t.c
  f3:Fs K H f3 t.e
variable {f1 f2 f3 r0 r1:Addr}{t:Tb}
theorem TbS.same{K:iC}{p f0:Addr}(h:TbS K H p r0 r1 f0 f1 f2 f3 t)(s:Same H H'):TbS K H' p r0 r1 f0 f1 f2 f3 t:=⟨s.sqT h.p,s.sqT h.r0,s.sqT h.r1,s.sqT h.f0,s.sqT h.f1,s.sqT h.f2,s.sqT h.f3⟩
structure TbH(H:Hp)(p r0 r1 f0 f1 f2 f3:Addr)(t:Tb):Prop where
  p:H p=some (.tup [.ref r0,.ref r1])
  r0:H r0=some (.tup [.ref f0,.ref f1])
  r1:H r1=some (.tup [.ref f2,.ref f3])
  f0:Fq H f0 t.a
  f1:Fq H f1 t.b
  f2:Fq H f2 t.c
  f3:Fq H f3 t.e
theorem TbH.same{p f0:Addr}(h:TbH H p r0 r1 f0 f1 f2 f3 t)(s:Same H H'):TbH H' p r0 r1 f0 f1 f2 f3 t:=⟨s _ _ h.p,s _ _ h.r0,s _ _ h.r1,s _ _ h.f0,s _ _ h.f1,s _ _ h.f2,s _ _ h.f3⟩
theorem TbH.s{K:iC}{p f0:Addr}(h:TbH H p r0 r1 f0 f1 f2 f3 t):TbS K H p r0 r1 f0 f1 f2 f3 t:=⟨.of h.p,.of h.r0,.of h.r1,.of h.f0,.of h.f1,.of h.f2,.of h.f3⟩
def TbAt(H:Hp)(p:Addr)(t:Tb):Prop:=∃ r0 r1 f0 f1 f2 f3:Addr,TbH H p r0 r1 f0 f1 f2 f3 t
theorem TbAt.same{H H':Hp}{p:Addr}{t:Tb}(h:TbAt H p t)(s:Same H H'):TbAt H' p t:=by
  obtain ⟨r0,r1,f0,f1,f2,f3,h⟩:=h;exact ⟨r0,r1,f0,f1,f2,f3,h.same s⟩
theorem TbAt.eq{p:Addr}{u:Tb}(h:TbAt H p t)(e:t=u):TbAt H p u:=e ▸ h
section
variable {K:iC}{H:Hp}{Q:VK}{σ:St}{D:Ends}
end
def TopE(K:iC)(mg:Str->Option Value)(x:Str):Prop:=∃ a,mg x=some (.ref a)/\∀ H:Hp,∃ r0 r1 f0 f1 f2 f3:Addr,TbS K H a r0 r1 f0 f1 f2 f3 Tb.zero
structure TupIn(K:iC)(a:Addr)(xs:List V):Prop where
  h:∃ (o:Obj) (its:Array Value) (n:Nat),K.lookup a=some o/\o.cls=.type "tuple"/\o.data=.seq its n/\its.size<=sizeLine/\Vals xs its.toList
theorem tupIn_mk{K:iC}{o:Obj}{its:Array Value}{n:Nat}{xs:List V}(l:K.lookup a=some o)(c:o.cls=.type "tuple")(d:o.data=.seq its n)(z:its.size<=sizeLine)(v:Vals xs its.toList):TupIn K a xs:=⟨o,its,n,l,c,d,z,v⟩
theorem topE_mk{K:iC}{h:Heap}{mg:Str->Option Value}{x:Str}{f0:Addr}(X:K.In h)(G:h.Ns mainGlobals mg)(e:W.nsIn K mainGlobals x=some (some (.ref a)))(t:TupIn K a [.ref r0,.ref r1])(t0:TupIn K r0 [.ref f0,.ref f1])(t1:TupIn K r1 [.ref f2,.ref f3])(u0:TupIn K f0 [.int 0,.int 1])(u1:TupIn K f1 [.int 0,.int 1])(u2:TupIn K f2 [.int 0,.int 1])(u3:TupIn K f3 [.int 0,.int 1]):TopE K mg x :=
  ⟨a,dB X G e,λ_=>⟨r0,r1,f0,f1,f2,f3,.inr t.h,.inr t0.h,.inr t1.h,.inr u0.h,.inr u1.h,.inr u2.h,.inr u3.h⟩⟩
def rTup(K:iC):List V->Hp->VK->Prop:=λxs H Q=>∃ p ys,xs=[.ref p]/\((SqL K H p ys/\∀ l,H l=none->Q (.ref l) (upd H l (.tup ys)))\/(SqT K H p ys/\Q (.ref p) H))
theorem CU:y8 X (.type "tuple") (rTup X.K):=uF
def rLst(K:iC):List V->Hp->VK->Prop:=λxs H Q=>∃ p ys,xs=[.ref p]/\(SqL K H p ys\/SqT K H p ys)/\∀ l,H l=none->Q (.ref l) (upd H l (.lst ys))
theorem wp:y8 X (.type "list") (rLst X.K):=AA
theorem JF{K:iC}{Q:VK}{p:Addr}{ys:List V}(h:H p=some (.lst ys))(q:∀ l H2,Same H H2->H2 l=some (.tup ys)->Q (.ref l) H2):rTup K [.ref p] H Q:=⟨p,ys,rfl,.inl ⟨SqL.of h,λl hl=>q l _ (zD hl _) zg⟩⟩
section
variable {prog:Program}{w:World}{A:Around}{E:Value->Shared->Prop}
end
abbrev TF:=St->Hp->Str->VK->Prop
def tF(t:TF):TE:=λσ H Q=>t σ H Str.empty Q
section
variable {K:iC}{σ:St}{H:Hp}{Q:VK}
theorem Df{n:Nat}(h:n<=1000):n<=sizeLine:=yX h
theorem D4{l:Addr}{xs:List V}(h:H l=some (.lst xs))(q:∀ H2,SameX l H H2->H2 l=some (.lst xs.reverse)->Q .non H2):BO (.ref l) [] H Q:=⟨l,xs,rfl,rfl,h,q _ (λb o e n=>by rw [zl n]; exact e) zg⟩
theorem LK{r:V->List V->Hp->VK->Prop}{to:TE}(h:to σ H λx H1=>tyV K T x H1/\r x [] H1 Q):tBM0 K T r to σ H Q:=h
theorem L4{i j:Str}(h:Q (.bl (decide (i=j))) H):rEq (.str i) (.str j) H Q:=⟨rfl,by
  have e:decide (V.str i=V.str j)=decide (i=j):=by rw [cr]; simp
  rw [e]; exact h⟩
theorem LQ{i j:Str}(h:Q (.bl (!decide (i=j))) H):rNe (.str i) (.str j) H Q:=⟨rfl,by
  have e:decide (V.str i=V.str j)=decide (i=j):=by rw [cr]; simp
  rw [e]; exact h⟩
theorem F6{z:Str}(h:Q (.bl true) H):rIs K [.str z,.ty "str"] H Q:=⟨_,_,_,_,rfl,.str z,uH K _,h⟩
end
section
variable {prog:Program}{w:World}{A:Around}{E:Value->Shared->Prop}{s:Shared}{R:Result->Shared->Prop}
variable {I:Addr}{fp wr:List Addr}{G:Array GenState->Array GenState->Prop}{n:Nat}{P:Nat->Value->Prop}{St:Nat->Shared->Prop}
end
variable {e:Expr}{te:TE}{p1 p2 pos pos2:Pos}
theorem HU{n:Nat}{b r2 s1 s2:Addr}(ha:H a=some (.tup [.ref r1,.ref r2]))(hb:H b=some (.tup [.ref s1,.ref s2]))(e1:EqV X n H (.ref r1) (.ref s1) true)(e2:EqV X n H (.ref r2) (.ref s2) true):EqV X (n+1) H (.ref a) (.ref b) true :=
  EqV.tup (X:=X) (n:=n) (bs:=[true,true]) (SqT.of ha) (SqT.of hb) (.cons e1 (.cons e2 .nil)) (λ_=>rfl)
end L2
namespace Bg
end Bg
namespace L2
local macro_rules | `(⋯)=>`(by decide)
local macro_rules | `(!4)=>`(by omega)
open PySem PySem.Spec PyProof.Rows Bg
structure BsAt(H:Hp)(p r1 r2:Addr)(s:B4)(N:Int):Prop where
  t:H p=some (.tup [.ref r1,.ref r2])
  f:H r1=some (.tup [.int (lA s.a s.b N),.int (lB s.a s.b N),.int (lN s.a s.b N)])
  g:H r2=some (.tup [.int (lA s.c s.e N),.int (lB s.c s.e N),.int (lN s.c s.e N)])
variable {H:Hp}
theorem BsAt.same{H':Hp}{p r1 r2:Addr}{s:B4}{N:Int}(h:BsAt H p r1 r2 s N)(z:Same H H'):BsAt H' p r1 r2 s N:=⟨z _ _ h.t,z _ _ h.f,z _ _ h.g⟩
def WGn(Pv:Nat->St->Hp->Prop)(m:Nat)(tb:TS)(D:Ends)(σ:St)(H:Hp):Prop :=
  ∃ N:St->Hp->Prop,(∀ σ' H',N σ' H'->∃ m',m'<m/\Pv m' σ' H')/\tb { D with nx:=N,ct:=N,bk:=D.nx } σ H
variable {D:Ends}
theorem wgn{Pv:Nat->St->Hp->Prop}{m:Nat}{tb:TS}{σ:St}(h:tb { D with nx:=λσ' H'=>∃ m',m'<m/\Pv m' σ' H',ct:=λσ' H'=>∃ m',m'<m/\Pv m' σ' H',bk:=D.nx } σ H):WGn Pv m tb D σ H :=
  ⟨_,λ_ _ z=>z,h⟩
theorem Id{c:TT}{tb:TS}{σ:St}(Pv:Nat->St->Hp->Prop)(h0:∃ m,Pv m σ H)(hs:∀ m σ H,Pv m σ H->c σ H λb H1=>if b=true then WGn Pv m tb D σ H1 else D.nx σ H1):Ey c tb D σ H :=
  ⟨Pv,h0,hs⟩
theorem uh(f:Nat->Int):∀ k,argBest (λi j=>decide (f i<f j)) k<=k/\∀ i,i<=k->f (argBest (λi j=>decide (f i<f j)) k)<=f i
  | 0=>⟨ai _,λi hi=>by have:i=0:=(!4); subst this; exact Int.le_refl _⟩
  | k+1=>by
    obtain ⟨h1,h2⟩:=uh f k;unfold argBest;by_cases c:f (k+1)<f (argBest (λi j=>decide (f i<f j)) k)
    . rw [h8 (iw c)];refine ⟨ai _,λi hi=>?_⟩;by_cases e:i=k+1
      . subst e; exact Int.le_refl _
      . have:=h2 i (!4); omega
    . rw [h9 (by simpa using c)];refine ⟨by omega,λi hi=>?_⟩;by_cases e:i=k+1
      . subst e; omega
      . exact h2 i (!4)
def IO(K:iC):List V->Hp->VK->Prop:=λxs H Q=>∃ (a:Addr) (ns:List Int),xs=[.ref a]/\(SqL K H a (ns.map V.int)\/SqT K H a (ns.map V.int))/\ns≠[]/\∀ m∈ns,(∀ x∈ns,m<=x)->Q (.int m) H
variable {ys:Array (Int×Tok)}{ns:List Int}
theorem B8(e2:ys.toList.map (·.1)=ns){i:Nat}(hi:i<ns.length):numAt ys i=ns[i]:=by
  subst e2;have hi':i<ys.size:=by simpa using hi
  unfold numAt;rw [Array.getElem?_eq_getElem hi'];simp
theorem tM(e2:ys.toList.map (·.1)=ns)(hne:ns≠[]){v:Value}(h:(intItems ys)[argBest (λi j=>decide (numAt ys i<numAt ys j)) (ys.size - 1)]?=some v):∃ m t,v=.int m t/\m∈ns/\∀ x∈ns,m<=x:=by
  have hl:ys.size=ns.length:=by rw [<-e2]; simp
  have hp:0<ns.length:=bu.mpr hne;obtain ⟨h1,h2⟩:=uh (numAt ys) (ys.size - 1);obtain ⟨t,rfl⟩:=intItems_at h;generalize argBest (λi j=>decide (numAt ys i<numAt ys j)) (ys.size - 1)=b at *
  have hb:b<ns.length:=by omega
  refine ⟨_,t,rfl,?_,λx hx=>?_⟩
  . rw [B8 e2 hb]; exact bH hb
  . obtain ⟨i,hi,e⟩:=List.getElem_of_mem hx;have:=h2 i (!4);rw [B8 e2 hi,e] at this;exact this
variable {X:Cx}
theorem Fe(hc:X.calm=true):y8 X (.builtin "min") (IO X.K):=by
  intro pins s σ H xs us Q I r h;obtain ⟨a,ns,rfl,hq,hne,q⟩:=h;obtain ⟨u,rfl,ru⟩:=Vals.one r;cases ru
  rcases hq with hq|hq
  . obtain ⟨its,rv,p,hz⟩:=I.list hq;obtain ⟨ys,e1,e2⟩:=xL rv;have hl:s.heap.IsList a (intItems ys):=by rw [<-e1]; exact p.isList
    have hn:0<ys.size:=by
      have:ys.size=ns.length:=by rw [<-e2]; simp
      have:=bu.mpr hne;omega
    refine min_intList (I.ok.hd hc) hl hn λv h' tk hv hk=>?_;obtain ⟨m,t,rfl,hm,hle⟩:=tM e2 hne hv;exact ⟨.int m,H,I.kept (t':=tk) hk,⟨t,rfl⟩,q m hm hle⟩
  . obtain ⟨its,rv,p,hz⟩:=I.tuple hq;obtain ⟨ys,e1,e2⟩:=xL rv;have hl:s.heap.IsTuple a (intItems ys):=by rw [<-e1]; exact p
    have hn:0<ys.size:=by
      have:ys.size=ns.length:=by rw [<-e2]; simp
      have:=bu.mpr hne;omega
    have hlt:a<s.heap.objs.size:=by obtain ⟨_,e,_⟩:=hl; exact Heap.lt_size e
    refine call_min_walk (wpAny_pyIter_tuple hl ?_);refine ⟨_,[_,a],[_],_,_,_,_,rfl,Walks.tuple (A:=X.A.in1) (show X.A.in1.handled=none from I.ok.hd hc) _ a (az hlt) (intItems ys),⟨⟨_,Heap.get?_push_size _ rfl,rfl,rfl⟩,hl.push _⟩,λb hb=>?_,by simpa [intItems] using hn,CmpOf.ints_lt (numAt ys) (λ_ _=>intItems_at),λv h' tk hP hk=>?_⟩
    . show b<(s.heap.push _).objs.size;rw [Heap.size_push];rcases aN.mp hb with rfl|hb
      . exact dI _
      . rcases aN.mp hb with rfl | hb
        . exact dC hlt
        . cases hb
    . obtain ⟨m,t,rfl,hm,hle⟩:=tM e2 hne (by simpa [intItems] using hP);refine ⟨.int m,H,I.kept (t':=tk) λb o e'=>hk b o ?_ (Heap.get?_push_of_some _ e'),⟨t,rfl⟩,q m hm hle⟩;intro hb;have e2:b=s.heap.objs.size:=by simpa using hb
      exact absurd (Heap.lt_size e') (by rw [e2]; exact cS _)
variable {a:Addr}
section
variable {K:iC}{H:Hp}{Q:VK}{σ:St}{D:Ends}
theorem IK{i j:Int}(h:H a=some (.tup [.int i,.int j]))(q:∀ m:Int,(m=i\/m=j)->m<=i->m<=j->Q (.int m) H):IO K [.ref a] H Q :=
  ⟨a,[i,j],rfl,.inr (SqT.of h),by simp,λm hm hl=>q m (by simpa using hm) (hl i (by simp)) (hl j (by simp))⟩
end
structure Ln where
  p:Addr
  s:Sd
def Ln.v(c:Ln):V:=.ref c.p
def Ln.u(c:Ln):Int×Int:=(c.s.x,c.s.y)
theorem Jn{L:List Ln}{i:Nat}{y:V}(h:(L.map Ln.v)[i]?=some y):∃ c,y=.ref c.p/\c∈L/\L[i]?=some c:=by
  rw [ag] at h;cases e:L[i]? with
  | none=>rw [e] at h; cases h
  | some c =>
    rw [e] at h;refine ⟨c,?_,ar e,rfl⟩;have:Ln.v c=y:=by simpa using h
    exact this.symm
theorem Be{α:Type}{f:Ln->α}{L:List Ln}{i:Nat}{c:Ln}(h:L[i]?=some c):(L.take (i+1)).map f=(L.take i).map f++[f c]:=by
  rw [f6,h,aj];rfl
variable {tg:Expr}
section
variable {K:iC}{H:Hp}{Q:VK}
theorem JA{i j:Nat}(hS:SqL K H a (ns.map V.int))(q:∀ (p:Addr) (H2:Hp),Same H H2->H2 p=some (.lst (((ns.drop i).take (j - i)).map V.int))->Q (.ref p) H2):rSlL K (.ref a) (some (i:Int)) (some (j:Int)) H Q:=by
  refine ⟨a,_,rfl,hS,λp hp=>?_⟩;refine q p _ (zD hp _) ?_;rw [zg];unfold cutV;rw [HT.sIx_nat,HT.sIx_nat,hU,gj];congr 2;generalize ns.map V.int=xs;rcases gO i xs.length with z|z
  . rw [d5 z];rcases gO j xs.length with y|y
    . rw [d5 y]
    . rw [eQ y,bJ (by rw [cZ]; omega),bJ (by rw [cZ]; omega)]
  . rw [eQ z,dk (ai _),dk z,hV,hV]
end
variable {pins:List (Addr×Obj)}
theorem Inv.turnedL{σ:St}{s:Shared}{h':Heap}{t':Nat}{its:List Addr}(I:Inv X pins σ H s)(k:∀ b o,b∉its->s.heap.get? b=some o->h'.get? b=some o)(hf:∀ b∈its,FpOk X pins H b):Inv X pins σ H { s with heap:=h',toks:=t' }:=by
  have nit:∀ b u,H b=some u->b∉its:=λb u e z=>by have:=(hf b z).1; rw [this] at e; cases e
  refine I.step (g':=s.gens) (d':=s.drawn) (ch:=its) (λb hb=>?_) (λb o _ _ hc e _=>k b o hc e) (λb o _ _ hc e _=>⟨o.slots,k b o hc e⟩) (λ_ _ _ _ n=>n)
    (λb o hc e=>⟨o,k b o hc e⟩) (λ_ _ e=>e) (λ_ _ _ e=>e) (λb ps e=>⟨#[],by rw [e]; simp⟩) (λm hm=>?_) (λb u e=>?_) I.bare
  . obtain ⟨f0,f1,f2,f3,f4,f5⟩:=hf b hb;exact ⟨f3,f1,f4,f5⟩
  . obtain ⟨o,es,ep,ho,r⟩:=hm;exact ⟨o,es,ep,k _ o (λz=>(hf _ z).2.1 rfl) ho,r⟩
  . refine (I.hok b u e).stay (λc v hc q=>k c v ?_ q) (λ_ q=>q) λ_ _ q=>q;rcases hc with z|z
    . rw [z]; exact nit b u e
    . exact nit c _ z
variable {h:Heap}{o:Obj}
theorem By{c:Addr}{o':Obj}(hc:c≠h.objs.size)(e:(h.push o).get? c=some o'):h.get? c=some o':=by
  obtain ⟨e1,e2⟩:=Heap.get?_some_iff.mp e;refine Heap.get?_some_iff.mpr ⟨?_,e2⟩;cases h
  simpa [Heap.push,Array.getElem?_push,hc] using e1
def KI:V->List V->Hp->VK->Prop:=λx vs H Q=>∃ i:Int,x=.int i/\vs=[]/\Q (.int ((Builtin.Int.intBits i:Nat):Int)) H
theorem Hy:MtR X "int.bit_length" KI:=by
  intro pins s σ H x xs v us Q I rx rv h;obtain ⟨i,rfl,rfl,q⟩:=h;obtain ⟨t,rfl⟩:=rx;have hus:=rv.zero;subst hus;exact call_int_bit_length ⟨.int _,H,I.tok _,⟨_,rfl⟩,q⟩
theorem KD{i:Int}{Q:VK}(q:Q (.int ((Builtin.Int.intBits i:Nat):Int)) H):KI (.int i) [] H Q:=⟨i,rfl,rfl,q⟩
theorem L8{K:iC}{z:Int}{R:Prop}(q:R):tyV K "int" (.int z) H/\R:=⟨rfl,q⟩
theorem Hl{k:Nat}{i:Int}(h:Bd k i):¬ ((k:Int)<((Builtin.Int.intBits i:Nat):Int)):=by
  unfold Builtin.Int.intBits;by_cases c:i=0
  . subst c;rw [h8 ⋯];omega
  . rw [h9 (by simpa using c)];have h1:i.natAbs.log2<k:=(gW (!4)).mpr h;omega
variable {x' y y':Int}
theorem LU{j k:Nat}{d x:Int}(hd:Bd 64 d)(b1:Bd j x)(b2:Bd j y)(b4:Bd k x')(b5:Bd k y')(hk:j+k+65<=8192):Bd 8192 (x*x'+d*y*y') :=
  (Bd.add (k:=64+j+k) ((b1.mul b4).mono (!4)) ((hd.mul b2).mul b5)).mono (!4)
theorem Lr{j k:Nat}{x:Int}(b1:Bd j x)(b2:Bd j y)(b4:Bd k x')(b5:Bd k y')(hk:j+k+65<=8192):Bd 8192 (x*y'+y*x') :=
  (Bd.add (k:=j+k) (b1.mul b5) (b2.mul b4)).mono (!4)
section
variable {g:TG}{tc:TT}{te:TE}{σ0:St}{H1:Hp}{D:Addr}
end
def TopS(mg:Str->Option Value)(x:Str)(z:Str):Prop:=∃ u,mg x=some u/\RelV (.str z) u
variable {x:Str}{mg:Str->Option Value}
theorem topS_mk{K:iC}{z:Str}{t:Tok}(X:K.In h)(G:h.Ns mainGlobals mg)(e:W.nsIn K mainGlobals x=some (some (.str z t))):TopS mg x z:=⟨_,dB X G e,⟨t,rfl⟩⟩
section
variable {K:iC}{σ:St}{H:Hp}{Q:VK}
end
open Builtin Builtin.Str
section
variable {H:Hp}{Q:VK}
end
open PySem.W PySem.Calls PySem.Builtin PySem.Builtin.ObjectAttr PySem.Builtin.Getset_descriptor
section
variable {prog:Program}{w:World}{A:Around}{E:Value->Shared->Prop}{K:Frag}{x C:Addr}{h:Heap}{g:Array GenState}{d:Drawn}{t:Nat}{os:OsState}
end
section
variable {pins:List (Addr×Obj)}{σ:St}{H:Hp}{s:Shared}
end
section
variable {P:Program}{w:World}{K:iC}{mg:Str->Option Value}{base:Heap}{N:List Str}{qual:Str}{scope:Scope}{f:Addr}{cd:Value}{A:Around}{outer:List Env}{s0:Shared}{H0:Hp}{E:XK}
end
section
variable {pl pins:List (Addr×Obj)}{σ:St}{H:Hp}{s:Shared}{EE:St->XK}{a:Addr}
end
section
variable {k j:Nat}{x:Str}{ps:List Str}{dvs:List V}{sp:Sp}{p pos:Pos}{e:Expr}{es:List Expr}{t:TA}{E:XK}
end
section
variable {P:Program}{w:World}{K:iC}{mg:Str->Option Value}{base:Heap}
end
variable {P:Program}{w:World}
section
variable {pins:List (Addr×Obj)}{σ:St}{H:Hp}{s:Shared}{pos:Pos}
theorem IV(I:Inv X pins σ H s):sysModules<s.heap.objs.size:=fC ⋯ (show mainGlobals<s.heap.objs.size from (I.mod.glob.keeps I.bk).lt)
theorem dnew(h:Heap)(hb:sysModules<h.objs.size):ObjOk P w H (h.push { cls:=.type "dict",data:=.dict #[] }) h.objs.size (.dK []) :=
  ⟨bS _,beq_eq_false_iff_ne.mpr (bZ (az hb)),[],.nil,Heap.DictOf.new h⟩
def GD:TE:=λ_ H Q=>∀ p H',H p=none->Same H H'->H' p=some (.dK [])->Q (.ref p) H'
theorem uW:PE X (.Dict [] [] pos) GD:=λpins s σ H Q I h =>
  wpAny_Dict_empty ⟨.ref s.heap.objs.size,_,I.laid (a:=s.heap.objs.size) (o:=.dK []) (t':=s.toks) (λ_ _ q=>Heap.get?_push_of_some _ q) (ai _) (dnew s.heap (IV I)),rfl,
    h _ _ (I.hok.fresh (ai _)) (zD (I.hok.fresh (ai _)) _) zg⟩
theorem AU{σ:St}{Q:VK}(q:∀ p H',H p=none->Same H H'->H' p=some (.dK [])->Q (.ref p) H'):GD σ H Q:=q
end
theorem EM{n:Nat}{b:Addr}{xs ys:List V}{bs:List Bool}{σ:St}{s:Shared}{A:Around}(ha:SqL X.K H a xs)(hb:SqL X.K H b ys)(he:EqVs X n H xs ys bs)(I:Inv X pins σ H s)(hu:A.units+4*(n+1)<cLine) : ∃ (is js:Array Value),s.heap.IsList a is/\s.heap.IsList b js/\is.size=js.size/\(∀ j (h1:j<is.size) (h2:j<js.size),SeqAt.EqAt A.in1 s is[j] js[j] (bs.getD j false))/\((List.range is.size).all (λj=>bs.getD j false))=bs.all id:=by
  obtain ⟨is,r1,p1,_⟩:=I.list ha;obtain ⟨js,r2,p2,_⟩:=I.list hb;obtain ⟨l1,l2⟩:=he.len;have q1:=r1.length;have q2:=r2.length;refine ⟨is.toArray,js.toArray,p1.isList,p2.isList,by rw [aG,aG]; omega,λj h1 h2=>?_,?_⟩
  . have hj1:j<xs.length:=by rw [q1]; simpa using h1
    have hj2:j<ys.length:=by rw [q2]; simpa using h2
    obtain ⟨v,ev,rv⟩:=r1.get (ae hj1);obtain ⟨u,eu,ru⟩:=r2.get (ae hj2);have e1:is.toArray[j]=v:=by
      have:is[j]?=some v:=ev;rw [ae (by simpa using h1)] at this;simpa using ax this
    have e2:js.toArray[j]=u:=by
      have:js[j]?=some u:=eu;rw [ae (by simpa using h2)] at this;simpa using ax this
    rw [e1,e2];exact he.at (ae hj1) (ae hj2) pins σ s v u A.in1 I rv ru (by show A.units+1+4*n<cLine; omega)
  . have e1:is.toArray.size=bs.length:=by rw [aG]; omega
    rw [e1,uI]
def rEqL(X:Cx):R2:=λx y H Q=>∃ a b xs ys bs n,x=.ref a/\y=.ref b/\n<=9/\SqL X.K H a xs/\SqL X.K H b ys/\EqVs X n H xs ys bs/\Q (.bl (bs.all id)) H
theorem J1(hu:X.A.units+64<cLine):OpR X (compareOp .Eq) (rEqL X):=by
  intro pins s σ H x y v u Q I rx ry h;obtain ⟨a,b,xs,ys,bs,n,rfl,rfl,hn,ha,hb,he,q⟩:=h;cases rx
  cases ry
  obtain ⟨is,js,p1,p2,hz,hj,e⟩:=EM (A:=X.A) ha hb he I (!4);refine SeqAt.eq_listAt p1 p2 hz (!4) hj ?_;rw [e];exact ⟨.bl _,H,I,rfl,q⟩
theorem KG{Q:VK}{b:Addr}(ha:H a=some (.lst (ns.map V.int)))(hb:H b=some (.lst (ns.map V.int)))(q:Q (.bl true) H):rEqL X (.ref a) (.ref b) H Q:=by
  have key:∀ ms:List Int,EqVs X 0 H (ms.map V.int) (ms.map V.int) (ms.map λ_=>true):=by
    intro ms;induction ms with
    | nil=>exact .nil
    | cons m ms ih =>
      have e:EqV X 0 H (.int m) (.int m) true:=by
        have:=EqV.int (X:=X) (n:=0) (H:=H) m m;simpa using this
      exact .cons e ih
  refine ⟨a,b,_,_,_,0,rfl,rfl,bS _,SqL.of ha,SqL.of hb,key ns,?_⟩;have e:(ns.map λ_=>true).all id=true:=by simp
  rw [e];exact q
theorem KK{Q:VK}{b:Addr}{C D:List Cell}(ha:H a=some (.lst (C.map Cell.v)))(hb:H b=some (.lst (D.map Cell.v)))(hC:∀ c∈C,c.At H)(hD:∀ c∈D,c.At H)(e:C.map Cell.b=D.map Cell.b)(q:Q (.bl true) H):rEqL X (.ref a) (.ref b) H Q:=by
  have key:∀ (C D:List Cell),(∀ c∈C,c.At H)->(∀ c∈D,c.At H)->C.map Cell.b=D.map Cell.b->EqVs X 2 H (C.map Cell.v) (D.map Cell.v) (C.map λ_=>true):=by
    intro C;induction C with
    | nil =>
      intro D _ _ e;have:D=[]:=by
        cases D with
        | nil=>rfl
        | cons d D=>simp at e
      subst this;exact .nil
    | cons c C ih =>
      intro D hC hD e;cases D with
      | nil=>simp at e
      | cons d D =>
        simp only [aU,List.cons.injEq] at e;have ac:=hC c aB;have ad:=hD d aB;have w1:=ac.w;have w2:=ad.w;have h1:=ac.h;have h2:=ad.h;rw [<-e.1] at w2 h2;have e2:EqV X 2 H (.ref c.p) (.ref d.p) true:=HU ac.t ad.t (eqv3 w1 w2) (eqv3 h1 h2);exact .cons e2 (ih D (λx hx=>hC x (ay _ hx)) (λx hx=>hD x (ay _ hx)) e.2)
  refine ⟨a,b,_,_,_,2,rfl,rfl,by decide,SqL.of ha,SqL.of hb,key C D hC hD e,?_⟩;have e':(C.map λ_=>true).all id=true:=by simp
  rw [e'];exact q
variable {l:Addr}
theorem DR{Q:VK}{xs:List V}(h:H l=some (.lst xs))(q:∀ H2,SameX l H H2->Q .non H2):GA (.ref l) [] H Q:=⟨l,xs,rfl,rfl,h,q _ λb o e n=>by rw [zl n]; exact e⟩
structure H5(d N:Int)(H:Hp)(p:Addr)(C:List Cell):Prop where
  l:H p=some (.lst (C.map Cell.v))
  at':∀ c∈C,c.At H
  ok:∀ c∈C,B5 d N c.b
section
variable {M:Model}{A:Around}{E:Value->Shared->Prop}{s:Shared}
end
section
variable {pins:List (Addr×Obj)}{σ:St}{H:Hp}{s:Shared}
end
section
variable {pins:List (Addr×Obj)}{σ:St}{H:Hp}{s:Shared}{scope:Scope}{cl:List (Str×Addr)}{own:List Str}{js:List Nat}{fp:List Addr}{C:Addr}{s3:Shared}{H3:Hp}{E:XK}
end
section
variable {pins:List (Addr×Obj)}{σ:St}{H:Hp}{s:Shared}{scope:Scope}{cl:List (Str×Addr)}{own:List Str}{js:List Nat}{fp:List Addr}{E:XK}
end
variable {d:Addr}
theorem Inv.retrack{σ:St}{s:Shared}{u u':HO}(I:Inv X pins σ H s)(e:H d=some u)(nf:∀ o v,X.H₀ d≠some (.frz o v))(nt:∀ xs,u≠.tup xs)(nb:∀ ps,u≠.tbl ps)(no:∀ y,u≠.own y)(new:ObjOk X.prog X.w H s.heap d u')(no':∀ y,u'≠.own y):Inv X pins σ (upd H d u') s:=by
  have ne:∀ {b},H b=none->b≠d:=λ{b} q z=>by rw [z,e] at q; cases q
  have st:∀ b v,ObjOk X.prog X.w H s.heap b v->ObjOk X.prog X.w (upd H d u') s.heap b v:=λb v x=>x.stay (λc w' _ q=>q)
    (λc q=>by rw [zl (λz=>no _ (by rw [z,e] at q; exact ax q))]; exact q)
    (λc xs q=>by rw [zl (λz=>nt _ (by rw [z,e] at q; exact ax q))]; exact q)
  refine ⟨I.ok,I.os,I.bare,⟨I.base.keep,I.base.slot,λb o q n hx=>?_,I.base.there,λb xs q=>?_,λb o v q=>?_,λb ps q=>?_⟩,I.loc,I.cell,?_,λx c q=>?_,λp hp=>?_,λb v q=>?_,I.len⟩
  . have k:=I.base.free b o q n hx;rw [zl (ne k)];exact k
  . have k:=I.base.tups b xs q;rw [zl (λz=>nt xs (by rw [z,e] at k; exact ax k))];exact k
  . have k:=I.base.frzs b o v q;rw [zl (λz=>nf o v (by rw [<-z]; exact q))];exact k
  . obtain ⟨more,k⟩:=I.base.tbls b ps q;exact ⟨more,by rw [zl (λz=>nb _ (by rw [z,e] at k; exact ax k))]; exact k⟩
  . rw [zl (ne I.free)]; exact I.free
  . rw [zl (ne (I.freeC x c q))]; exact I.freeC x c q
  . obtain ⟨k1,k2,k3⟩:=I.pin p hp;exact ⟨k1,by rw [zl (ne k2)]; exact k2,k3⟩
  . by_cases z:b=d
    . subst z;rw [zg] at q;cases q
      exact st _ _ new
    . rw [zl z] at q;exact st _ _ (I.hok b v q)
def Itd(d:Addr)(ob:Obj)(kvs:List (Key×V)):It :=
  ⟨λi H=>H d=some (.frz ob (.dK kvs))/\i<kvs.length,λi H x H'=>H'=H/\∃ kv,kvs[i]?=some kv/\x=kV kv.1,λi H=>H d=some (.frz ob (.dK kvs))/\kvs.length<=i⟩
theorem Ec{k:Key}{u:Value}(h:(zX P w).is k u=true):RelV (kV k) u:=by
  cases k with
  | inl i =>
    have h:Value.isInt i u=true:=h;unfold Value.isInt at h;split at h
    . exact ⟨_,by rw [show i=_ from (beq_iff_eq.mp h).symm]⟩
    . cases h
  | inr x =>
    have h:Value.isStrOf x u=true:=h;unfold Value.isStrOf at h;split at h
    . exact ⟨_,by rw [show x=_ from (beq_iff_eq.mp h).symm]⟩
    . cases h
variable {es:Array DictEntry}{kvs:List (Key×V)}{ep:Nat}
theorem BB{ob:Obj}(hdat:ob.data=.dict es ep)(ok:HOk P w H h)(e:H d=some (.frz ob (.dK kvs))):∃ vs,KV kvs vs/\h.DictAt (zX P w) d vs ep:=by
  obtain ⟨g,_,_,vs,r,o,es',ep',g',c,dd,r2⟩:=ok d _ e;have:o=ob:=by rw [g] at g'; exact (ax g').symm
  subst this;rw [hdat] at dd;cases dd
  exact ⟨vs,r,o,es,g,c,hdat,r2⟩
theorem EG{K:iC}(d it:Addr){ob:Obj}(hdat:ob.data=.dict es ep):Turn P w K tg (Itd d ob kvs) [it] it (λi h=>h.IsKeyIter it d i kvs.length ep) where
  mem:=by simp
  obj:=λi h st b hb=>by
    have e:b=it:=by simpa using hb
    subst e;obtain ⟨o,e,c,dd⟩:=st;exact ⟨o,e,λv z=>by rw [dd] at z; cases z⟩
  keep:=λi h h' st k=>st.at λo e=>k it (by simp) o e
  item:=by
    intro X hP hw hK hc i pins s σ H E I hf st hg;subst hP hw hK;obtain ⟨hfz,hi⟩:=hg;obtain ⟨vs,r,da⟩:=BB hdat I.hok hfz;have hl:=r.length;obtain ⟨f0,f1,f2,f3,f4,f5⟩:=hf it (by simp);obtain ⟨⟨k,v⟩,hk⟩:∃ p,vs[i]?=some p:=⟨vs[i]'(!4),by simp⟩
    have hkk:kvs[i]?.map (·.1)=some k:=by
      have:=congrArg (·[i]?) r.keys;simp only [ag,hk] at this;exact this
    obtain ⟨kv,hkv,ekv⟩:∃ kv,kvs[i]?=some kv/\kv.1=k:=by
      cases q:kvs[i]? with
      | none=>rw [q] at hkk; cases hkk
      | some kv=>rw [q] at hkk; exact ⟨kv,rfl,ax hkk⟩
    rw [hl] at st ⊢;refine wpAny_pyNext_dict_item st da hk λkey h' hkey st' sb=>?_;have I1:Inv X pins σ H { s with heap:=h' }:=I.turned (t':=s.toks) (λb o hb e=>(sb.2 b hb).trans e) f0 f1 f3 f4 f5;obtain ⟨o,e,c,dd⟩:=id st';exact ⟨key,rfl,Ff (s:={ s with heap:=h' }) e c dd ⋯ ⟨kV k,H,I1,Ec hkey,⟨rfl,kv,hkv,by rw [ekv]⟩,st',λb hb=>(hf b hb).1⟩⟩
  done:=by
    intro X hP hw hK hc i pins s σ H E I hf st hg;subst hP hw hK;obtain ⟨hfz,hi⟩:=hg;obtain ⟨vs,r,da⟩:=BB hdat I.hok hfz;have hl:=r.length;obtain ⟨f0,f1,f2,f3,f4,f5⟩:=hf it (by simp);rw [hl] at st;exact wpAny_pyNext_dict_end (I.ok.hd hc) st da (c8 (!4)) λh' eb=>⟨rfl,I.turned (t':=s.toks) (λb o hb e=>eb b o hb e) f0 f1 f3 f4 f5⟩
  self:=λ_ _ _ _ _ st h=>wpAny_pyIter_keyiter st h
def NoFz(H₀:Hp)(d:Addr):Prop:=∀ o v,H₀ d≠some (.frz o v)
def Ir(H₀:Hp)(td:TE):TI:=λσ H R=>td σ H λx H1=>∃ d kvs,x=.ref d/\H1 d=some (.dK kvs)/\∀ ob,NoFz H₀ d->R (Itd d ob kvs) (upd H1 d (.frz ob (.dK kvs)))
theorem Inv.nofrz{σ:St}{s:Shared}(I:Inv X pins σ H s)(e:H d=some (.dK kvs)):∀ o v,X.H₀ d≠some (.frz o v):=λo v q=>by
  have k:=I.base.frzs d o v q;rw [e] at k;cases k
theorem Inv.freeze{σ:St}{s:Shared}{ob:Obj}(I:Inv X pins σ H s)(e:H d=some (.dK kvs))(g:s.heap.get? d=some ob):Inv X pins σ (upd H d (.frz ob (.dK kvs))) s :=
  I.retrack e (I.nofrz e) (λ_ z=>by cases z) (λ_ z=>by cases z) (λ_ z=>by cases z) ⟨g,I.hok d _ e⟩ (λ_ z=>by cases z)
theorem Inv.thaw{σ:St}{s:Shared}{ob:Obj}(I:Inv X pins σ H s)(nf:∀ o v,X.H₀ d≠some (.frz o v))(e:H d=some (.frz ob (.dK kvs))):Inv X pins σ (upd H d (.dK kvs)) s :=
  I.retrack e nf (λ_ z=>by cases z) (λ_ z=>by cases z) (λ_ z=>by cases z) (I.hok d _ e).2 (λ_ z=>by cases z)
theorem Ib{e:Expr}{td:TE}(hd:PE X e td):PI X tg e (Ir X.H₀ td):=by
  intro pins s σ H R I h;refine thn (hd pins s σ H _ I h) λv s1 ⟨x,H1,I1,r1,q1⟩=>?_;obtain ⟨d,kvs,ex,hq,q⟩:=q1;subst ex;cases r1
  obtain ⟨z,y,vs,r,dof⟩:=id (I1.hok d _ hq);obtain ⟨ep,o,es,ho,r2⟩:=dof.dictAt;obtain ⟨c,hdat,r3⟩:=id r2;refine iy y ⟨o,es,ho,r2⟩ ?_;have I2:=(I1.kept (h':=s1.heap.push { cls:=.type "dict_keyiterator",data:=.fields #[.ref d,.int 0 0,.int vs.length 0,.int ep 0] }) (t':=s1.toks) λb o e=>Heap.get?_push_of_some _ e).freeze hq (Heap.get?_push_of_some _ ho);refine ⟨s1.heap.objs.size,[s1.heap.objs.size],_,_,_,rfl,I2,EG d _ hdat,?_,λb hb=>?_,q o (I1.nofrz hq)⟩
  . rw [r.length];exact ⟨_,Heap.get?_push_size _ rfl,rfl,rfl⟩
  . have e:b=s1.heap.objs.size:=by simpa using hb
    subst e;have hn:=I1.hok.fresh (ai s1.heap.objs.size);exact I1.fpOk (ai _) (by rw [zl (λz=>by rw [z,hq] at hn; cases hn)]; exact hn)
def GR(H₀:Hp)(td:TE)(g:TG)(tc:TT)(te:TE)(n:Nat)(js:List Nat):TE:=λσ H Q=>AE (Ir H₀ td) g tc te n js σ H λv H2=>∃ d ob kvs,NoFz H₀ d/\H2 d=some (.frz ob (.dK kvs))/\Q v (upd H2 d (.dK kvs))
variable {g:TG}
theorem FW{elt iter tgt:Expr}{ifs:List Expr}{scope:Scope}{pos:Pos}{td:TE}{tc:TT}{te:TE}(own:List Str)(js:List Nat)(hc:X.calm=true)(hi:PI X tgt iter (Ir X.H₀ td))(hg:∀ cl fp C s3 H3,PG (z9 X scope cl own js fp C s3 H3) tgt g)(ht:∀ cl fp C s3 H3,PIfs (z9 X scope cl own js fp C s3 H3) ifs tc)(he:∀ cl fp C s3 H3,PE (z9 X scope cl own js fp C s3 H3) elt te)(hfree':(scope.names.all λy=>y.2 != .free || X.env.scope.names.lookup y.1==some .cell)=true:=by rfl)(hjs':(js.all λj=>scope.names.lookup (X.N.getD j Str.empty)==some .free && X.env.scope.names.lookup (X.N.getD j Str.empty)==some .cell)=true:=by rfl)(hcell':(scope.names.all λy=>y.2 != .cell)=true:=by rfl)(hnames':(scope.names.all λy=>y.2 != .local || scope.names.lookup y.1==some .local)=true:=by rfl)(hkind:scope.kind=.function:=by rfl)(hs:∀ x,foldedSetIterable iter X.env x=pure x:=by intro _; rfl) :
    PE X (.ListComp elt [⟨tgt,iter,ifs,0⟩] scope pos) (GR X.H₀ td g tc te own.length js):=by
  intro pins s σ H Q I h;rw [eval_ListComp];refine uQ own js hc hi hg ht he (AH hfree') (HI hjs') (AQ hcell') (uG hnames') hkind hs I h λD H3 H5 σ5 s3 s6 fp cl I3 f3 I6 qn=>?_;obtain ⟨d,ob,kvs,nf,e,qn⟩:=qn;obtain ⟨m,hm,_⟩:=id I6.loc;exact ⟨m,hm,λh' sb=>⟨.ref D,_,(vF I3 f3 I6 sb).thaw nf e,rfl,qn⟩⟩
section
variable {g:TG}{tc:TT}{te:TE}{D:Addr}{H1:Hp}{σ0:St}{Q:VK}
theorem DA{R:Hp->Prop}{ob:Obj}(Pv:Nat->List V->St->Hp->Prop)(h0:Pv 0 [] σ0 (upd H1 D (.lst [])))(hl:∀ i xs σ H,i<=kvs.length->Pv i xs σ H->H d=some (.frz ob (.dK kvs)))(hs:∀ i kv xs σ H,kvs[i]?=some kv->Pv i xs σ H->g (kV kv.1) σ H λσ3 H3=>tc σ3 H3 λb H4=>if b=true then te σ3 H4 λv H5=>yf (.ref D) [v] H5 λ_ H6=>tE kvs.length Pv i σ3 H6 else tE kvs.length Pv i σ3 H4)(hd:∀ xs σ H,Pv kvs.length xs σ H->R H) : ∃ W:Nat->Nat->St->Hp->Prop,(∃ m,W 0 m σ0 (upd H1 D (.lst [])))/\∀ i m σ' H',W i m σ' H'->((Itd d ob kvs).stop i H'/\R H')\/((Itd d ob kvs).go i H'/\∀ x H2,(Itd d ob kvs).yld i H' x H2->g x σ' H2 λσ3 H3=>tc σ3 H3 λb H4 =>
      if b=true then te σ3 H4 λv H5=>yf (.ref D) [v] H5 λ_ H6=>∃ m',m'<m/\W (i+1) m' σ3 H6 else ∃ m',m'<m/\W (i+1) m' σ3 H4):=by
  refine ⟨λi m σ H=>m=kvs.length - i/\i<=kvs.length/\∃ xs,Pv i xs σ H,⟨kvs.length,by simp,bS _,[],h0⟩,?_⟩;rintro i m σ H ⟨rfl,hi,xs,p⟩;have q:=hl i xs σ H hi p;by_cases hlt:i<kvs.length
  . refine .inr ⟨⟨q,hlt⟩,λx H' y=>?_⟩;obtain ⟨e,kv,hkv,ex⟩:=y;subst e ex;exact hs i kv xs σ _ hkv p
  . have e:i=kvs.length:=by omega
    subst e;exact .inl ⟨⟨q,ai _⟩,hd xs σ H p⟩
theorem Iq{H₀:Hp}{td:TE}{σ:St}{n:Nat}{js:List Nat}(h:td σ H λx H1=>∃ d kvs,x=.ref d/\H1 d=some (.dK kvs)/\∀ ob,NoFz H₀ d->∀ D,(upd H1 d (.frz ob (.dK kvs))) D=none->∃ W:Nat->Nat->St->Hp->Prop,(∃ m,W 0 m (ub n js σ) (upd (upd H1 d (.frz ob (.dK kvs))) D (.lst []))) /\
  ∀ i m σ' H',W i m σ' H'->((Itd d ob kvs).stop i H'/\∃ d' ob' kvs',NoFz H₀ d'/\H' d'=some (.frz ob' (.dK kvs'))/\Q (.ref D) (upd H' d' (.dK kvs')))\/((Itd d ob kvs).go i H'/\∀ x H2,(Itd d ob kvs).yld i H' x H2->g x σ' H2 λσ3 H3=>tc σ3 H3 λb H4 =>
    if b=true then te σ3 H4 λv H5=>yf (.ref D) [v] H5 λ_ H6=>∃ m',m'<m/\W (i+1) m' σ3 H6 else ∃ m',m'<m/\W (i+1) m' σ3 H4)):GR H₀ td g tc te n js σ H Q:=h
end
def OwnM(P:Program)(w:World)(K:iC)(mg:Str->Option Value)(base:Heap)(CX:CXT)(C:Addr)(k:Nat)(m:Str)(ps:List Str)(dvs:List V)(sp:Sp):Prop :=
  ∃ (f:Addr) (fd:FuncData) (ds:List Value),FnOk P w K mg base CX k f fd ps sp/\Cls K C/\Meth K C m f/\Binds K fd ps ds/\Vals dvs ds
def OwnI(P:Program)(w:World)(K:iC)(mg:Str->Option Value)(base:Heap)(CX:CXT)(C:Addr)(k:Nat)(x:Str)(ps:List Str)(dvs:List V)(sp:Sp):Prop :=
  ∃ (f:Addr) (fd:FuncData) (ds:List Value),FnOk P w K mg base CX k f fd ps sp/\Mk K C f/\mg x=some (.ref C)/\Binds K fd ps ds/\Vals dvs ds
section
variable {CX:CXT}{k j:Nat}{C:Addr}{x m:Str}{ps ks:List Str}{dvs:List V}{sp:Sp}{E:XK}{p pos apos:Pos}{e o:Expr}{es:List Expr}{ta:TE}{t tk:TA}{pl:Sem Bool}{kws:List Keyword}{gV:List V->List V->List V}
theorem vz(O:OwnM X.prog X.w X.K X.mg X.base CX C k m ps dvs sp)(hx:xS CX X E)(hr:Room j X.A)(he:PE X o ta)(ha:PA X (e::es) t)(hk:k<=j:=by decide)(hst:starEach (e::es) X.env=(false,eval e X.env)::starEach es X.env:=by rfl)(hpl:(backTo pos (starEach es X.env)).any (·.1)=false:=by rfl)(ht:eval (.Call (.Attribute o m apos) (e::es) [] pos) X.env=(do
      let ov <-eval o X.env
      standAt apos.atName
      let (f,first) <-holding [ov] (getMethod ov m pl)
      callWith pos f first (backTo pos (starEach (e::es) X.env)) (backToKw pos (keywordEach [] X.env))):=by rfl):PE X (.Call (.Attribute o m apos) (e::es) [] pos) (D7 C m sp dvs E ta t):=by
  obtain ⟨f,fd,ds,F,c,hm,hb,hd⟩:=O;exact Ie he c hm F (hr.mono hk) hb hd hx ha hst hpl ht
theorem FR(O:OwnM X.prog X.w X.K X.mg X.base CX C k m ps dvs sp)(hx:xS CX X E)(hr:Room j X.A)(he:PE X o ta)(hk:k<=j:=by decide)(ht:eval (.Call (.Attribute o m apos) [] [] pos) X.env=(do
      let ov <-eval o X.env
      standAt apos.atName
      let (f,first) <-holding [ov] (getMethod ov m pl)
      callWith pos f first (backTo pos (starEach [] X.env)) (backToKw pos (keywordEach [] X.env))):=by rfl):PE X (.Call (.Attribute o m apos) [] [] pos) (D7 C m sp dvs E ta tNil):=by
  obtain ⟨f,fd,ds,F,c,hm,hb,hd⟩:=O;exact FD he c hm F (hr.mono hk) hb hd hx ht
theorem HH(O:OwnI X.prog X.w X.K X.mg X.base CX C k x ps dvs sp)(hx:xS CX X E)(hr:Room j X.A)(hg:Gl X x)(ha:PA X (e::es) t)(hk:k+1<=j:=by decide)(hdb:(x==("__debug__":Str))=false:=by decide)(he:starEach (e::es) X.env=(false,eval e X.env)::starEach es X.env:=by rfl)(hpl:(backTo pos (starEach es X.env)).any (·.1)=false:=by rfl):PE X (.Call (.Name x p) (e::es) [] pos) (HY C sp dvs E t):=by
  obtain ⟨f,fd,ds,F,M,hm,hb,hd⟩:=O;exact HV M F (hr.mono hk) hg hm hb hd hx ha hdb he hpl
end
def TopM(K:iC)(C:Addr)(m qual:Str)(st:Stmt):Prop:=∃ (f:Addr) (fd:FuncData),Fun K m qual st f fd/\Meth K C m f
def TopIn (K:iC) (mg:Str->Option Value) (C:Addr) (x qual:Str) (st:Stmt) (its:List Value):Prop:=∃ (f:Addr) (fd:FuncData),FunD K "__init__" qual st f fd its/\Mk K C f/\mg x=some (.ref C)
section
variable {P:Program}{w:World}{K:iC}{mg:Str->Option Value}{base:Heap}{CX:CXT}{C:Addr}{k:Nat}{x m qual:Str}{st:Stmt}{ps ks:List Str}{dvs:List V}{its ds:List Value}{sp:Sp}
theorem TopM.own(T:TopM K C m qual st)(c:Cls K C)(hb:∀ (kV doc pm:Value) (an:Option Addr) (cdv ct:Value) (us:List Value),us.length=ps.length->bindArgs (W.fnOf m qual (defArgs st) (defBody st) (defScope st) .none kV doc pm an cdv ct) ⟨us,[]⟩=pure (ps.zip us))(h:∀ f fd,Fun K m qual st f fd->FnOk P w K mg base CX k f fd ps sp):OwnM P w K mg base CX C k m ps [] sp:=by
  obtain ⟨f,fd,F,hm⟩:=T;exact ⟨f,fd,[],h f fd F,c,hm,F.binds hb,.nil⟩
theorem TopIn.own(T:TopIn K mg C x qual st its)(hb:∀ (T:Addr) (kV doc pm:Value) (an:Option Addr) (cdv ct:Value) (us:List Value),(us++ds).length=ps.length->∃ k:Option (Array Value)->Sem (List (Str×Value)),
      bindArgs (W.fnOf "__init__" qual (defArgs st) (defBody st) (defScope st) (.ref T) kV doc pm an cdv ct) ⟨us,[]⟩=seqItems? (.ref T) >>= k/\k (some its.toArray)=pure (ps.zip (us++ds)))(hd:Vals dvs ds)(h:∀ f fd,FunD K "__init__" qual st f fd its->FnOk P w K mg base CX k f fd ps sp):OwnI P w K mg base CX C k x ps dvs sp:=by
  obtain ⟨f,fd,F,M,hm⟩:=T;exact ⟨f,fd,ds,h f fd F,M,hm,F.binds hb,hd⟩
end
variable {C f:Addr}{osl:Array (Option Value)}{an od:Option Addr}{qual:Str}{cdv ct doc oc pm:Value}
theorem topM_mk{K:iC}{m:Str}{st:Stmt}{kV:Value}(l:K.lookup f=some ⟨oc,od,.func (W.fnOf m qual (defArgs st) (defBody st) (defScope st) .none kV doc pm an cdv ct),osl⟩)(c:W.codeIn K cdv qual=true)(k:W.keepIn K (.ref f)=true)(a:W.findIn K (.ref C) m=some (some (.ref f)))(n:W.isFn K (.ref f)=true):TopM K C m qual st:=⟨f,_,Gp l c k,⟨a,n,k⟩⟩
variable {its:List Value}
theorem topIn_mk{K:iC}{st:Stmt}{T:Addr}{kV:Value}{n:Nat}{to:Obj}(X:K.In h)(G:h.Ns mainGlobals mg)(l:K.lookup f=some ⟨oc,od,.func (W.fnOf "__init__" qual (defArgs st) (defBody st) (defScope st) (.ref T) kV doc pm an cdv ct),osl⟩)(c:W.codeIn K cdv qual=true)(k:W.keepIn K (.ref f)=true)(t:K.lookup T=some to)(d:to.data=.seq its.toArray n)(m:W.makesIn K C=true)(i:W.findIn K (.ref C) "__init__"=some (some (.ref f)))(nf:W.isFn K (.ref f)=true)(kc:W.keepIn K (.ref C)=true)(a:W.nsIn K mainGlobals x=some (some (.ref C))):TopIn K mg C x qual st its :=
  ⟨f,_,⟨⟨oc,od,T,kV,doc,pm,an,cdv,ct,osl,_,n,rfl,l,c,t,d⟩,k⟩,⟨m,i,nf,kc⟩,dB X G a⟩
section
variable {prog:Program}{w:World}{κ:Type}[DecidableEq κ]{knd:KeyKind prog w κ}{A:Around}{E:Value->Shared->Prop}
theorem xz:entryFor table "dict.update.loop"=some Builtin.«dict.update.loop»:=entryFor_of_tree (by kernel_rfl)
theorem vZ:typeLookup (.type "list") "keys"=pure none:=by rw [typeLookup_type,builtinLookup_eq_fast]; kernel_rfl
theorem Ao{s:Shared}{xs:Array Value}{k:Nat}{Q:Option Value->Shared->Prop}(hx:s.heap.get? a=some o)(hc:o.cls=.type "list")(hdat:o.data=.seq xs k)(hd:o.dict=none)(hA:A.handled=none)(q:∀ h' tk e,Heap.NewExcOf s.heap h' e "AttributeError"->Q none { s with heap:=h',toks:=tk }):wpAny (model prog w) A (getAttr? (.ref a) "keys") Q E s:=by
  obtain ⟨c,dct,dat,sl⟩:=o;simp only at hc hdat hd;subst hc hdat hd;obtain ⟨hp,g,d,tk,os⟩:=s;have tT:∀ tk',(⟨hp,g,d,tk',os⟩:Shared).TypeIs (.ref a) "list":=λ_=>⟨_,hx,rfl⟩
  have k1:=sub_AttributeError;have k3:=F.slot_list_getattribute.lookup;have k4:=F.slot_list_getattribute.bind (.ref a);have k5:=am_list_getattr_none;unfold getAttr? getAttrBy? getAttrBy;repeat (any_goals (first | assumption | exact tT _ | ((with_reducible show wpAny _ _ (call (Value.builtin "list.__getattribute__") _ _) _ _ _); refine call_meets F.slot_list_getattribute (tT _) am_entry_list_getattribute (F.args_list_getattribute_2 _ _) (meets_getattribute_miss_list a xs k sl "keys" _ vZ (by decide +kernel)) ⟨hx,hA,λh' tk' e hx'=>?_⟩) | wp_step))
  obtain ⟨t',u',he⟩:=hx'.there;show wpAny _ _ (getattributeRaised _ _ _ _ _ _ _) _ _ _;unfold getattributeRaised;repeat (any_goals (first | assumption | wp_step))
  exact q _ _ _ hx'.of
theorem AB(hh:A.handled=none){R:Result->Shared->Prop}{d it l:Addr}(hdi:d≠it)(hdl:l≠d)(hli:l≠it){items:List Value}{rs:List (κ×Value)}{s0:Shared} (hit0:∀ (i:Nat) (x:Value),items[i]?=some x->∃ (p:Addr) (k:κ) (v key:Value),x=.ref p/\p≠d/\p≠it/\s0.heap.IsTuple p #[key,v]/\rs[i]?=some (k,v)/\knd.is k key=true) (hlen:rs.length=items.length) (hnd:(rs.map (·.1)).Nodup) (hsz:rs.length<=sizeLine) (hl0:s0.heap.IsList l items.toArray) (hR:∀ h' tk,h'.DictOf knd d rs->(∀ b o,b≠it->b≠d->s0.heap.get? b=some o->h'.get? b=some o)->R (.ok (.ret .none)) { s0 with heap:=h',toks:=tk }) :
    ∀ (n i:Nat) (h:Heap) (tk:Nat),items.length=i+n->h.IsListIter it l i->h.DictOf knd d (rs.take i)->(∀ b o,b≠it->b≠d->s0.heap.get? b=some o->h.get? b=some o) ->
      codeAny (model prog w) A (.builtin "dict.update.loop" ⟨[.ref d,.ref it,rawInt i,.none],[]⟩) R { s0 with heap:=h,toks:=tk }
  | 0,i,h,tk,e,hi,hd,hk=>by
    have hl:h.IsList l items.toArray:=by
      obtain ⟨o,g,c⟩:=hl0;exact ⟨o,hk l o hli hdl g,c⟩
    refine iz xz ?_;unfold Builtin.«dict.update.loop»;refine ii (wpAny_pyNext_list_end (A:=A.under _) hh hi hl (by simp; omega) λh' eb=>?_);have hd':h'.DictOf knd d rs:=by
      have:=hd.extBut eb hdi
      rwa [bJ (!4)] at this
    exact ii (ij (ij (hR h' tk hd' λb o n1 n2 g=>eb b o n1 (hk b o n1 n2 g))))
  | n+1,i,h,tk,e,hi,hd,hk=>by
    have hl:h.IsList l items.toArray:=by
      obtain ⟨o,g,c⟩:=hl0;exact ⟨o,hk l o hli hdl g,c⟩
    obtain ⟨x,hx⟩:∃ x,items[i]?=some x:=⟨items[i]'(!4),by simp⟩
    obtain ⟨p,k,v,key,rfl,np,npi,⟨o,go,oc,m,od⟩,hr,hkey⟩:=hit0 i x hx;refine iz xz ?_;unfold Builtin.«dict.update.loop»;refine ii (wpAny_pyNext_list_item hi hl (by simpa using hx) λh' hi' sb=>?_);have gp:h'.get? p=some o:=(sb.2 p npi).trans (hk p o npi np go);refine ii (ir ?_);refine ii (wpAny_tryCatch ?_);unfold Builtin.Dict.pairItems;refine ii (iu (s:={ s0 with heap:=h',toks:=tk }) (T:="tuple") ⟨o,gp,oc⟩ ?_);rw [h8 ⋯];refine ii (wpAny_seqItems (s:={ s0 with heap:=h',toks:=tk }) gp od (ij ?_));show wpAny _ _ (holding [key,v] (dictSet d key v)) _ _ _;refine ir (wpAny_dictSet_pairs (s:={ s0 with heap:=h',toks:=tk }) (hsz:=by rw [aK]; omega) hkey (hd.sameBut sb hdi) λh2 hd2 sb2=>?_);refine ij ⟨Code.quiet_builtin _ (by decide +kernel),?_⟩;have est:stored (rs.take i) k v=rs.take (i+1):=by
      rw [f6,hr];unfold stored;rw [h9]
      . rfl
      . intro z;obtain ⟨y,hy,ey⟩:=List.any_eq_true.mp z;have ey:y.1=k:=of_decide_eq_true ey;obtain ⟨j,hj,rfl⟩:=List.getElem_of_mem hy;rw [aK] at hj;have hi2:=(af.mp hr)
        obtain ⟨hi3,hi4⟩:=hi2;refine fR.mp hnd j i (by rw [aa]; omega) (by rw [aa]; omega) (!4) ?_;simp only [c6];rw [hi4];simpa using ey
    rw [est] at hd2;have:=AB hh hdi hdl hli hit0 hlen hnd hsz hl0 hR n (i+1) h2 (tk+1) (!4) (hi'.at λo g=>(sb2.2 it (bZ hdi)).trans g) hd2 λb o n1 n2 g=>(sb2.2 b n2).trans ((sb.2 b n1).trans (hk b o n1 n2 g));exact this
theorem vm{s:Shared}{Q:Value->Shared->Prop}{ol:Obj}{n:Nat}{items:List Value}{rs:List (κ×Value)}(hh:A.handled=none)(hl:s.heap.get? l=some ol)(hc:ol.cls=.type "list")(hdat:ol.data=.seq items.toArray n)(hdd:ol.dict=none)(hit0:∀ (i:Nat) (x:Value),items[i]?=some x->∃ (p:Addr) (k:κ) (v key:Value),x=.ref p/\s.heap.IsTuple p #[key,v]/\rs[i]?=some (k,v)/\knd.is k key=true)(hlen:rs.length=items.length)(hnd:(rs.map (·.1)).Nodup)(hsz:rs.length<=sizeLine)(q:∀ h' tk,h'.DictOf knd s.heap.objs.size rs->(∀ b o,s.heap.get? b=some o->h'.get? b=some o)->Q (.ref s.heap.objs.size) { s with heap:=h',toks:=tk }) :
    wpAny (model prog w) A (call (.type "dict") [.ref l]) Q E s:=by
  refine callType_codes (Q₁:=λobj s₁=>obj=.ref s.heap.objs.size/\s₁={ s with heap:=s.heap.push { cls:=.type "dict",data:=.dict #[] } }) F.kt_called_dict (F.kt_typeCall_dict_1 _) F.entry_dict_init (kt_code_dict_new _ ⟨rfl,rfl⟩) ?_;rintro obj s₁ ⟨rfl,rfl⟩;have hnew:(s.heap.push { cls:=.type "dict",data:=.dict #[] }).DictOf knd s.heap.objs.size []:=Heap.DictOf.new s.heap;have hl1:=Heap.get?_push_of_some { cls:=.type "dict",data:=.dict #[] } hl;refine ⟨hnew.typeIs,F.args_dict_init_2 _ _,?_⟩;unfold Builtin.«dict.__init__»;refine ii ?_;unfold Builtin.Dict.selfAndRest;refine ii (wpAny_notOrdered_dict hnew.typeIs ?_);show wpAny _ _ (pure (s.heap.objs.size,[Value.ref l])) _ _ _;refine ij ?_;show wpAny _ _ (Builtin.Dict.updateFrom "dict.__init__" s.heap.objs.size (.ref l) [] .none) _ _ _;unfold Builtin.Dict.updateFrom;refine ii (iu (s:={ s with heap:=s.heap.push { cls:=.type "dict",data:=.dict #[] } }) (T:="list") ⟨ol,hl1,hc⟩ ?_);rw [h8 ⋯];refine ii (Ao (s:={ s with heap:=s.heap.push { cls:=.type "dict",data:=.dict #[] } }) hl1 hc hdat hdd (show A.in1.in1.handled=none from hh) λh1 tk1 e1 new=>?_);simp only [Option.isNone_none,if_true];have kp:∀ b o,(s.heap.push { cls:=.type "dict",data:=.dict #[] }).get? b=some o->h1.get? b=some o:=new.keeps;have hl2:=kp _ _ hl1;refine ii (wpAny_rule ?_);refine ii (im (s:={ s with heap:=h1,toks:=tk1 }) ⟨ol,hl2,hc,n,hdat⟩ ?_);refine ij ⟨Code.quiet_builtin _ (by decide +kernel),?_⟩;have lt:∀ {b o},s.heap.get? b=some o->b<s.heap.objs.size:=λg=>Heap.lt_size g;obtain ⟨od,_,_,god,_⟩:=id hnew;have ltd:s.heap.objs.size<h1.objs.size:=Heap.lt_size (kp _ _ god);have up:∀ b o,s.heap.get? b=some o->(h1.push { cls:=.type "list_iterator",data:=.fields #[.ref l,.int 0 0] }).get? b=some o:=λb o g=>Heap.get?_push_of_some _ (kp b o (Heap.get?_push_of_some _ g));have hd0:(h1.push { cls:=.type "list_iterator",data:=.fields #[.ref l,.int 0 0] }).DictOf knd s.heap.objs.size (rs.take 0):=by
    obtain ⟨o,es,ep,g,r⟩:=hnew;exact ⟨o,es,ep,Heap.get?_push_of_some _ (kp _ _ g),r⟩
  refine AB (s0:={ s with heap:=h1.push { cls:=.type "list_iterator",data:=.fields #[.ref l,.int 0 0] },toks:=tk1 }) (A:=A.in1) (show A.in1.handled=none from hh) (d:=s.heap.objs.size) (it:=h1.objs.size) (l:=l) (az ltd) (az (lt hl)) (az (fC (lt hl) ltd)) (items:=items) (rs:=rs) (λi x hx=>?_) hlen hnd hsz ⟨ol,up _ _ hl,hc,n,hdat⟩ (λh' tk dd kk=>⟨rfl,?_⟩) items.length 0 _ tk1 (by simp) ⟨_,Heap.get?_push_size _ rfl,rfl,rfl⟩ hd0 λb o _ _ g=>g
  . obtain ⟨p,k,v,key,e,⟨o,g,c⟩,r,hk⟩:=hit0 i x hx;exact ⟨p,k,v,key,e,az (lt g),az (fC (lt g) ltd),⟨o,up _ _ g,c⟩,r,hk⟩
  . exact q h' tk dd λb o g=>kk b o (az (fC (lt g) ltd)) (az (lt g)) (up b o g)
end
def GC:List V->Hp->VK->Prop:=λxs H Q=>∃ (l:Addr) (ps:List Addr) (kvs:List (Key×V)),xs=[.ref l]/\H l=some (.lst (ps.map V.ref))/\ps.length=kvs.length/\(∀ (i:Nat) (p:Addr) (kv:Key×V),ps[i]?=some p->kvs[i]?=some kv->H p=some (.tup [kV kv.1,kv.2]))/\(kvs.map (·.1)).Nodup/\kvs.length<=sizeLine/\∀ p,H p=none->Q (.ref p) (upd H p (.dK kvs))
def Gx:List V->Hp->VK->Prop:=λxs H Q=>∃ (a:Addr) (kvs:List (Key×V)),xs=[.ref a]/\H a=some (.dK kvs)/\∀ p,H p=none->Q (.ref p) (upd H p (.dK kvs))
theorem CL:y8 X (.type "dict") Gx:=by
  intro pins s σ H xs us Q I r h;obtain ⟨a,kvs,rfl,e,q⟩:=h;obtain ⟨u,rfl,ru⟩:=Vals.one r;cases ru
  exact Gj I (.inl e) λp s' hp I'=>⟨.ref p,_,I',rfl,q p hp⟩
theorem B3{P:Program}{w:World}{H:Hp}{h:Heap}(ok:HOk P w H h):∀ {ps:List Addr} {kvs:List (Key×V)},ps.length=kvs.length->(∀ (i:Nat) (p:Addr) (kv:Key×V),ps[i]?=some p->kvs[i]?=some kv->H p=some (.tup [kV kv.1,kv.2])) -> ∃ rs:List (Key×Value),KV kvs rs/\∀ (i:Nat) (x:Value),(ps.map Value.ref)[i]?=some x->∃ (p:Addr) (k:Key) (v key:Value),x=.ref p/\h.IsTuple p #[key,v]/\rs[i]?=some (k,v)/\(zX P w).is k key=true
  | [],[],_,_=>⟨[],.nil,λi x e=>by simp at e⟩
  | [],_::_,e,_=>by cases e
  | _::_,[],e,_=>by cases e
  | p::ps,kv::kvs,e,hp=>by
    obtain ⟨rs,r,hr⟩:=B3 ok (ps:=ps) (kvs:=kvs) (by simpa using e) λi p' kv' h1 h2=>hp (i+1) p' kv' h1 h2;obtain ⟨_,its,rv,tp⟩:=ok p _ (hp 0 p kv rfl rfl);obtain ⟨key,v,rfl,rk,rv⟩:=Vals.two rv;refine ⟨(kv.1,v)::rs,.cons ⟨rfl,rv⟩ r,λi x hx=>?_⟩;cases i with
    | zero =>
      have:x=.ref p:=(ax hx).symm;subst this;exact ⟨p,kv.1,v,key,rfl,tp,rfl,CS rk⟩
    | succ i=>exact hr i x hx
theorem Ex:∀ {ps:List Addr} {its:List Value},Vals (ps.map V.ref) its->its=ps.map Value.ref
  | [],_,r=>by cases r; rfl
  | p::ps,_,r=>by
    cases r with
    | cons r1 r2 =>
      cases r1
      rw [Ex r2];rfl
theorem ue(hc:X.calm=true):y8 X (.type "dict") GC:=by
  intro pins s σ H xs us Q I r h;obtain ⟨l,ps,kvs,rfl,el,hlen,hps,hnd,hsz,q⟩:=h;obtain ⟨u,rfl,ru⟩:=Vals.one r;cases ru
  obtain ⟨_,its,n,rv,gl⟩:=id (I.hok l _ el);have:=Ex rv;subst this;obtain ⟨rs,rr,hr⟩:=B3 I.hok hlen hps;have hl:=rr.length;refine vm (I.ok.hd hc) gl rfl rfl rfl hr (by rw [aa]; omega) (by rw [<-rr.keys]; exact hnd) (!4) λh' tk dd kk=>?_;refine ⟨.ref s.heap.objs.size,_,I.laid (a:=s.heap.objs.size) (o:=.dK kvs) (t':=tk) kk (ai _) (BX hsz (beq_eq_false_iff_ne.mpr (bZ (az I.big))) rr dd),rfl,q _ (I.hok.fresh (ai _))⟩
variable {I S:Addr}{acc:Array Value}
section
variable {prog:Program}{w:World}{κ:Type}[DecidableEq κ]{knd:KeyKind prog w κ}{A:Around}{E:Value->Shared->Prop}
theorem wC:typeLookup (.type "dict") "__len__"=pure (some (.builtin "dict.__len__")):=by rw [typeLookup_type,builtinLookup_eq_fast]; kernel_rfl
theorem Ef{s:Shared}{kvs:List (κ×Value)}{R:Result->Shared->Prop}(hh:A.handled=none)(hn:kvs.length<=sizeLine)(g1:s.heap.get? S=some { cls:=.type "list",data:=.seq ([]:List Value).toArray })(hI:s.heap.IsKeyIter I d 0 kvs.length ep)(hm:s.heap.DictAt knd d kvs ep)(nSI:S≠I)(nSd:S≠d)(ndI:d≠I)(hR:∀ (s':Shared) (acc:Array Value) (c:Nat),(∀ b o,b≠S->b≠I->s.heap.get? b=some o->s'.heap.get? b=some o)->s'.gens=s.gens->s'.drawn=s.drawn->s'.os=s.os->s'.heap.get? S=some { cls:=.type "list",dict:=none,data:=.seq acc c,slots:=#[] }->ItemsOf (λi v=>∃ k x,kvs[i]?=some (k,x)/\knd.is k v=true) acc kvs.length->R (.ok (.ret (.ref S))) s') :
    wpAny (model prog w) A.in1 (rule "list.extend.makes-room" >>= λ_=>Builtin.List.listTouch (.ref S) >>= λ_=>again (.builtin "list.extend.loop" ⟨[.ref S,.ref I,.ref S],[]⟩))
      (λfin s'=>match fin with | .done f=>R (.ok f) s' | .again c'=>c'.quiet=true/\codeAny (model prog w) A c' R s') (λe s'=>R (.error e) s') s:=by
  refine ii (wpAny_rule ?_);refine ii ?_;show wpAny _ A.in1 (updateSeq S (·.push .none) >>= λ_=>updateSeq S (·.pop)) _ _ _;refine ii (iA g1 rfl ?_);have g2:=Heap.get?_update_self (Obj.mapSeq (·.push Value.none)) g1 rfl;refine iA g2 rfl ?_;have g3:=Heap.get?_update_self (Obj.mapSeq (·.pop)) g2 rfl;have oth:∀ (b:Addr) (o:Obj),b≠S->s.heap.get? b=some o->((s.heap.update S (Obj.mapSeq (·.push Value.none))).update S (Obj.mapSeq (·.pop))).get? b=some o :=
    λb o nb g=>(Heap.get?_update_other _ _ nb.symm).trans ((Heap.get?_update_other _ _ nb.symm).trans g)
  have W:=(Walks.dictKeys (knd:=knd) (A:=A.in1) (show A.in1.handled=none from hh) I d ndI kvs ep).toS;refine ij ⟨plainId_quiet F.plain_extend_loop _,codeAny_extend_loopS W hn S ?_ _ kvs.length 0 _ _ _ rfl (bS _) ⟨hI.at λo g=>oth I o nSI.symm g,hm.at' λo g=>oth d o nSd.symm g⟩ g3 (ItemsOf.nil _) λs' acc' c' hmv hS' hacc=>?_⟩
  . intro z;rcases aN.mp z with z|z
    . exact nSI z
    . exact nSd (by simpa using z)
  . refine hR s' acc' c' (λb o n1 n2 g=>hmv.heap b o (λz=>?_) (oth b o n1 g)) hmv.gens hmv.drawn hmv.os hS' hacc;rcases aN.mp z with z|z
    . exact n1 z
    . exact n2 (by simpa using z)
theorem Aq{s:Shared}{kvs:List (κ×Value)}{Q:List Value->Shared->Prop}(hh:A.handled=none)(hds:(d==sysModules)=false)(hm:s.heap.DictAt knd d kvs ep)(hn:kvs.length<=sizeLine)(hQ:∀ (s':Shared) (acc:Array Value),(∀ b o,s.heap.get? b=some o->s'.heap.get? b=some o)->s'.gens=s.gens->s'.drawn=s.drawn->s'.os=s.os->s.heap.objs.size<s'.heap.objs.size->ItemsOf (λi v=>∃ k x,kvs[i]?=some (k,x)/\knd.is k v=true) acc kvs.length->Q acc.toList s') : wpAny (model prog w) A (collect (.ref d)) Q E s:=by
  have ltd:=hm.lt_size;unfold collect;refine ii (wpAny_runValue (iz F.entry_proto_collect ?_));rw [Around.under_plainId F.plain_proto_collect _];show wpAny _ A.in1 (newList [] >>= λl=>again (.builtin "list.__iadd__" ⟨[l,.ref d],[]⟩)) _ _ s;refine ii (ik ?_);refine ij ⟨plainId_quiet F.plain_list_iadd _,iz F.entry_list_iadd ?_⟩;rw [Around.under_plainId F.plain_list_iadd _];show wpAny _ A.in1 (Builtin.List.listExtendWith (.ref s.heap.objs.size) (.ref d) (.ref s.heap.objs.size)) _ _ _;have h1:Builtin.List.listSameRef (.ref s.heap.objs.size) (.ref d)=false:=by simp [Builtin.List.listSameRef,bZ (az ltd)]
  have hm1:=hm.keep (h':=s.heap.push { cls:=.type "list",data:=.seq ([]:List Value).toArray }) λb o e=>Heap.get?_push_of_some _ e;unfold Builtin.List.listExtendWith;refine ii (iu hm1.dictOf.typeIs ?_);rw [h9 (by rw [h1]; decide)];refine ii (iy hds hm1 ?_);have hm2:=hm1.keep (h':=(s.heap.push { cls:=.type "list",data:=.seq ([]:List Value).toArray }).push { cls:=.type "dict_keyiterator",data:=.fields #[.ref d,.int 0 0,.int kvs.length 0,.int ep 0] }) λb o e=>Heap.get?_push_of_some _ e;refine ii (ir ?_);unfold Builtin.List.listLengthHint;refine ii (wpAny_specialOf hm2.dictOf.typeIs wC ?_)
  (generalize hid:("dict.__len__":String)=id0; (fail_if_success (clear hid id0)); wp_delta; rw [show splitId id0=some ("dict","__len__") from by subst hid; decide +kernel]; subst hid)
  refine ii (wpAny_isInstance (b:=true) hm2.dictOf.typeIs (by rw [isSubtype_type]; kernel_rfl) ?_);rw [h9 ⋯];refine wpAny_ite ?_;rw [h8 ⋯];refine ii (iu hm2.dictOf.typeIs ?_);refine ij ?_;rw [h8 ⋯];have szI:(s.heap.push { cls:=.type "list",data:=.seq ([]:List Value).toArray }).objs.size=s.heap.objs.size+1:=Heap.size_push _ _;refine Ef (s:={ s with heap:=(s.heap.push { cls:=.type "list",data:=.seq ([]:List Value).toArray }).push { cls:=.type "dict_keyiterator",data:=.fields #[.ref d,.int 0 0,.int kvs.length 0,.int ep 0] } }) (R:=λr s'=>match r with | .ok (.ret v)=>wpAny (model prog w) A (match v with | .ref a=>(do let o <-load a; match o.data with | .seq xs _=>pure xs.toList | _=>unsupported "internal:collect":Sem (List Value)) | _=>unsupported "internal:collect") Q E s' | .ok _=>False | .error e=>E e s') hh hn (S:=s.heap.objs.size) (I:=(s.heap.push { cls:=.type "list",data:=.seq ([]:List Value).toArray }).objs.size) (Heap.get?_push_of_some _ (Heap.get?_push_size _ rfl)) ⟨_,Heap.get?_push_size _ rfl,rfl,rfl⟩ hm2 (by rw [szI]; exact az (dI _)) (fw ltd) (by rw [szI]; exact az (dC ltd)) λs' acc c kk e1 e2 e3 hS' hacc=>?_;show wpAny _ A (load s.heap.objs.size >>= _) _ _ s';refine ii (wpAny_load hS' (ij (hQ s' acc (λb o g=>?_) e1 e2 e3 (Heap.lt_size hS') hacc)));have lt:=Heap.lt_size g;exact kk b o (az lt) (by rw [szI]; exact az (dC lt)) (Heap.get?_push_of_some _ (Heap.get?_push_of_some _ g))
theorem wL:∀ {l:List Value} {ns:List Int},l.length=ns.length->(∀ (j:Nat) (v:Value) (n:Int),l[j]?=some v->ns[j]?=some n->∃ t,v=.int n t)->IntsAre l ns
  | [],[],_,_=>.nil
  | [],_::_,e,_=>by cases e
  | _::_,[],e,_=>by cases e
  | v::l,n::ns,e,h=>by
    obtain ⟨t,rfl⟩:=h 0 v n rfl rfl;exact .cons n t (wL (by simpa using e) λj v' n' h1 h2=>h (j+1) v' n' h1 h2)
theorem wD{kvs:List (Key×Value)}(hk:kvs.map (·.1)=ns.map Sum.inl)(h:ItemsOf (λi v=>∃ k x,kvs[i]?=some (k,x)/\(zX prog w).is k v=true) acc kvs.length):IntsAre acc.toList ns:=by
  have hl:kvs.length=ns.length:=by
    have:=congrArg List.length hk
    rwa [aa,aa] at this
  refine wL (by rw [cU,h.1,hl]) λj v n h1 h2=>?_;obtain ⟨k,x,e1,e2⟩:=h.2 j v (by rw [<-gP]; exact h1);have:k=.inl n:=by
    have z:=congrArg (·[j]?) hk;simp only [ag,e1,h2,dr,Option.some.injEq] at z;exact z
  subst this;exact Ec e2
theorem Bh{s:Shared}{kvs:List (Key×Value)}{Q:Value->Shared->Prop}(hh:A.handled=none)(hds:(d==sysModules)=false)(hm:s.heap.DictAt (zX prog w) d kvs ep)(hk:kvs.map (·.1)=ns.map Sum.inl)(h64:kvs.length<64)(q:∀ (h':Heap) (tk p e:Nat) (vs':List Value) (ns':List Int),(∀ b o,s.heap.get? b=some o->h'.get? b=some o)->s.heap.objs.size<=p->h'.get? p=some (seqObj "list" vs'.toArray e)->IntsAre vs' ns'->ns'.Perm ns->ns'.Pairwise (·<=·)->Q (.ref p) { s with heap:=h',toks:=tk }) :
    wpAny (model prog w) A (call (.builtin "sorted") [.ref d]) Q E s:=by
  have hz:kvs.length<=sizeLine:=bK (bf h64) (by rw [io]; decide);refine Calls.call_function_entry kind_sorted plain_sorted entry_sorted (args_sorted1 _) ?_;unfold Builtin.«sorted»;refine ii (m:=checkCount "sorted" 1 1 _) (ij ?_);refine ii (Aq (show A.in1.handled=none from hh) hds hm hz λs' acc kk e1 e2 e3 lts hacc=>?_);obtain ⟨h0,g0,d0,t0,o0⟩:=s;obtain ⟨h1,g1,d1,t1,o1⟩:=s';simp only at e1 e2 e3 kk hm lts;subst e1 e2 e3;have hI:=wD hk hacc;refine ii (wpAny_newList (hsz:=by rw [cU,hacc.1]; exact hz) ?_);have gl:(h1.push (seqObj "list" acc.toList.toArray 0)).get? h1.objs.size=some (seqObj "list" acc.toList.toArray 0):=Heap.get?_push_size _ rfl;refine ii (ir (wpAny_call_entry slot_list_sort ⟨_,gl,rfl⟩ entry_list_sort (list_sort_tree gl hI (by rw [cU,hacc.1]; exact h64) λout ns' a1 a2 a3=>⟨_,rfl,?_⟩) (args_list_sort _)));obtain ⟨e,he⟩:=sortedHeap_at (out:=out) gl;refine ij ⟨_,rfl,q _ t1 h1.objs.size e out.toList ns' (λb o g=>?_) (bf lts) he a1 a2 a3⟩;have lt:=Heap.lt_size (kk b o g);rw [sortedHeap_old (az lt) (by rw [Heap.size_push]; exact dC lt)];exact Heap.get?_push_of_some _ (kk b o g)
end
theorem AO{ns':List Int}(hp:ns'.Perm ns)(h1:ns'.Pairwise (·<=·))(h2:ns.Pairwise (· < ·)):ns'=ns :=
  dN (λa b _ _ h k=>Int.le_antisymm h k) h1 (h2.imp λh=>Int.le_of_lt h) hp
def GY:List V->Hp->VK->Prop:=λxs H Q=>∃ (d:Addr) (kvs:List (Key×V)) (ns:List Int),xs=[.ref d]/\H d=some (.dK kvs)/\kvs.map (·.1)=ns.map Sum.inl/\ns.Pairwise (· < ·)/\kvs.length<64/\∀ p,H p=none->Q (.ref p) (upd H p (.lst (ns.map V.int)))
theorem yH:∀ {vs:List Value} {ns:List Int},IntsAre vs ns->Vals (ns.map V.int) vs
  | _,_,.nil=>.nil
  | _,_,.cons n t r=>.cons ⟨t,rfl⟩ (yH r)
theorem wQ(hc:X.calm=true):y8 X (.builtin "sorted") GY:=by
  intro pins s σ H xs us Q I r h;obtain ⟨d,kvs,ns,rfl,e,hk,hr,h64,q⟩:=h;obtain ⟨u,rfl,ru⟩:=Vals.one r;cases ru
  obtain ⟨z,y,vs,rel,dof⟩:=id (I.hok d _ e);obtain ⟨ep,da⟩:=dof.dictAt;have hl:=rel.length;refine Bh (I.ok.hd hc) y da (by rw [<-rel.keys]; exact hk) (!4) λh' tk p ep' vs' ns' kk hp hg hI hpm hpw=>?_;have:=AO hpm hpw hr;subst this;have hl2:(ns'.map V.int).length<=sizeLine:=by
    have:kvs.length=ns'.length:=by
      have:=congrArg List.length hk
      rwa [aa,aa] at this
    rw [aa];omega
  exact ⟨.ref p,_,I.laid (a:=p) (o:=.lst (ns'.map V.int)) (t':=tk) kk hp ⟨hl2,vs',ep',yH hI,hg⟩,rfl,q p (I.hok.fresh hp)⟩
def Ite(K:iC)(a:Addr):It :=
  ⟨λi H=>∃ xs x,SqL K H a xs/\xs[i]?=some x,
   λi H v H'=>∃ T,H T=none/\v=.ref T/\∀ xs,SqL K H a xs->∃ x,xs[i]?=some x/\H'=upd H T (.tup [.int (i:Int),x]),
   λi H=>∃ xs,SqL K H a xs/\xs.length<=i⟩
theorem Dq{K:iC}{es:List Expr}{k:Nat}{pos:Pos}(a e it:Addr)(ne:e≠it):Turn P w K (.Tuple es k pos) (Ite K a) [e,it] e (λi h=>(∃ old,IsEnum h e it (i:Int) old)/\h.IsListIter it a i) where
  mem:=by simp
  obj:=λi h st c hc=>by
    obtain ⟨⟨old,he⟩,⟨o1,e1,c1,d1⟩⟩:=st;have hc':c=e\/c=it:=by simpa using hc
    rcases hc' with rfl|rfl
    . exact ⟨_,he,λv q=>by cases q⟩
    . exact ⟨o1,e1,λv q=>by rw [d1] at q; cases q⟩
  keep:=λi h h' st kk=>by
    obtain ⟨⟨old,he⟩,h1⟩:=st;exact ⟨⟨old,kk e (by simp) _ he⟩,h1.at λo q=>kk it (by simp) o q⟩
  item:=by
    intro X hP hw hK hc i pins s σ H E I hf st hg;subst hP hw hK;obtain ⟨xs,x,hq,hx⟩:=hg;obtain ⟨⟨old,he⟩,h1⟩:=st;obtain ⟨its,rv,p1,hz1⟩:=I.list hq;obtain ⟨u,hu,ru⟩:=rv.get hx;refine wpAny_pyNext_enum_item he h1 p1.isList (x:=u) (by simpa using hu) ne λh' a1 a2 a3 a4 hk=>?_;refine ⟨_,rfl,?_⟩;have lt:∀ {c o},s.heap.get? c=some o->s.heap.objs.size≠c:=λq=>fw (Heap.lt_size q);refine wpAny_letOwnedTupleGo_enum (s:={ s with heap:=h',toks:=s.toks+1 }) a1 λh2' he' hs'=>?_;have hs':Heap.SameBut e h' h2':=hs';have hT:H s.heap.objs.size=none:=I.hok.fresh (ai _);have I0:Inv X pins σ (upd H s.heap.objs.size (.tup [.int (i:Int),x])) { s with heap:=s.heap.push { cls:=.type "tuple",data:=.seq #[.int (i:Int) s.toks,u] },toks:=s.toks+1 } :=
      I.laid (t':=s.toks+1) (λb u e=>Heap.get?_push_of_some _ e) (ai _) ⟨show [V.int (i:Int),x].length<=sizeLine from yX (by simp),[.int (i:Int) s.toks,u],.cons ⟨_,rfl⟩ (.cons ru .nil),⟨_,Heap.get?_push_size _ rfl,rfl,_,rfl⟩⟩
    have hne:∀ c∈[e,it],c≠s.heap.objs.size:=λc hc=>by
      have hc':c=e\/c=it:=by simpa using hc
      rcases hc' with rfl|rfl
      . exact (lt he).symm
      . obtain ⟨_,q,_⟩:=h1; exact (lt q).symm
    have hf':∀ c∈[e,it],FpOk X pins (upd H s.heap.objs.size (.tup [.int (i:Int),x])) c:=λc hc=>by
      obtain ⟨f0,f1,f2,f3,f4,f5⟩:=hf c hc;exact ⟨by rw [zl (hne c hc)]; exact f0,f1,f2,f3,f4,f5⟩
    have I1:=Inv.turnedL (s:={ s with heap:=s.heap.push { cls:=.type "tuple",data:=.seq #[.int (i:Int) s.toks,u] },toks:=s.toks+1 }) (h':=h2') (t':=s.toks+1) (its:=[e,it]) I0 (λc o hc q=>by
      have c1:c≠e:=λq=>hc (by simp [q]);have c3:c≠it:=λq=>hc (by simp [q]);refine hs'.extBut _ _ c1 ?_;by_cases hcs:c=s.heap.objs.size
      . subst hcs;have e':some ({ cls:=.type "tuple",data:=.seq #[.int (i:Int) s.toks,u] }:Obj)=some o:=(Heap.get?_push_size s.heap rfl).symm.trans q;rw [<-e'];exact a3
      . exact hk c o c1 c3 (By hcs q)) hf'
    refine ⟨.ref s.heap.objs.size,_,I1,rfl,⟨_,hT,rfl,λxs' q1=>⟨x,by rw [I.list_inj q1 hq]; exact hx,rfl⟩⟩,⟨⟨_,by simpa using he'⟩,a2.extBut hs'.extBut (bZ ne)⟩,λc hc=>?_⟩;rw [zl (hne c hc)];exact (hf c hc).1
  done:=by
    intro X hP hw hK hc i pins s σ H E I hf st hg;subst hP hw hK;obtain ⟨xs,hq,hx⟩:=hg;obtain ⟨⟨old,he⟩,h1⟩:=st;obtain ⟨its,rv,p1,hz1⟩:=I.list hq;have l1:=rv.length;obtain ⟨f0,f1,f2,f3,f4,f5⟩:=hf it (by simp);refine wpAny_pyNext_enum_end (I.ok.hd hc) he h1 p1.isList (by simp; omega) λh' hk=>⟨rfl,I.turned (t':=s.toks) (it:=it) (λc o hc q=>hk c o hc q) f0 f1 f3 f4 f5⟩
  self:=λ_ _ _ _ _ st h=>by
    obtain ⟨⟨old,he⟩,_⟩:=st;exact wpAny_pyIter_enum he h
def Itv(K:iC)(a:Addr)(n:Nat):It :=
  ⟨λi H=>i<n/\∃ xs x,SqL K H a xs/\xs[n - 1 - i]?=some x,λi H x H'=>H'=H/\∀ xs,SqL K H a xs->xs[n - 1 - i]?=some x,λi _=>i=n⟩
theorem ET{K:iC}(a it:Addr)(n:Nat):Turn P w K tg (Itv K a n) [it] it (λi h=>h.IsRevIter it a ((n:Int) - 1 - (i:Int))) where
  mem:=by simp
  obj:=λi h st b hb=>by
    have e:b=it:=by simpa using hb
    subst e;obtain ⟨o,e,c,d⟩:=st;exact ⟨o,e,λv z=>by rw [d] at z; cases z⟩
  keep:=λi h h' st k=>st.at λo e=>k it (by simp) o e
  item:=by
    intro X hP hw hK hc i pins s σ H E I hf st hg;subst hP hw hK;obtain ⟨hi,xs,x,hq,hx⟩:=hg;obtain ⟨its,rv,p,hz⟩:=I.list hq;obtain ⟨u,hu,ru⟩:=rv.get hx;obtain ⟨f0,f1,f2,f3,f4,f5⟩:=hf it (by simp);have e1:(n:Int) - 1 - (i:Int)=((n - 1 - i:Nat):Int):=by omega
    rw [e1] at st;refine wpAny_pyNext_rev_item st p.isList (x:=u) (by simpa using hu) λh' st' sb=>?_;have I1:Inv X pins σ H { s with heap:=h' }:=I.turned (t':=s.toks) (λb o hb e=>(sb.2 b hb).trans e) f0 f1 f3 f4 f5;obtain ⟨o,e,c,d⟩:=id st';have e2:((n - 1 - i:Nat):Int) - 1=(n:Int) - 1 - ((i+1:Nat):Int):=by omega
    rw [e2] at st';exact ⟨u,rfl,Ff (s:={ s with heap:=h' }) e c d ⋯ ⟨x,H,I1,ru,⟨rfl,λys hy=>by rw [I.list_inj hy hq]; exact hx⟩,st',λb hb=>(hf b hb).1⟩⟩
  done:=by
    intro X hP hw hK hc i pins s σ H E I hf st hg;subst hP hw hK;have hg:i=n:=hg;subst hg;obtain ⟨f0,f1,f2,f3,f4,f5⟩:=hf it (by simp);have e1:(i:Int) - 1 - (i:Int)=-1:=by omega
    rw [e1] at st;exact wpAny_pyNext_rev_end (I.ok.hd hc) st λh' hk=>⟨rfl,I.turned (t':=s.toks) (it:=it) (λc o hc q=>hk c o hc q) f0 f1 f3 f4 f5⟩
  self:=λ_ _ _ _ _ st h=>wpAny_pyIter_revIter st h
theorem vX:bootBuiltins "enumerate"=some (.type "enumerate"):=by first | rfl | decide +kernel
def KN(K:iC)(ta:TA):TI:=λσ H R=>ta σ H λvs H1=>∃ a xs,vs=[.ref a]/\SqL K H1 a xs/\R (Ite K a) H1
variable {ta:TA}
theorem tG{es:List Expr}{k:Nat}{tpos:Pos}{a:Expr}{p pos:Pos}(hg:Gl X "enumerate")(hm:X.mg "enumerate"=none)(ha:PA X [a] ta)(hs:starEach [a] X.env=[(false,eval a X.env)]:=by rfl) :
    PI X (.Tuple es k tpos) (.Call (.Name "enumerate" p) [a] [] pos) (KN X.K ta):=by
  intro pins s σ H R I h;refine Call_ (wq I hg hm vX (bP (thn (ha pos pins s σ H _ I h) λus s1 ⟨vs,H1,I1,r1,q1⟩=>?_) hs rfl));obtain ⟨l1,xs,e,q1,q⟩:=q1;subst e;cases r1 with
  | cons r rr =>
    cases rr
    cases r
    obtain ⟨its1,rv1,p1,hz1⟩:=I1.list q1;refine call_enumerate_list p1.isList λh' he hit hsz hk=>?_;refine wpAny_pyIter_enum (s:={ s1 with heap:=h' }) he ?_;refine ⟨_,[_,_],_,_,H1,rfl,I1.kept (t':=s1.toks) hk,Dq l1 _ _ (fw (dI s1.heap.objs.size)),⟨⟨_,he⟩,hit⟩,λc hc=>?_,q⟩;have hc':c=s1.heap.objs.size+1\/c=s1.heap.objs.size:=by simpa using hc
    have hge:s1.heap.objs.size<=c:=by
      rcases hc' with rfl|rfl
      . exact dj ..
      . exact ai _
    exact I1.fpOk hge (I1.hok.fresh hge)
def KO(K:iC)(ta:TA):TI:=λσ H R=>ta σ H λvs H1=>∃ a xs,vs=[.ref a]/\SqL K H1 a xs/\R (Itv K a xs.length) H1
theorem ID{a:Expr}{p pos:Pos}(hg:Gl X "reversed")(hm:X.mg "reversed"=none)(ha:PA X [a] ta)(hs:starEach [a] X.env=[(false,eval a X.env)]:=by rfl) :
    PI X tg (.Call (.Name "reversed" p) [a] [] pos) (KO X.K ta):=by
  intro pins s σ H R I h;refine Call_ (wq I hg hm boot_reversed (bP (thn (ha pos pins s σ H _ I h) λus s1 ⟨vs,H1,I1,r1,q1⟩=>?_) hs rfl));obtain ⟨l1,xs,e,q1,q⟩:=q1;subst e;cases r1 with
  | cons r rr =>
    cases rr
    cases r
    obtain ⟨its1,rv1,p1,hz1⟩:=I1.list q1;have hl:=rv1.length;refine call_reversed_list p1.isList ?_;have hit:(s1.heap.push (revObj l1 ((its1.toArray.size:Int) - 1))).IsRevIter s1.heap.objs.size l1 ((xs.length:Int) - 1 - ((0:Nat):Int)):=⟨_,Heap.get?_push_size _ rfl,rfl,by simp [revObj,hl]⟩
    refine wpAny_pyIter_revIter (s:={ s1 with heap:=_ }) hit ?_;refine ⟨_,[_],_,_,H1,rfl,I1.kept (t':=s1.toks) λb o e=>Heap.get?_push_of_some _ e,ET l1 _ xs.length,hit,λb hb=>?_,q⟩;have e:b=s1.heap.objs.size:=by simpa using hb
    subst e;exact I1.fpOk (ai _) (I1.hok.fresh (ai _))
variable {E:Ends}
theorem BV{K:iC}{σ:St}{tb:TS}(h:ta σ H λvs H1=>∃ a xs,vs=[.ref a]/\SqL K H1 a xs/\∃ W:Nat->Nat->St->Hp->Prop,(∃ m,W 0 m σ H1)/\∀ i m σ H,W i m σ H ->
  ((Ite K a).stop i H/\E.nx σ H)\/((Ite K a).go i H/\∃ N:St->Hp->Prop,(∀ σ' H',N σ' H'->∃ m',m'<m/\W (i+1) m' σ' H')/\∀ x H',(Ite K a).yld i H x H'->g x σ H' λσ2 H2=>tb { E with nx:=N,ct:=N,bk:=E.nx } σ2 H2)) :
  tFor (KN K ta) g tb E σ H:=h
theorem Kq{K:iC}{σ:St}{tb:TS}(h:ta σ H λvs H1=>∃ a xs,vs=[.ref a]/\SqL K H1 a xs/\∃ W:Nat->Nat->St->Hp->Prop,(∃ m,W 0 m σ H1)/\∀ i m σ H,W i m σ H ->
  ((Itv K a xs.length).stop i H/\E.nx σ H)\/((Itv K a xs.length).go i H/\∃ N:St->Hp->Prop,(∀ σ' H',N σ' H'->∃ m',m'<m/\W (i+1) m' σ' H')/\∀ x H',(Itv K a xs.length).yld i H x H'->g x σ H' λσ2 H2=>tb { E with nx:=N,ct:=N,bk:=E.nx } σ2 H2)) :
  tFor (KO K ta) g tb E σ H:=h
theorem vh{K:iC}{xs:List V}{tb:TS}{σ:St}(Pv:Nat->St->Hp->Prop)(h0:Pv 0 σ H)(hl:∀ i σ H,i<=xs.length->Pv i σ H->SqL K H a xs)(hs:∀ i x T σ H,xs[i]?=some x->H T=none->Pv i σ H->g (.ref T) σ (upd H T (.tup [.int (i:Int),x])) λσ2 H2=>tb { D with nx:=Pv (i+1),ct:=Pv (i+1),bk:=D.nx } σ2 H2)(hd:∀ σ H,Pv xs.length σ H->D.nx σ H) :
    ∃ W:Nat->Nat->St->Hp->Prop,(∃ m,W 0 m σ H)/\∀ i m σ H,W i m σ H ->
      ((Ite K a).stop i H/\D.nx σ H)\/((Ite K a).go i H/\∃ N:St->Hp->Prop,(∀ σ' H',N σ' H'->∃ m',m'<m/\W (i+1) m' σ' H')/\∀ x H',(Ite K a).yld i H x H'->g x σ H' λσ2 H2=>tb { D with nx:=N,ct:=N,bk:=D.nx } σ2 H2):=by
  refine ⟨λi m σ H=>m=xs.length - i/\i<=xs.length/\Pv i σ H,⟨xs.length,by simp,bS _,h0⟩,?_⟩;rintro i m σ H ⟨rfl,hi,p⟩;have q1:=hl i σ H hi p;by_cases hlt:i<xs.length
  . refine .inr ⟨⟨xs,xs[i],q1,by simp [hlt]⟩,Pv (i+1),λσ' H' p'=>⟨xs.length - (i+1),by omega,rfl,hlt,p'⟩,λv H' yy=>?_⟩;obtain ⟨T,hT,rfl,yy⟩:=yy;obtain ⟨x,hx,rfl⟩:=yy xs q1;exact hs i x T σ H hx hT p
  . have e:i=xs.length:=by omega
    subst e;exact .inl ⟨⟨xs,q1,ai _⟩,hd σ H p⟩
theorem FG{K:iC}{xs:List V}{tb:TS}{σ:St}(Pv:Nat->St->Hp->Prop)(h0:Pv 0 σ H)(hl:∀ i σ H,i<=xs.length->Pv i σ H->SqL K H a xs)(hs:∀ i x σ H,i<xs.length->xs[xs.length - 1 - i]?=some x->Pv i σ H->g x σ H λσ2 H2=>tb { D with nx:=Pv (i+1),ct:=Pv (i+1),bk:=D.nx } σ2 H2)(hd:∀ σ H,Pv xs.length σ H->D.nx σ H) :
    ∃ W:Nat->Nat->St->Hp->Prop,(∃ m,W 0 m σ H)/\∀ i m σ H,W i m σ H ->
      ((Itv K a xs.length).stop i H/\D.nx σ H)\/((Itv K a xs.length).go i H/\∃ N:St->Hp->Prop,(∀ σ' H',N σ' H'->∃ m',m'<m/\W (i+1) m' σ' H')/\∀ x H',(Itv K a xs.length).yld i H x H'->g x σ H' λσ2 H2=>tb { D with nx:=N,ct:=N,bk:=D.nx } σ2 H2):=by
  refine ⟨λi m σ H=>m=xs.length - i/\i<=xs.length/\Pv i σ H,⟨xs.length,by simp,bS _,h0⟩,?_⟩;rintro i m σ H ⟨rfl,hi,p⟩;have q:=hl i σ H hi p;by_cases hlt:i<xs.length
  . have hj:xs.length - 1 - i<xs.length:=by omega
    refine .inr ⟨⟨hlt,xs,xs[xs.length - 1 - i],q,by simp [hj]⟩,Pv (i+1),λσ' H' p'=>⟨xs.length - (i+1),by omega,rfl,hlt,p'⟩,λx H' y=>?_⟩;obtain ⟨e,y⟩:=y;subst e;exact hs i x σ _ hlt (y xs q) p
  . have e:i=xs.length:=by omega
    subst e;exact .inl ⟨rfl,hd σ H p⟩
def Go(K:iC):List V->Hp->VK->Prop:=λxs H Q=>∃ (a:Addr) (ns ms:List Int),xs=[.ref a]/\SqL K H a (ns.map V.int)/\ms.Perm ns/\ms.Pairwise (·<=·)/\ns.length<64/\∀ p,H p=none->Q (.ref p) (upd H p (.lst (ms.map V.int)))
theorem wS:∀ {vs:List Value} {ns:List Int},Vals (ns.map V.int) vs->IntsAre vs ns
  | _,[],.nil=>.nil
  | _,n::ns,.cons ⟨t,e⟩ r=>by rw [e]; exact .cons n t (wS r)
theorem ux:y8 X (.builtin "sorted") (Go X.K):=by
  intro pins s σ H xs us Q I r h;obtain ⟨a,ns,ms,rfl,hq,hp,hs,h64,q⟩:=h;obtain ⟨u,rfl,ru⟩:=Vals.one r;cases ru
  obtain ⟨its,rv,p1,hz1⟩:=I.list hq;have hl:=rv.length;rw [aa] at hl;refine sorted_ints p1.isList (wS rv) (!4) λout ns' a1 a2 a3=>?_;have e:ns'=ms:=dN (λa b _ _ h k=>Int.le_antisymm h k) a3 hs (a2.trans hp.symm);subst e;obtain ⟨ep,he⟩:=sortedAll_at s.heap its out;have hl2:(ns'.map V.int).length<=sizeLine:=by
    rw [aa,a2.length_eq];exact bK (bf h64) (by rw [io]; decide)
  exact ⟨.ref _,_,I.laid (a:=s.heap.objs.size+1) (o:=.lst (ns'.map V.int)) (t':=s.toks) (λ_ _=>sortedAll_old) (d8 _) ⟨hl2,out.toList,ep,yH a1,by simpa using he⟩,rfl,q _ (I.hok.fresh (d8 _))⟩
theorem Em{K:iC}{Q:VK}{ms:List Int}(h:H a=some (.lst (ns.map V.int)))(hp:ms.Perm ns)(hs:ms.Pairwise (·<=·))(hl:ns.length<64)(q:∀ p H2,H p=none->Same H H2->H2 p=some (.lst (ms.map V.int))->Q (.ref p) H2):Go K [.ref a] H Q :=
  ⟨a,ns,ms,rfl,SqL.of h,hp,hs,hl,λp hn=>q p _ hn (zD hn _) zg⟩
variable {e:Expr}{te:TE}{p1 p2 pos pos2:Pos}
def tLRg(te:TE):TE:=λσ H Q=>te σ H λx H1=>∃ n:Nat,x=.int (n:Int)/\n<=1000/\∀ l,H1 l=none->Q (.ref l) (upd H1 l (.lst (((List.range n).map λk:Nat=>(k:Int)).map V.int)))
theorem Hn{n:Nat}(h:ItemsOf (λi v=>∃ t,v=.int (0+(i:Int)*1) t) acc n):Vals (((List.range n).map λk:Nat=>(k:Int)).map V.int) acc.toList:=by
  refine yH (wL (by simp [h.1]) λj v m h1 h2=>?_);have h3:acc[j]?=some v:=by rw [<-gP]; exact h1
  obtain ⟨t,rfl⟩:=h.2 j v h3;have hj:=(Array.getElem?_eq_some_iff.mp h3).1;rw [h.1] at hj;rw [ag,cW hj] at h2;have:(j:Int)=m:=ax h2;exact ⟨t,by rw [<-this,cC,dg]⟩
theorem Dm(hc:X.calm=true)(hg1:Gl X "list")(hm1:X.mg "list"=none)(b1:bootBuiltins "list"=some (.type "list"))(hg2:Gl X "range")(hm2:X.mg "range"=none)(he:PE X e te)(hs1:starEach [Expr.Call (.Name "range" p2) [e] [] pos2] X.env=[(false,eval (Expr.Call (.Name "range" p2) [e] [] pos2) X.env)]:=by rfl)(hs2:starEach [e] X.env=[(false,eval e X.env)]:=by rfl) :
    PE X (.Call (.Name "list" p1) [.Call (.Name "range" p2) [e] [] pos2] [] pos) (tLRg te):=by
  intro pins s σ H Q I h;refine iq (wq I hg1 hm1 b1 ?_);refine bP ?_ hs1 rfl;rw [hs1];refine Calls.spliced_cons ?_;refine iq (wq I hg2 hm2 boot_range ?_);refine bP ?_ hs2 rfl;rw [hs2];refine Calls.spliced_cons (thn (he pins s σ H _ I h) λv s1 ⟨x,H1,I1,r1,q1⟩=>Calls.spliced_nil ?_);obtain ⟨n,rfl,hn,q⟩:=q1;obtain ⟨t,rfl⟩:=r1;refine call_range_1 (Calls.spliced_nil ?_);have hz:Builtin.Range.rangeSize 0 (n:Int) 1=(n:Int):=by rw [rangeSize_one]; split <;> omega
  refine call_list_range (A:=X.A) (n:=n) (I1.ok.hd hc) (IsRange.new ..) (small_one (!4) (!4) (!4) (!4)) hz (!4) λh' tk acc c' hk hS hacc=>?_;have hsz:(s1.heap.push { cls:=.type "range",data:=.fields #[.int 0 s1.toks,.int (n:Int) t,.int 1 (s1.toks+1)] }).objs.size=s1.heap.objs.size+1:=by simp [Heap.push]
  have kp:∀ b u,s1.heap.get? b=some u->h'.get? b=some u:=λb u eb=>hk b u (Heap.get?_push_of_some _ eb);have hge:s1.heap.objs.size<=(s1.heap.push { cls:=.type "range",data:=.fields #[.int 0 s1.toks,.int (n:Int) t,.int 1 (s1.toks+1)] }).objs.size:=by rw [hsz]; omega
  have rv:=Hn hacc;have hlen:(((List.range n).map λk:Nat=>(k:Int)).map V.int).length<=sizeLine:=by
    rw [aa,aa,bA];exact bK hn (by rw [io]; decide)
  exact ⟨.ref _,_,I1.laid (t':=tk) kp hge (show ObjOk X.prog X.w _ h' _ (.lst (((List.range n).map λk:Nat=>(k:Int)).map V.int)) from ⟨hlen,acc.toList,c',rv,by simpa using hS⟩),rfl,q _ (I1.hok.fresh hge)⟩
theorem FI{σ:St}{Q:VK}(h:te σ H λx H1=>∃ n:Nat,x=.int (n:Int)/\n<=1000/\∀ l,H1 l=none->Q (.ref l) (upd H1 l (.lst (((List.range n).map λk:Nat=>(k:Int)).map V.int)))):tLRg te σ H Q:=h
abbrev vR(p:Addr):Option V:=some (.ref p)
abbrev vI(n:Int):Option V:=some (.int n)
variable {t:TS}
theorem st_of{σ σ':St}(e:σ=σ')(h:t D σ' H):t D σ H:=e ▸ h
theorem IW{u:TS}{σ:St}(h:∀ N:St->Hp->Prop,(∀ σ' H',u D σ' H'->N σ' H')->t { D with nx:=N } σ H):tSeq t u D σ H:=h (u D) λ_ _ h=>h
theorem ps_s(i:Nat){pos':Pos}(hN:X.N.Nodup)(he:PE X e te)(hi:X.N[i]?=some x:=by rfl)(hx:Loc X.env.scope x:=by first | exact Or.inl rfl | exact Or.inr rfl)(hs:swapsWith e (some (.Name x pos')) pos.line X.env=pure false:=by rfl)(hf:X.fn x=true\/X.env.scope.names.lookup x=some .local:=by first | exact .inl rfl | exact .inr rfl | assumption):PS X (.Assign [.Name x pos'] e pos) (tAsg te (Cr i)):=JB hN hi hx he hs hf
theorem pg_n(i:Nat)(hN:X.N.Nodup)(hi:X.N[i]?=some x:=by rfl)(hx:Loc X.env.scope x:=by first | exact Or.inl rfl | exact Or.inr rfl)(hf:X.fn x=true\/X.env.scope.names.lookup x=some .local:=by first | exact .inl rfl | exact .inr rfl | assumption):PG X (.Name x pos) (Cr i):=Hx hN hi hx hf
theorem pe_i{a b:Expr}{ta tb:TE}{r:R2}(hr:IxR X r)(ha:PE X a ta)(hb:PE X b tb)(hs:tD b:=by exact λ_ _=>rfl):PE X (.Subscript a b pos) (tOp r ta tb):=Hk hr ha hb hs
theorem pa1(ha:PE X e te)(hs:starEach [e] X.env=(false,eval e X.env)::starEach [] X.env:=by rfl):PA X [e] (Ab te tNil):=zr ha yl hs
variable {tf:TE}
theorem pa2{f:Expr}(ha:PE X e te)(hb:PE X f tf)(hs:starEach [e,f] X.env=(false,eval e X.env)::starEach [f] X.env:=by rfl)(ht:starEach [f] X.env=(false,eval f X.env)::starEach [] X.env:=by rfl):PA X [e,f] (Ab te (Ab tf tNil)):=zr ha (pa1 hb ht) hs
theorem pa3{f g:Expr}{tg:TE}(ha:PE X e te)(hb:PE X f tf)(hc:PE X g tg)(hs:starEach [e,f,g] X.env=(false,eval e X.env)::starEach [f,g] X.env:=by rfl)(ht:starEach [f,g] X.env=(false,eval f X.env)::starEach [g] X.env:=by rfl)(hu:starEach [g] X.env=(false,eval g X.env)::starEach [] X.env:=by rfl):PA X [e,f,g] (Ab te (Ab tf (Ab tg tNil))):=zr ha (pa2 hb hc ht hu) hs
variable {fd:FuncData}{base:Heap}{ps:List Str}{sp:Sp}
theorem Fun.okA{K:iC}{st:Stmt}{N:List Str}{k:Nat}(F:Fun K x qual st f fd)(S:FnScope N ps (defScope st))(hbody:∀ (cdv:Value) (A:Around) (outer:List Env) (s:Shared) (H:Hp) (vs:List V) (Q:VK) (E:XK),Room k (A.deeper (envOfC qual (defScope st) s.heap.objs.size f cdv))->sp vs H Q E->∃ t,PSs (cxOf CX0 P w K mg base N qual (defScope st) f cdv A outer s H E).nox (defBody st) t/\t { nx:=λ_ H'=>Q .non H',rt:=Q } (start N vs) H)(len:∀ vs H Q E,sp vs H Q E->vs.length=ps.length:=by intro vs H Q E h; cases h; subst_vars; rfl):FnOk P w K mg base CX0 (k+1) f fd ps sp:=F.ok S len hbody
theorem FunD.okA{K:iC}{st:Stmt}{N:List Str}{k:Nat}(F:FunD K x qual st f fd its)(S:FnScope N ps (defScope st))(hbody:∀ (cdv:Value) (A:Around) (outer:List Env) (s:Shared) (H:Hp) (vs:List V) (Q:VK) (E:XK),Room k (A.deeper (envOfC qual (defScope st) s.heap.objs.size f cdv))->sp vs H Q E->∃ t,PSs (cxOf CX0 P w K mg base N qual (defScope st) f cdv A outer s H E).nox (defBody st) t/\t { nx:=λ_ H'=>Q .non H',rt:=Q } (start N vs) H)(len:∀ vs H Q E,sp vs H Q E->vs.length=ps.length:=by intro vs H Q E h; cases h; subst_vars; rfl):FnOk P w K mg base CX0 (k+1) f fd ps sp:=F.ok S len hbody
theorem ifn{A B:Prop}{p:Prop}[Decidable p](q:B)(h:¬ p:=by decide +kernel):if decide p=true then A else B:=by rw [h7 h]; exact q
variable {p':Pos}
theorem pit(k:Nat){n:Int}{j:Nat}{p:Pos}(hN:X.N[k]?=some x:=by rfl)(hv:Vis X.env.scope x:=by first | exact Or.inl rfl | exact Or.inr (Or.inl rfl) | exact Or.inr (Or.inr rfl))(hd:(x==("__debug__":Str))=false:=by decide)(hcd:(x==("__classdict__":Str))=false:=by decide)(hs:tD (.Constant (.int n) j p'):=by exact λ_ _=>rfl):PE X (.Subscript (.Name x p) (.Constant (.int n) j p') pos) (tOp (rIxT X.K) (tVar k) (tC (.int n))):=Hk zW (pv k hN hv hd hcd) zd hs
theorem pil(k:Nat){n:Int}{j:Nat}{p:Pos}(hN:X.N[k]?=some x:=by rfl)(hv:Vis X.env.scope x:=by first | exact Or.inl rfl | exact Or.inr (Or.inl rfl) | exact Or.inr (Or.inr rfl))(hd:(x==("__debug__":Str))=false:=by decide)(hcd:(x==("__classdict__":Str))=false:=by decide)(hs:tD (.Constant (.int n) j p'):=by exact λ_ _=>rfl):PE X (.Subscript (.Name x p) (.Constant (.int n) j p') pos) (tOp (rIxL X.K) (tVar k) (tC (.int n))):=Hk zK (pv k hN hv hd hcd) zd hs
variable {n0:Nat}{res:Value}
section
variable {prog:Program}{w:World}{κ:Type}[DecidableEq κ]{knd:KeyKind prog w κ}{A:Around}{E:Value->Shared->Prop}
theorem CJ{s:Shared}{kvs:List (κ×Value)}{R:Result->Shared->Prop}(hh:A.handled=none)(hn:kvs.length<=sizeLine)(g1:s.heap.get? S=some { cls:=.type "list",data:=.seq #[] n0 })(hI:s.heap.IsKeyIter I d 0 kvs.length ep)(hm:s.heap.DictAt knd d kvs ep)(nSI:S≠I)(nSd:S≠d)(ndI:d≠I)(hR:∀ (s':Shared) (acc:Array Value) (c:Nat),(∀ b o,b≠S->b≠I->s.heap.get? b=some o->s'.heap.get? b=some o)->s'.gens=s.gens->s'.drawn=s.drawn->s'.os=s.os->s'.heap.get? S=some { cls:=.type "list",dict:=none,data:=.seq acc c,slots:=#[] }->ItemsOf (λi v=>∃ k x,kvs[i]?=some (k,x)/\knd.is k v=true) acc kvs.length->R (.ok (.ret res)) s') :
    wpAny (model prog w) A.in1 (rule "list.extend.makes-room" >>= λ_=>Builtin.List.listTouch (.ref S) >>= λ_=>again (.builtin "list.extend.loop" ⟨[.ref S,.ref I,res],[]⟩))
      (λfin s'=>match fin with | .done f=>R (.ok f) s' | .again c'=>c'.quiet=true/\codeAny (model prog w) A c' R s') (λe s'=>R (.error e) s') s:=by
  refine ii (wpAny_rule ?_);refine ii ?_;show wpAny _ A.in1 (updateSeq S (·.push .none) >>= λ_=>updateSeq S (·.pop)) _ _ _;refine ii (iA g1 rfl ?_);have g2:=Heap.get?_update_self (Obj.mapSeq (·.push Value.none)) g1 rfl;refine iA g2 rfl ?_;have g3:=Heap.get?_update_self (Obj.mapSeq (·.pop)) g2 rfl;have oth:∀ (b:Addr) (o:Obj),b≠S->s.heap.get? b=some o->((s.heap.update S (Obj.mapSeq (·.push Value.none))).update S (Obj.mapSeq (·.pop))).get? b=some o :=
    λb o nb g=>(Heap.get?_update_other _ _ nb.symm).trans ((Heap.get?_update_other _ _ nb.symm).trans g)
  have W:=(Walks.dictKeys (knd:=knd) (A:=A.in1) (show A.in1.handled=none from hh) I d ndI kvs ep).toS;refine ij ⟨plainId_quiet F.plain_extend_loop _,codeAny_extend_loopS W hn S ?_ _ kvs.length 0 _ _ _ rfl (bS _) ⟨hI.at λo g=>oth I o nSI.symm g,hm.at' λo g=>oth d o nSd.symm g⟩ g3 (ItemsOf.nil _) λs' acc' c' hmv hS' hacc=>?_⟩
  . intro z;rcases aN.mp z with z|z
    . exact nSI z
    . exact nSd (by simpa using z)
  . refine hR s' acc' c' (λb o n1 n2 g=>hmv.heap b o (λz=>?_) (oth b o n1 g)) hmv.gens hmv.drawn hmv.os hS' hacc;rcases aN.mp z with z|z
    . exact n1 z
    . exact n2 (by simpa using z)
theorem AT{s:Shared}{kvs:List (κ×Value)}{R:Result->Shared->Prop}(hh:A.handled=none)(hds:(d==sysModules)=false)(hn:kvs.length<=sizeLine)(g1:s.heap.get? S=some { cls:=.type "list",data:=.seq #[] n0 })(hm:s.heap.DictAt knd d kvs ep)(nSd:S≠d)(hR:∀ (s':Shared) (acc:Array Value) (c:Nat),(∀ b o,b≠S->s.heap.get? b=some o->s'.heap.get? b=some o)->s'.gens=s.gens->s'.drawn=s.drawn->s'.os=s.os->s'.heap.get? S=some { cls:=.type "list",dict:=none,data:=.seq acc c,slots:=#[] }->ItemsOf (λi v=>∃ k x,kvs[i]?=some (k,x)/\knd.is k v=true) acc kvs.length->R (.ok (.ret res)) s') :
    wpAny (model prog w) A.in1 (Builtin.List.listExtendWith (.ref S) (.ref d) res)
      (λfin s'=>match fin with | .done f=>R (.ok f) s' | .again c'=>c'.quiet=true/\codeAny (model prog w) A c' R s') (λe s'=>R (.error e) s') s:=by
  have h1:Builtin.List.listSameRef (.ref S) (.ref d)=false:=by simp [Builtin.List.listSameRef,nSd]
  unfold Builtin.List.listExtendWith;refine ii (iu hm.dictOf.typeIs ?_);rw [h9 (by rw [h1]; decide)];refine ii (iy hds hm ?_);have hm2:=hm.keep (h':=s.heap.push { cls:=.type "dict_keyiterator",data:=.fields #[.ref d,.int 0 0,.int kvs.length 0,.int ep 0] }) λb o e=>Heap.get?_push_of_some _ e;refine ii (ir ?_);unfold Builtin.List.listLengthHint;refine ii (wpAny_specialOf hm2.dictOf.typeIs wC ?_)
  (generalize hid:("dict.__len__":String)=id0; (fail_if_success (clear hid id0)); wp_delta; rw [show splitId id0=some ("dict","__len__") from by subst hid; decide +kernel]; subst hid)
  refine ii (wpAny_isInstance (b:=true) hm2.dictOf.typeIs (by rw [isSubtype_type]; kernel_rfl) ?_);rw [h9 ⋯];refine wpAny_ite ?_;rw [h8 ⋯];refine ii (iu hm2.dictOf.typeIs ?_);refine ij ?_;rw [h8 ⋯];have ltS:=Heap.lt_size g1;refine CJ (s:={ s with heap:=s.heap.push { cls:=.type "dict_keyiterator",data:=.fields #[.ref d,.int 0 0,.int kvs.length 0,.int ep 0] } }) (R:=R) hh hn (S:=S) (I:=s.heap.objs.size) (Heap.get?_push_of_some _ g1) ⟨_,Heap.get?_push_size _ rfl,rfl,rfl⟩ hm2 (az ltS) nSd (az hm.lt_size) λs' acc c kk e1 e2 e3 hS' hacc=>?_;exact hR s' acc c (λb o n g=>kk b o n (az (Heap.lt_size g)) (Heap.get?_push_of_some _ g)) e1 e2 e3 hS' hacc
theorem ua{s:Shared}{kvs:List (κ×Value)}{Q:Value->Shared->Prop}(hh:A.handled=none)(hds:(d==sysModules)=false)(hn:kvs.length<=sizeLine)(hm:s.heap.DictAt knd d kvs ep)(hQ:∀ (s':Shared) (acc:Array Value) (c:Nat),(∀ b o,s.heap.get? b=some o->s'.heap.get? b=some o)->s'.gens=s.gens->s'.drawn=s.drawn->s'.os=s.os->s'.heap.get? s.heap.objs.size=some { cls:=.type "list",dict:=none,data:=.seq acc c,slots:=#[] }->ItemsOf (λi v=>∃ k x,kvs[i]?=some (k,x)/\knd.is k v=true) acc kvs.length->Q (.ref s.heap.objs.size) s') :
    wpAny (model prog w) A (call (.type "list") [.ref d]) Q E s:=by
  refine callType_codes (Q₁:=λobj s₁=>obj=.ref s.heap.objs.size/\s₁={ s with heap:=s.heap.push { cls:=.type "list",data:=.seq #[] } }) F.called_list (F.typeCall_list_1 _) F.entry_list_init
    (code_list_new _ ⟨rfl,rfl⟩) λobj s₁ h₁=>?_
  obtain ⟨rfl,rfl⟩:=h₁;have hS:(s.heap.push { cls:=.type "list",data:=.seq #[] }).get? s.heap.objs.size=some { cls:=.type "list",data:=.seq #[] }:=Heap.get?_push_size _ rfl;have hm1:=hm.keep (h':=s.heap.push { cls:=.type "list",data:=.seq #[] }) λb o e=>Heap.get?_push_of_some _ e;have nSd:s.heap.objs.size≠d:=bZ (az hm.lt_size);refine ⟨⟨_,hS,rfl⟩,F.args_list_init_2 _ _,?_⟩;show wpAny _ _ (do let old <-Builtin.List.listItems (.ref s.heap.objs.size); Builtin.List.listUpdate (.ref s.heap.objs.size) (λ_=>#[]); letGo old.toList.reverse; Builtin.List.listExtendWith (.ref s.heap.objs.size) (.ref d) .none) _ _ _;refine ii ?_;unfold Builtin.List.listItems;refine ii (wpAny_seqItems hS rfl (ij ?_));show wpAny _ _ (updateSeq s.heap.objs.size (λ_=>#[]) >>= λ_=>letGo (#[]:Array Value).toList.reverse >>= λ_=>Builtin.List.listExtendWith (.ref s.heap.objs.size) (.ref d) .none) _ _ _;refine ii (iA hS rfl ?_);have hS2:=Heap.get?_update_self (Obj.mapSeq (λ_=>(#[]:Array Value))) hS rfl;have oth:∀ b o,b≠s.heap.objs.size->(s.heap.push { cls:=.type "list",data:=.seq #[] }).get? b=some o->((s.heap.push { cls:=.type "list",data:=.seq #[] }).update s.heap.objs.size (Obj.mapSeq (λ_=>(#[]:Array Value)))).get? b=some o :=
    λb o hb e=>(Heap.get?_update_other _ _ (bZ hb)).trans e
  have hm3:=hm1.at' (h':=(s.heap.push { cls:=.type "list",data:=.seq #[] }).update s.heap.objs.size (Obj.mapSeq (λ_=>(#[]:Array Value)))) λo g=>oth d o (bZ nSd) g;refine ii (wpAny_letGo ?_);refine AT (A:=A.in1) hh hds hn hS2 hm3 nSd λs' acc c kk e1 e2 e3 hS' hacc=>?_;exact ⟨rfl,hQ s' acc c (λb o g=>kk b o (az (Heap.lt_size g)) (oth b o (az (Heap.lt_size g)) (Heap.get?_push_of_some _ g))) e1 e2 e3 hS' hacc⟩
end
def IP:List V->Hp->VK->Prop:=λxs H Q=>∃ (d:Addr) (kvs:List (Key×V)) (ns:List Int),xs=[.ref d]/\H d=some (.dK kvs)/\kvs.map (·.1)=ns.map Sum.inl/\kvs.length<=1000/\∀ p,H p=none->Q (.ref p) (upd H p (.lst (ns.map V.int)))
theorem Eh(hc:X.calm=true):y8 X (.type "list") IP:=by
  intro pins s σ H xs us Q I r h;obtain ⟨d,kvs,ns,rfl,e,hk,h64,q⟩:=h;obtain ⟨u,rfl,ru⟩:=Vals.one r;cases ru
  obtain ⟨z,y,vs,rel,dof⟩:=id (I.hok d _ e);obtain ⟨ep,da⟩:=dof.dictAt;have hl:=rel.length;have hz:vs.length<=sizeLine:=bK (show vs.length<=1000 by omega) (by rw [io]; decide);refine ua (I.ok.hd hc) y hz da λs' acc c kk e1 e2 e3 hS' hacc=>?_;obtain ⟨h0,g0,d0,t0,o0⟩:=s;obtain ⟨h1,g1,d1,t1,o1⟩:=s';simp only at e1 e2 e3 kk hS';subst e1 e2 e3;have hI:=wD (by rw [<-rel.keys]; exact hk) hacc;have hl2:(ns.map V.int).length<=sizeLine:=by
    have:kvs.length=ns.length:=by
      have:=congrArg List.length hk
      rwa [aa,aa] at this
    rw [aa];omega
  exact ⟨.ref h0.objs.size,_,I.laid (a:=h0.objs.size) (o:=.lst (ns.map V.int)) (t':=t1) kk (ai _) ⟨hl2,acc.toList,c,yH hI,by rw [Array.toArray_toList]; exact hS'⟩,rfl,q _ (I.hok.fresh (ai _))⟩
theorem IQ{Q:VK}(h:H d=some (.dK kvs))(hk:kvs.map (·.1)=ns.map Sum.inl)(hl:kvs.length<=1000)(q:∀ (p:Addr) (H2:Hp),H p=none->Same H H2->H2 p=some (.lst (ns.map V.int))->Q (.ref p) H2):IP [.ref d] H Q :=
  ⟨d,kvs,ns,rfl,h,hk,hl,λp hp=>q p _ hp (zD hp _) zg⟩
end L2
local macro_rules | `(tactic| walk_at "sc")=>`(tactic| exact ⟨rfl,rfl,rfl,by decide +kernel,rfl,by decide +kernel,by decide +kernel⟩)
local macro_rules | `(tactic| walk_at "s")=>`(tactic| ((refine L2.st_of (by dsimp only [L2.start,List.map,List.length,Nat.zero_add,Nat.reduceAdd,Nat.reduceSub,List.replicate,List.cons_append,List.nil_append]) ?_); try dsimp only [L2.cx_K]))
local macro_rules | `(tactic| omega)=>`(tactic| first | lia | omega +splitNatSub)
open PySem PySem.Spec PyProof.Rows L2 Bg
local macro_rules | `(tactic| walk_at "bd")=>`(tactic| first | assumption | ((with_reducible show Bd _ (-_)); exact Bd.neg (by walk_at "bd")) | ((with_reducible show Bd _ (_*_)); exact Bd.mul (by walk_at "bd") (by walk_at "bd")) | ((with_reducible show Bd _ (_+_)); exact HN (by walk_at "bd") (by walk_at "bd")) | ((with_reducible show Bd _ (_ - _)); exact Ii (by walk_at "bd") (by walk_at "bd")) | ((with_reducible show Bd _ (_ ^ _)); exact bd_powx (by walk_at "bd")) | ((with_reducible show Bd _ (_ / _)); exact A9 (by walk_at "bd")) | ((with_reducible show Bd _ (_ % _)); exact Hm (by walk_at "bd") (by decide +kernel)) | ((with_reducible show Bd _ (Int.fdiv _ _)); exact Bd.fdiv (by walk_at "bd") _) | exact Bd.abs (by walk_at "bd") | exact Dx _)
local macro_rules | `(tactic| walk_at "cd")=>`(tactic| first | assumption | decide | omega | exact ⟨by decide,by decide +kernel⟩ | exact Bd.ok (by walk_at "bd") (by walk_at "bd") (by decide +kernel) | exact cpw_of (by walk_at "bd") (by decide) (by decide +kernel) | decide +kernel)
local macro_rules | `(tactic| walk_at "rd")=>`(tactic| first | ((with_reducible refine IW ?_); intro _ _) | with_reducible refine i_asg ?_ | ((with_reducible refine i_gname ?_); try dsimp only [List.set_cons_zero,List.set_cons_succ]) | with_reducible refine i_ret ?_ | with_reducible refine i_drop ?_ | with_reducible refine i_ifS ?_ | with_reducible refine i_next ?_ | ((with_reducible show tVar _ _ _ _); refine i_var rfl ?_) | with_reducible refine i_c ?_ | with_reducible refine i_op ?_ | with_reducible refine i_un ?_ | with_reducible refine i_I0 ?_ | ((with_reducible show rI _ _ (V.int _) (V.int _) _ _); first | refine i_I ?_ (by walk_at "cd") | refine i_I ?_ ?c) | with_reducible refine i_U ?_ | with_reducible refine Ld ?_ | with_reducible refine Ma ?_ | with_reducible refine i_eqB ?_ | with_reducible refine i_neB ?_ | with_reducible refine KH ?_ | with_reducible refine i_tB ?_ | with_reducible refine i_bl ?_ | with_reducible refine LW ?_ | with_reducible refine i_or ?_ | with_reducible refine Lp ?_ | with_reducible refine IN ?_ | with_reducible refine LL ?_ | with_reducible refine IL ?_ | with_reducible refine Lv ?_ | with_reducible refine Lh ?_ | with_reducible refine JZ ?_ | with_reducible refine KA ?_ | with_reducible refine i_callK ?_ | with_reducible refine i_cb ?_ | with_reducible refine Lm ?_ | with_reducible refine Ll ?_ | with_reducible refine if_t ?_ | with_reducible refine if_f ?_ | with_reducible refine Jz ?_ | with_reducible refine LE ?_ | with_reducible refine LP ?_ | with_reducible refine IZ ?_ | with_reducible refine Lg ?_ | with_reducible refine Jm ?_ | with_reducible refine Fx ?_ | with_reducible refine DN ?_ | with_reducible refine i_is_bool ?_ | with_reducible refine Fk (by assumption) ?_ | with_reducible refine Jc (by assumption) ?_ | with_reducible refine Jf (by assumption) ?_ | ((with_reducible show rIxT _ (V.ref _) (V.int _) _ _); first | refine xn (by assumption) (by rfl) ?_ | refine LZ (by assumption) (by rfl) ?_) | ((with_reducible show rIxL _ (V.ref _) (V.int _) _ _); refine zu (by assumption) (by rfl) ?_) | with_reducible refine i_bm ?_ | with_reducible refine LJ (by assumption) ?_ | with_reducible refine i_sl ?_ | with_reducible refine FC ?_ | with_reducible refine Kk ?_ | with_reducible refine L5 ?_ | with_reducible refine LC ?_ | with_reducible refine KE ?_ | ((with_reducible show gTup _ _ _ (V.ref _) _ _ _); refine IM (by assumption) (by rfl) ?_) | with_reducible refine Hu ?_ | with_reducible refine JY ?_ | with_reducible refine L0 ?_ | with_reducible refine (show ∀ σ' H',_->_ from by assumption) _ _ ?_)
local macro_rules | `(tactic| walk_at "mm")=>`(tactic| repeat first | exact aB | refine ay _ ?_)
local macro_rules | `(tactic| walk_at "rd")=>`(tactic| first | with_reducible refine i_min ?_ | with_reducible refine L4 ?_ | with_reducible refine LQ ?_ | with_reducible refine F6 ?_ | with_reducible refine LK ?_ | with_reducible refine i_fF ?_ | with_reducible refine i_fVal0 ?_ | with_reducible refine i_fInt0 ?_ | with_reducible refine i_tyS ?_ | with_reducible refine L8 ?_ | with_reducible refine KD ?_)
local macro_rules | `(tactic| walk_at "b8")=>`(tactic| first | assumption | decide +kernel | exact Bd.mono (by walk_at "bd") (by decide +kernel))
local macro_rules | `(tactic| lia)=>`(tactic| first | (lia (splits:=9)) | omega +splitNatSub)
local macro_rules | `(tactic| exists $e)=>`(tactic| ((repeat walk_at "rd"); refine $e))
local macro_rules | `(tactic| walk_at "r")=>`(tactic| repeat walk_at "rd")
set_option maxHeartbeats 4000000
namespace Bk
local macro_rules | `(⋯)=>`(by decide)
local macro_rules | `(!1)=>`(by simp)
local macro_rules | `(!2)=>`(by lia)
local macro_rules | `(!3)=>`(by decide +kernel)
inductive A2(a b:Prop):Prop | mk:a->b->A2 a b
inductive A3(a b c:Prop):Prop | mk:a->b->c->A3 a b c
inductive A4(a b c d:Prop):Prop | mk:a->b->c->d->A4 a b c d
inductive A5(a b c d e:Prop):Prop | mk:a->b->c->d->e->A5 a b c d e
inductive A6(a b c d e f:Prop):Prop | mk:a->b->c->d->e->f->A6 a b c d e f
inductive A7(a b c d e f g:Prop):Prop | mk:a->b->c->d->e->f->g->A7 a b c d e f g
inductive A8(a b c d e f g h:Prop):Prop | mk:a->b->c->d->e->f->g->h->A8 a b c d e f g h
inductive E1{A:Type}(p:A->Prop):Prop | mk (a:A) (h:p a):E1 p
inductive E2{A B:Type}(p:A->B->Prop):Prop | mk (a:A) (b:B) (h:p a b):E2 p
inductive E3{A B C:Type}(p:A->B->C->Prop):Prop | mk (a:A) (b:B) (c:C) (h:p a b c):E3 p
inductive E4{A B C D:Type}(p:A->B->C->D->Prop):Prop | mk (a:A) (b:B) (c:C) (d:D) (h:p a b c d):E4 p
inductive E6{A B C D E F:Type}(p:A->B->C->D->E->F->Prop):Prop | mk (a:A) (b:B) (c:C) (d:D) (e:E) (f:F) (h:p a b c d e f):E6 p
inductive E7{A B C D E F G:Type}(p:A->B->C->D->E->F->G->Prop):Prop | mk (a:A) (b:B) (c:C) (d:D) (e:E) (f:F) (g:G) (h:p a b c d e f g):E7 p
inductive E9{A B C D E F G H I:Type}(p:A->B->C->D->E->F->G->H->I->Prop):Prop | mk (a:A) (b:B) (c:C) (d:D) (e:E) (f:F) (g:G) (h:H) (i:I) (h:p a b c d e f g h i):E9 p
def top(i:Nat):Stmt:=PySem.Challenge.pw_boardglue_k56_plans_told.main.body.getD i (.Pass ⟨0,0,0,0⟩)
abbrev S0:Stmt:=top 12
abbrev S1:Stmt:=top 13
abbrev S2:Stmt:=top 16
abbrev S3:Stmt:=top 17
abbrev S4:Stmt:=top 18
abbrev S5:Stmt:=top 19
abbrev S6:Stmt:=top 20
abbrev S7:Stmt:=top 21
abbrev S8:Stmt:=top 22
abbrev S9:Stmt:=top 23
abbrev S10:Stmt:=top 24
abbrev S11:Stmt:=top 26
abbrev S12:Stmt:=top 27
abbrev S13:Stmt:=top 28
abbrev S14:Stmt:=top 29
abbrev S15:Stmt:=top 30
abbrev S16:Stmt:=top 31
abbrev S17:Stmt:=top 33
abbrev S18:Stmt:=top 34
abbrev S19:Stmt:=top 35
abbrev S20:Stmt:=top 37
abbrev S21:Stmt:=top 43
abbrev S22:Stmt:=top 44
abbrev S23:Stmt:=top 45
abbrev S24:Stmt:=top 46
abbrev S25:Stmt:=top 47
abbrev S26:Stmt:=top 48
abbrev S27:Stmt:=top 49
abbrev S28:Stmt:=top 52
abbrev S29:Stmt:=top 53
abbrev S30:Stmt:=top 54
abbrev S31:Stmt:=top 55
abbrev S32:Stmt:=top 56
abbrev S33:Stmt:=top 57
abbrev S34:Stmt:=top 58
abbrev S35:Stmt:=top 61
abbrev S36:Stmt:=top 62
abbrev S37:Stmt:=top 63
abbrev S38:Stmt:=top 64
abbrev S39:Stmt:=top 65
abbrev S40:Stmt:=top 67
abbrev S41:Stmt:=top 68
abbrev S42:Stmt:=top 70
abbrev S43:Stmt:=top 71
abbrev S44:Stmt:=top 72
abbrev S45:Stmt:=top 73
abbrev S46:Stmt:=top 74
abbrev S47:Stmt:=top 75
abbrev S48:Stmt:=top 76
abbrev S49:Stmt:=top 77
abbrev S50:Stmt:=top 78
abbrev S51:Stmt:=top 79
abbrev S52:Stmt:=top 80
abbrev S53:Stmt:=top 81
abbrev S54:Stmt:=top 82
abbrev S55:Stmt:=top 83
abbrev S56:Stmt:=top 84
abbrev S57:Stmt:=top 85
abbrev S58:Stmt:=top 86
abbrev S59:Stmt:=top 87
abbrev S60:Stmt:=top 88
abbrev S61:Stmt:=top 89
abbrev S62:Stmt:=top 90
abbrev S63:Stmt:=top 91
abbrev S64:Stmt:=top 92
abbrev S65:Stmt:=top 93
abbrev S66:Stmt:=wM (top 50) 0
abbrev S67:Stmt:=wM (top 50) 1
abbrev S68:Stmt:=wM (top 50) 2
abbrev S69:Stmt:=wM (top 50) 3
abbrev S70:Stmt:=wM (top 50) 4
abbrev S71:Stmt:=wM (top 50) 5
structure Bl(mg:Str->Option Value):Prop where
  ValueError:mg "ValueError"=none
  abs:mg "abs"=none
  all:mg "all"=none
  bool:mg "bool"=none
  dict:mg "dict"=none
  enumerate:mg "enumerate"=none
  int:mg "int"=none
  isinstance:mg "isinstance"=none
  len:mg "len"=none
  list:mg "list"=none
  min:mg "min"=none
  range:mg "range"=none
  reversed:mg "reversed"=none
  sorted:mg "sorted"=none
  str:mg "str"=none
  sum:mg "sum"=none
  tuple:mg "tuple"=none
theorem Eb:bootBuiltins "abs"=some (.builtin "abs"):=by decide +kernel
theorem KF:bootBuiltins "all"=some (.builtin "all"):=by decide +kernel
theorem DH:bootBuiltins "bool"=some (.type "bool"):=by decide +kernel
theorem Bc:bootBuiltins "dict"=some (.type "dict"):=by decide +kernel
theorem vp:bootBuiltins "int"=some (.type "int"):=by decide +kernel
theorem zA:bootBuiltins "isinstance"=some (.builtin "isinstance"):=by decide +kernel
theorem xD:bootBuiltins "list"=some (.type "list"):=by decide +kernel
theorem Km:bootBuiltins "min"=some (.builtin "min"):=by decide +kernel
theorem xu:bootBuiltins "sorted"=some (.builtin "sorted"):=by decide +kernel
theorem J6:bootBuiltins "str"=some (.type "str"):=by decide +kernel
theorem Gr:bootBuiltins "sum"=some (.builtin "sum"):=by decide +kernel
theorem xJ:bootBuiltins "tuple"=some (.type "tuple"):=by decide +kernel
structure Cs where
  YardError:Addr
  NoLength:Addr
  NoDeed:Addr
  NoName:Addr
  Grain:Addr
  Unfit:Addr
  Yard:Addr
structure Xs(K:iC)(mg:Str->Option Value)(cs:Cs):Prop where
  m_YardError:mg "YardError"=some (.ref cs.YardError)
  m_NoLength:mg "NoLength"=some (.ref cs.NoLength)
  m_NoDeed:mg "NoDeed"=some (.ref cs.NoDeed)
  m_NoName:mg "NoName"=some (.ref cs.NoName)
  m_Grain:mg "Grain"=some (.ref cs.Grain)
  m_Unfit:mg "Unfit"=some (.ref cs.Unfit)
  m_Yard:mg "Yard"=some (.ref cs.Yard)
  c_Yard:Cls K cs.Yard
  n_Yard_root:NoAttr K cs.Yard "root"
  n_Yard_turning:NoAttr K cs.Yard "turning"
  n_Yard_known:NoAttr K cs.Yard "known"
  n_Yard_lying:NoAttr K cs.Yard "lying"
  n_Yard_done:NoAttr K cs.Yard "done"
def Rep(D:Int)(M:Nat)(s:Sd):Prop:=∃ X Y:Int,Bd M X/\Bd M Y/\s.x*D=X*s.z/\s.y*D=Y*s.z
structure So(d D:Int)(M:Nat)(s:Sd):Prop where
  z1:1<=s.z
  g:g3 s.x s.y s.z=1
  up:sgn d s.x s.y=1
  r:Rep D M s
variable {D d:Int}{M:Nat}
theorem So.sk{K:Nat}{s:Sd}(h:So d D M s)(hD:1<=D)(bD:Bd K D):SK M K s:=by
  obtain ⟨X,Y,bX,bY,hx,hy⟩:=h.r;obtain ⟨e1,e2,e3⟩:=ym h.z1 h.g (show D≠0 by lia) hx hy;refine ⟨h.z1,h.g,?_,?_,?_⟩
  . rw [e1];exact bX.fdiv _
  . rw [e2];exact bY.fdiv _
  . rw [e3];exact bD.fdiv _
theorem So.ne{s:Sd}(h:So d D M s):s.z≠0:=by have:=h.z1; lia
theorem So.scale{k:Int}{j:Nat}{s:Sd}(h:So d D M s)(bk:Bd j k):So d (D*k) (M+j) s:=by
  obtain ⟨X,Y,bX,bY,hx,hy⟩:=h.r;exact ⟨h.z1,h.g,h.up,X*k,Y*k,bX.mul bk,bY.mul bk,by rw [<-ao,hx]; grind,by rw [<-ao,hy]; grind⟩
theorem So.mono{d D:Int}{M M':Nat}{s:Sd}(h:So d D M s)(l:M<=M'):So d D M' s:=by
  obtain ⟨X,Y,bX,bY,hx,hy⟩:=h.r;exact ⟨h.z1,h.g,h.up,X,Y,bX.mono l,bY.mono l,hx,hy⟩
theorem yo{a b c e:Int}(hb:b≠0)(he:e≠0)(h:a*e=c*b):Rat.divInt a b=Rat.divInt c e:=(cN hb he).mpr h
theorem So.pq{s:Sd}(h:So d D M s)(hD:1<=D):∃ X Y:Int,Bd M X/\Bd M Y/\s.p=Rat.divInt X D/\s.q=Rat.divInt Y D:=by
  obtain ⟨X,Y,bX,bY,hx,hy⟩:=h.r;exact ⟨X,Y,bX,bY,yo h.ne (!2) hx,yo h.ne (!2) hy⟩
def BoD(d D:Int)(M:Nat)(b:Bo):Prop:=So d D M b.w/\So d D M b.h
def TbD(E:Int)(k:Nat)(t:Tb):Prop:=∃ a b c e:Int,(Bd k a/\Bd k b/\Bd k c/\Bd k e)/\t.a=Rat.divInt a E/\t.b=Rat.divInt b E/\t.c=Rat.divInt c E/\t.e=Rat.divInt e E
theorem TbD.bt{E:Int}{k j:Nat}{t:Tb}(h:TbD E k t)(hE:E≠0)(bE:Bd j E):t.Bt k j:=by
  obtain ⟨a,b,c,e,⟨h1,h2,h3,h4⟩,e1,e2,e3,e4⟩:=h;refine ⟨?_,?_,?_,?_⟩
  . rw [e1]; exact ui hE h1 bE
  . rw [e2]; exact ui hE h2 bE
  . rw [e3]; exact ui hE h3 bE
  . rw [e4]; exact ui hE h4 bE
theorem BoD.tb{d D:Int}{M:Nat}{b:Bo}(h:BoD d D M b)(hD:1<=D):TbD (D*D) (M+M) b.tb:=by
  obtain ⟨X,Y,bX,bY,ep,eq⟩:=h.1.pq hD;obtain ⟨X',Y',bX',bY',ep',eq'⟩:=h.2.pq hD;refine ⟨X*X',X*Y',Y*X',Y*Y',⟨bX.mul bX',bX.mul bY',bY.mul bX',bY.mul bY'⟩,?_,?_,?_,?_⟩
  . show b.w.p*b.h.p=_;rw [ep,ep',w8]
  . show b.w.p*b.h.q=_;rw [ep,eq',w8]
  . show b.w.q*b.h.p=_;rw [eq,ep',w8]
  . show b.w.q*b.h.q=_;rw [eq,eq',w8]
theorem xB{a b E:Int}(hE:E≠0):Rat.divInt a E+Rat.divInt b E=Rat.divInt (a+b) E:=by
  rw [<-CN hE hE];refine yo (aI hE hE) hE ?_;grind
theorem TbD.add{E:Int}{k:Nat}{s t:Tb}(hE:E≠0)(h:TbD E k s)(h':TbD E k t):TbD E (k+1) (s.add t):=by
  obtain ⟨a,b,c,e,⟨h1,h2,h3,h4⟩,e1,e2,e3,e4⟩:=h;obtain ⟨a',b',c',e',⟨k1,k2,k3,k4⟩,f1,f2,f3,f4⟩:=h';refine ⟨a+a',b+b',c+c',e+e',⟨h1.add k1,h2.add k2,h3.add k3,h4.add k4⟩,?_,?_,?_,?_⟩
  . show s.a+t.a=_;rw [e1,f1,xB hE]
  . show s.b+t.b=_;rw [e2,f2,xB hE]
  . show s.c+t.c=_;rw [e3,f3,xB hE]
  . show s.e+t.e=_;rw [e4,f4,xB hE]
theorem TbD.mono{E:Int}{k k':Nat}{t:Tb}(h:TbD E k t)(l:k<=k'):TbD E k' t:=by
  obtain ⟨a,b,c,e,⟨h1,h2,h3,h4⟩,r⟩:=h;exact ⟨a,b,c,e,⟨h1.mono l,h2.mono l,h3.mono l,h4.mono l⟩,r⟩
theorem Li{l:List Bo}(h:∀ b∈l,BoD d D M b)(hD:1<=D):TbD (D*D) (M+M+l.length) (tbs l):=by
  have hE:D*D≠0:=aI (!2) (!2);induction l with
  | nil =>
    have z:(0:Rat)=Rat.divInt 0 (D*D):=(Rat.zero_divInt _).symm;have b0:Bd (M+M+([]:List Bo).length) 0:=gQ _;exact ⟨0,0,0,0,⟨b0,b0,b0,b0⟩,z,z,z,z⟩
  | cons b l ih =>
    have h1:=(h b aB).tb hD;have h2:=ih λc hc=>h c (ay _ hc);exact TbD.add hE (h1.mono (dj _ _)) h2
theorem IY{K n:Nat}{l:List Bo}(h:∀ b∈l,BoD d D M b)(hD:1<=D)(bD:Bd K D)(hl:l.length<=n):(tbs l).Bt (M+M+n) (K+K) :=
  ((Li h hD).mono (show M+M+l.length<=M+M+n by lia)).bt (aI (!2) (!2)) (bD.mul bD)
def tkS(s t:Sd):Sd:=⟨lA (s.x*t.z+-t.x*s.z) (s.y*t.z+-t.y*s.z) (s.z*t.z),lB (s.x*t.z+-t.x*s.z) (s.y*t.z+-t.y*s.z) (s.z*t.z),lN (s.x*t.z+-t.x*s.z) (s.y*t.z+-t.y*s.z) (s.z*t.z)⟩
def shS(s:Sd)(m k:Int):Sd:=⟨lA (s.x*m) (s.y*m) (s.z*k),lB (s.x*m) (s.y*m) (s.z*k),lN (s.x*m) (s.y*m) (s.z*k)⟩
variable {X Y:Int}
theorem xZ{a b n:Int}(hn:n≠0)(h1:a*D=X*n)(h2:b*D=Y*n):lA a b n*D=X*lN a b n/\lB a b n*D=Y*lN a b n:=by
  have e1:=l_a (a:=a) (b:=b) (n:=n);have e2:=l_b (a:=a) (b:=b) (n:=n);constructor
  . refine Am hn ?_;have:lA a b n*D*n=(lA a b n*n)*D:=by grind
    rw [this,e1];have:a*lN a b n*D=(a*D)*lN a b n:=by grind
    rw [this,h1];grind
  . refine Am hn ?_;have:lB a b n*D*n=(lB a b n*n)*D:=by grind
    rw [this,e2];have:b*lN a b n*D=(b*D)*lN a b n:=by grind
    rw [this,h2];grind
variable {t:Sd}
theorem L1{s:Sd}(hR:Rt d)(h:So d D M s)(h':So d D M t)(up:sgn d (tkS s t).x (tkS s t).y=1):So d D (M+1) (tkS s t):=by
  obtain ⟨X,Y,bX,bY,hx,hy⟩:=h.r;obtain ⟨X',Y',bX',bY',hx',hy'⟩:=h'.r;have hn:s.z*t.z≠0:=aI h.ne h'.ne;obtain ⟨r1,r2⟩:=xZ (a:=s.x*t.z+-t.x*s.z) (b:=s.y*t.z+-t.y*s.z) (n:=s.z*t.z) (D:=D) (X:=X - X') (Y:=Y - Y') hn (by grind) (by grind);exact ⟨l_n hn,xQ hn,up,X - X',Y - Y',bX.sub bX',bY.sub bY',r1,r2⟩
theorem J9{s:Sd}(hR:Rt d)(h:So d D M s)(h':So d D M t):So d D (M+1) (adS s t):=by
  obtain ⟨X,Y,bX,bY,hx,hy⟩:=h.r;obtain ⟨X',Y',bX',bY',hx',hy'⟩:=h'.r;have hn:s.z*t.z≠0:=aI h.ne h'.ne;have hn1:1<=s.z*t.z:=aZ (by have:=h.z1; lia) (by have:=h'.z1; lia);obtain ⟨r1,r2⟩:=xZ (a:=s.x*t.z+t.x*s.z) (b:=s.y*t.z+t.y*s.z) (n:=s.z*t.z) (D:=D) (X:=X+X') (Y:=Y+Y') hn (by grind) (by grind);refine ⟨l_n hn,xQ hn,?_,X+X',Y+Y',bX.add bX',bY.add bY',r1,r2⟩;refine (z4 hR hn1).trans (uM hR ?_ ?_)
  . exact (xm hR (k:=1) (m:=t.z) ⋯ (by have:=h'.z1; lia) (by grind) (by grind)).trans h.up
  . exact (xm hR (k:=1) (m:=s.z) ⋯ (by have:=h.z1; lia) (by grind) (by grind)).trans h'.up
variable {m:Int}
theorem Ik{k:Int}{j:Nat}{s:Sd}(hR:Rt d)(h:So d D M s)(m1:1<=m)(k1:1<=k)(bm:Bd j m):So d (D*k) (M+j) (shS s m k):=by
  obtain ⟨X,Y,bX,bY,hx,hy⟩:=h.r;have hn:s.z*k≠0:=aI h.ne (!2);have hn1:1<=s.z*k:=aZ (by have:=h.z1; lia) (!2);obtain ⟨r1,r2⟩:=xZ (a:=s.x*m) (b:=s.y*m) (n:=s.z*k) (D:=D*k) (X:=X*m) (Y:=Y*m) hn (by grind) (by grind);refine ⟨l_n hn,xQ hn,?_,X*m,Y*m,bX.mul bm,bY.mul bm,r1,r2⟩;exact (z4 hR hn1).trans ((xm hR (k:=1) (m:=m) ⋯ (!2) (by grind) (by grind)).trans h.up)
theorem Lk{k:Int}{s:Sd}(hR:Rt d)(z1:1<=s.z)(up:sgn d s.x s.y=1)(m1:1<=m)(hk:m<k):sgn d (tkS s (shS s m k)).x (tkS s (shS s m k)).y=1:=by
  have hn:s.z*k≠0:=aI (!2) (!2);have e1:(shS s m k).x*(s.z*k)=s.x*m*(shS s m k).z:=l_a;have e2:(shS s m k).y*(s.z*k)=s.y*m*(shS s m k).z:=l_b;have f1:1<=(shS s m k).z:=l_n hn;generalize hx:(shS s m k).x=fx at *
  generalize hy:(shS s m k).y=fy at *
  generalize hz:(shS s m k).z=fz at *
  have hn1:1<=s.z*fz:=aZ (!2) (!2);have t1:(tkS s (shS s m k)).x=lA (s.x*fz+-fx*s.z) (s.y*fz+-fy*s.z) (s.z*fz):=by
    unfold tkS;rw [hx,hy,hz]
  have t2:(tkS s (shS s m k)).y=lB (s.x*fz+-fx*s.z) (s.y*fz+-fy*s.z) (s.z*fz):=by
    unfold tkS;rw [hx,hy,hz]
  rw [t1,t2,z4 hR hn1];refine (xm hR (k:=k) (m:=fz*(k - m)) (!2) (aZ (!2) (!2)) ?_ ?_).trans up
  . clear t1 t2 hn1 hn up;grind
  . clear t1 t2 hn1 hn up;grind
theorem Lw{s:Sd}(hR:Rt d)(z1:1<=s.z)(z2:1<=t.z)(h:0<sgn d (s.x*t.z - t.x*s.z) (s.y*t.z - t.y*s.z)):sgn d (tkS s t).x (tkS s t).y=1:=by
  have hn1:1<=s.z*t.z:=aZ (!2) (!2);have e:sgn d (tkS s t).x (tkS s t).y=sgn d (s.x*t.z - t.x*s.z) (s.y*t.z - t.y*s.z):=by
    refine (z4 hR hn1).trans ?_;rw [show s.x*t.z+-t.x*s.z=s.x*t.z - t.x*s.z by grind,show s.y*t.z+-t.y*s.z=s.y*t.z - t.y*s.z by grind]
  rw [e];rcases sgn_tri hR (s.x*t.z - t.x*s.z) (s.y*t.z - t.y*s.z) with z|z|z
  . exact z
  . lia
  . rw [z.1,z.2,yr] at h
    lia
theorem IR{s:Sd}(hs:s.z≠0)(ht:t.z≠0):(tkS s t).p=s.p - t.p/\(tkS s t).q=s.q - t.q:=by
  have hn:s.z*t.z≠0:=aI hs ht;obtain ⟨h1,h2⟩:=wJ (a:=s.x*t.z+-t.x*s.z) (b:=s.y*t.z+-t.y*s.z) hn;constructor
  . show Rat.divInt (lA _ _ _) (lN _ _ _)=_;rw [h1,CN hs ht,<-Rat.neg_divInt,Rat.sub_eq_add_neg];rfl
  . show Rat.divInt (lB _ _ _) (lN _ _ _)=_;rw [h2,CN hs ht,<-Rat.neg_divInt,Rat.sub_eq_add_neg];rfl
theorem Jx{s:Sd}(hs:s.z≠0)(ht:t.z≠0):(adS s t).p=s.p+t.p/\(adS s t).q=s.q+t.q:=by
  have hn:s.z*t.z≠0:=aI hs ht;obtain ⟨h1,h2⟩:=wJ (a:=s.x*t.z+t.x*s.z) (b:=s.y*t.z+t.y*s.z) hn;constructor
  . show Rat.divInt (lA _ _ _) (lN _ _ _)=_;rw [h1,CN hs ht];rfl
  . show Rat.divInt (lB _ _ _) (lN _ _ _)=_;rw [h2,CN hs ht];rfl
theorem Fn{s:Sd}{k:Int}(hs:s.z≠0)(hk:k≠0):(shS s m k).p=s.p*Rat.divInt m k/\(shS s m k).q=s.q*Rat.divInt m k:=by
  have hn:s.z*k≠0:=aI hs hk;obtain ⟨h1,h2⟩:=wJ (a:=s.x*m) (b:=s.y*m) hn;constructor
  . show Rat.divInt (lA _ _ _) (lN _ _ _)=_;rw [h1,w8];rfl
  . show Rat.divInt (lB _ _ _) (lN _ _ _)=_;rw [h2,w8];rfl
variable {h w:Sd}
theorem Lq{f:Sd}(hw:w.z≠0)(hf:f.z≠0):(⟨f,h⟩:Bo).tb.add (⟨tkS w f,h⟩:Bo).tb=(⟨w,h⟩:Bo).tb:=by
  obtain ⟨e1,e2⟩:=IR hw hf;refine Tb.ext ?_ ?_ ?_ ?_ <;> simp only [Tb.add,Bo.tb,e1,e2] <;> grind
theorem L6{f:Sd}(hh:h.z≠0)(hf:f.z≠0):(⟨w,f⟩:Bo).tb.add (⟨w,tkS h f⟩:Bo).tb=(⟨w,h⟩:Bo).tb:=by
  obtain ⟨e1,e2⟩:=IR hh hf;refine Tb.ext ?_ ?_ ?_ ?_ <;> simp only [Tb.add,Bo.tb,e1,e2] <;> grind
theorem EH(hm:m≠0):Rat.divInt 1 m*Rat.divInt m 1=1:=by
  rw [<-w8];refine (yo (c:=1) (e:=1) (aI hm ⋯) ⋯ (by grind)).trans ?_;decide +kernel
theorem LI(hw:w.z≠0)(hh:h.z≠0)(hm:m≠0):(⟨shS w 1 m,shS h m 1⟩:Bo).tb=(⟨w,h⟩:Bo).tb:=by
  obtain ⟨e1,e2⟩:=Fn (m:=1) (k:=m) hw hm;obtain ⟨e3,e4⟩:=Fn (m:=m) (k:=1) hh ⋯;have e:=EH hm;refine Tb.ext ?_ ?_ ?_ ?_ <;> simp only [Bo.tb,e1,e2,e3,e4] <;> grind
theorem LY(hw:w.z≠0)(hh:h.z≠0)(hm:m≠0):(⟨shS w m 1,shS h 1 m⟩:Bo).tb=(⟨w,h⟩:Bo).tb:=by
  obtain ⟨e1,e2⟩:=Fn (m:=m) (k:=1) hw ⋯;obtain ⟨e3,e4⟩:=Fn (m:=1) (k:=m) hh hm;have e:=EH hm;refine Tb.ext ?_ ?_ ?_ ?_ <;> simp only [Bo.tb,e1,e2,e3,e4] <;> grind
theorem LN{w':Sd}(hw:w.z≠0)(hw':w'.z≠0):(⟨adS w w',h⟩:Bo).tb=(⟨w,h⟩:Bo).tb.add (⟨w',h⟩:Bo).tb:=by
  obtain ⟨e1,e2⟩:=Jx hw hw';refine Tb.ext ?_ ?_ ?_ ?_ <;> simp only [Tb.add,Bo.tb,e1,e2] <;> grind
theorem Lu{h':Sd}(hh:h.z≠0)(hh':h'.z≠0):(⟨w,adS h h'⟩:Bo).tb=(⟨w,h⟩:Bo).tb.add (⟨w,h'⟩:Bo).tb:=by
  obtain ⟨e1,e2⟩:=Jx hh hh';refine Tb.ext ?_ ?_ ?_ ?_ <;> simp only [Tb.add,Bo.tb,e1,e2] <;> grind
inductive Dd where
  | cut (al:Bool) (n:Int) (s:Sd)
  | glue (al:Bool) (n m:Int)
  | shift (al:Bool) (n k:Int)
  | turn (n:Int)
abbrev SY(s:Sd):Prop:=SK 2400 2100 s
def Dd.wd:Dd->Str
  | .cut al _ _=>if al then "along" else "across"
  | .glue al _ _=>if al then "atop" else "beside"
  | .shift al _ _=>if al then "spread" else "stack"
  | .turn _=>"turn"
def Dd.n:Dd->Int
  | .cut _ n _=>n
  | .glue _ n _=>n
  | .shift _ n _=>n
  | .turn n=>n
def Dd.names:Dd->List Int
  | .glue _ n m=>[n,m]
  | d=>[d.n]
def DdAt(H:Hp)(p:Addr):Dd->Prop
  | .cut al n s=>∃ q,H p=some (.tup [.str (Dd.cut al n s).wd,.int n,.ref q])/\SdAt H q s
  | .glue al n m=>H p=some (.tup [.str (Dd.glue al n m).wd,.int n,.int m])
  | .shift al n k=>H p=some (.tup [.str (Dd.shift al n k).wd,.int n,.int k])
  | .turn n=>H p=some (.tup [.str "turn",.int n])
def Dd.Ok:Dd->Prop
  | .cut _ _ s=>SY s
  | .shift _ _ k=>1<=k/\Bd 1024 k
  | _=>True
variable {e:Dd}{H H':Hp}
theorem DdAt.same{p:Addr}(h:DdAt H p e)(s:Same H H'):DdAt H' p e:=by
  cases e with
  | cut al n t=>obtain ⟨q,h1,h2⟩:=h; exact ⟨q,s _ _ h1,s _ _ h2⟩
  | glue al n m=>exact s _ _ h
  | shift al n k=>exact s _ _ h
  | turn n=>exact s _ _ h
def Dd.two:Dd->Bool
  | .glue _ _ _=>true
  | _=>false
def Dd.new(b c:Bo):Dd->List Bo
  | .cut false _ s=>[⟨s,b.h⟩,⟨tkS b.w s,b.h⟩]
  | .cut true _ s=>[⟨b.w,s⟩,⟨b.w,tkS b.h s⟩]
  | .glue false _ _=>[⟨adS b.w c.w,b.h⟩]
  | .glue true _ _=>[⟨b.w,adS b.h c.h⟩]
  | .shift false _ k=>[⟨shS b.w 1 k,shS b.h k 1⟩]
  | .shift true _ k=>[⟨shS b.w k 1,shS b.h 1 k⟩]
  | .turn _=>[⟨b.h,b.w⟩]
def EU(d:Int)(w s:Sd):Prop:=SY w/\SY s/\0<sgn d s.x s.y/\0<sgn d (w.x*s.z - s.x*w.z) (w.y*s.z - s.y*w.z)
def Dd.Fit(d:Int)(b c:Bo):Dd->Prop
  | .cut false _ s=>EU d b.w s
  | .cut true _ s=>EU d b.h s
  | .glue false _ _=>b.h=c.h/\SY b.w/\SY c.w
  | .glue true _ _=>b.w=c.w/\SY b.h/\SY c.h
  | .shift _ _ k=>1<=k/\Bd 1024 k/\SY b.w/\SY b.h
  | .turn _=>True
def Dd.isT:Dd->Bool
  | .turn _=>true
  | _=>false
def yg(ns:List Nat):List Int->List Nat
  | []=>ns
  | m::ms=>yg (ns.filter λn:Nat=>decide ((n:Int)≠m)) ms
def CellsOf(cl:List Cell)(e:Dd)(c c':Cell):Prop:=match e with
  | .glue _ n m=>(∃ i:Nat,n=(i:Int)/\cl[i]?=some c)/\∃ i:Nat,m=(i:Int)/\cl[i]?=some c'
  | e=>(∃ i:Nat,e.n=(i:Int)/\cl[i]?=some c)/\c'=c
structure Yd where
  p:Addr
  dx:Addr
  k:Addr
  l:Addr
  t:Addr
def Yd.fs (y:Yd) (d:Int) (tn:Bool):List (Str×V):=[("root",.int d),("turning",.bl tn),("known",.ref y.k),("lying",.ref y.l),("done",.ref y.t)]
def nmK(ns:List Nat):List (Key×V):=ns.map λn:Nat=>((.inl (n:Int):Key),V.bl true)
structure YdAt(C:Addr)(H:Hp)(y:Yd)(d:Int)(tn:Bool)(cl:List Cell)(ns:List Nat)(lg:List V):Prop where
  o:H y.p=some (.ins C y.dx (y.fs d tn))
  k:H y.k=some (.lst (cl.map Cell.v))
  l:H y.l=some (.dK (nmK ns))
  t:H y.t=some (.lst lg)
  kt:y.k≠y.t
  at':∀ c∈cl,c.At H
  up:ns.Pairwise (· < ·)
  lt:∀ n∈ns,n<cl.length
  lc:cl.length<=400
  ll:lg.length<=200
theorem YdAt.same{C:Addr}{H H':Hp}{y:Yd}{d:Int}{tn:Bool}{cl:List Cell}{ns:List Nat}{lg:List V}(h:YdAt C H y d tn cl ns lg)(s:Same H H'):YdAt C H' y d tn cl ns lg :=
  ⟨s _ _ h.o,s _ _ h.k,s _ _ h.l,s _ _ h.t,h.kt,λc hc=>(h.at' c hc).same s,h.up,h.lt,h.lc,h.ll⟩
variable {ta:TE}
theorem yw{X:Cx}{e:Expr}{f:Str}{pos:Pos}{K:iC}(hK:X.K=K)(he:PE X e ta)(hb:attributeBase e f X.env (eval e X.env)=eval e X.env):PE X (.Attribute e f pos) (tFld K ta f):=by
  subst hK;exact KZ he hb
variable {σ:L2.St}
theorem Lj{K:iC}{f:Str}{Q:VK}(h:ta σ H λx H1=>∃ a C dx fs v,x=.ref a/\H1 a=some (.ins C dx fs)/\Cls K C/\NoAttr K C f/\fs.lookup f=some v/\Q v H1):tFld K ta f σ H Q:=h
variable {tv:TE}
theorem Jr{K:iC}{f:Str}{D:Ends}(h:tv σ H λy H1=>ta σ H1 λx H2=>∃ a C dx fs,x=.ref a/\H2 a=some (.ins C dx fs)/\Cls K C/\NoAttr K C f/\fs.length<1000/\D.nx σ (upd H2 a (.ins C dx (putF f y fs)))):sFld K ta tv f D σ H:=h
local macro_rules | `(tactic| walk_at "rd")=>`(tactic| first | with_reducible refine Lj ?_ | with_reducible refine Jr ?_)
variable {a dx:Addr}
theorem Az{K:iC}{f:Str}{D:Ends}{y:V}{C:Addr}{fs:List (Str×V)}(e:H a=some (.ins C dx fs))(c:Cls K C)(n:NoAttr K C f)(hl:fs.length<1000)(q:∀ H1,SameX a H H1->H1 a=some (.ins C dx (putF f y fs))->D.nx σ H1):∃ a' C dx fs,V.ref a=.ref a'/\H a'=some (.ins C dx fs)/\Cls K C/\NoAttr K C f/\fs.length<1000/\D.nx σ (upd H a' (.ins C dx (putF f y fs))) :=
  ⟨a,C,dx,fs,rfl,e,c,n,hl,q _ (λb u q n=>by rw [zl n]; exact q) zg⟩
variable {ys:List V}
theorem tH{K:iC}{Q:VK}{p:Addr}(h:H p=some (.lst ys))(q:∀ l H2,H l=none->Same H H2->H2 l=some (.lst ys)->Q (.ref l) H2):rLst K [.ref p] H Q:=⟨p,ys,rfl,.inl (SqL.of h),λl hl=>q l _ hl (zD hl _) zg⟩
variable {l:Addr}{kvs:List (Key×V)}{ps:List Addr}
theorem Ev{Q:VK}(e:H l=some (.lst (ps.map V.ref)))(hl:ps.length=kvs.length)(hp:∀ (i:Nat) (p:Addr) (kv:Key×V),ps[i]?=some p->kvs[i]?=some kv->H p=some (.tup [kV kv.1,kv.2]))(hn:(kvs.map (·.1)).Nodup)(hz:kvs.length<=1000)(q:∀ p H2,H p=none->Same H H2->H2 p=some (.dK kvs)->Q (.ref p) H2):GC [.ref l] H Q :=
  ⟨l,ps,kvs,rfl,e,hl,hp,hn,bK hz (!3),λp h=>q p _ h (zD h _) zg⟩
variable {ns:List Nat}
theorem Al(h:ns.Pairwise (· < ·)):((nmK ns).map (·.1)).Nodup:=by
  rw [nmK,fE];refine em.mpr (h.imp λ{a b} hab e=>?_);have e:(a:Int)=b:=dL e
  lia
theorem SameX.of(s:Same H H'):SameX l H H':=λb o e _=>s b o e
theorem y6{f:Str}{v:V}{fs:List (Str×V)}{n:Nat}(h:fs.length<n):(putF f v fs).length<n+1:=bn (wc f v fs) (Nat.succ_lt_succ h)
theorem Jw{ty td:TE}{Q:VK}(h:ty σ H λy H1=>td σ H1 λx H2=>∃ a o,x=.ref a/\DGet H2 a y o/\Q (.bl (!o.isSome)) H2):DY ty td σ H Q:=h
theorem KW{ty td:TE}{Q:VK}(h:td σ H λx H1=>ty σ H1 λy H2=>∃ a v,x=.ref a/\DGet H2 a y (some v)/\Q v H2):Kz td ty σ H Q:=h
theorem JX{ty td:TE}{D:Ends}(h:tv σ H λv H1=>td σ H1 λx H2=>ty σ H2 λy H3=>∃ a H4,x=.ref a/\DPut H3 a y v H4/\D.nx σ H4):JG td ty tv D σ H:=h
local macro_rules | `(tactic| walk_at "rd")=>`(tactic| first | with_reducible refine Jw ?_ | with_reducible refine KW ?_ | with_reducible refine JX ?_)
theorem vf{n:Nat}:∀ {ns:List Nat},n∈ns->valV (nmK ns) (.inl (n:Int))=some (.bl true)
  | m::ns,h=>by
    by_cases e:m=n
    . subst e; exact yc rfl
    . rw [nmK,aU,zZ (λc=>e (dh (dL c)))];exact vf (by simpa [bZ e] using h)
theorem E8{k:Nat}(h:ns.Pairwise (· < ·))(hk:∀ n∈ns,n<k):ns.length<=k:=by
  have hn:ns.Nodup:=h.imp λhab=>az hab;have:=(gw (n:=k))
  exact (bA (n:=k)) ▸ (eJ hn λn h=>bC.mpr (hk n h))
def Prs(cl:List Cell)(ns:List Nat)(H:Hp)(ps:List Addr):Prop:=ps.length=ns.length/\∀ (j:Nat) (p:Addr),ps[j]?=some p->∃ n c,ns[j]?=some n/\cl[n]?=some c/\H p=some (.tup [.int (n:Int),.ref c.p])
variable {dvs:List V}{sp:Sp}{E:XK}
theorem Jy{C:Addr}{m:Str}{t:TA}{Q:VK}(h:ta σ H λx H1=>∃ a dx fs,x=.ref a/\H1 a=some (.ins C dx fs)/\fs.lookup m=none/\t σ H1 λvs H2=>sp (x::(vs++dvs)) H2 Q E):D7 C m sp dvs E ta t σ H Q:=h
theorem Ky{td ty:TE}{Q:VK}(h:td σ H λx H1=>∃ a,x=.ref a/\IsD H1 a/\ty σ H1 λy H2=>∃ kvs k v,H2 a=some (.dK kvs)/\y=kV k/\valV kvs k=some v/\Q v (upd H2 a (.dK (uc kvs k)))):GF td ty σ H Q:=h
local macro_rules | `(tactic| walk_at "rd")=>`(tactic| first | with_reducible refine Jy ?_ | with_reducible refine Ky ?_)
theorem DdAt.tup{H:Hp}{p:Addr}{e:Dd}(h:DdAt H p e):∃ r,H p=some (.tup (.str e.wd::.int e.n::r)):=by
  cases e with
  | cut al n t=>obtain ⟨q,h1,h2⟩:=h; exact ⟨_,h1⟩
  | glue al n m=>exact ⟨_,h⟩
  | shift al n k=>exact ⟨_,h⟩
  | turn n=>exact ⟨_,h⟩
theorem Iu(h:e.wd=Str.ofString "turn"):e.isT=true:=by
  cases e with
  | cut al n t=>cases al <;> exact absurd (show Str.ofString _=Str.ofString "turn" from h) (!3)
  | glue al n m=>cases al <;> exact absurd (show Str.ofString _=Str.ofString "turn" from h) (!3)
  | shift al n k=>cases al <;> exact absurd (show Str.ofString _=Str.ofString "turn" from h) (!3)
  | turn n=>rfl
theorem L9{p A B F:Prop}[Decidable p](h:B)(k:p->B->A):if decide p=true then A else if false=true then F else B:=if_d (λc=>k c h) λ_=>if_f h
theorem Dd.names_len(e:Dd):e.names.length<=2:=by cases e <;> simp [Dd.names]
def Dd.cells(e:Dd)(c c':Cell):List Cell:=if e.two then [c,c'] else [c]
variable {c c':Cell}{cl:List Cell}
theorem Bs(h:CellsOf cl e c c'){i:Nat}(hi:e.names[i]?=some m):∃ (n:Nat) (x:Cell),m=(n:Int)/\cl[n]?=some x/\(e.cells c c')[i]?=some x:=by
  cases e with
  | glue al n k =>
    obtain ⟨⟨j,h1,h2⟩,j',h3,h4⟩:=h
    match i,hi with
    | 0,hi=>injection hi with hi; exact ⟨j,c,hi ▸ h1,h2,rfl⟩
    | 1,hi=>injection hi with hi; exact ⟨j',c',hi ▸ h3,h4,rfl⟩
    | i+2,hi=>exact nomatch hi
  | cut al n t =>
    obtain ⟨⟨j,h1,h2⟩,_⟩:=h
    match i,hi with
    | 0,hi=>injection hi with hi; exact ⟨j,c,hi ▸ h1,h2,rfl⟩
    | i+1,hi=>exact nomatch hi
  | shift al n k =>
    obtain ⟨⟨j,h1,h2⟩,_⟩:=h
    match i,hi with
    | 0,hi=>injection hi with hi; exact ⟨j,c,hi ▸ h1,h2,rfl⟩
    | i+1,hi=>exact nomatch hi
  | turn n =>
    obtain ⟨⟨j,h1,h2⟩,_⟩:=h
    match i,hi with
    | 0,hi=>injection hi with hi; exact ⟨j,c,hi ▸ h1,h2,rfl⟩
    | i+1,hi=>exact nomatch hi
theorem CellsOf.mem(h:CellsOf cl e c c'):c∈cl/\c'∈cl:=by
  cases e with
  | glue al n k=>obtain ⟨⟨j,h1,h2⟩,j',h3,h4⟩:=h; exact ⟨ar h2,ar h4⟩
  | cut al n t=>obtain ⟨⟨j,h1,h2⟩,rfl⟩:=h; exact ⟨ar h2,ar h2⟩
  | shift al n k=>obtain ⟨⟨j,h1,h2⟩,rfl⟩:=h; exact ⟨ar h2,ar h2⟩
  | turn n=>obtain ⟨⟨j,h1,h2⟩,rfl⟩:=h; exact ⟨ar h2,ar h2⟩
theorem Dd.cells_len(e:Dd)(c c':Cell):(e.cells c c').length=e.names.length:=by cases e <;> rfl
theorem xI{m:Int}:∀ (ms:List Int) (ns:List Nat),yg ns (ms++[m])=(yg ns ms).filter λn:Nat=>decide ((n:Int)≠m)
  | [],_=>rfl
  | _::ms,_=>xI ms _
theorem mem_ndrop{n:Nat}:∀ {ms:List Int} {ns:List Nat},n∈yg ns ms↔n∈ns/\(n:Int)∉ms
  | [],ns=>by simp [yg]
  | m::ms,ns=>by
    rw [yg,mem_ndrop,dQ];simp only [aN,iB,not_or];constructor
    . rintro ⟨⟨a,b⟩,c⟩; exact ⟨a,b,c⟩
    . rintro ⟨a,b,c⟩; exact ⟨⟨a,b⟩,c⟩
theorem xM:∀ {ms:List Int} {ns:List Nat},ns.Pairwise (· < ·)->(yg ns ms).Pairwise (· < ·)
  | [],_,h=>h
  | m::ms,ns,h=>show (yg (ns.filter λn:Nat=>decide ((n:Int)≠m)) ms).Pairwise (· < ·) from xM (h.filter _)
theorem vv{n:Nat}:∀ ns:List Nat,uc (nmK ns) (.inl (n:Int))=nmK (ns.filter λk:Nat=>decide ((k:Int)≠(n:Int)))
  | []=>rfl
  | k::ns=>by
    have ih:=vv (n:=n) ns;simp only [uc,nmK] at ih ⊢;by_cases c:(k:Int)=n
    . simp only [aU,cJ,c,ne_eq,not_true_eq_false,decide_false,ih];rfl
    . simp only [aU,cJ,ne_eq,Sum.inl.injEq,c,not_false_eq_true,decide_true,ih];rfl
theorem wP{k:Nat}:∀ {ns:List Nat},(∀ n∈ns,n<k)->valV (nmK ns) (.inl (k:Int))=none
  | [],_=>rfl
  | m::ns,h=>by
    rw [nmK,aU,zZ (λc=>absurd (dh (dL c)) (az (h m aB)))];exact wP λn hn=>h n (ay _ hn)
theorem uL(e:Dd)(b c:Bo):(e.new b c).length<=2:=by
  cases e with
  | cut al n t=>cases al <;> exact ai _
  | glue al n m=>cases al <;> exact d8 _
  | shift al n k=>cases al <;> exact d8 _
  | turn n=>exact d8 _
theorem Same.nn(s:Same H H')(h:H' a=none):H a=none:=by
  cases e:H a with
  | none=>rfl
  | some o=>rw [s _ _ e] at h; cases h
theorem zw{Q:VK}{xs:List V}(hl:xs.length<=1000)(h:∀ p H2,H p=none->Same H H2->H2 p=some (.tup xs)->Q (.ref p) H2):NewT xs H Q :=
  ⟨Df hl,λp hp=>h p _ hp (zD hp _) zg⟩
def plS(s t:Sd)(g:Int):Sd:=⟨lA (s.x*t.z+g*t.x*s.z) (s.y*t.z+g*t.y*s.z) (s.z*t.z),lB (s.x*t.z+g*t.x*s.z) (s.y*t.z+g*t.y*s.z) (s.z*t.z),lN (s.x*t.z+g*t.x*s.z) (s.y*t.z+g*t.y*s.z) (s.z*t.z)⟩
theorem CY(s t:Sd):plS s t (-1)=tkS s t:=by unfold plS tkS; rw [show (-1:Int)*t.x=-t.x by lia,show (-1:Int)*t.y=-t.y by lia]
theorem IJ(s t:Sd):plS s t 1=adS s t:=by unfold plS adS; rw [d9,d9]
structure Dw(d:Int)(s:Sd):Prop where
  z1:1<=s.z
  g:g3 s.x s.y s.z=1
  up:sgn d s.x s.y=1
  bx:Bd 13 s.x
  by':Bd 13 s.y
  bz:Bd 5 s.z
theorem Dw.low{a b n:Int}(hR:Rt d)(ba:Bd 13 a)(bb:Bd 13 b)(h1:1<=n)(h2:n<=30)(up:sgn d a b=1):Dw d ⟨lA a b n,lB a b n,lN a b n⟩ :=
  ⟨l_n (!2),xQ (!2),(z4 hR h1).trans up,ba.fdiv _,bb.fdiv _,(zR (k:=5) (!2) h2 ⋯).fdiv _⟩
def pz:List Sd->Int
  | []=>1
  | s::l=>s.z*pz l
theorem EX{d:Int}:∀ {l:List Sd},(∀ s∈l,Dw d s)->1<=pz l
  | [],_=>Int.le_refl _
  | s::l,h=>aZ (by have:=(h s aB).z1; lia) (by have:=EX (l:=l) λt ht=>h t (ay _ ht); lia)
theorem Hv{d:Int}:∀ {l:List Sd},(∀ s∈l,Dw d s)->Bd (5*l.length+1) (pz l)
  | [],_=>by decide
  | s::l,h=>Bd.mono ((h s aB).bz.mul (Hv (l:=l) λt ht=>h t (ay _ ht))) (by simp only [au]; lia)
theorem Jh{d:Int}:∀ {l:List Sd},(∀ s∈l,Dw d s)->∀ s∈l,So d (pz l) (5*l.length+14) s
  | [],_,s,hs=>absurd hs (!1)
  | t::l,h,s,hs=>by
    have hl:∀ s∈l,Dw d s:=λt ht=>h t (ay _ ht);rcases aN.mp hs with rfl|hs
    . have o:=h s aB;have:So d s.z 13 s:=⟨o.z1,o.g,o.up,s.x,s.y,o.bx,o.by',rfl,rfl⟩
      exact (this.scale (Hv hl)).mono (by simp only [au]; lia)
    . have:=(Jh hl s hs).scale (h t aB).bz;rw [av] at this;exact this.mono (by simp only [au]; lia)
abbrev PL:=List (Addr×Sd)
structure Pl(H:Hp)(q:Addr)(P:List (Addr×Sd)):Prop where
  l:H q=some (.lst (P.map λx=>V.ref x.1))
  at':∀ x∈P,SdAt H x.1 x.2
  n:P.length=3
variable {P:List (Addr×Sd)}
theorem Pl.same{q:Addr}(h:Pl H q P)(s:Same H H'):Pl H' q P:=⟨s _ _ h.l,λx hx=>s _ _ (h.at' x hx),h.n⟩
theorem Pl.get{q:Addr}(h:Pl H q P){i:Int}(h0:0<=i)(h1:i<3):∃ x∈P,atI (P.map λx=>V.ref x.1) i=some (.ref x.1)/\SdAt H x.1 x.2:=by
  have hn:=h.n;obtain ⟨j,rfl⟩:∃ j:Nat,i=(j:Int):=⟨i.toNat,by lia⟩
  have hj:j<P.length:=by lia
  refine ⟨P[j],bH hj,zB (by rw [ag,ae hj]; rfl),h.at' _ (bH hj)⟩
def cdK(ns:List Nat)(f:Nat->Cell):List (Key×V):=ns.map λn:Nat=>((.inl (n:Int):Key),(f n).v)
structure Ly(H:Hp)(a:Addr)(ns:List Nat)(f:Nat->Cell):Prop where
  l:H a=some (.dK (cdK ns f))
  at':∀ n∈ns,(f n).At H
theorem Ly.same{H H':Hp}{a:Addr}{ns:List Nat}{f:Nat->Cell}(h:Ly H a ns f)(s:Same H H'):Ly H' a ns f:=⟨s _ _ h.l,λn hn=>(h.at' n hn).same s⟩
theorem zO{n:Nat}{f:Nat->Cell}:∀ {ns:List Nat},n∈ns->valV (cdK ns f) (.inl (n:Int))=some (f n).v
  | m::ns,h=>by
    by_cases e:m=n
    . subst e; exact yc rfl
    . rw [cdK,aU,zZ (λc=>e (dh (dL c)))];exact zO (by simpa [bZ e] using h)
theorem wa{k:Nat}{f:Nat->Cell}:∀ {ns:List Nat},(∀ n∈ns,n<k)->valV (cdK ns f) (.inl (k:Int))=none
  | [],_=>rfl
  | m::ns,h=>by
    rw [cdK,aU,zZ (λc=>absurd (dh (dL c)) (az (h m aB)))];exact wa λn hn=>h n (ay _ hn)
theorem tL{n:Nat}{f:Nat->Cell}:∀ ns:List Nat,uc (cdK ns f) (.inl (n:Int))=cdK (ns.filter λk:Nat=>decide ((k:Int)≠(n:Int))) f
  | []=>rfl
  | k::ns=>by
    have ih:=tL (n:=n) (f:=f) ns;simp only [uc,cdK] at ih ⊢;by_cases c:(k:Int)=n
    . simp only [aU,cJ,c,ne_eq,not_true_eq_false,decide_false,ih];rfl
    . simp only [aU,cJ,ne_eq,Sum.inl.injEq,c,not_false_eq_true,decide_true,ih];rfl
theorem Fm{f:Nat->Cell}:(cdK ns f).map (·.1)=(ns.map λn:Nat=>(n:Int)).map Sum.inl:=by
  simp only [cdK,fE];rfl
theorem AZ{f:Nat->Cell}:(cdK ns f).length=ns.length:=by simp [cdK]
theorem Ja(h:ns.Pairwise (· < ·)):(ns.map λn:Nat=>(n:Int)).Pairwise (· < ·) :=
  em.mpr (h.imp λ{a b} hab=>Int.ofNat_lt.mpr hab)
theorem Bi{Q:VK}{f:Nat->Cell}(h:H a=some (.dK (cdK ns f)))(up:ns.Pairwise (· < ·))(hl:ns.length<64)(q:∀ p H2,H p=none->Same H H2->H2 p=some (.lst ((ns.map λn:Nat=>(n:Int)).map V.int))->Q (.ref p) H2):GY [.ref a] H Q :=
  ⟨a,_,_,rfl,h,Fm,Ja up,by rw [AZ]; exact hl,λp hp=>q p _ hp (zD hp _) zg⟩
theorem Ga{Q:VK}(h:H a=some (.dK kvs))(q:∀ p H2,H p=none->Same H H2->H2 p=some (.dK kvs)->Q (.ref p) H2):Gx [.ref a] H Q :=
  ⟨a,_,rfl,h,λp hp=>q p _ hp (zD hp _) zg⟩
def rNeL(X:Cx):R2:=λx y H Q=>∃ a b xs ys bs n,x=.ref a/\y=.ref b/\n<=9/\SqL X.K H a xs/\SqL X.K H b ys/\EqVs X n H xs ys bs/\Q (.bl (!(bs.all id))) H
theorem Gw{X:Cx}(hu:X.A.units+64<cLine):OpR X (compareOp .NotEq) (rNeL X):=by
  intro pins s σ H x y v u Q I rx ry h;obtain ⟨a,b,xs,ys,bs,n,rfl,rfl,hn,ha,hb,he,q⟩:=h;cases rx
  cases ry
  obtain ⟨is,js,p1,p2,hz,hj,e⟩:=EM (A:=X.A) ha hb he I (!2);refine SeqAt.RcNeAt.lists p1 p2 hz (!2) hj X.prog X.w X.xe _ ?_;rw [e];exact ⟨.bl _,H,I,rfl,q⟩
def rNeE(K:iC):R2:=λx y H Q=>∃ a b xs,x=.ref a/\y=.ref b/\SqL K H a xs/\SqL K H b []/\Q (.bl (!xs.isEmpty)) H
theorem Gm{X:Cx}(hu:X.A.units+64<cLine):OpR X (compareOp .NotEq) (rNeE X.K):=by
  intro pins s σ H x y v u Q I rx ry h;obtain ⟨a,b,xs,rfl,rfl,ha,hb,q⟩:=h;cases rx
  cases ry
  obtain ⟨is,r1,p1,_⟩:=I.list ha;obtain ⟨js,r2,p2,_⟩:=I.list hb;have l1:=r1.length;have l2:=r2.length;have j0:js=[]:=gq.mp l2.symm;subst j0;cases xs with
  | nil =>
    have i0:is=[]:=gq.mp l1.symm;subst i0;exact SeqAt.RcNeAt.lists (e:=λ_=>true) p1.isList p2.isList rfl (!2) (λj h1 h2=>absurd h1 (!1)) X.prog X.w X.xe _ ⟨.bl false,H,I,rfl,q⟩
  | cons z zs =>
    refine SeqAt.RcNeAt.lists_lengths p1.isList p2.isList ?_ (!2) X.prog X.w X.xe _ ⟨.bl true,H,I,rfl,q⟩;cases is with
    | nil=>simp at l1
    | cons i is=>simp
def rEq3(K:iC):R2:=λu v H Q=>∃ (a b:Addr) (x y z x' y' z':Int),u=.ref a/\v=.ref b/\SqT K H a [.int x,.int y,.int z]/\SqT K H b [.int x',.int y',.int z']/\Q (.bl (decide (x=x'/\y=y'/\z=z'))) H
theorem Ka{X:Cx}{K:iC}(hu:X.A.units+64<cLine)(hK:X.K=K):OpR X (compareOp .Eq) (rEq3 K):=by
  subst hK;intro pins s σ H x y v u Q I rx ry h;obtain ⟨a,b,x1,y1,z1,x2,y2,z2,rfl,rfl,ha,hb,q⟩:=h;exact CV hu pins s σ H _ _ v u Q I rx ry (Ji ha hb q)
theorem Lo{s:Sd}(hR:Rt d)(z1:1<=s.z)(z2:1<=t.z)(h:sgn d (tkS t s).x (tkS t s).y<0):sgn d (tkS s t).x (tkS s t).y=1:=by
  refine Lw hR z1 z2 ?_;have hn1:1<=t.z*s.z:=aZ (!2) (!2);have e:sgn d (tkS t s).x (tkS t s).y=sgn d (-(s.x*t.z - t.x*s.z)) (-(s.y*t.z - t.y*s.z)):=by
    refine (z4 hR hn1).trans ?_;rw [show t.x*s.z+-s.x*t.z=-(s.x*t.z - t.x*s.z) by grind,show t.y*s.z+-s.y*t.z=-(s.y*t.z - t.y*s.z) by grind]
  rw [e,xw hR] at h
  lia
structure Dd.Good(d D:Int)(M:Nat)(ns:List Nat)(f:Nat->Cell)(e:Dd)(n m:Nat):Prop where
  nm:e.names=if e.two then [(n:Int),(m:Int)] else [(n:Int)]
  hn:n∈ns
  hm:m∈ns
  ne:e.two=true->n≠m
  eq:e.two=false->m=n
  ok:e.Ok
  fit:e.Fit d (f n).b (f m).b
  new:∃ k,1<=k/\Bd 6 k/\∀ x∈e.new (f n).b (f m).b,BoD d (D*k) (M+13) x
theorem BoD.up{k:Int}{j:Nat}{b:Bo}(h:BoD d D M b)(bk:Bd j k):BoD d (D*k) (M+j) b:=⟨h.1.scale bk,h.2.scale bk⟩
theorem BoD.mono{d D:Int}{M M':Nat}{b:Bo}(h:BoD d D M b)(l:M<=M'):BoD d D M' b:=⟨h.1.mono l,h.2.mono l⟩
structure Sz(D:Int)(K' M:Nat):Prop where
  d1:1<=D
  bd:Bd K' D
  k:K'<=2050
  m:M<=2300
variable {K':Nat}
theorem Sz.sy{s:Sd}(z:Sz D K' M)(h:So d D M s):SY s:=(h.sk z.d1 z.bd).mono (by have:=z.m; lia) (by have:=z.k; lia)
variable {al:Bool}
theorem BP{k:Int}{f:Nat->Cell}{n:Nat}{s:Sd}(hR:Rt d)(z:Sz D K' M)(hn:n∈ns)(hb:BoD d D M (f n).b)(k1:1<=k)(bk:Bd 6 k)(hs:So d (D*k) (M+6) s)(up:sgn d (tkS (if al then (f n).b.h else (f n).b.w) s).x (tkS (if al then (f n).b.h else (f n).b.w) s).y=1):(Dd.cut al n s).Good d D M ns f n n:=by
  have kD:1<=D*k:=aZ (by have:=z.d1; lia) (!2);have bD:Bd (K'+6) (D*k):=z.bd.mul bk;have ss:SY s:=(hs.sk kD bD).mono (by have:=z.m; lia) (by have:=z.k; lia);have hb':=hb.up bk;have key:∀ w:Sd,So d D M w->sgn d (tkS w s).x (tkS w s).y=1->EU d w s/\So d (D*k) (M+13) (tkS w s):=λw hw u=>by
    have hn1:1<=w.z*s.z:=aZ (by have:=hw.z1; lia) (by have:=hs.z1; lia);refine ⟨⟨z.sy hw,ss,by rw [hs.up]; decide,?_⟩,(L1 hR (hw.scale bk) hs u).mono (!2)⟩;have e:sgn d (tkS w s).x (tkS w s).y=sgn d (w.x*s.z - s.x*w.z) (w.y*s.z - s.y*w.z):=by
      refine (z4 hR hn1).trans ?_;rw [show w.x*s.z+-s.x*w.z=w.x*s.z - s.x*w.z by grind,show w.y*s.z+-s.y*w.z=w.y*s.z - s.y*w.z by grind]
    rw [<-e,u];decide
  have hs':=hs.mono (M':=M+13) (!2);have ow:=hb'.1.mono (M':=M+13) (!2);have oh:=hb'.2.mono (M':=M+13) (!2);cases al with
  | false =>
    obtain ⟨c1,c2⟩:=key (f n).b.w hb.1 up;refine ⟨rfl,hn,hn,(λh=>nomatch h),λ_=>rfl,ss,c1,k,k1,bk.mono ⋯,λx hx=>?_⟩;rcases aN.mp hx with rfl|hx
    . exact ⟨hs',oh⟩
    . rw [ak.mp hx]; exact ⟨c2,oh⟩
  | true =>
    obtain ⟨c1,c2⟩:=key (f n).b.h hb.2 up;refine ⟨rfl,hn,hn,(λh=>nomatch h),λ_=>rfl,ss,c1,k,k1,bk.mono ⋯,λx hx=>?_⟩;rcases aN.mp hx with rfl|hx
    . exact ⟨ow,hs'⟩
    . rw [ak.mp hx]; exact ⟨ow,c2⟩
theorem tR{f:Nat->Cell}{n m:Nat}(hR:Rt d)(z:Sz D K' M)(hn:n∈ns)(hm:m∈ns)(nm:n≠m)(hb:BoD d D M (f n).b)(hb':BoD d D M (f m).b)(e:(if al then (f n).b.w else (f n).b.h)=(if al then (f m).b.w else (f m).b.h)):(Dd.glue al n m).Good d D M ns f n m:=by
  cases al with
  | false =>
    refine ⟨rfl,hn,hm,λ_=>nm,(λh=>nomatch h),trivial,⟨e,z.sy hb.1,z.sy hb'.1⟩,1,by decide,by decide,λx hx=>?_⟩;rw [ak.mp hx,cC];exact ⟨(J9 hR hb.1 hb'.1).mono (!2),hb.2.mono (!2)⟩
  | true =>
    refine ⟨rfl,hn,hm,λ_=>nm,(λh=>nomatch h),trivial,⟨e,z.sy hb.2,z.sy hb'.2⟩,1,by decide,by decide,λx hx=>?_⟩;rw [ak.mp hx,cC];exact ⟨hb.1.mono (!2),(J9 hR hb.2 hb'.2).mono (!2)⟩
theorem CM{k:Int}{f:Nat->Cell}{n:Nat}(hR:Rt d)(z:Sz D K' M)(hn:n∈ns)(hb:BoD d D M (f n).b)(k1:1<=k)(bk:Bd 6 k):(Dd.shift al n k).Good d D M ns f n n:=by
  have o1:∀ s:Sd,So d D M s->So d (D*k) (M+13) (shS s 1 k):=λs hs=>(Ik (j:=1) hR hs ⋯ k1 ⋯).mono (!2);have o2:∀ s:Sd,So d D M s->So d (D*k) (M+13) (shS s k 1):=λs hs=>by
    have:=Ik (j:=6) hR hs k1 (show (1:Int)<=1 by decide) bk;rw [cC] at this;exact (this.scale bk).mono (!2)
  have b64:Bd 1024 k:=bk.mono ⋯;have ga:al=al:=rfl;cases al
  all_goals
    refine ⟨rfl,hn,hn,(λh=>nomatch h),λ_=>rfl,⟨k1,b64⟩,⟨k1,b64,z.sy hb.1,z.sy hb.2⟩,k,k1,bk.mono ⋯,λx hx=>?_⟩;rw [ak.mp hx];first
     | (have:false=false:=ga
        exact ⟨o1 _ hb.1,o2 _ hb.2⟩)
     | exact ⟨o2 _ hb.1,o1 _ hb.2⟩
def fL(L:List Cell)(n:Nat):Cell:=L[n]?.getD ⟨0,0,0,⟨⟨0,0,1⟩,⟨0,0,1⟩⟩⟩
theorem uy{L:List Cell}{n:Nat}(h:L[n]?=some c):fL L n=c:=by unfold fL; rw [h]; rfl
theorem Dd.Good.nodup{f:Nat->Cell}{n m:Nat}(h:e.Good d D M ns f n m):e.names.Nodup:=by
  rw [h.nm];cases ht:e.two with
  | true =>
    rw [h8 rfl];have:=h.ne ht;simp
    lia
  | false =>
    rw [h9 ⋯];simp
variable {z:Int}
theorem DX{f:Nat->Cell}{n m:Nat}(h:e.Good d D M ns f n m){i:Nat}(hi:e.names[i]?=some z):∃ j∈ns,z=(j:Int)/\(e.cells (f n) (f m))[i]?=some (f j):=by
  rw [h.nm] at hi;unfold Dd.cells;cases ht:e.two with
  | true =>
    rw [ht,h8 rfl] at hi;rw [h8 rfl]
    match i,hi with
    | 0,hi=>injection hi with hi; exact ⟨n,h.hn,hi.symm,rfl⟩
    | 1,hi=>injection hi with hi; exact ⟨m,h.hm,hi.symm,rfl⟩
    | i+2,hi=>exact nomatch hi
  | false =>
    rw [ht,h9 ⋯] at hi;rw [h9 ⋯]
    match i,hi with
    | 0,hi=>injection hi with hi; exact ⟨n,h.hn,hi.symm,rfl⟩
    | i+1,hi=>exact nomatch hi
def fN(f:Nat->Cell)(k:Nat)(N:List Cell)(j:Nat):Cell:=if j<k then f j else fL N (j - k)
theorem Ia{f:Nat->Cell}{k:Nat}{N:List Cell}{j:Nat}(h:j<k):fN f k N j=f j:=h8 h
theorem Ht{f:Nat->Cell}{k:Nat}{N:List Cell}{i:Nat}:fN f k N (k+i)=fL N i:=by unfold fN; rw [h9 (!2),cT]
theorem EZ{f g:Nat->Cell}(h:∀ n∈ns,f n=g n):cdK ns f=cdK ns g:=dM λn hn=>by rw [h n hn]
theorem Cj{f:Nat->Cell}{j:Nat}:cdK (ns++[j]) f=cdK ns f++[(.inl (j:Int),(f j).v)]:=by simp [cdK]
theorem wn{K:iC}{Q:VK}{p:Addr}{x:V}{b:Bool}(e:H p=some (.tup ys))(hx:xP x=true)(hy:ys.all xP=true)(hb:inV x ys=b)(q:Q (.bl b) H):rIn K false x (.ref p) H Q:=by
  subst hb;exact LH e hx hy q
theorem Kt{C:Addr}{t:TA}{Q:VK}(h:t σ H λvs H1=>∀ x dx,H1 x=none->H1 dx=none->dx≠x->sp (.ref x::(vs++dvs)) (upd (upd H1 dx (.own x)) x (.ins C dx [])) (λv H2=>v=.non/\Q (.ref x) H2) E):HY C sp dvs E t σ H Q:=h
variable {tn:Bool}
theorem YdAt.mv{C:Addr}{y:Yd}{lg:List V}(h:YdAt C H y d tn cl ns lg)(f:∀ b o,H b=some o->(∃ xs,o=.tup xs)\/b=y.p\/b=y.k\/b=y.l\/b=y.t->H' b=some o):YdAt C H' y d tn cl ns lg :=
  ⟨f _ _ h.o (.inr (.inl rfl)),f _ _ h.k (.inr (.inr (.inl rfl))),f _ _ h.l (.inr (.inr (.inr (.inl rfl)))),f _ _ h.t (.inr (.inr (.inr (.inr rfl)))),h.kt,λc hc=>⟨f _ _ (h.at' c hc).t (.inl ⟨_,rfl⟩),f _ _ (h.at' c hc).w (.inl ⟨_,rfl⟩),f _ _ (h.at' c hc).h (.inl ⟨_,rfl⟩)⟩,h.up,h.lt,h.lc,h.ll⟩
theorem Hr{K:iC}{Q:VK}{ns:List Int}{i j:Nat}(hS:SqL K H a (ns.map V.int))(q:∀ (p:Addr) (H2:Hp),H p=none->Same H H2->H2 p=some (.lst (((ns.drop i).take (j - i)).map V.int))->Q (.ref p) H2):rSlL K (.ref a) (some (i:Int)) (some (j:Int)) H Q:=by
  obtain ⟨a',xs,e1,h1,h2⟩:=JA (i:=i) (j:=j) (Q:=λv H2=>∃ p,v=.ref p/\Same H H2/\H2 p=some (.lst (((ns.drop i).take (j - i)).map V.int))) hS (λp H2 s e=>⟨p,rfl,s,e⟩);refine ⟨a',xs,e1,h1,λp hp=>?_⟩;obtain ⟨p',e,s,z⟩:=h2 p hp;injection e with e;subst e;exact q _ _ hp s z
theorem JK(e:Dd)(b c:Bo):1<=(e.new b c).length:=by
  cases e with
  | cut al n t=>cases al <;> exact d8 _
  | glue al n m=>cases al <;> exact ai _
  | shift al n k=>cases al <;> exact ai _
  | turn n=>exact ai _
theorem F7{ms:List Int}{n:Nat}(up:ns.Pairwise (· < ·))(hn:n∈ns)(hm:(n:Int)∈ms):(yg ns ms).length+1<=ns.length:=by
  have nd:(n::yg ns ms).Nodup:=db.mpr ⟨λh=>(mem_ndrop.mp h).2 hm,(xM up).imp λhab=>az hab⟩;exact eJ nd λk hk=>by
    rcases aN.mp hk with rfl|hk
    . exact hn
    . exact (mem_ndrop.mp hk).1
theorem DdAt.sameX{p:Addr}{xs:List V}(h:DdAt H p e)(s:SameX l H H')(e0:H l=some (.lst xs)):DdAt H' p e:=by
  cases e with
  | cut al n t=>obtain ⟨q,h1,h2⟩:=h; exact ⟨q,s.tup h1 e0,s.tup h2 e0⟩
  | glue al n m=>exact s.tup h e0
  | shift al n k=>exact s.tup h e0
  | turn n=>exact s.tup h e0
theorem D5{i:Int}(h:ns≠[]):∃ n∈ns,atI ((ns.map λn:Nat=>(n:Int)).map V.int) (i % ((((ns.map λn:Nat=>(n:Int)).map V.int).length:Nat):Int))=some (.int (n:Int)):=by
  have hp:0<ns.length:=bu.mpr h;have e:((((ns.map λn:Nat=>(n:Int)).map V.int).length:Nat):Int)=(ns.length:Int):=by simp
  rw [e];have h0:=b8 i (show (ns.length:Int)≠0 by lia);have h1:=cg i (show (0:Int)<ns.length by lia);obtain ⟨x,hx,g⟩:=Bz (xs:=ns.map λn:Nat=>(n:Int)) (i:=i % (ns.length:Int)) h0 (by rw [aa]; exact h1);obtain ⟨n,hn,rfl⟩:=aY.mp hx;exact ⟨n,hn,g⟩
theorem B9{K:iC}{Q:VK}{xs:List V}{i:Nat}(h:H a=some (.lst xs))(q:∀ (p:Addr) (H2:Hp),Same H H2->H2 p=some (.lst (xs.drop i))->Q (.ref p) H2):rSlL K (.ref a) (some (i:Int)) none H Q:=by
  refine ⟨a,_,rfl,SqL.of h,λp hp=>?_⟩;refine q p _ (zD hp _) ?_;rw [zg];unfold cutV;rw [HT.sIx_nat,HT.sIx_none];congr 2;rcases gO i xs.length with z|z
  . rw [d5 z,bJ (by rw [cZ]; lia)]
  . rw [eQ z,dk (ai _),dk z,hV]
structure As where
  k:Nat
  ns:List Nat
  g:Nat->Bo
def gN(g:Nat->Bo)(k:Nat)(N:List Bo)(j:Nat):Bo:=if j<k then g j else N[j - k]?.getD ⟨⟨0,0,1⟩,⟨0,0,1⟩⟩
def As.next(s:As)(x:Dd×Nat×Nat):As:=⟨s.k+(x.1.new (s.g x.2.1) (s.g x.2.2)).length,yg s.ns x.1.names++List.range' s.k (x.1.new (s.g x.2.1) (s.g x.2.2)).length,gN s.g s.k (x.1.new (s.g x.2.1) (s.g x.2.2))⟩
def ends(s:As)(es:List (Dd×Nat×Nat)):As:=es.foldl As.next s
def As.st(L:List Cell):As:=⟨L.length,List.range L.length,λn=>(fL L n).b⟩
structure Nms(s:As)(e:Dd)(n m:Nat):Prop where
  nm:e.names=if e.two then [(n:Int),(m:Int)] else [(n:Int)]
  hn:n∈s.ns
  hm:m∈s.ns
  ne:e.two=true->n≠m
  eq:e.two=false->m=n
structure Stp(d:Int)(tn:Bool)(s:As)(x:Dd×Nat×Nat):Prop where
  nms:Nms s x.1 x.2.1 x.2.2
  ok:x.1.Ok
  fit:x.1.Fit d (s.g x.2.1) (s.g x.2.2)
  tn:x.1.isT=true->tn=true
def Walk(d:Int)(tn:Bool)(s:As)(es:List (Dd×Nat×Nat)):Prop:=∀ (i:Nat) (x:Dd×Nat×Nat),es[i]?=some x->Stp d tn (ends s (es.take i)) x
variable {x:Dd×Nat×Nat}
theorem yj{s:As}{es:List (Dd×Nat×Nat)}{i:Nat}(h:es[i]?=some x):ends s (es.take (i+1))=(ends s (es.take i)).next x:=by
  rw [a8,h];show ends s (es.take i++[x])=_;unfold ends;rw [df];rfl
def Runs(H:Hp)(ps:List Addr)(es:List (Dd×Nat×Nat)):Prop:=ps.length=es.length/\∀ (i:Nat) (p:Addr) (x:Dd×Nat×Nat),ps[i]?=some p->es[i]?=some x->DdAt H p x.1
theorem Runs.same{H H':Hp}{ps:List Addr}{es:List (Dd×Nat×Nat)}(h:Runs H ps es)(s:Same H H'):Runs H' ps es:=⟨h.1,λi p x h1 h2=>(h.2 i p x h1 h2).same s⟩
def YdS(C:Addr)(H:Hp)(y:Yd)(d:Int)(tn:Bool)(s:As)(lg:List V):Prop:=∃ cl,YdAt C H y d tn cl s.ns lg/\cl.length=s.k/\∀ n,n<s.k->∃ c,cl[n]?=some c/\c.b=s.g n
theorem Nms.names_in{s:As}{n m:Nat}(h:Nms s e n m):∀ k∈e.names,∃ i∈s.ns,k=(i:Int):=λk hk=>by
  rw [h.nm] at hk;cases ht:e.two with
  | true =>
    rw [ht,h8 rfl] at hk;rcases aN.mp hk with rfl|hk
    . exact ⟨n,h.hn,rfl⟩
    . rw [ak.mp hk]; exact ⟨m,h.hm,rfl⟩
  | false =>
    rw [ht,h9 ⋯] at hk;rw [ak.mp hk]; exact ⟨n,h.hn,rfl⟩
theorem Nms.nodup{s:As}{n m:Nat}(h:Nms s e n m):e.names.Nodup:=by
  rw [h.nm];cases ht:e.two with
  | true =>
    rw [h8 rfl];have:=h.ne ht;simp
    lia
  | false =>
    rw [h9 ⋯];simp
theorem Nms.en{s:As}{n m:Nat}(h:Nms s e n m):e.n=(n:Int):=by
  have:=h.nm;cases e <;> simp [Dd.names,Dd.two,Dd.n] at this ⊢
  . exact this
  . exact this.1
  . exact this
  . exact this
theorem Nms.cells{s:As}{n m:Nat}(h:Nms s e n m)(h1:cl[n]?=some c)(h2:cl[m]?=some c'):CellsOf cl e c c':=by
  have hnm:=h.nm;have heq:=h.eq;cases e with
  | glue al a b =>
    simp [Dd.names,Dd.two] at hnm;exact ⟨⟨n,hnm.1,h1⟩,m,hnm.2,h2⟩
  | cut al a t =>
    have:m=n:=heq rfl;subst this;refine ⟨⟨m,h.en,h1⟩,ax (h2.symm.trans h1)⟩
  | shift al a t =>
    have:m=n:=heq rfl;subst this;refine ⟨⟨m,h.en,h1⟩,ax (h2.symm.trans h1)⟩
  | turn a =>
    have:m=n:=heq rfl;subst this;refine ⟨⟨m,h.en,h1⟩,ax (h2.symm.trans h1)⟩
theorem YdS.next{C:Addr}{H':Hp}{y:Yd}{d:Int}{tn:Bool}{s:As}{x:Dd×Nat×Nat}{cl N:List Cell}{lg:List V}(h2:cl.length=s.k)(h3:∀ n,n<s.k->∃ c,cl[n]?=some c/\c.b=s.g n) (hy:YdAt C H' y d tn (cl++N) (yg s.ns x.1.names++List.range' cl.length N.length) lg) (hN:N.map Cell.b=x.1.new (s.g x.2.1) (s.g x.2.2)):YdS C H' y d tn (s.next x) lg:=by
  have hl:N.length=(x.1.new (s.g x.2.1) (s.g x.2.2)).length:=by rw [<-hN,aa]
  rw [h2,hl] at hy;refine ⟨cl++N,hy,by rw [ah,h2,hl]; rfl,λj hj=>?_⟩;have hj:j<s.k+(x.1.new (s.g x.2.1) (s.g x.2.2)).length:=hj;show ∃ c,(cl++N)[j]?=some c/\c.b=gN s.g s.k _ j;by_cases hjl:j<s.k
  . obtain ⟨c,h4,h5⟩:=h3 j hjl;exact ⟨c,by rw [aM (!2)]; exact h4,by unfold gN; rw [h8 (!2)]; exact h5⟩
  . obtain ⟨t,rfl⟩:∃ t,j=s.k+t:=⟨j - s.k,by lia⟩
    have ht:t<N.length:=by lia
    refine ⟨N[t],by rw [aH (!2),h2,cT]; exact ae ht,?_⟩;unfold gN;rw [h9 (!2),cT,<-hN,ag,ae ht];rfl
abbrev DL:=List (Dd×Nat×Nat)
theorem JM{s:As}{es:List (Dd×Nat×Nat)}:(ends s es).k<=s.k+2*es.length:=by
  induction es generalizing s with
  | nil=>exact ai _
  | cons x es ih =>
    have h1:(s.next x).k<=s.k+2:=Nat.add_le_add_left (uL x.1 _ _) _;have h2:=ih (s:=s.next x);show (ends (s.next x) es).k<=_;rw [au]
    lia
structure As.Ok(B:Nat)(s:As)(i:Nat):Prop where
  up:s.ns.Pairwise (· < ·)
  lt:∀ n∈s.ns,n<s.k
  ne:s.ns≠[]
  nl:s.ns.length<=B+i
  kl:s.k<=B+2*i
theorem As.Ok.next{B:Nat}{s:As}{i:Nat}{x:Dd×Nat×Nat}(h:As.Ok B s i)(n:Nms s x.1 x.2.1 x.2.2):As.Ok B (s.next x) (i+1):=by
  have l2:=uL x.1 (s.g x.2.1) (s.g x.2.2);have l1:=JK x.1 (s.g x.2.1) (s.g x.2.2);have hk:=h.kl;have hnl:=h.nl;have dl:=F7 h.up n.hn (show (x.2.1:Int)∈x.1.names by rw [n.nm]; cases x.1.two <;> simp);generalize hN:x.1.new (s.g x.2.1) (s.g x.2.2)=N at l1 l2;have e1:(s.next x).ns=yg s.ns x.1.names++List.range' s.k N.length:=by rw [<-hN]; rfl
  have e2:(s.next x).k=s.k+N.length:=by rw [<-hN]; rfl
  refine ⟨?_,?_,?_,?_,?_⟩
  . rw [e1];refine List.pairwise_append.mpr ⟨xM h.up,gr ..,λn1 h1 n2 h2=>?_⟩;have:=h.lt n1 (mem_ndrop.mp h1).1;have:=ce.mp h2
    lia
  . rw [e1,e2];intro j hj;rcases aw.mp hj with hj|hj
    . have:=h.lt j (mem_ndrop.mp hj).1
      lia
    . have:=ce.mp hj
      lia
  . rw [e1];intro hh;have:=congrArg List.length hh;rw [ah,dm,aP] at this
    lia
  . rw [e1,ah,dm]
    lia
  . rw [e2]
    lia
theorem Runs.sameX{H H':Hp}{l:Addr}{ps:List Addr}{es:DL}{xs:List V}(h:Runs H ps es)(z:SameX l H H')(e:H l=some (.lst xs)):Runs H' ps es:=⟨h.1,λi p x h1 h2=>(h.2 i p x h1 h2).sameX z e⟩
variable {es:DL}
theorem ve{s:As}:ends s (es++[x])=(ends s es).next x:=by
  unfold ends;rw [df];rfl
theorem Dk{s:As}(h:Walk d tn s es)(g:Stp d tn (ends s es) x):Walk d tn s (es++[x]):=λi y hy=>by
  by_cases c:i<es.length
  . rw [aM c] at hy;rw [cB (!2)];exact h i y hy
  . have hl:=(af.mp hy).1;rw [ah] at hl;have:i=es.length:=by simp only [au,aP] at hl; lia
    subst this;rw [aH (ai _),dz] at hy;have:x=y:=ax hy;subst this;rw [List.take_left];exact g
theorem xA{p:Addr}(h:Runs H ps es)(g:DdAt H p x.1):Runs H (ps++[p]) (es++[x]):=⟨by rw [ah,ah,h.1]; rfl,λi q y h1 h2=>by
  by_cases c:i<ps.length
  . rw [aM c] at h1;rw [aM (by rw [<-h.1]; exact c)] at h2;exact h.2 i q y h1 h2
  . have hl:=(af.mp h1).1;rw [ah] at hl;have:i=ps.length:=by simp only [au,aP] at hl; lia
    subst this;rw [aH (ai _),dz] at h1;rw [h.1,aH (ai _),dz] at h2;have e1:p=q:=ax h1;have e2:x=y:=ax h2;subst e1;subst e2;exact g⟩
theorem LM{s:As}{f:Nat->Cell}{N:List Cell}(hb:∀ n∈s.ns,(f n).b=s.g n)(lt:∀ n∈s.ns,n<s.k)(hN:N.map Cell.b=x.1.new (s.g x.2.1) (s.g x.2.2)):∀ j∈(s.next x).ns,(fN f s.k N j).b=(s.next x).g j:=λj hj=>by
  have hl:N.length=(x.1.new (s.g x.2.1) (s.g x.2.2)).length:=by rw [<-hN,aa]
  show _=gN s.g s.k _ j;rcases aw.mp hj with hj|hj
  . have hj:=(mem_ndrop.mp hj).1;have hjl:=lt j hj;rw [Ia hjl];unfold gN;rw [h8 hjl];exact hb j hj
  . have hj:=ce.mp hj;obtain ⟨t,rfl⟩:∃ t,j=s.k+t:=⟨j - s.k,by lia⟩
    have ht:t<N.length:=by lia
    rw [Ht,uy (ae ht)];unfold gN;rw [h9 (!2),cT,<-hN,ag,ae ht];rfl
structure Rv(D X Y:Int)(s:Sd):Prop where
  z1:1<=s.z
  g:g3 s.x s.y s.z=1
  x:s.x*D=X*s.z
  y:s.y*D=Y*s.z
theorem So.rv{s:Sd}(h:So d D M s):∃ X Y,Rv D X Y s:=by
  obtain ⟨X,Y,_,_,hx,hy⟩:=h.r;exact ⟨X,Y,h.z1,h.g,hx,hy⟩
theorem Rv.eq{s:Sd}(hD:D≠0)(h:Rv D X Y s)(h':Rv D X Y t):s=t:=by
  obtain ⟨a1,a2,a3⟩:=ym h.z1 h.g hD h.x h.y;obtain ⟨b1,b2,b3⟩:=ym h'.z1 h'.g hD h'.x h'.y;cases s
  cases t
  simp only at a1 a2 a3 b1 b2 b3;rw [a1,a2,a3,b1,b2,b3]
variable {X' Y':Int}
theorem Rv.tk{s:Sd}(h:Rv D X Y s)(h':Rv D X' Y' t):Rv D (X - X') (Y - Y') (tkS s t):=by
  have hn:s.z*t.z≠0:=aI (by have:=h.z1; lia) (by have:=h'.z1; lia);have h1:=h.x;have h2:=h.y;have h3:=h'.x;have h4:=h'.y;obtain ⟨r1,r2⟩:=xZ (a:=s.x*t.z+-t.x*s.z) (b:=s.y*t.z+-t.y*s.z) (n:=s.z*t.z) (D:=D) (X:=X - X') (Y:=Y - Y') hn (by grind) (by grind);exact ⟨l_n hn,xQ hn,r1,r2⟩
theorem Rv.ad{s:Sd}(h:Rv D X Y s)(h':Rv D X' Y' t):Rv D (X+X') (Y+Y') (adS s t):=by
  have hn:s.z*t.z≠0:=aI (by have:=h.z1; lia) (by have:=h'.z1; lia);have h1:=h.x;have h2:=h.y;have h3:=h'.x;have h4:=h'.y;obtain ⟨r1,r2⟩:=xZ (a:=s.x*t.z+t.x*s.z) (b:=s.y*t.z+t.y*s.z) (n:=s.z*t.z) (D:=D) (X:=X+X') (Y:=Y+Y') hn (by grind) (by grind);exact ⟨l_n hn,xQ hn,r1,r2⟩
theorem Rv.sh{k:Int}{s:Sd}(h:Rv D X Y s)(k1:1<=k):Rv (D*k) (X*m) (Y*m) (shS s m k):=by
  have hn:s.z*k≠0:=aI (by have:=h.z1; lia) (!2);have h1:=h.x;have h2:=h.y;obtain ⟨r1,r2⟩:=xZ (a:=s.x*m) (b:=s.y*m) (n:=s.z*k) (D:=D*k) (X:=X*m) (Y:=Y*m) hn (by grind) (by grind);exact ⟨l_n hn,xQ hn,r1,r2⟩
theorem Rv.sc{k:Int}{s:Sd}(h:Rv D X Y s):Rv (D*k) (X*k) (Y*k) s :=
  ⟨h.z1,h.g,by rw [<-ao,h.x]; grind,by rw [<-ao,h.y]; grind⟩
variable {M':Nat}
theorem Ks{s:Sd}(hD:1<=D)(h:So d D M w)(h':So d D M' s):adS s (tkS w s)=w:=by
  obtain ⟨X,Y,r⟩:=h.rv;obtain ⟨X',Y',r'⟩:=h'.rv;have:=r'.ad (r.tk r');rw [show X'+(X - X')=X by lia,show Y'+(Y - Y')=Y by lia] at this;exact this.eq (!2) r
theorem KL{s:Sd}(hD:1<=D)(h:So d D M w)(h':So d D M' s):tkS (adS w s) w=s:=by
  obtain ⟨X,Y,r⟩:=h.rv;obtain ⟨X',Y',r'⟩:=h'.rv;have:=(r.ad r').tk r;rw [show X+X' - X=X' by lia,show Y+Y' - Y=Y' by lia] at this;exact this.eq (!2) r'
theorem FZ{k:Int}(hD:1<=D)(h:So d D M w)(k1:1<=k):shS (shS w 1 k) k 1=w/\shS (shS w k 1) 1 k=w:=by
  obtain ⟨X,Y,r⟩:=h.rv;have hk:D*k≠0:=aI (!2) (!2);have r1:Rv (D*k*1) (X*1*k) (Y*1*k) (shS (shS w 1 k) k 1):=(r.sh (m:=1) k1).sh (m:=k) (!2);have r2:Rv (D*1*k) (X*k*1) (Y*k*1) (shS (shS w k 1) 1 k):=(r.sh (m:=k) (k:=1) (!2)).sh (m:=1) k1;simp only [cC] at r1 r2;exact ⟨r1.eq hk r.sc,r2.eq hk r.sc⟩
def Dd.und(m m':Int)(b:Bo):Dd->Dd
  | .cut al _ _=>.glue al m m'
  | .glue al _ _=>.cut al m (if al then b.h else b.w)
  | .shift al _ k=>.shift (!al) m k
  | .turn _=>.turn m
def Dd.puts:Dd->Nat
  | .cut _ _ _=>2
  | _=>1
theorem Dd.puts_new(e:Dd)(b c:Bo):(e.new b c).length=e.puts:=by
  cases e with
  | cut al n s=>cases al <;> rfl
  | glue al n m=>cases al <;> rfl
  | shift al n k=>cases al <;> rfl
  | turn n=>rfl
def undo(s:As)(x:Dd×Nat×Nat)(r:Nat->Nat):Dd×Nat×Nat:=(x.1.und (r s.k:Nat) (r (s.k+1):Nat) (s.g x.2.1),r s.k,if x.1.puts=2 then r (s.k+1) else r s.k)
def ren(r:Nat->Nat)(x:Dd×Nat×Nat)(u j:Nat):Nat:=if x.1.two=true/\j=x.2.2 then u+1 else if j=x.2.1 then u else r j
structure Sim(r:Nat->Nat)(s t:As):Prop where
  mp:∀ n∈s.ns,r n∈t.ns
  on:∀ m∈t.ns,∃ n∈s.ns,r n=m
  inj:∀ n∈s.ns,∀ m∈s.ns,r n=r m->n=m
  g:∀ n∈s.ns,t.g (r n)=s.g n
theorem AY(m m':Int)(b:Bo)(e:Dd):(e.und m m' b).two=decide (e.puts=2):=by cases e <;> rfl
theorem Iy(m m':Int)(b:Bo)(e:Dd):(e.und m m' b).isT=e.isT:=by cases e <;> rfl
theorem Cg(m m':Int)(b:Bo)(e:Dd):(e.und m m' b).puts=if e.two then 2 else 1:=by cases e <;> rfl
theorem tW(m m':Int)(b:Bo)(e:Dd):(e.und m m' b).names=if e.puts=2 then [m,m'] else [m]:=by cases e <;> rfl
theorem puts_le(e:Dd):e.puts=1\/e.puts=2:=by cases e <;> simp [Dd.puts]
theorem xr(s:As)(x:Dd×Nat×Nat):(s.next x).k=s.k+x.1.puts:=by
  show s.k+_=_;rw [Dd.puts_new]
theorem mem_next{s:As}{j:Nat}:j∈(s.next x).ns↔(j∈s.ns/\(j:Int)∉x.1.names)\/(s.k<=j/\j<s.k+x.1.puts):=by
  show j∈yg s.ns x.1.names++List.range' s.k _↔_;rw [Dd.puts_new,aw,mem_ndrop,ce]
variable {g:Nat->Bo}
theorem vy{k j:Nat}{N:List Bo}(h:j<k):gN g k N j=g j:=by unfold gN; rw [h8 h]
theorem yu{k j:Nat}{N:List Bo}{b:Bo}(h:N[j]?=some b):gN g k N (k+j)=b:=by
  unfold gN;rw [h9 (!2),cT,h];rfl
theorem Ak{s:As}{n m j:Nat}(h:Nms s e n m):(j:Int)∈e.names↔j=n\/(e.two=true/\j=m):=by
  rw [h.nm];cases e.two with
  | true=>simp; lia
  | false=>simp; lia
variable {r:Nat->Nat}
theorem BJ{s t:As}(hD:1<=D)(st:Stp d tn s x)(so:∀ n∈s.ns,BoD d D M (s.g n))(sn:∀ b∈x.1.new (s.g x.2.1) (s.g x.2.2),BoD d D M b)(sim:Sim r (s.next x) t):(undo s x r).1.new (t.g (undo s x r).2.1) (t.g (undo s x r).2.2)=if x.1.two then [s.g x.2.1,s.g x.2.2] else [s.g x.2.1]:=by
  have hk:∀ j,j<x.1.puts->t.g (r (s.k+j))=gN s.g s.k (x.1.new (s.g x.2.1) (s.g x.2.2)) (s.k+j):=λj hj=>sim.g _ (mem_next.mpr (.inr ⟨by lia,by lia⟩));have o1:=so _ st.nms.hn;have o2:=so _ st.nms.hm;have ft:=st.fit;obtain ⟨e,n,m⟩:=x;dsimp only [undo] at hk o1 o2 ft sn ⊢;generalize s.g n=b at *
  generalize s.g m=c at *
  obtain ⟨bw,bh⟩:=b;obtain ⟨cw,ch⟩:=c;have h0:=hk 0 (by rcases puts_le e with h | h <;> lia);rw [gR] at h0;rw [h0];cases e with
  | cut al n s' =>
    have h1:=hk 1 (by show 1<2; decide);rw [h8 (show (Dd.cut al n s').puts=2 from rfl),h1];cases al with
    | false =>
      rw [yu (j:=1) rfl];rw [show gN s.g s.k (Dd.new ⟨bw,bh⟩ ⟨cw,ch⟩ (.cut false n s')) s.k=⟨s',bh⟩ from yu (j:=0) rfl];show [(⟨adS s' (tkS bw s'),bh⟩:Bo)]=[⟨bw,bh⟩]
      rw [Ks hD o1.1 (sn ⟨s',bh⟩ (by simp [Dd.new])).1]
    | true =>
      rw [yu (j:=1) rfl];rw [show gN s.g s.k (Dd.new ⟨bw,bh⟩ ⟨cw,ch⟩ (.cut true n s')) s.k=⟨bw,s'⟩ from yu (j:=0) rfl];show [(⟨bw,adS s' (tkS bh s')⟩:Bo)]=[⟨bw,bh⟩]
      rw [Ks hD o1.2 (sn ⟨bw,s'⟩ (by simp [Dd.new])).2]
  | glue al n' m' =>
    cases al with
    | false =>
      rw [show gN s.g s.k (Dd.new ⟨bw,bh⟩ ⟨cw,ch⟩ (.glue false n' m')) s.k=⟨adS bw cw,bh⟩ from yu (j:=0) rfl];have e:bh=ch:=ft.1;show [(⟨bw,bh⟩:Bo),⟨tkS (adS bw cw) bw,bh⟩]=[⟨bw,bh⟩,⟨cw,ch⟩]
      rw [KL hD o1.1 o2.1,e]
    | true =>
      rw [show gN s.g s.k (Dd.new ⟨bw,bh⟩ ⟨cw,ch⟩ (.glue true n' m')) s.k=⟨bw,adS bh ch⟩ from yu (j:=0) rfl];have e:bw=cw:=ft.1;show [(⟨bw,bh⟩:Bo),⟨bw,tkS (adS bh ch) bh⟩]=[⟨bw,bh⟩,⟨cw,ch⟩]
      rw [KL hD o1.2 o2.2,e]
  | shift al n' k =>
    have k1:1<=k:=ft.1;cases al with
    | false =>
      rw [show gN s.g s.k (Dd.new ⟨bw,bh⟩ ⟨cw,ch⟩ (.shift false n' k)) s.k=⟨shS bw 1 k,shS bh k 1⟩ from yu (j:=0) rfl];show [(⟨shS (shS bw 1 k) k 1,shS (shS bh k 1) 1 k⟩:Bo)]=[⟨bw,bh⟩]
      rw [(FZ hD o1.1 k1).1,(FZ hD o1.2 k1).2]
    | true =>
      rw [show gN s.g s.k (Dd.new ⟨bw,bh⟩ ⟨cw,ch⟩ (.shift true n' k)) s.k=⟨shS bw k 1,shS bh 1 k⟩ from yu (j:=0) rfl];show [(⟨shS (shS bw k 1) 1 k,shS (shS bh 1 k) k 1⟩:Bo)]=[⟨bw,bh⟩]
      rw [(FZ hD o1.1 k1).2,(FZ hD o1.2 k1).1]
  | turn n' =>
    rw [show gN s.g s.k (Dd.new ⟨bw,bh⟩ ⟨cw,ch⟩ (.turn n')) s.k=⟨bh,bw⟩ from yu (j:=0) rfl];rfl
theorem A1{s:Sd}(hR:Rt d)(z:Sz D K' M)(hw:So d D M w)(hs:So d D M s)(ht:So d D M (tkS w s)):EU d w s:=by
  have hn1:1<=w.z*s.z:=aZ (by have:=hw.z1; lia) (by have:=hs.z1; lia);refine ⟨z.sy hw,z.sy hs,by rw [hs.up]; decide,?_⟩;have e:sgn d (tkS w s).x (tkS w s).y=sgn d (w.x*s.z - s.x*w.z) (w.y*s.z - s.y*w.z):=by
    refine (z4 hR hn1).trans ?_;rw [show w.x*s.z+-s.x*w.z=w.x*s.z - s.x*w.z by grind,show w.y*s.z+-s.y*w.z=w.y*s.z - s.y*w.z by grind]
  rw [<-e,ht.up];decide
theorem Dh{s t:As}{f:Nat->Cell}(hR:Rt d)(z:Sz D K' M)(st:Stp d tn s x)(so:∀ n∈s.ns,BoD d D M (s.g n))(sn:∀ b∈x.1.new (s.g x.2.1) (s.g x.2.2),BoD d D M b)(sim:Sim r (s.next x) t)(hf:∀ n∈t.ns,(f n).b=t.g n):(undo s x r).1.Good d D M t.ns f (undo s x r).2.1 (undo s x r).2.2:=by
  have hD:=z.d1;have nw:=BJ hD st so sn sim;have p1:=puts_le x.1;have i0:s.k∈(s.next x).ns:=mem_next.mpr (.inr ⟨ai _,by lia⟩);have m0:r s.k∈t.ns:=sim.mp _ i0;have f0:(f (undo s x r).2.1).b=t.g (undo s x r).2.1:=hf _ m0;have m1:(undo s x r).2.2∈t.ns:=by
    show (if x.1.puts=2 then r (s.k+1) else r s.k)∈t.ns;split
    . exact sim.mp _ (mem_next.mpr (.inr ⟨by lia,by lia⟩))
    . exact m0
  have hb:∀ b∈(undo s x r).1.new (f (undo s x r).2.1).b (f (undo s x r).2.2).b,BoD d D M b:=by
    rw [f0,hf _ m1,nw];intro b hb;split at hb
    . rcases aN.mp hb with rfl | hb
      . exact so _ st.nms.hn
      . rw [ak.mp hb]; exact so _ st.nms.hm
    . rw [ak.mp hb]; exact so _ st.nms.hn
  have tso:∀ j,j<x.1.puts->BoD d D M (t.g (r (s.k+j))):=λj hj=>by
    rw [sim.g _ (mem_next.mpr (.inr ⟨by lia,by lia⟩))];have hl:=Dd.puts_new x.1 (s.g x.2.1) (s.g x.2.2);have hj':j<(x.1.new (s.g x.2.1) (s.g x.2.2)).length:=by lia
    show BoD d D M (gN s.g s.k _ (s.k+j));rw [yu (ae hj')];exact sn _ (bH hj')
  have t0:=tso 0 (!2);rw [gR] at t0;have ftx:=st.fit;have okx:=st.ok;have hnn:=st.nms.hn;refine ⟨?_,m0,m1,?_,?_,?_,?_,1,by decide,by decide,λb hb'=>?_⟩
  . show (x.1.und _ _ _).names=_;rw [tW];show _=if (x.1.und _ _ _).two then _ else _
    rw [AY];rcases p1 with h|h
    . rw [h9 (!2),h9 (by simp [h])];rfl
    . rw [h8 h,h8 (by simp [h])];show _=[_,((if x.1.puts=2 then r (s.k+1) else r s.k:Nat):Int)]
      rw [h8 h];rfl
  . intro h2;have h2:(x.1.und _ _ _).two=true:=h2;rw [AY] at h2;have h2:x.1.puts=2:=by simpa using h2
    show r s.k≠if x.1.puts=2 then r (s.k+1) else r s.k
    rw [h8 h2];intro c;have:=sim.inj _ i0 _ (mem_next.mpr (.inr ⟨by lia,by lia⟩)) c
    lia
  . intro h2;have h2:(x.1.und _ _ _).two=false:=h2;rw [AY] at h2;have h2:¬ x.1.puts=2:=by simpa using h2
    show (if x.1.puts=2 then r (s.k+1) else r s.k)=r s.k;rw [h9 h2]
  . show (x.1.und _ _ _).Ok;have o:=so _ hnn
    revert okx
    cases x.1 with
    | cut al n s'=>exact λ_=>trivial
    | glue al n m =>
      intro _;cases al with
      | false=>exact z.sy o.1
      | true=>exact z.sy o.2
    | shift al n k=>exact id
    | turn n=>exact λ_=>trivial
  . rw [f0,hf _ m1];rw [f0,hf _ m1] at hb;have o:=so _ hnn;have o':=so _ st.nms.hm;have g0:t.g (r s.k)=gN s.g s.k (x.1.new (s.g x.2.1) (s.g x.2.2)) s.k:=sim.g _ i0;have g1:x.1.puts=2->t.g (r (s.k+1))=gN s.g s.k (x.1.new (s.g x.2.1) (s.g x.2.2)) (s.k+1):=λh=>sim.g _ (mem_next.mpr (.inr ⟨by lia,by lia⟩));clear m1 m0 i0 nw f0 hf sim;obtain ⟨e,n,m⟩:=x;dsimp only [undo] at *
    generalize t.g (r s.k)=B at *
    cases e with
    | cut al n' s' =>
      have g1:=g1 rfl;have t1:=tso 1 (by show 1<2; decide);rw [h8 (show (Dd.cut al n' s').puts=2 from rfl)] at hb ⊢;generalize t.g (r (s.k+1))=C at *
      cases al with
      | false =>
        have q0:B=⟨s',(s.g n).h⟩:=g0.trans (yu (j:=0) rfl);have q1:C=⟨tkS (s.g n).w s',(s.g n).h⟩:=g1.trans (yu (j:=1) rfl);subst q0;subst q1;exact ⟨rfl,z.sy t0.1,z.sy t1.1⟩
      | true =>
        have q0:B=⟨(s.g n).w,s'⟩:=g0.trans (yu (j:=0) rfl);have q1:C=⟨(s.g n).w,tkS (s.g n).h s'⟩:=g1.trans (yu (j:=1) rfl);subst q0;subst q1;exact ⟨rfl,z.sy t0.2,z.sy t1.2⟩
    | glue al n' m' =>
      cases al with
      | false =>
        have hb1:=hb _ (ay _ aB);exact A1 hR z t0.1 o.1 hb1.1
      | true =>
        have hb1:=hb _ (ay _ aB);exact A1 hR z t0.2 o.2 hb1.2
    | shift al n' k =>
      cases al with
      | false=>exact ⟨ftx.1,ftx.2.1,z.sy t0.1,z.sy t0.2⟩
      | true=>exact ⟨ftx.1,ftx.2.1,z.sy t0.1,z.sy t0.2⟩
    | turn n'=>exact trivial
  . rw [cC];exact (hb b hb').mono (!2)
theorem F4{s t:As}(hR:Rt d)(z:Sz D K' M)(st:Stp d tn s x)(so:∀ n∈s.ns,BoD d D M (s.g n))(sn:∀ b∈x.1.new (s.g x.2.1) (s.g x.2.2),BoD d D M b)(sim:Sim r (s.next x) t):Stp d tn t (undo s x r):=by
  have gd:=Dh (f:=λn=>⟨0,0,0,t.g n⟩) hR z st so sn sim (λn _=>rfl);exact ⟨⟨gd.nm,gd.hn,gd.hm,gd.ne,gd.eq⟩,gd.ok,gd.fit,λh=>st.tn (by rw [<-h]; exact (Iy _ _ _ _).symm)⟩
theorem FQ{s t:As}(hD:1<=D)(st:Stp d tn s x)(so:∀ n∈s.ns,BoD d D M (s.g n))(sn:∀ b∈x.1.new (s.g x.2.1) (s.g x.2.2),BoD d D M b)(sim:Sim r (s.next x) t)(lt:∀ n∈s.ns,n<s.k)(tl:∀ m∈t.ns,m<t.k):Sim (ren r x t.k) s (t.next (undo s x r)):=by
  have nw:=BJ hD st so sn sim;have p1:=puts_le x.1;have nx:∀ j:Nat,(j:Int)∈x.1.names↔j=x.2.1\/(x.1.two=true/\j=x.2.2):=λj=>Ak st.nms;have ne:=st.nms.ne;have pu:(undo s x r).1.puts=if x.1.two then 2 else 1:=Cg _ _ _ _
  have un:∀ j:Nat,(j:Int)∈(undo s x r).1.names↔∃ i,s.k<=i/\i<s.k+x.1.puts/\r i=j:=λj=>by
    show (j:Int)∈(x.1.und _ _ _).names↔_;rw [tW];rcases p1 with h|h
    . rw [h9 (!2),ak,h];constructor
      . intro q;exact ⟨s.k,ai _,by lia,by lia⟩
      . rintro ⟨i,h1,h2,rfl⟩;rw [show i=s.k by lia]
    . rw [h8 h,aN,ak,h];constructor
      . rintro (q | q)
        . exact ⟨s.k,ai _,by lia,by lia⟩
        . exact ⟨s.k+1,by lia,by lia,by lia⟩
      . rintro ⟨i,h1,h2,rfl⟩;have:i=s.k\/i=s.k+1:=by lia
        rcases this with rfl|rfl
        . exact .inl rfl
        . exact .inr rfl
  have cs:∀ n∈s.ns,(x.1.two=true/\n=x.2.2/\ren r x t.k n=t.k+1)\/(n=x.2.1/\ren r x t.k n=t.k)\/(n∈(s.next x).ns/\ren r x t.k n=r n/\n<s.k/\r n<t.k):=λn hn=>by
    unfold ren;by_cases c1:x.1.two=true/\n=x.2.2
    . exact .inl ⟨c1.1,c1.2,h8 c1⟩
    . rw [h9 c1];by_cases c2:n=x.2.1
      . exact .inr (.inl ⟨c2,h8 c2⟩)
      . have hm:n∈(s.next x).ns:=mem_next.mpr (.inl ⟨hn,λh=>by
          rcases (nx n).mp h with h|h
          . exact c2 h
          . exact c1 h⟩)
        exact .inr (.inr ⟨hm,h9 c2,lt n hn,tl _ (sim.mp n hm)⟩)
  have tm:∀ j,j∈(t.next (undo s x r)).ns↔(j∈t.ns/\¬ ∃ i,s.k<=i/\i<s.k+x.1.puts/\r i=j)\/(t.k<=j/\j<t.k+if x.1.two then 2 else 1):=λj=>by rw [mem_next,un,pu]
  have tg:∀ j,(t.next (undo s x r)).g j=gN t.g t.k (if x.1.two then [s.g x.2.1,s.g x.2.2] else [s.g x.2.1]) j:=λj=>by rw [<-nw]; rfl
  refine ⟨λn hn=>?_,λm hm=>?_,λn hn m hm e=>?_,λn hn=>?_⟩
  . rw [tm];rcases cs n hn with ⟨h1,h2,h3⟩|⟨h1,h2⟩|⟨h1,h2,h3,h4⟩
    . rw [h3,h8 h1]; exact .inr (!2)
    . rw [h2];refine .inr ⟨ai _,?_⟩;split <;> lia
    . rw [h2];refine .inl ⟨sim.mp n h1,?_⟩;rintro ⟨i,i1,i2,i3⟩;have:=sim.inj _ (mem_next.mpr (.inr ⟨i1,i2⟩)) _ h1 i3
      lia
  . rw [tm] at hm;rcases hm with ⟨h1,h2⟩|⟨h1,h2⟩
    . obtain ⟨n,hn,e⟩:=sim.on m h1;rcases mem_next.mp hn with ⟨h3,h4⟩|⟨h3,h4⟩
      . refine ⟨n,h3,?_⟩;unfold ren;rw [h9 (λc=>h4 ((nx n).mpr (.inr c))),h9 (λc=>h4 ((nx n).mpr (.inl c)))];exact e
      . exact absurd ⟨n,h3,h4,e⟩ h2
    . by_cases c:m=t.k
      . refine ⟨x.2.1,st.nms.hn,?_⟩;unfold ren;rw [h9 (λq=>ne q.1 q.2),h8 rfl,c]
      . have ht:x.1.two=true:=by
          cases h:x.1.two with
          | true=>rfl
          | false=>rw [h,h9 ⋯] at h2; lia
        rw [h8 ht] at h2;refine ⟨x.2.2,st.nms.hm,?_⟩;unfold ren;rw [h8 ⟨ht,rfl⟩]
        lia
  . rcases cs n hn with ⟨h1,h2,h3⟩ | ⟨h1,h2⟩ | ⟨h1,h2,h3,h4⟩ <;> rcases cs m hm with ⟨k1,k2,k3⟩ | ⟨k1,k2⟩ | ⟨k1,k2,k3,k4⟩ <;> first | omega | exact sim.inj n h1 m k1 (!2)
  . rw [tg];rcases cs n hn with ⟨h1,h2,h3⟩|⟨h1,h2⟩|⟨h1,h2,h3,h4⟩
    . rw [h3,h8 h1,yu (j:=1) rfl,h2]
    . rw [h2,h1];split
      . exact yu (j:=0) rfl
      . exact yu (j:=0) rfl
    . rw [h2,vy h4,sim.g n h1];exact vy h3
theorem xG(h:ns.Pairwise (· < ·)):ns.Nodup:=h.imp λhab=>az hab
theorem Cf{s t:As}(h:Sim r s t)(us:s.ns.Nodup)(ut:t.ns.Nodup):(s.ns.map r).Perm t.ns:=by
  have hn:(s.ns.map r).Nodup:=em.mpr (List.Pairwise.imp_of_mem (λ{a b} ha hb hab e=>hab (h.inj a ha b hb e)) us);refine (fq hn ut).mpr λm=>⟨λhm=>?_,λhm=>?_⟩
  . obtain ⟨n,h1,rfl⟩:=aY.mp hm;exact h.mp n h1
  . obtain ⟨n,h1,e⟩:=h.on m hm;exact aY.mpr ⟨n,h1,e⟩
def rk(ts:List Nat)(m:Nat):Nat:=ts.idxOf m
variable {ts:List Nat}
theorem tY{m:Nat}(h:m∈ts):ts[rk ts m]?=some m:=by
  have hl:=dA h;unfold rk;rw [ae hl,List.getElem_idxOf hl]
theorem FE(hn:ts.Nodup){i m:Nat}(h:ts[i]?=some m):rk ts m=i:=by
  have hm:=ar h;have hl:=dA hm;have h1:=tY hm;exact ((dD hl hn).mp (h1.trans h.symm))
theorem Ft(hn:ts.Nodup):ts.map (rk ts)=List.range ts.length:=by
  refine List.ext_getElem? λj=>?_;rw [ag];by_cases hj:j<ts.length
  . rw [cW hj,ae hj];exact congrArg some (FE hn (ae hj))
  . rw [c8 (!2),c8 (by rw [bA]; lia)];rfl
theorem HS{ms:List Nat}(hp:ms.Perm ts)(hn:ts.Nodup):(ms.map (rk ts)).Perm (List.range ts.length):=by
  have:=hp.map (rk ts)
  rwa [Ft hn] at this
theorem Aj{ms:List Nat}(hp:ms.Perm ts):(ts.map λn:Nat=>(n:Int)).Perm (ms.map λn:Nat=>(n:Int)):=(hp.map _).symm
theorem D6(h:ts.Pairwise (· < ·)):(ts.map λn:Nat=>(n:Int)).Pairwise (·<=·):=em.mpr (h.imp λ{a b} hab=>Int.ofNat_le.mpr (bf hab))
theorem xE{s:As}:(ends s es).k=s.k+(es.map λx=>x.1.puts).sum:=by
  induction es generalizing s with
  | nil=>rfl
  | cons x es ih =>
    show (ends (s.next x) es).k=_;rw [ih,xr,aU,hZ]
    lia
def Rn(kvs:List (Key×V))(ns:List Nat)(r:Nat->Nat):Prop:=∀ n∈ns,valV kvs (.inl (n:Int))=some (.int (r n:Nat))
theorem BM{j n:Nat}(c:j≠n):¬ ((.inl (j:Int):Key)=.inl (n:Int)):=λh=>c (dh (dL h))
def As.sb(bs:List Bo):As:=⟨bs.length,List.range bs.length,λn=>bs[n]?.getD ⟨⟨0,0,1⟩,⟨0,0,1⟩⟩⟩
theorem tJ(L:List Cell):As.st L=As.sb (L.map Cell.b):=by
  unfold As.st As.sb;rw [aa];congr 1;funext n;rw [ag];unfold fL;cases L[n]? <;> rfl
theorem uk{s:As}{n:Nat}(h:n<s.k):(ends s es).g n=s.g n:=by
  induction es generalizing s with
  | nil=>rfl
  | cons x es ih =>
    show (ends (s.next x) es).g n=_;rw [ih (by rw [xr]; lia)];exact vy h
theorem vJ{s:As}{i:Nat}:ends s es=ends (ends s (es.take i)) (es.drop i):=by
  conv=>lhs; rw [<-dn i es]
  unfold ends;rw [df]
theorem AD{s:As}{i:Nat}:(ends s (es.take i)).k<=(ends s es).k:=by
  rw [vJ (es:=es) (i:=i),xE (s:=ends s (es.take i))]
  lia
theorem sim0{s:As}(hn:s.ns.Nodup):Sim (rk s.ns) s (As.sb (s.ns.map s.g)):=by
  have hl:∀ n∈s.ns,rk s.ns n<s.ns.length:=λn h=>dA h;refine ⟨λn h=>?_,λm h=>?_,λn h m k e=>?_,λn h=>?_⟩
  . show _∈List.range (s.ns.map s.g).length;rw [aa];exact bC.mpr (hl n h)
  . have h:m∈List.range (s.ns.map s.g).length:=h;rw [aa] at h;have h:=bC.mp h;exact ⟨s.ns[m],bH h,FE hn (ae h)⟩
  . have h1:=tY h;have h2:=tY k;rw [e,h2] at h1;exact (ax h1).symm
  . show ((s.ns.map s.g)[rk s.ns n]?).getD _=_;rw [ag,tY h];rfl
structure Turned(d:Int)(tn:Bool)(D:Int)(M:Nat)(bs0 bs:List Bo)(es:DL)(qs:List Nat):Prop where
  w:Walk d tn (As.sb bs) es
  b:∀ i,i<=es.length->∀ n∈(ends (As.sb bs) (es.take i)).ns,BoD d D M ((ends (As.sb bs) (es.take i)).g n)
  p:qs.Perm (List.range bs0.length)
  l:(ends (As.sb bs) es).ns.length=bs0.length
  g:∀ k q:Nat,qs[k]?=some q->∃ n,(ends (As.sb bs) es).ns[q]?=some n/\bs0[k]?=some ((ends (As.sb bs) es).g n)
theorem EA{bs0 bs:List Bo}(w:Walk d tn (As.sb bs) es)(b:∀ i,i<=es.length->∀ n∈(ends (As.sb bs) (es.take i)).ns,BoD d D M ((ends (As.sb bs) (es.take i)).g n))(sim:Sim r (As.sb bs0) (ends (As.sb bs) es))(ut:(ends (As.sb bs) es).ns.Nodup):Turned d tn D M bs0 bs es (((List.range bs0.length).map r).map (rk (ends (As.sb bs) es).ns)):=by
  have hp:((List.range bs0.length).map r).Perm (ends (As.sb bs) es).ns:=Cf sim (gw (n:=bs0.length)) ut;have hl:=hp.length_eq;rw [aa,bA] at hl;refine ⟨w,b,?_,hl.symm,λk q hq=>?_⟩
  . have:=HS hp ut
    rwa [<-hl] at this
  . rw [ag,ag] at hq;obtain ⟨z,hz,rfl⟩:=am.mp hq;obtain ⟨j,hj,rfl⟩:=am.mp hz;have hk:=(af.mp hj).1;rw [bA] at hk;rw [cW hk] at hj;have hj:k=j:=ax hj;subst hj;have hm:k∈(As.sb bs0).ns:=bC.mpr hk;refine ⟨r k,tY (sim.mp k hm),?_⟩;rw [sim.g k hm];show bs0[k]?=some (bs0[k]?.getD _);rw [ae hk];rfl
def deal:List (Key×V)->List Int->Nat->List (Key×V)
  | kvs,[],_=>kvs
  | kvs,m::ms,u=>deal (putK kvs (.inl m) (.int (u:Nat))) ms (u+1)
theorem Ap(m:Int):∀ (ms:List Int) (kvs:List (Key×V)) (u:Nat),deal kvs (ms++[m]) u=putK (deal kvs ms u) (.inl m) (.int ((u+ms.length:Nat):Int))
  | [],kvs,u=>rfl
  | a::ms,kvs,u=>by
    show deal (putK kvs (.inl a) (.int (u:Nat))) (ms++[m]) (u+1)=_;rw [Ap m ms];show putK (deal (putK kvs (.inl a) (.int (u:Nat))) ms (u+1)) (.inl m) (.int ((u+1+ms.length:Nat):Int))=putK (deal (putK kvs (.inl a) (.int (u:Nat))) ms (u+1)) _ _;rw [show u+1+ms.length=u+(a::ms).length by rw [au]; lia]
theorem vb:∀ (ms:List Int) (kvs:List (Key×V)) (u:Nat),(deal kvs ms u).length<=kvs.length+ms.length
  | [],kvs,u=>ai _
  | a::ms,kvs,u=>by
    have h1:=vb ms (putK kvs (.inl a) (.int (u:Nat))) (u+1);have h2:=yO kvs (.inl a) (.int (u:Nat));show (deal (putK kvs (.inl a) (.int (u:Nat))) ms (u+1)).length<=_;rw [au]
    lia
theorem IG{s:As}{u:Nat}(h:Rn kvs (s.next x).ns r)(nm:Nms s x.1 x.2.1 x.2.2):Rn (deal kvs x.1.names u) s.ns (ren r x u):=by
  intro j hj;have ni:=Ak (j:=j) nm;unfold ren;have key:(¬ (j=x.2.1\/(x.1.two=true/\j=x.2.2)))->valV kvs (.inl (j:Int))=some (.int (r j:Nat)):=λc=>h j (mem_next.mpr (.inl ⟨hj,λq=>c (ni.mp q)⟩));rw [nm.nm];cases ht:x.1.two with
  | true =>
    rw [ht] at key;have e:valV (deal kvs (if true=true then [(x.2.1:Int),(x.2.2:Int)] else [(x.2.1:Int)]) u) (.inl (j:Int))=if (.inl (j:Int):Key)=.inl (x.2.2:Int) then some (.int ((u+1:Nat):Int)) else if (.inl (j:Int):Key)=.inl (x.2.1:Int) then some (.int (u:Nat)) else valV kvs (.inl (j:Int)):=by
      show valV (putK (putK kvs (.inl (x.2.1:Int)) (.int (u:Nat))) (.inl (x.2.2:Int)) (.int ((u+1:Nat):Int))) _=_;rw [wA,wA]
    rw [e];by_cases c1:j=x.2.2
    . rw [h8 (by rw [c1]),h8 ⟨rfl,c1⟩]
    . rw [h9 (BM c1),h9 (c:=true=true/\j=x.2.2) (λq=>c1 q.2)];by_cases c2:j=x.2.1
      . rw [h8 (by rw [c2]),h8 c2]
      . rw [h9 (BM c2),h9 c2];exact key (λq=>by
          rcases q with q|q
          . exact c2 q
          . exact c1 q.2)
  | false =>
    rw [ht] at key;have e:valV (deal kvs (if false=true then [(x.2.1:Int),(x.2.2:Int)] else [(x.2.1:Int)]) u) (.inl (j:Int))=if (.inl (j:Int):Key)=.inl (x.2.1:Int) then some (.int (u:Nat)) else valV kvs (.inl (j:Int)):=by
      show valV (putK kvs (.inl (x.2.1:Int)) (.int (u:Nat))) _=_;rw [wA]
    rw [e,h9 (c:=false=true/\j=x.2.2) (λq=>by simp at q)];by_cases c2:j=x.2.1
    . rw [h8 (by rw [c2]),h8 c2]
    . rw [h9 (BM c2),h9 c2];exact key (λq=>by
        rcases q with q|q
        . exact c2 q
        . simp at q)
theorem names_len{s:As}{n m:Nat}(h:Nms s e n m):e.names.length=if e.two then 2 else 1:=by
  rw [h.nm];split <;> rfl
def TupK(H H':Hp):Prop:=∀ b xs,H b=some (.tup xs)->H' b=some (.tup xs)
theorem DdAt.tk{p:Addr}(h:DdAt H p e)(s:TupK H H'):DdAt H' p e:=by
  cases e with
  | cut al n t=>obtain ⟨q,h1,h2⟩:=h; exact ⟨q,s _ _ h1,s _ _ h2⟩
  | glue al n m=>exact s _ _ h
  | shift al n k=>exact s _ _ h
  | turn n=>exact s _ _ h
theorem Runs.tk{H H':Hp}{ps:List Addr}{es:DL}(h:Runs H ps es)(s:TupK H H'):Runs H' ps es:=⟨h.1,λi p x h1 h2=>(h.2 i p x h1 h2).tk s⟩
theorem DV{s:As}(h:Walk d tn s es):Walk d true s es:=λi x hx=>⟨(h i x hx).nms,(h i x hx).ok,(h i x hx).fit,λ_=>rfl⟩
theorem z6{d:Int}{tn:Bool}{s:As}{es:DL}{B:Nat}(h0:As.Ok B s 0)(hw:Walk d tn s es):∀ i,i<=es.length->As.Ok B (ends s (es.take i)) i
  | 0,_=>h0
  | i+1,h=>by
    have hi:i<es.length:=h;have hx:=ae hi;rw [yj hx];exact (z6 h0 hw i (bf hi)).next (hw i _ hx).nms
theorem vq{bs:List Bo}{B:Nat}(h1:1<=bs.length)(h:bs.length<=B):As.Ok B (As.sb bs) 0 :=
  ⟨bU,λn hn=>bC.mp hn,λh=>by
    have:List.range bs.length=[]:=h;rw [eB] at this; lia,by show (List.range bs.length).length<=_; rw [bA]; lia,by show bs.length<=_; lia⟩
def Ever(d D:Int)(M:Nat)(s:As):Prop:=∀ n,n<s.k->BoD d D M (s.g n)
theorem tU{s:As}(h:Ever d D M (ends s es))(i:Nat):Ever d D M (ends s (es.take i)):=λn hn=>by
  have:=h n (aE hn AD)
  rwa [vJ (es:=es) (i:=i),uk hn] at this
theorem FA{s:As}(h:Ever d D M (s.next x)):∀ b∈x.1.new (s.g x.2.1) (s.g x.2.2),BoD d D M b:=λb hb=>by
  obtain ⟨j,hj⟩:=cR hb;have hl:=(af.mp hj).1;rw [Dd.puts_new] at hl;have:=h (s.k+j) (by rw [xr]; lia)
  rwa [show (s.next x).g (s.k+j)=b from yu hj] at this
theorem BC(es:DL):(es.map λx=>((x.1.puts:Nat):Int)).sum=((es.map λx=>x.1.puts).sum:Nat):=by
  induction es with
  | nil=>rfl
  | cons x es ih =>
    rw [aU,hZ,ih,aU,hZ]
    lia
theorem GM{n j:Nat}(h:j<n):n - j=(n - 1 - j)+1:=by lia
theorem vA{s:Sd}(hR:Rt d)(z1:1<=s.z)(z2:1<=t.z):sgn d (tkS s t).x (tkS s t).y<0↔0<sgn d (t.x*s.z - s.x*t.z) (t.y*s.z - s.y*t.z):=by
  have hn1:1<=s.z*t.z:=aZ (!2) (!2);have e:sgn d (tkS s t).x (tkS s t).y=sgn d (-(t.x*s.z - s.x*t.z)) (-(t.y*s.z - s.y*t.z)):=by
    refine (z4 hR hn1).trans ?_;rw [show s.x*t.z+-t.x*s.z=-(t.x*s.z - s.x*t.z) by grind,show s.y*t.z+-t.y*s.z=-(t.y*s.z - s.y*t.z) by grind]
  rw [e,xw hR]
  lia
theorem Dt:SY ⟨0,0,1⟩:=⟨by decide,by decide,by decide +kernel,by decide +kernel,by decide +kernel⟩
theorem J0{K:iC}{Q:VK}{p:Addr}{x:V}{b:Bool}(e:H p=some (.tup ys))(hx:xP x=true)(hy:ys.all xP=true)(hb:(!inV x ys)=b)(q:Q (.bl b) H):rIn K true x (.ref p) H Q:=⟨p,ys,rfl,.inr (SqT.of e),hx,hy,by show Q (.bl (!inV x ys)) H; rw [hb]; exact q⟩
theorem LV{f:Nat->Cell}(h:∀ n∈ns,(f n).b=g n):(ns.map f).map Cell.b=ns.map g:=by
  rw [fE];exact dM h
theorem Jj{X:Cx}{Q:VK}{b:Addr}{ns:List Int}(ha:H a=some (.lst (ns.map V.int)))(hb:H b=some (.lst (ns.map V.int)))(q:Q (.bl false) H):rNeL X (.ref a) (.ref b) H Q:=by
  obtain ⟨a',b',xs,ys,bs,n,e1,e2,hn,h1,h2,h3,h4⟩:=KG (X:=X) (Q:=λv H'=>v=.bl true/\H'=H) ha hb ⟨rfl,rfl⟩;refine ⟨a',b',xs,ys,bs,n,e1,e2,hn,h1,h2,h3,?_⟩;have h5:bs.all id=true:=by
    have:=h4.1;injection this
  rw [h5];exact q
variable {qs:List Nat}
theorem La{C L:List Cell}{D:List Cell}(hl:D.length=qs.length)(hL:L.length=qs.length)(h:∀ k q:Nat,qs[k]?=some q->∃ c e,D[k]?=some c/\L[k]?=some e/\c.b=e.b):D.map Cell.b=L.map Cell.b:=by
  refine List.ext_getElem? λk=>?_;rw [ag,ag];by_cases hk:k<qs.length
  . obtain ⟨c,e,h1,h2,h3⟩:=h k _ (ae hk);rw [h1,h2];exact congrArg some h3
  . rw [c8 (!2),c8 (!2)]
theorem EqV.same{X:Cx}{n:Nat}{H:Hp}{p:Addr}:EqV X n H (.ref p) (.ref p) true:=λ_ _ _ _ _ _ _ rv ru _=>by
  cases rv
  cases ru
  exact SeqAt.EqAt.same _
theorem EqV.lst{X:Cx}{n:Nat}{H:Hp}{a b:Addr}{xs ys:List V}{bs:List Bool}(ha:SqL X.K H a xs)(hb:SqL X.K H b ys)(he:EqVs X n H xs ys bs)(hs:bs.all id=true):EqV X (n+1) H (.ref a) (.ref b) true:=λpins σ s v u A I rv ru hu=>by
  cases rv
  cases ru
  by_cases hab:a=b
  . subst hab;exact SeqAt.EqAt.same _
  . obtain ⟨is,js,p1,p2,hz,hj,e⟩:=EM ha hb he I hu;have:=SeqAt.RcAt.lists (A:=A) (e:=λj=>bs.getD j false) p1 p2 hz (!2) hj;rw [e,hs] at this;exact SeqAt.EqAt.of_refs hab this
theorem tq{X:Cx}{n:Nat}{H:Hp}:∀ (xs:List V),(∀ v∈xs,∃ p,v=.ref p)->EqVs X n H xs xs (xs.map λ_=>true)
  | [],_=>.nil
  | x::xs,h=>by
    obtain ⟨p,rfl⟩:=h x aB;exact .cons EqV.same (tq xs λv hv=>h v (ay _ hv))
theorem JV{X:Cx}{Q:VK}{b p q r s:Addr}{xs:List V}(ha:H a=some (.lst [.ref p,.ref q]))(hb:H b=some (.lst [.ref r,.ref s]))(h1:H p=some (.lst xs))(h2:H r=some (.lst xs))(h3:H q=some (.lst ys))(h4:H s=some (.lst ys))(hx:∀ v∈xs,∃ p,v=.ref p)(hy:∀ v∈ys,∃ p,v=.ref p)(k:Q (.bl false) H):rNeL X (.ref a) (.ref b) H Q:=by
  have t:∀ l:List V,(l.map λ_=>true).all id=true:=λl=>by simp
  exact ⟨a,b,_,_,_,1,rfl,rfl,by decide,SqL.of ha,SqL.of hb,.cons (EqV.lst (n:=0) (SqL.of h1) (SqL.of h2) (tq xs hx) (t xs)) (.cons (EqV.lst (n:=0) (SqL.of h3) (SqL.of h4) (tq ys hy) (t ys)) .nil),k⟩
def sdO(D X Y:Int):Sd:=⟨lA X Y D,lB X Y D,lN X Y D⟩
theorem yF(hD:1<=D):Rv D X Y (sdO D X Y):=⟨l_n (!2),xQ (!2),l_a,l_b⟩
theorem wV{s:Sd}(hD:1<=D)(h:Rv D X Y s):s=sdO D X Y:=h.eq (!2) (yF hD)
theorem KQ(hD:1<=D):adS (sdO D X Y) (sdO D X' Y')=sdO D (X+X') (Y+Y'):=wV hD ((yF hD).ad (yF hD))
theorem JI(hD:1<=D):tkS (sdO D X Y) (sdO D X' Y')=sdO D (X - X') (Y - Y'):=wV hD ((yF hD).tk (yF hD))
theorem Rv.un{k:Int}{s:Sd}(hk:k≠0)(h:Rv (D*k) (X*k) (Y*k) s):Rv D X Y s :=
  ⟨h.z1,h.g,aC hk (by have:=h.x; grind),aC hk (by have:=h.y; grind)⟩
theorem JH(hD:1<=D):shS (sdO D X Y) m 1=sdO D (X*m) (Y*m):=by
  have:=(yF (D:=D) (X:=X) (Y:=Y) hD).sh (m:=m) (k:=1) ⋯;rw [cC] at this;exact wV hD this
theorem JD(hD:1<=D)(hm:1<=m):shS (sdO D (X*m) (Y*m)) 1 m=sdO D X Y:=by
  have:=(yF (D:=D) (X:=X*m) (Y:=Y*m) hD).sh (m:=1) (k:=m) hm;simp only [cC] at this;exact wV hD (this.un (!2))
theorem xj(hR:Rt d)(hD:1<=D)(up:sgn d X Y=1)(bX:Bd M X)(bY:Bd M Y):So d D M (sdO D X Y) :=
  ⟨(yF hD).z1,(yF hD).g,(z4 hR hD).trans up,X,Y,bX,bY,(yF hD).x,(yF hD).y⟩
structure Pc where
  n:Nat
  m:Int
  x:Int
  y:Int
def accX:List Pc->Int
  | []=>0
  | p::ps=>p.m*p.x+accX ps
def accY:List Pc->Int
  | []=>0
  | p::ps=>p.m*p.y+accY ps
theorem xf(p:Pc):∀ ps,accX (ps++[p])=accX ps+p.m*p.x
  | []=>by show p.m*p.x+0=0+_; lia
  | q::ps=>by
    show q.m*q.x+accX (ps++[p])=q.m*q.x+accX ps+_;rw [xf p ps]; lia
theorem xh(p:Pc):∀ ps,accY (ps++[p])=accY ps+p.m*p.y
  | []=>by show p.m*p.y+0=0+_; lia
  | q::ps=>by
    show q.m*q.y+accY (ps++[p])=q.m*q.y+accY ps+_;rw [xh p ps]; lia
def gd1(u t:Nat)(p:Pc):DL:=(Dd.shift false p.n p.m,p.n,p.n)::(if t=0 then [] else [(Dd.glue true ((u+2*t - 1:Nat):Int) ((u+2*t - 2:Nat):Int),u+2*t - 1,u+2*t - 2)])
def gth(u:Nat)(pc:List Pc):Nat->DL
  | 0=>[]
  | t+1=>gth u pc t++(match pc[t]? with | some p=>gd1 u t p | none=>[])
theorem wF{u:Nat}{pc:List Pc}:∀ {t:Nat},t<=pc.length->(gth u pc t).length=2*t - 1
  | 0,_=>rfl
  | t+1,h=>by
    have ht:t<pc.length:=h;show (gth u pc t++_).length=_;rw [ae ht,ah,wF (bf ht)];show _+(gd1 u t pc[t]).length=_;unfold gd1;by_cases c:t=0
    . subst c; rfl
    . rw [h9 c];simp only [au,aP]
      lia
structure PcOk(d D px py:Int)(M:Nat)(s:As)(p:Pc):Prop where
  hn:p.n∈s.ns
  m1:1<=p.m
  mb:Bd 1024 p.m
  g:s.g p.n=⟨sdO D (px*p.m) (py*p.m),sdO D p.x p.y⟩
  up:sgn d p.x p.y=1
  bw:Bd M (px*p.m)/\Bd M (py*p.m)
  bh:Bd M p.x/\Bd M p.y
  bm:Bd M (p.m*p.x)/\Bd M (p.m*p.y)
variable {y:Int}
theorem xa{x:Int}(hR:Rt d)(hm:1<=m)(h:sgn d x y=1):sgn d (m*x) (m*y)=1:=(xm hR (k:=1) (m:=m) ⋯ (!2) (by grind) (by grind)).trans h
theorem Ck{d:Int}(hR:Rt d):∀ {ps:List Pc},ps≠[]->(∀ p∈ps,1<=p.m/\sgn d p.x p.y=1)->sgn d (accX ps) (accY ps)=1
  | [p],_,h=>by
    have:=h p aB;show sgn d (p.m*p.x+0) (p.m*p.y+0)=1;rw [cq,cq];exact xa hR this.1 this.2
  | p::q::ps,_,h=>by
    have h1:=h p aB;have h2:=Ck hR (ps:=q::ps) (!1) (λr hr=>h r (ay _ hr));exact uM hR (xa hR h1.1 h1.2) h2
theorem Ek{s:As}{n:Nat}(z:Sz D K' M)(hn:n∈s.ns)(m1:1<=m)(mb:Bd 1024 m)(ow:So d D M (s.g n).w)(oh:So d D M (s.g n).h):Stp d tn s (.shift al n m,n,n) :=
  ⟨⟨rfl,hn,hn,(λh=>nomatch h),λ_=>rfl⟩,⟨m1,mb⟩,⟨m1,mb,z.sy ow,z.sy oh⟩,(λh=>nomatch h)⟩
theorem Gg{s:As}{n m:Nat}(z:Sz D K' M)(hn:n∈s.ns)(hm:m∈s.ns)(nm:n≠m)(ew:(s.g n).w=(s.g m).w)(oh:So d D M (s.g n).h)(oh':So d D M (s.g m).h):Stp d tn s (.glue true n m,n,m) :=
  ⟨⟨rfl,hn,hm,λ_=>nm,(λh=>nomatch h)⟩,trivial,⟨ew,z.sy oh,z.sy oh'⟩,(λh=>nomatch h)⟩
theorem yD{s:As}{fs:DL}:ends s (es++fs)=ends (ends s es) fs:=by unfold ends; rw [df]
structure Stq(d D:Int)(M:Nat)(tn:Bool)(s:As)(x:Dd×Nat×Nat):Prop where
  st:Stp d tn s x
  nw:∀ b∈x.1.new (s.g x.2.1) (s.g x.2.2),BoD d D M b
def WalkB(d D:Int)(M:Nat)(tn:Bool)(s:As)(es:DL):Prop:=∀ (i:Nat) (x:Dd×Nat×Nat),es[i]?=some x->Stq d D M tn (ends s (es.take i)) x
theorem WalkB.walk{s:As}(h:WalkB d D M tn s es):Walk d tn s es:=λi x hx=>(h i x hx).st
theorem ww{s:As}{fs:DL}(h:WalkB d D M tn s es)(g:WalkB d D M tn (ends s es) fs):WalkB d D M tn s (es++fs):=λi x hx=>by
  by_cases c:i<es.length
  . rw [aM c] at hx;rw [cB (!2)];exact h i x hx
  . rw [aH (!2)] at hx;have e:(es++fs).take i=es++fs.take (i - es.length):=by rw [gx,bJ (!2)]
    rw [e,yD];exact g _ x hx
theorem wI{s:As}(h:WalkB d D M tn s es)(g:Stq d D M tn (ends s es) x):WalkB d D M tn s (es++[x]):=ww h λi y hy=>by
  have:i=0:=by
    have:=(af.mp hy).1;simp only [au,aP] at this
    lia
  subst this;have e:x=y:=ax hy;subst e;exact g
structure Gst(d D px py:Int)(M:Nat)(tn:Bool)(s0:As)(pc:List Pc)(t:Nat):Prop where
  w:WalkB d D M tn s0 (gth s0.k pc t)
  k:(ends s0 (gth s0.k pc t)).k=s0.k+(2*t - 1)
  mem:∀ j,j∈(ends s0 (gth s0.k pc t)).ns↔(j∈s0.ns/\∀ i p,i<t->pc[i]?=some p->p.n≠j)\/(0<t/\j=s0.k+2*t - 2)
  g:0<t->(ends s0 (gth s0.k pc t)).g (s0.k+2*t - 2)=⟨sdO D px py,sdO D (accX (pc.take t)) (accY (pc.take t))⟩
theorem EO{d D px py:Int}{M K':Nat}{tn:Bool}{s0:As}{pc:List Pc}(hR:Rt d)(z:Sz D K' M)(lt:∀ n∈s0.ns,n<s0.k)(hp:∀ p∈pc,PcOk d D px py M s0 p)(nd:(pc.map Pc.n).Nodup)(up:sgn d px py=1)(bp:Bd M px/\Bd M py) (ba:∀ t,Bd M (accX (pc.take t))/\Bd M (accY (pc.take t))):∀ t,t<=pc.length->Gst d D px py M tn s0 pc t
  | 0,_=>⟨λi x h=>by simp [gth] at h,rfl,λj=>by
      show j∈s0.ns↔_;constructor
      . exact λh=>.inl ⟨h,λi p hi=>absurd hi (!2)⟩
      . rintro (h | h)
        . exact h.1
        . lia,λh=>absurd h (!2)⟩
  | t+1,ht=>by
    have ih:=EO (tn:=tn) hR z lt hp nd up bp ba t (bf ht);have ht':t<pc.length:=ht;have hD:=z.d1;obtain ⟨p,hpt⟩:∃ p,pc[t]?=some p:=⟨_,ae ht'⟩
    have hpm:=ar hpt;have pk:=hp p hpm;have eg:gth s0.k pc (t+1)=gth s0.k pc t++gd1 s0.k t p:=by
      show gth s0.k pc t++_=_;rw [hpt]
    have acx:accX (pc.take (t+1))=accX (pc.take t)+p.m*p.x:=by rw [a8,hpt]; exact xf p _
    have acy:accY (pc.take (t+1))=accY (pc.take t)+p.m*p.y:=by rw [a8,hpt]; exact xh p _
    obtain ⟨w,k,mem,g⟩:=ih;have gk:∀ n,n<s0.k->(ends s0 (gth s0.k pc t)).g n=s0.g n:=λn h=>uk h;generalize hs:ends s0 (gth s0.k pc t)=s at *
    have pnk:=lt p.n pk.hn;have hn:p.n∈s.ns:=(mem p.n).mpr (.inl ⟨pk.hn,λi q hi hq c=>by
      have h1:(pc.map Pc.n)[i]?=some p.n:=by rw [ag,hq,<-c]; rfl
      have h2:(pc.map Pc.n)[t]?=some p.n:=by rw [ag,hpt]; rfl
      have:=(dD (i:=i) (by rw [aa]; lia) nd).mp (h1.trans h2.symm)
      lia⟩)
    have hg:s.g p.n=⟨sdO D (px*p.m) (py*p.m),sdO D p.x p.y⟩:=(gk _ pnk).trans pk.g;have upw:sgn d (px*p.m) (py*p.m)=1:=by rw [av px,av py]; exact xa hR pk.m1 up
    have st1:Stp d tn s (.shift false p.n p.m,p.n,p.n):=Ek z hn pk.m1 pk.mb (by rw [hg]; exact xj hR hD upw pk.bw.1 pk.bw.2) (by rw [hg]; exact xj hR hD pk.up pk.bh.1 pk.bh.2);have nw1:(Dd.shift false p.n p.m).new (s.g p.n) (s.g p.n)=[⟨sdO D px py,sdO D (p.m*p.x) (p.m*p.y)⟩]:=by
      show [(⟨shS (s.g p.n).w 1 p.m,shS (s.g p.n).h p.m 1⟩:Bo)]=_;rw [hg,av p.m,av p.m];show [(⟨shS (sdO D (px*p.m) (py*p.m)) 1 p.m,shS (sdO D p.x p.y) p.m 1⟩:Bo)]=_;rw [JD hD pk.m1,JH hD]
    have w1:WalkB d D M tn s0 (gth s0.k pc t++[(.shift false p.n p.m,p.n,p.n)]):=wI w (by
      rw [hs];refine ⟨st1,λb hb=>?_⟩;have hb:b∈(Dd.shift false p.n p.m).new (s.g p.n) (s.g p.n):=hb;rw [nw1] at hb;rw [ak.mp hb];exact ⟨xj hR hD up bp.1 bp.2,xj hR hD (xa hR pk.m1 pk.up) pk.bm.1 pk.bm.2⟩)
    have e1:ends s0 (gth s0.k pc t++[(Dd.shift false p.n p.m,p.n,p.n)])=s.next (.shift false p.n p.m,p.n,p.n):=by rw [ve,hs]
    have g1:(s.next (.shift false p.n p.m,p.n,p.n)).g s.k=⟨sdO D px py,sdO D (p.m*p.x) (p.m*p.y)⟩:=by
      exact yu (j:=0) (by show ((Dd.shift false p.n p.m).new (s.g p.n) (s.g p.n))[0]?=_; rw [nw1]; rfl)
    have k1:(s.next (.shift false p.n p.m,p.n,p.n)).k=s.k+1:=xr s _;have m1:∀ j,j∈(s.next (.shift false p.n p.m,p.n,p.n)).ns↔(j∈s.ns/\j≠p.n)\/j=s.k:=λj=>by
      rw [mem_next];show (j∈s.ns/\(j:Int)∉[(p.n:Int)])\/(s.k<=j/\j<s.k+1)↔_;rw [ak];grind
    have lt':∀ i q,i<t+1->pc[i]?=some q->i<t\/q=p:=λi q hi hq=>by
      by_cases c:i<t
      . exact .inl c
      . have:i=t:=by lia
        subst this;exact .inr (ax (hq.symm.trans hpt))
    by_cases c0:t=0
    . subst c0;have eg':gth s0.k pc (0+1)=gth s0.k pc 0++[(.shift false p.n p.m,p.n,p.n)]:=eg;have ss:s=s0:=hs.symm;refine ⟨by rw [eg']; exact w1,by rw [eg',e1,k1,ss],λj=>?_,λ_=>?_⟩
      . rw [eg',e1,m1,ss];grind
      . rw [eg',e1,show s0.k+2*(0+1) - 2=s.k by rw [ss]; lia,g1,acx,acy];rw [show accX (pc.take 0)=0 from rfl,show accY (pc.take 0)=0 from rfl,dg,dg]
    . have eg':gth s0.k pc (t+1)=gth s0.k pc t++[(Dd.shift false p.n p.m,p.n,p.n)]++[(Dd.glue true ((s0.k+2*t - 1:Nat):Int) ((s0.k+2*t - 2:Nat):Int),s0.k+2*t - 1,s0.k+2*t - 2)]:=by
        rw [eg];unfold gd1;rw [h9 c0,bB];rfl
      have sk:s.k=s0.k+2*t - 1:=by lia
      have hacc:=g (!2);generalize hs1:s.next (.shift false p.n p.m,p.n,p.n)=s1 at *
      have n1:s0.k+2*t - 1∈s1.ns:=(m1 _).mpr (.inr sk.symm);have n2:s0.k+2*t - 2∈s1.ns:=(m1 _).mpr (.inl ⟨(mem _).mpr (.inr ⟨by lia,rfl⟩),by lia⟩);have g1':s1.g (s0.k+2*t - 1)=⟨sdO D px py,sdO D (p.m*p.x) (p.m*p.y)⟩:=by rw [<-sk]; exact g1
      have g2':s1.g (s0.k+2*t - 2)=⟨sdO D px py,sdO D (accX (pc.take t)) (accY (pc.take t))⟩:=by
        rw [<-hs1];exact (vy (!2)).trans hacc
      have upa:sgn d (accX (pc.take t)) (accY (pc.take t))=1:=Ck hR (λc=>by
        have:=congrArg List.length c;rw [aK,aP] at this
        lia) λq hq=>⟨(hp q (bO hq)).m1,(hp q (bO hq)).up⟩
      have st2:Stp d tn s1 (.glue true ((s0.k+2*t - 1:Nat):Int) ((s0.k+2*t - 2:Nat):Int),s0.k+2*t - 1,s0.k+2*t - 2) :=
        Gg z n1 n2 (!2) (by rw [g1',g2']) (by rw [g1']; exact xj hR hD (xa hR pk.m1 pk.up) pk.bm.1 pk.bm.2) (by rw [g2']; exact xj hR hD upa (ba t).1 (ba t).2)
      have nw2:(Dd.glue true ((s0.k+2*t - 1:Nat):Int) ((s0.k+2*t - 2:Nat):Int)).new (s1.g (s0.k+2*t - 1)) (s1.g (s0.k+2*t - 2))=[⟨sdO D px py,sdO D (accX (pc.take (t+1))) (accY (pc.take (t+1)))⟩]:=by
        show [(⟨(s1.g (s0.k+2*t - 1)).w,adS (s1.g (s0.k+2*t - 1)).h (s1.g (s0.k+2*t - 2)).h⟩:Bo)]=_;rw [g1',g2',acx,acy];show [(⟨sdO D px py,adS (sdO D (p.m*p.x) (p.m*p.y)) (sdO D (accX (pc.take t)) (accY (pc.take t)))⟩:Bo)]=_;rw [KQ hD,fD (p.m*p.x),fD (p.m*p.y)]
      have upb:sgn d (accX (pc.take (t+1))) (accY (pc.take (t+1)))=1:=Ck hR (λc=>by
        have:=congrArg List.length c;rw [aK,aP] at this
        lia) λq hq=>⟨(hp q (bO hq)).m1,(hp q (bO hq)).up⟩
      have w2:=wI w1 (by
        rw [e1];refine ⟨st2,λb hb=>?_⟩;have hb:b∈(Dd.glue true ((s0.k+2*t - 1:Nat):Int) ((s0.k+2*t - 2:Nat):Int)).new (s1.g (s0.k+2*t - 1)) (s1.g (s0.k+2*t - 2)):=hb;rw [nw2] at hb;rw [ak.mp hb];exact ⟨xj hR hD up bp.1 bp.2,xj hR hD upb (ba (t+1)).1 (ba (t+1)).2⟩)
      have e2:=ve (s:=s0) (es:=gth s0.k pc t++[(Dd.shift false p.n p.m,p.n,p.n)]) (x:=(Dd.glue true ((s0.k+2*t - 1:Nat):Int) ((s0.k+2*t - 2:Nat):Int),s0.k+2*t - 1,s0.k+2*t - 2));rw [e1] at e2;have k2:=xr s1 (Dd.glue true ((s0.k+2*t - 1:Nat):Int) ((s0.k+2*t - 2:Nat):Int),s0.k+2*t - 1,s0.k+2*t - 2);have k2:(s1.next (Dd.glue true ((s0.k+2*t - 1:Nat):Int) ((s0.k+2*t - 2:Nat):Int),s0.k+2*t - 1,s0.k+2*t - 2)).k=s1.k+1:=k2;refine ⟨by rw [eg']; exact w2,by rw [eg',e2,k2]; lia,λj=>?_,λ_=>?_⟩
      . rw [eg',e2,mem_next];show (j∈s1.ns/\(j:Int)∉[((s0.k+2*t - 1:Nat):Int),((s0.k+2*t - 2:Nat):Int)])\/(s1.k<=j/\j<s1.k+1)↔_;rw [aN,ak,m1,mem];have:=lt j;grind
      . rw [eg',e2,show s0.k+2*(t+1) - 2=s1.k by lia];exact yu (j:=0) (by rw [nw2]; rfl)
theorem GK{a:Nat}{xs ys:List Nat}(h:(xs++ys).Nodup)(n:a∉xs++ys):(xs++([a]++ys)).Nodup:=by
  have hp:(xs++([a]++ys)).Perm (a::(xs++ys)):=by
    rw [List.singleton_append];exact List.perm_middle
  exact hp.nodup_iff.mpr (db.mpr ⟨n,h⟩)
theorem Gu{a:Nat}{xs:List Nat}(h:xs.Nodup)(n:a∉xs):(xs++[a]).Nodup:=by
  have hp:(xs++[a]).Perm (a::xs):=List.perm_append_singleton a xs;exact hp.nodup_iff.mpr (db.mpr ⟨n,h⟩)
structure Bx where
  i:Int
  j:Int
  x:Int
  y:Int
structure Bas(d:Int)(M:Nat)(px py qx qy:Int):Prop where
  up:sgn d px py=1
  uq:sgn d qx qy=1
  bp:Bd M px/\Bd M py
  bq:Bd M qx/\Bd M qy
structure BxOk(d px py qx qy:Int)(M0 M:Nat)(b:Bx):Prop where
  i0:0<=b.i
  j0:0<=b.j
  ne:b.i≠0\/b.j≠0
  bi:Bd 1024 b.i
  bj:Bd 1024 b.j
  up:sgn d b.x b.y=1
  bh:Bd M b.x/\Bd M b.y
  bpi:Bd M (px*b.i)/\Bd M (py*b.i)
  bqj:Bd M (qx*b.j)/\Bd M (qy*b.j)
  bw:Bd M (px*b.i+qx*b.j)/\Bd M (py*b.i+qy*b.j)
  bxi:Bd M0 (b.i*b.x)/\Bd M0 (b.i*b.y)
  bxj:Bd M0 (b.j*b.x)/\Bd M0 (b.j*b.y)
def Bx.bo(D px py qx qy:Int)(b:Bx):Bo:=⟨sdO D (px*b.i+qx*b.j) (py*b.i+qy*b.j),sdO D b.x b.y⟩
structure Np where
  ds:DL
  F:List Pc
  O:List Pc
  u:Nat
def np1(D px py:Int)(n:Nat)(hb:List Bx):Nat->Np
  | 0=>⟨[],[],[],n⟩
  | t+1=>match hb[t]? with
    | none=>np1 D px py n hb t
    | some b=>if b.j=0 then ⟨(np1 D px py n hb t).ds,(np1 D px py n hb t).F++[⟨t,b.i,b.x,b.y⟩],(np1 D px py n hb t).O,(np1 D px py n hb t).u⟩
      else if b.i=0 then ⟨(np1 D px py n hb t).ds,(np1 D px py n hb t).F,(np1 D px py n hb t).O++[⟨t,b.j,b.x,b.y⟩],(np1 D px py n hb t).u⟩
      else ⟨(np1 D px py n hb t).ds++[(.cut false t (sdO D (px*b.i) (py*b.i)),t,t)],(np1 D px py n hb t).F++[⟨(np1 D px py n hb t).u,b.i,b.x,b.y⟩],(np1 D px py n hb t).O++[⟨(np1 D px py n hb t).u+1,b.j,b.x,b.y⟩],(np1 D px py n hb t).u+2⟩
def sI(f:Bx->Int):List Bx->Int
  | []=>0
  | b::l=>f b+sI f l
theorem yx(f:Bx->Int)(b:Bx):∀ l,sI f (l++[b])=sI f l+f b
  | []=>by show f b+0=0+_; lia
  | c::l=>by
    show f c+sI f (l++[b])=f c+sI f l+_;rw [yx f b l]; lia
structure PcG(d D px py:Int)(M0 M:Nat)(s:As)(p:Pc):Prop where
  m1:1<=p.m
  mb:Bd 1024 p.m
  lt:p.n<s.k
  g:s.g p.n=⟨sdO D (px*p.m) (py*p.m),sdO D p.x p.y⟩
  up:sgn d p.x p.y=1
  bw:Bd M (px*p.m)/\Bd M (py*p.m)
  bh:Bd M p.x/\Bd M p.y
  bm:Bd M0 (p.m*p.x)/\Bd M0 (p.m*p.y)
theorem PcG.next{d D px py:Int}{M0 M:Nat}{s:As}{p:Pc}(h:PcG d D px py M0 M s p)(x:Dd×Nat×Nat):PcG d D px py M0 M (s.next x) p :=
  ⟨h.m1,h.mb,by rw [xr]; have:=h.lt; lia,(show gN s.g s.k _ p.n=_ from vy h.lt).trans h.g,h.up,h.bw,h.bh,h.bm⟩
theorem PcG.ends{d D px py:Int}{M0 M:Nat}{s:As}{p:Pc}(h:PcG d D px py M0 M s p)(es:DL):PcG d D px py M0 M (ends s es) p :=
  ⟨h.m1,h.mb,by rw [xE]; have:=h.lt; lia,(uk h.lt).trans h.g,h.up,h.bw,h.bh,h.bm⟩
variable {px py:Int}{M0:Nat}
theorem PcG.ok{s:As}{p:Pc}(h:PcG d D px py M0 M s p)(hM:M0<=M)(hn:p.n∈s.ns):PcOk d D px py M s p:=⟨hn,h.m1,h.mb,h.g,h.up,h.bw,h.bh,h.bm.1.mono hM,h.bm.2.mono hM⟩
structure N1(d D px py qx qy:Int)(M0 M:Nat)(tn:Bool)(s0:As)(n:Nat)(hb:List Bx)(t:Nat)(r:Np):Prop where
  w:WalkB d D M tn s0 r.ds
  k:(ends s0 r.ds).k=r.u
  nu:n<=r.u
  mem:∀ j,j∈(ends s0 r.ds).ns↔(t<=j/\j<n)\/j∈r.F.map Pc.n\/j∈r.O.map Pc.n
  nd:(r.F.map Pc.n++r.O.map Pc.n).Nodup
  ap:∀ j∈r.F.map Pc.n++r.O.map Pc.n,j<r.u/\(j<t\/n<=j)
  okF:∀ p∈r.F,PcG d D px py M0 M (ends s0 r.ds) p
  okO:∀ p∈r.O,PcG d D qx qy M0 M (ends s0 r.ds) p
  aF:accX r.F=sI (λb=>b.i*b.x) (hb.take t)/\accY r.F=sI (λb=>b.i*b.y) (hb.take t)
  aO:accX r.O=sI (λb=>b.j*b.x) (hb.take t)/\accY r.O=sI (λb=>b.j*b.y) (hb.take t)
  len:r.ds.length<=t/\r.F.length<=t/\r.O.length<=t
theorem GL{d D px py qx qy:Int}{M0 M K':Nat}{tn:Bool}{s0:As}{hb:List Bx}(hR:Rt d)(z:Sz D K' M)(bs:Bas d M px py qx qy)(hk:s0.k=hb.length)(hns:s0.ns=List.range hb.length)(hg:∀ (k:Nat) (b:Bx),hb[k]?=some b->s0.g k=b.bo D px py qx qy) (ok:∀ b∈hb,BxOk d px py qx qy M0 M b):∀ t,t<=hb.length->N1 d D px py qx qy M0 M tn s0 hb.length hb t (np1 D px py hb.length hb t)
  | 0,_=>⟨λi x h=>by simp [np1] at h,hk,ai _,λj=>by
      show j∈s0.ns↔_;rw [hns,bC];simp [np1],by simp [np1],λj hj=>by simp [np1] at hj,λp hp=>by simp [np1] at hp,λp hp=>by simp [np1] at hp,⟨rfl,rfl⟩,⟨rfl,rfl⟩,⟨ai _,ai _,ai _⟩⟩
  | t+1,ht=>by
    have ht':t<hb.length:=ht;have ih:=GL (tn:=tn) hR z bs hk hns hg ok t (bf ht);obtain ⟨b,hbt⟩:∃ b,hb[t]?=some b:=⟨_,ae ht'⟩
    have bk:=ok b (ar hbt);have hD:=z.d1;have e:np1 D px py hb.length hb (t+1)=if b.j=0 then ⟨(np1 D px py hb.length hb t).ds,(np1 D px py hb.length hb t).F++[⟨t,b.i,b.x,b.y⟩],(np1 D px py hb.length hb t).O,(np1 D px py hb.length hb t).u⟩
      else if b.i=0 then ⟨(np1 D px py hb.length hb t).ds,(np1 D px py hb.length hb t).F,(np1 D px py hb.length hb t).O++[⟨t,b.j,b.x,b.y⟩],(np1 D px py hb.length hb t).u⟩
      else ⟨(np1 D px py hb.length hb t).ds++[(.cut false t (sdO D (px*b.i) (py*b.i)),t,t)],(np1 D px py hb.length hb t).F++[⟨(np1 D px py hb.length hb t).u,b.i,b.x,b.y⟩],(np1 D px py hb.length hb t).O++[⟨(np1 D px py hb.length hb t).u+1,b.j,b.x,b.y⟩],(np1 D px py hb.length hb t).u+2⟩:=by
      show (match hb[t]? with | none=>_ | some b=>_)=_;rw [hbt]
    rw [e];generalize np1 D px py hb.length hb t=r at ih;have tk:hb.take (t+1)=hb.take t++[b]:=by rw [a8,hbt]; rfl
    have tmem:t∈(ends s0 r.ds).ns:=(ih.mem t).mpr (.inl ⟨ai _,ht'⟩);have tnot:t∉r.F.map Pc.n++r.O.map Pc.n:=λh=>by have:=(ih.ap t h).2; lia
    have gt:(ends s0 r.ds).g t=b.bo D px py qx qy:=(uk (!2)).trans (hg t b hbt);have tku:t<(ends s0 r.ds).k:=by rw [ih.k]; have:=ih.nu; lia
    obtain ⟨l1,l2,l3⟩:=ih.len;by_cases cj:b.j=0
    . rw [h8 cj];have bi1:1<=b.i:=by have:=bk.i0; have:=bk.ne; lia
      refine ⟨ih.w,ih.k,ih.nu,λj=>?_,?_,λj hj=>?_,λp hp=>?_,ih.okO,⟨?_,?_⟩,⟨?_,?_⟩,⟨by show r.ds.length<=_; lia,by show (r.F++_).length<=_; rw [ah]; simp only [au,aP]; lia,by show r.O.length<=_; lia⟩⟩
      . show j∈(ends s0 r.ds).ns↔_\/j∈(r.F++[_]).map Pc.n\/_;rw [ih.mem,aj,aw,aU,cK,ak];show _↔_\/(_\/j=t)\/_;grind
      . show ((r.F++[_]).map Pc.n++r.O.map Pc.n).Nodup;rw [aj,bB];exact GK ih.nd tnot
      . have hj:j∈(r.F++[_]).map Pc.n++r.O.map Pc.n:=hj;rw [aj,bB,aw,aw,aU,cK,ak] at hj;have hj:j∈r.F.map Pc.n\/j=t\/j∈r.O.map Pc.n:=hj;rcases hj with h|h|h
        . have:=ih.ap j (cf _ h); exact ⟨this.1,by lia⟩
        . have:=ih.nu; exact ⟨by show j<r.u; lia,by lia⟩
        . have:=ih.ap j (aW _ h); exact ⟨this.1,by lia⟩
      . rcases aw.mp hp with h | h
        . exact ih.okF p h
        . rw [ak.mp h];refine ⟨bi1,bk.bi,tku,?_,bk.up,bk.bpi,bk.bh,bk.bxi⟩;rw [gt];show (⟨sdO D (px*b.i+qx*b.j) (py*b.i+qy*b.j),sdO D b.x b.y⟩:Bo)=_;rw [cj,cL,cL,cq,cq]
      . show accX (r.F++[_])=_;rw [xf,ih.aF.1,tk,yx]
      . show accY (r.F++[_])=_;rw [xh,ih.aF.2,tk,yx]
      . show accX r.O=_;rw [ih.aO.1,tk,yx,cj,bR,cq]
      . show accY r.O=_;rw [ih.aO.2,tk,yx,cj,bR,cq]
    . rw [h9 cj];have bj1:1<=b.j:=by have:=bk.j0; lia
      by_cases ci:b.i=0
      . rw [h8 ci];refine ⟨ih.w,ih.k,ih.nu,λj=>?_,?_,λj hj=>?_,ih.okF,λp hp=>?_,⟨?_,?_⟩,⟨?_,?_⟩,⟨by show r.ds.length<=_; lia,by show r.F.length<=_; lia,by show (r.O++_).length<=_; rw [ah]; simp only [au,aP]; lia⟩⟩
        . show j∈(ends s0 r.ds).ns↔_\/_\/j∈(r.O++[_]).map Pc.n;rw [ih.mem,aj,aw,aU,cK,ak];show _↔_\/_\/_\/j=t;grind
        . show (r.F.map Pc.n++(r.O++[_]).map Pc.n).Nodup;rw [aj,<-bB];exact Gu ih.nd tnot
        . have hj:j∈r.F.map Pc.n++(r.O++[_]).map Pc.n:=hj;rw [aj,<-bB,aw,aU,cK,ak] at hj;have hj:j∈r.F.map Pc.n++r.O.map Pc.n\/j=t:=hj;rcases hj with h|h
          . have:=ih.ap j h; exact ⟨this.1,by lia⟩
          . have:=ih.nu; exact ⟨by show j<r.u; lia,by lia⟩
        . rcases aw.mp hp with h | h
          . exact ih.okO p h
          . rw [ak.mp h];refine ⟨bj1,bk.bj,tku,?_,bk.up,bk.bqj,bk.bh,bk.bxj⟩;rw [gt];show (⟨sdO D (px*b.i+qx*b.j) (py*b.i+qy*b.j),sdO D b.x b.y⟩:Bo)=_;rw [ci,cL,cL,dg,dg]
        . show accX r.F=_;rw [ih.aF.1,tk,yx,ci,bR,cq]
        . show accY r.F=_;rw [ih.aF.2,tk,yx,ci,bR,cq]
        . show accX (r.O++[_])=_;rw [xf,ih.aO.1,tk,yx]
        . show accY (r.O++[_])=_;rw [xh,ih.aO.2,tk,yx]
      . rw [h9 ci];have bi1:1<=b.i:=by have:=bk.i0; lia
        have upi:sgn d (px*b.i) (py*b.i)=1:=by rw [av px,av py]; exact xa hR bi1 bs.up
        have uqj:sgn d (qx*b.j) (qy*b.j)=1:=by rw [av qx,av qy]; exact xa hR bj1 bs.uq
        have upw:sgn d (px*b.i+qx*b.j) (py*b.i+qy*b.j)=1:=uM hR upi uqj;have so_w:=xj (D:=D) hR hD upw bk.bw.1 bk.bw.2;have so_s:=xj (D:=D) hR hD upi bk.bpi.1 bk.bpi.2;have so_t:=xj (D:=D) hR hD uqj bk.bqj.1 bk.bqj.2;have tke:tkS (sdO D (px*b.i+qx*b.j) (py*b.i+qy*b.j)) (sdO D (px*b.i) (py*b.i))=sdO D (qx*b.j) (qy*b.j):=by
          rw [JI hD];congr 1 <;> lia
        have stp:Stp d tn (ends s0 r.ds) (.cut false t (sdO D (px*b.i) (py*b.i)),t,t):=by
          refine ⟨⟨rfl,tmem,tmem,(λh=>nomatch h),λ_=>rfl⟩,z.sy so_s,?_,(λh=>nomatch h)⟩;show EU d ((ends s0 r.ds).g t).w _;rw [gt];exact A1 hR z so_w so_s (by show So d D M (tkS (sdO D _ _) _); rw [tke]; exact so_t)
        have e1:ends s0 (r.ds++[(Dd.cut false t (sdO D (px*b.i) (py*b.i)),t,t)])=(ends s0 r.ds).next (.cut false t (sdO D (px*b.i) (py*b.i)),t,t):=ve;have nw:(Dd.cut false t (sdO D (px*b.i) (py*b.i))).new ((ends s0 r.ds).g t) ((ends s0 r.ds).g t)=[⟨sdO D (px*b.i) (py*b.i),sdO D b.x b.y⟩,⟨sdO D (qx*b.j) (qy*b.j),sdO D b.x b.y⟩]:=by
          rw [gt];show [(⟨_,sdO D b.x b.y⟩:Bo),⟨tkS (sdO D (px*b.i+qx*b.j) (py*b.i+qy*b.j)) (sdO D (px*b.i) (py*b.i)),sdO D b.x b.y⟩]=_;rw [tke]
        have w1:=wI ih.w ⟨stp,λc hc=>by
          have hc:c∈(Dd.cut false t (sdO D (px*b.i) (py*b.i))).new ((ends s0 r.ds).g t) ((ends s0 r.ds).g t):=hc;rw [nw] at hc;have so_h:=xj (D:=D) hR hD bk.up bk.bh.1 bk.bh.2;rcases aN.mp hc with rfl|hc
          . exact ⟨so_s,so_h⟩
          . rw [ak.mp hc];exact ⟨so_t,so_h⟩⟩
        have k1:=xr (ends s0 r.ds) (Dd.cut false t (sdO D (px*b.i) (py*b.i)),t,t);rw [ih.k] at k1;have k1:((ends s0 r.ds).next (Dd.cut false t (sdO D (px*b.i) (py*b.i)),t,t)).k=r.u+2:=k1;have g0:((ends s0 r.ds).next (Dd.cut false t (sdO D (px*b.i) (py*b.i)),t,t)).g r.u=⟨sdO D (px*b.i) (py*b.i),sdO D b.x b.y⟩:=by
          rw [<-ih.k];exact yu (j:=0) (by rw [nw]; rfl)
        have g1:((ends s0 r.ds).next (Dd.cut false t (sdO D (px*b.i) (py*b.i)),t,t)).g (r.u+1)=⟨sdO D (qx*b.j) (qy*b.j),sdO D b.x b.y⟩:=by
          rw [<-ih.k];exact yu (j:=1) (by rw [nw]; rfl)
        have nu:=ih.nu;have unot:∀ j,r.u<=j->j∉r.F.map Pc.n++r.O.map Pc.n:=λj hj h=>by have:=(ih.ap j h).1; lia
        refine ⟨w1,by show (ends s0 (r.ds++_)).k=_; rw [e1,k1],by show _<=r.u+2; lia,λj=>?_,?_,λj hj=>?_,λp hp=>?_,λp hp=>?_,⟨?_,?_⟩,⟨?_,?_⟩,⟨by show (r.ds++_).length<=_; rw [ah]; simp only [au,aP]; lia,by show (r.F++_).length<=_; rw [ah]; simp only [au,aP]; lia,by show (r.O++_).length<=_; rw [ah]; simp only [au,aP]; lia⟩⟩
        . show j∈(ends s0 (r.ds++_)).ns↔_\/j∈(r.F++[_]).map Pc.n\/j∈(r.O++[_]).map Pc.n;rw [e1,mem_next,ih.k,aj,aj,aw,aw,aU,cK,ak,aU,cK,ak,ih.mem];show (_/\(j:Int)∉[(t:Int)])\/(r.u<=j/\j<r.u+2)↔_\/(_\/j=r.u)\/_\/j=r.u+1;rw [ak];grind
        . show ((r.F++[_]).map Pc.n++(r.O++[_]).map Pc.n).Nodup;rw [aj,aj];have h1:(r.F.map Pc.n++([r.u]++r.O.map Pc.n)).Nodup:=GK ih.nd (unot _ (ai _));have h2:=Gu (a:=r.u+1) h1 (λh=>by
            rcases aw.mp h with h|h
            . exact unot _ (!2) (cf _ h)
            . rcases aw.mp h with h | h
              . rw [ak] at h; lia
              . exact unot _ (!2) (aW _ h))
          simp only [bB] at h2 ⊢;exact h2
        . have hj:j∈(r.F++[_]).map Pc.n++(r.O++[_]).map Pc.n:=hj;rw [aj,aj,aw,aw,aw,aU,cK,ak,aU,cK,ak] at hj;have hj:(j∈r.F.map Pc.n\/j=r.u)\/j∈r.O.map Pc.n\/j=r.u+1:=hj;show j<r.u+2/\_;rcases hj with (h|h)|h|h
          . have:=ih.ap j (cf _ h); lia
          . lia
          . have:=ih.ap j (aW _ h); lia
          . lia
        . show PcG d D px py M0 M (ends s0 (r.ds++_)) p;rw [e1];rcases aw.mp hp with h|h
          . exact (ih.okF p h).next _
          . rw [ak.mp h];exact ⟨bi1,bk.bi,by rw [k1]; show r.u<_; lia,g0,bk.up,bk.bpi,bk.bh,bk.bxi⟩
        . show PcG d D qx qy M0 M (ends s0 (r.ds++_)) p;rw [e1];rcases aw.mp hp with h|h
          . exact (ih.okO p h).next _
          . rw [ak.mp h];exact ⟨bj1,bk.bj,by rw [k1]; show r.u+1<_; lia,g1,bk.up,bk.bqj,bk.bh,bk.bxj⟩
        . show accX (r.F++[_])=_;rw [xf,ih.aF.1,tk,yx]
        . show accY (r.F++[_])=_;rw [xh,ih.aF.2,tk,yx]
        . show accX (r.O++[_])=_;rw [xf,ih.aO.1,tk,yx]
        . show accY (r.O++[_])=_;rw [xh,ih.aO.2,tk,yx]
theorem Fb{M0:Nat}:∀ {ps:List Pc},(∀ p∈ps,Bd M0 (p.m*p.x)/\Bd M0 (p.m*p.y))->Bd (M0+ps.length) (accX ps)/\Bd (M0+ps.length) (accY ps)
  | [],_=>⟨gQ _,gQ _⟩
  | p::ps,h=>by
    have h1:=h p aB;have h2:=Fb (ps:=ps) λq hq=>h q (ay _ hq);rw [au,<-gi];exact ⟨Bd.add (h1.1.mono (dj _ _)) h2.1,Bd.add (h1.2.mono (dj _ _)) h2.2⟩
def hp1(D px py X Y:Int):List Bo:=if X=0/\Y=0 then [] else [⟨sdO D px py,sdO D X Y⟩]
theorem Ds(hR:Rt d){ps:List Pc}(h:∀ p∈ps,1<=p.m/\sgn d p.x p.y=1):hp1 D px py (accX ps) (accY ps)=if ps=[] then [] else [⟨sdO D px py,sdO D (accX ps) (accY ps)⟩]:=by
  unfold hp1;by_cases c:ps=[]
  . subst c;rw [h8 ⟨rfl,rfl⟩,h8 rfl]
  . rw [h9 c,h9];rintro ⟨h1,h2⟩;have:=Ck hR c h;rw [h1,h2] at this;exact absurd this (by unfold sgn; simp)
def npl(D px py:Int)(hb:List Bx):DL:=(np1 D px py hb.length hb hb.length).ds++(gth (np1 D px py hb.length hb hb.length).u (np1 D px py hb.length hb hb.length).F (np1 D px py hb.length hb hb.length).F.length++gth ((np1 D px py hb.length hb hb.length).u+(2*(np1 D px py hb.length hb hb.length).F.length - 1)) (np1 D px py hb.length hb hb.length).O (np1 D px py hb.length hb hb.length).O.length)
theorem B2:∀ {xs ys:List Nat},xs.Pairwise (· < ·)->ys.Pairwise (· < ·)->(∀ j,j∈xs↔j∈ys)->xs=ys:=λ{xs ys} hx hy h =>
  dN (λa b _ _ h k=>Nat.le_antisymm h k) (hx.imp bf) (hy.imp bf) ((fq (xG hx) (xG hy)).mpr h)
theorem Ko{qx qy:Int}{s0:As}{hb:List Bx}(hR:Rt d)(z:Sz D K' M)(bs:Bas d M px py qx qy)(hk:s0.k=hb.length)(hns:s0.ns=List.range hb.length)(hg:∀ (k:Nat) (b:Bx),hb[k]?=some b->s0.g k=b.bo D px py qx qy)(ok:∀ b∈hb,BxOk d px py qx qy M0 M b)(hM:M0+hb.length<=M)(h1:1<=hb.length):WalkB d D M tn s0 (npl D px py hb)/\(npl D px py hb).length<=5*hb.length /\
      (ends s0 (npl D px py hb)).ns.map (ends s0 (npl D px py hb)).g=hp1 D px py (sI (λb=>b.i*b.x) hb) (sI (λb=>b.i*b.y) hb)++hp1 D qx qy (sI (λb=>b.j*b.x) hb) (sI (λb=>b.j*b.y) hb):=by
  have n1:=GL (tn:=tn) hR z bs hk hns hg ok hb.length (ai _);unfold npl;generalize np1 D px py hb.length hb hb.length=r at n1;obtain ⟨w,k,nu,mem,nd,ap,okF,okO,aF,aO,l1,l2,l3⟩:=n1;rw [aq] at aF aO;have ok0:As.Ok hb.length s0 0:=⟨by rw [hns]; exact bU,λn hn=>by rw [hns] at hn; rw [hk]; exact bC.mp hn,by rw [hns]; intro h; rw [eB] at h; lia,by rw [hns,bA]; lia,by rw [hk]; lia⟩
  have oks:=z6 ok0 w.walk r.ds.length (ai _);rw [aq] at oks;generalize hs:ends s0 r.ds=s at *
  have ndF:(r.F.map Pc.n).Nodup:=(f7.mp nd).1;have ndO:(r.O.map Pc.n).Nodup:=(f7.mp nd).2.1;have dis:∀ j,j∈r.F.map Pc.n->j∈r.O.map Pc.n->False:=λj a b=>(f7.mp nd).2.2 j a j b rfl;have memF:∀ p∈r.F,p.n∈s.ns:=λp hp=>(mem _).mpr (.inr (.inl (bI hp)));have memO:∀ p∈r.O,p.n∈s.ns:=λp hp=>(mem _).mpr (.inr (.inr (bI hp)));have hM0:M0<=M:=by lia
  have accb:∀ (L:List Pc),L.length<=hb.length->(∀ p∈L,Bd M0 (p.m*p.x)/\Bd M0 (p.m*p.y))->∀ t,Bd M (accX (L.take t))/\Bd M (accY (L.take t)):=λL hl h t=>by
    have:=Fb (M0:=M0) (ps:=L.take t) λp hp=>h p (bO hp);have hl2:(L.take t).length<=hb.length:=by rw [aK]; lia
    exact ⟨this.1.mono (!2),this.2.mono (!2)⟩
  have G1:=EO (tn:=tn) hR z oks.lt (λp hp=>(okF p hp).ok hM0 (memF p hp)) ndF bs.up bs.bp (accb r.F l2 λp hp=>(okF p hp).bm) r.F.length (ai _);obtain ⟨w1,k1,mem1,g1⟩:=G1;rw [k] at w1 k1 mem1 g1;rw [aq] at g1;have w01:WalkB d D M tn s0 (r.ds++gth r.u r.F r.F.length):=ww w (by rw [hs]; exact w1);have ok1:=z6 ok0 w01.walk _ (ai _);rw [aq,yD,hs] at ok1;have okO1:∀ p∈r.O,PcG d D qx qy M0 M (ends s (gth r.u r.F r.F.length)) p:=λp hp=>(okO p hp).ends _;generalize hs1:ends s (gth r.u r.F r.F.length)=s1 at *
  have memO1:∀ p∈r.O,p.n∈s1.ns:=λp hp=>(mem1 _).mpr (.inl ⟨memO p hp,λi q hi hq c=>dis p.n (by rw [<-c]; exact bI (ar hq)) (bI hp)⟩);have G2:=EO (tn:=tn) hR z ok1.lt (λp hp=>(okO1 p hp).ok hM0 (memO1 p hp)) ndO bs.uq bs.bq (accb r.O l3 λp hp=>(okO p hp).bm) r.O.length (ai _);obtain ⟨w2,k2,mem2,g2⟩:=G2;rw [k1] at w2 k2 mem2 g2;rw [aq] at g2;have e:ends s0 (r.ds++(gth r.u r.F r.F.length++gth (r.u+(2*r.F.length - 1)) r.O r.O.length))=ends s1 (gth (r.u+(2*r.F.length - 1)) r.O r.O.length):=by rw [yD,hs,yD,hs1]
  have W:=ww w (by rw [hs]; exact ww w1 (by rw [hs1]; exact w2));have okT:=z6 ok0 W.walk _ (ai _);rw [aq,e] at okT;refine ⟨W,?_,?_⟩
  . rw [ah,ah,wF (ai _),wF (ai _)]
    lia
  rw [e];have gst:∀ n,n<s1.k->(ends s1 (gth (r.u+(2*r.F.length - 1)) r.O r.O.length)).g n=s1.g n:=λn h=>uk h;generalize hs2:ends s1 (gth (r.u+(2*r.F.length - 1)) r.O r.O.length)=s2 at *
  have notin:∀ (L:List Pc) (j:Nat),(∀ i p,i<L.length->L[i]?=some p->p.n≠j)->j∉L.map Pc.n:=λL j h hj=>by
    obtain ⟨p,hp,e⟩:=aY.mp hj;obtain ⟨i,hi⟩:=cR hp;exact h i p (af.mp hi).1 hi e
  have char:∀ j,j∈s2.ns↔(0<r.F.length/\j=r.u+2*r.F.length - 2)\/(0<r.O.length/\j=r.u+(2*r.F.length - 1)+2*r.O.length - 2):=λj=>by
    rw [mem2,mem1,mem];constructor
    . rintro (⟨⟨(h | h | h),h2⟩ | h1,h3⟩ | h)
      . lia
      . exact absurd h (notin r.F j h2)
      . exact absurd h (notin r.O j h3)
      . exact .inl h1
      . exact .inr h
    . rintro (h | h)
      . refine .inl ⟨.inr h,λi p hi hp c=>?_⟩;have:=(ap p.n (aW _ (bI (ar hp)))).1
        lia
      . exact .inr h
  have hF:∀ p∈r.F,1<=p.m/\sgn d p.x p.y=1:=λp hp=>⟨(okF p hp).m1,(okF p hp).up⟩
  have hO:∀ p∈r.O,1<=p.m/\sgn d p.x p.y=1:=λp hp=>⟨(okO p hp).m1,(okO p hp).up⟩
  rw [<-aF.1,<-aF.2,<-aO.1,<-aO.2,Ds hR hF,Ds hR hO];by_cases cF:r.F=[]
  . by_cases cO:r.O=[]
    . have:s2.ns=[]:=B2 okT.up List.Pairwise.nil λj=>by rw [char,cF,cO]; simp
      exact absurd this okT.ne
    . have lO:=bu.mpr cO;have lF:r.F.length=0:=by rw [cF]; rfl
      have:s2.ns=[r.u+(2*r.F.length - 1)+2*r.O.length - 2]:=B2 okT.up (gs _ _) λj=>by
        rw [char,ak]
        lia
      rw [this,h8 cF,h9 cO];show [s2.g _]=_;rw [g2 lO];rfl
  . have lF:=bu.mpr cF;have ga:s2.g (r.u+2*r.F.length - 2)=⟨sdO D px py,sdO D (accX r.F) (accY r.F)⟩:=(gst _ (by rw [k1]; lia)).trans (g1 lF);by_cases cO:r.O=[]
    . have lO:r.O.length=0:=by rw [cO]; rfl
      have:s2.ns=[r.u+2*r.F.length - 2]:=B2 okT.up (gs _ _) λj=>by
        rw [char,ak]
        lia
      rw [this,h9 cF,h8 cO];show [s2.g _]=_;rw [ga];rfl
    . have lO:=bu.mpr cO;have:s2.ns=[r.u+2*r.F.length - 2,r.u+(2*r.F.length - 1)+2*r.O.length - 2]:=B2 okT.up (by simp; lia) λj=>by
        rw [char,aN,ak]
        lia
      rw [this,h9 cF,h9 cO];show [s2.g _,s2.g _]=_;rw [ga,g2 lO];rfl
def PcAt(H:Hp)(us:List Addr)(pc:List Pc):Prop:=us.length=pc.length/\∀ (i:Nat) (q:Addr) (p:Pc),us[i]?=some q->pc[i]?=some p->H q=some (.tup [.int (p.n:Int),.int p.m])
variable {us:List Addr}{pc:List Pc}
theorem PcAt.tk(h:PcAt H us pc)(s:TupK H H'):PcAt H' us pc:=⟨h.1,λi q p h1 h2=>s _ _ (h.2 i q p h1 h2)⟩
theorem PcAt.snoc{q:Addr}{p:Pc}(h:PcAt H us pc)(e:H q=some (.tup [.int (p.n:Int),.int p.m])):PcAt H (us++[q]) (pc++[p]):=⟨by rw [ah,ah,h.1]; rfl,λi q' p' h1 h2=>by
  by_cases c:i<us.length
  . rw [aM c] at h1;rw [aM (by rw [<-h.1]; exact c)] at h2;exact h.2 i q' p' h1 h2
  . have hl:=(af.mp h1).1;rw [ah] at hl;have:i=us.length:=by simp only [au,aP] at hl; lia
    subst this;rw [aH (ai _),dz] at h1;rw [h.1,aH (ai _),dz] at h2;have e1:q=q':=ax h1;have e2:p=p':=ax h2;subst e1;subst e2;exact e⟩
theorem BA{qs:List Addr}{fs:DL}(h:Runs H ps es)(g:Runs H qs fs):Runs H (ps++qs) (es++fs):=⟨by rw [ah,ah,h.1,g.1],λi p x h1 h2=>by
  by_cases c:i<ps.length
  . rw [aM c] at h1;rw [aM (by rw [<-h.1]; exact c)] at h2;exact h.2 i p x h1 h2
  . rw [aH (!2)] at h1;rw [aH (by rw [<-h.1]; lia),<-h.1] at h2;exact g.2 _ p x h1 h2⟩
theorem JE(hD:1<=D):tmS m (sdO D X Y)=sdO D (X*m) (Y*m):=by
  have r:=yF (D:=D) (X:=X) (Y:=Y) hD;have z:=r.z1;have n0:(sdO D X Y).z≠0:=by lia
  obtain ⟨r1,r2⟩:=xZ (a:=m*(sdO D X Y).x) (b:=m*(sdO D X Y).y) (n:=(sdO D X Y).z) (D:=D) (X:=X*m) (Y:=Y*m) n0 (by have:=r.x; grind) (by have:=r.y; grind);exact wV hD ⟨l_n n0,xQ n0,r1,r2⟩
theorem Gv{Q:VK}{b:Addr}{xs zs:List V}(h1:H l=some (.lst xs))(h2:H b=some (.lst zs))(hz:xs.length+zs.length<=1000)(h:∀ p H2,H p=none->Same H H2->H2 p=some (.lst (xs++zs))->Q (.ref p) H2):rCat (.ref l) (.ref b) H Q :=
  ⟨l,b,xs,zs,rfl,rfl,h1,h2,yX hz,λp hp=>h p _ hp (zD hp _) zg⟩
theorem Kf(hD:1<=D)(bX:Bd M X)(bY:Bd M Y)(bD:Bd K' D):SK M K' (sdO D X Y):=⟨(yF hD).z1,(yF hD).g,Bd.fdiv bX _,Bd.fdiv bY _,Bd.fdiv bD _⟩
theorem F9(hD:1<=D):sdO D 0 0=⟨0,0,1⟩:=(wV hD ⟨by decide,by decide +kernel,by simp,by simp⟩).symm
def cn(pl:Nat)(b:Bx):Int:=if pl=0 then b.i else b.j
def hX(pl:Nat)(l:List Bx):Int:=sI (λb=>cn pl b*b.x) l
def hY(pl:Nat)(l:List Bx):Int:=sI (λb=>cn pl b*b.y) l
def bwq(s:B4)(N:Int)(pl:Nat):Sd:=if pl=0 then bw1 s N else bw2 s N
def nrx(s:B4)(N D:Int)(l:List Bx):Nat->List Bo
  | 0=>[]
  | k+1=>nrx s N D l k++(if hX k l=0/\hY k l=0 then [] else [⟨bwq s N k,sdO D (hX k l) (hY k l)⟩])
theorem D3{k:Int}(hD:1<=D)(hk:1<=k):sdO (D*k) (X*k) (Y*k)=sdO D X Y :=
  (wV (aZ (!2) (!2)) (yF hD).sc).symm
theorem Dz{s:Sd}{N:Int}(z1:1<=s.z)(g:g3 s.x s.y s.z=1)(hN:1<=N)(dv:s.z∣N):s=sdO N (N / s.z*s.x) (N / s.z*s.y):=by
  obtain ⟨t,ht⟩:=dv;have et:N / s.z=t:=by rw [ht]; exact cH _ (!2)
  rw [et];refine wV hN ⟨z1,g,?_,?_⟩
  . rw [ht]; grind
  . rw [ht]; grind
theorem JJ{s:B4}{N E:Int}(hN:1<=N)(hE:1<=E):bw1 s N=sdO (N*E) (s.a*E) (s.b*E)/\bw2 s N=sdO (N*E) (s.c*E) (s.e*E):=⟨(D3 hN hE).symm,(D3 hN hE).symm⟩
theorem JP{s:B4}{N E:Int}(hN:1<=N)(hE:1<=E)(l:List Bx):nrx s N (N*E) l 2=hp1 (N*E) (s.a*E) (s.b*E) (sI (λb=>b.i*b.x) l) (sI (λb=>b.i*b.y) l)++hp1 (N*E) (s.c*E) (s.e*E) (sI (λb=>b.j*b.x) l) (sI (λb=>b.j*b.y) l):=by
  obtain ⟨b1,b2⟩:=JJ (s:=s) hN hE;show (([]:List Bo)++(if hX 0 l=0/\hY 0 l=0 then [] else [(⟨bwq s N 0,sdO (N*E) (hX 0 l) (hY 0 l)⟩:Bo)]))++(if hX 1 l=0/\hY 1 l=0 then [] else [(⟨bwq s N 1,sdO (N*E) (hX 1 l) (hY 1 l)⟩:Bo)])=_;rw [List.nil_append,show bwq s N 0=bw1 s N from rfl,show bwq s N 1=bw2 s N from rfl,b1,b2];rfl
theorem t6{E:Int}{k:Nat}(z1:1<=z)(hE:1<=E)(bE:Bd k E)(dv:z∣E):1<=E / z/\Bd k (E / z):=by
  obtain ⟨t,ht⟩:=dv;have et:E / z=t:=by rw [ht]; exact cH _ (!2)
  have t1:1<=t:=by
    refine eU.mp λq=>?_;have:=bL (show (0:Int)<=z by lia) (show t<=0 by lia)
    lia
  rw [et];exact ⟨t1,bE.of_le (by rw [ht,b9]; exact d7 _ (!2))⟩
theorem EW{s:B4}{N:Int}{l m:List Bx}(h0:hX 0 l=hX 0 m/\hY 0 l=hY 0 m)(h1:hX 1 l=hX 1 m/\hY 1 l=hY 1 m):nrx s N D l 2=nrx s N D m 2:=by
  show (([]:List Bo)++(if hX 0 l=0/\hY 0 l=0 then [] else [(⟨bwq s N 0,sdO D (hX 0 l) (hY 0 l)⟩:Bo)]))++(if hX 1 l=0/\hY 1 l=0 then [] else [(⟨bwq s N 1,sdO D (hX 1 l) (hY 1 l)⟩:Bo)])=_;rw [h0.1,h0.2,h1.1,h1.2];rfl
def bxD(s:B4)(N D:Int)(b:Bo):Bx:=⟨mny s N 0 b.w,mny s N 1 b.w,D / b.h.z*b.h.x,D / b.h.z*b.h.y⟩
structure BK(d:Int)(s:B4)(N E:Int)(M0 M:Nat)(b:Bo):Prop where
  w:∃ X Y,b.w=sdO N X Y/\Bd 900 X/\Bd 900 Y/\(bxD s N (N*E) b).i=s.i X Y/\(bxD s N (N*E) b).j=s.j X Y
  bo:b=(bxD s N (N*E) b).bo (N*E) (s.a*E) (s.b*E) (s.c*E) (s.e*E)
  ok:BxOk d (s.a*E) (s.b*E) (s.c*E) (s.e*E) M0 M (bxD s N (N*E) b)
theorem KB{N E i j:Int}{k:Nat}{s:B4}(g:GB d k s)(e:w=sdO N X Y)(hN:1<=N)(hE:1<=E)(hi:i=s.i X Y)(hj:j=s.j X Y):w=sdO (N*E) (s.a*E*i+s.c*E*j) (s.b*E*i+s.e*E*j):=by
  obtain ⟨c1,c2⟩:=AK g X Y;rw [hi,hj];refine e.trans ((D3 hN hE).symm.trans ?_);congr 1
  . conv=>lhs; rw [<-c1]
    grind
  . conv=>lhs; rw [<-c2]
    grind
variable {kE:Nat}
theorem BK.gen{N E:Int}{k kw kh:Nat}{s:B4}{b:Bo}(hR:Rt d)(g:GB d k s)(hN:1<=N)(hE:1<=E)(w1:1<=b.w.z)(wg:g3 b.w.x b.w.y b.w.z=1)(wu:sgn d b.w.x b.w.y=1)(wd:b.w.z∣N)(h1:1<=b.h.z)(hg:g3 b.h.x b.h.y b.h.z=1)(hu:sgn d b.h.x b.h.y=1)(hd:b.h.z∣N*E)(nn:∀ pl,0<=mny s N pl b.w)(bE:Bd kE E)(bwx:Bd kw (N / b.w.z*b.w.x))(bwy:Bd kw (N / b.w.z*b.w.y))(bhx:Bd kh (N*E / b.h.z*b.h.x))(bhy:Bd kh (N*E / b.h.z*b.h.y))(l1:kw<=900)(l2:kw+k+2<=1024)(l3:kh<=M)(l4:k+kE+(kw+k+2)+1<=M)(l5:kw+k+2+kh<=M0):BK d s N E M0 M b:=by
  have hD:1<=N*E:=aZ (!2) (!2);have e0:=Dz w1 wg hN wd;have eh:=Dz h1 hg hD hd;have m0:(bxD s N (N*E) b).i=s.i (N / b.w.z*b.w.x) (N / b.w.z*b.w.y):=by show mny s N 0 b.w=_; unfold mny; rw [h8 rfl]
  have m1:(bxD s N (N*E) b).j=s.j (N / b.w.z*b.w.x) (N / b.w.z*b.w.y):=by show mny s N 1 b.w=_; unfold mny; rw [h9 ⋯]
  obtain ⟨c1,c2⟩:=Jg g bwx bwy;have bi:Bd (kw+k+2) (bxD s N (N*E) b).i:=by rw [m0]; exact c1.mono (!2)
  have bj:Bd (kw+k+2) (bxD s N (N*E) b).j:=by rw [m1]; exact c2.mono (!2)
  have ew:=KB (E:=E) g e0 hN hE m0 m1;have p1:Bd (k+kE+(kw+k+2)) (s.a*E*(bxD s N (N*E) b).i):=(g.ba.mul bE).mul bi;have p2:Bd (k+kE+(kw+k+2)) (s.b*E*(bxD s N (N*E) b).i):=(g.bb.mul bE).mul bi;have p3:Bd (k+kE+(kw+k+2)) (s.c*E*(bxD s N (N*E) b).j):=(g.bc.mul bE).mul bj;have p4:Bd (k+kE+(kw+k+2)) (s.e*E*(bxD s N (N*E) b).j):=(g.be.mul bE).mul bj;refine ⟨⟨_,_,e0,bwx.mono l1,bwy.mono l1,m0,m1⟩,?_,nn 0,nn 1,?_,bi.mono l2,bj.mono l2,?_,⟨bhx.mono l3,bhy.mono l3⟩,⟨p1.mono (!2),p2.mono (!2)⟩,⟨p3.mono (!2),p4.mono (!2)⟩,⟨(Bd.add p1 p3).mono (!2),(Bd.add p2 p4).mono (!2)⟩,⟨(bi.mul bhx).mono l5,(bi.mul bhy).mono l5⟩,⟨(bj.mul bhx).mono l5,(bj.mul bhy).mono l5⟩⟩
  . show b=⟨_,_⟩
    rw [<-ew];show b=⟨b.w,sdO (N*E) (N*E / b.h.z*b.h.x) (N*E / b.h.z*b.h.y)⟩
    rw [<-eh]
  . refine Classical.or_iff_not_imp_left.mpr λc1 c2=>?_;have c1:(bxD s N (N*E) b).i=0:=Classical.not_not.mp c1;rw [c1,c2] at ew;simp only [cL,cq] at ew;rw [F9 hD] at ew;rw [ew] at wu;exact absurd wu (by unfold sgn; simp)
  . show sgn d (N*E / b.h.z*b.h.x) (N*E / b.h.z*b.h.y)=1;obtain ⟨t,ht⟩:=hd;have et:N*E / b.h.z=t:=by rw [ht]; exact cH _ (!2)
    have t1:1<=t:=by
      refine eU.mp λq=>?_;have:=bL (show (0:Int)<=b.h.z by lia) (show t<=0 by lia)
      lia
    rw [et];exact xa hR t1 hu
theorem HM{E:Int}{k:Nat}{s:B4}(hR:Rt d)(g:GB d k s)(hE:1<=E)(bE:Bd kE E)(l:k+kE<=M):Bas d M (s.a*E) (s.b*E) (s.c*E) (s.e*E) :=
  ⟨by rw [av s.a,av s.b]; exact xa hR hE g.p1,by rw [av s.c,av s.e]; exact xa hR hE g.q1,⟨(g.ba.mul bE).mono l,(g.bb.mul bE).mono l⟩,⟨(g.bc.mul bE).mono l,(g.be.mul bE).mono l⟩⟩
def nrmD(s:B4)(N E:Int)(L:List Bo):List Bo:=nrx s N (N*E) (L.map (bxD s N (N*E))) 2
theorem Kh{N E:Int}{s:B4}{L:List Bo}(h:∀ b∈L,BK d s N E M0 M b):∀ x∈L.map (bxD s N (N*E)),BxOk d (s.a*E) (s.b*E) (s.c*E) (s.e*E) M0 M x:=λx hx=>by
  obtain ⟨b,hb,rfl⟩:=aY.mp hx;exact (h b hb).ok
variable {C:List Cell}
theorem FS{k:Nat}(h:C[k]?=some c):(fL C k)=c:=by
  unfold fL;rw [h];rfl
theorem BR{N E:Int}{s:B4}(tn:Bool)(hR:Rt d)(z:Sz (N*E) K' M)(hN:1<=N)(hE:1<=E)(bas:Bas d M (s.a*E) (s.b*E) (s.c*E) (s.e*E))(hC:∀ c∈C,BK d s N E M0 M c.b)(hM:M0+C.length<=M)(h1:1<=C.length) : WalkB d (N*E) M tn (As.st C) (npl (N*E) (s.a*E) (s.b*E) ((C.map Cell.b).map (bxD s N (N*E))))/\(npl (N*E) (s.a*E) (s.b*E) ((C.map Cell.b).map (bxD s N (N*E)))).length<=5*C.length /\
      (ends (As.st C) (npl (N*E) (s.a*E) (s.b*E) ((C.map Cell.b).map (bxD s N (N*E))))).ns.map (ends (As.st C) (npl (N*E) (s.a*E) (s.b*E) ((C.map Cell.b).map (bxD s N (N*E))))).g=nrmD s N E (C.map Cell.b)/\nrmD s N E (C.map Cell.b)≠[]:=by
  have hB:∀ b∈C.map Cell.b,BK d s N E M0 M b:=λb hb=>by
    obtain ⟨c,hc,rfl⟩:=aY.mp hb;exact hC c hc
  have hl:((C.map Cell.b).map (bxD s N (N*E))).length=C.length:=by rw [aa,aa]
  have st:=Ko (tn:=tn) (s0:=As.st C) hR z bas (hb:=(C.map Cell.b).map (bxD s N (N*E))) hl.symm (by rw [hl]; rfl) (λk x hx=>by
    rw [ag,ag] at hx;obtain ⟨b,hb,rfl⟩:=am.mp hx;obtain ⟨c,hc,rfl⟩:=am.mp hb;show (fL C k).b=_;rw [FS hc];exact (hC c (ar hc)).bo) (Kh hB) (by rw [hl]; exact hM) (by rw [hl]; exact h1)
  rw [hl] at st;obtain ⟨w,len,en⟩:=st;rw [<-JP hN hE] at en;refine ⟨w,len,en,λc=>?_⟩;have ok0:As.Ok C.length (As.st C) 0:=⟨bU,λn hn=>bC.mp hn,λh=>by have h:List.range C.length=[]:=h; rw [eB] at h; lia,by show (List.range C.length).length<=_; rw [bA]; lia,by show C.length<=_; lia⟩
  have okT:=z6 ok0 w.walk _ (ai _);rw [aq] at okT;have:(ends (As.st C) (npl (N*E) (s.a*E) (s.b*E) ((C.map Cell.b).map (bxD s N (N*E))))).ns.map (ends (As.st C) (npl (N*E) (s.a*E) (s.b*E) ((C.map Cell.b).map (bxD s N (N*E))))).g=[]:=en.trans c;exact okT.ne (List.map_eq_nil_iff.mp this)
theorem vj{g:Nat->Bo}{n:Nat}:∀ {ns:List Nat},ns.Pairwise (· < ·)->n∈ns->tbs (ns.map g)=(tbs ((ns.filter λk:Nat=>decide ((k:Int)≠(n:Int))).map g)).add (g n).tb
  | k::ns,h,hn=>by
    have h2:=List.pairwise_cons.mp h;by_cases e:k=n
    . subst e;have f:(k::ns).filter (λj:Nat=>decide ((j:Int)≠(k:Int)))=ns:=by
        rw [cJ,h9 (!1)];refine List.filter_eq_self.mpr λj hj=>?_;have:=h2.1 j hj;simp
        lia
      rw [f];show (g k).tb.add (tbs (ns.map g))=_;exact Tb.add_comm ..
    . have hn':n∈ns:=by simpa [bZ e] using hn
      rw [cJ,h8 (by simp; lia)];show (g k).tb.add (tbs (ns.map g))=((g k).tb.add (tbs _)).add (g n).tb;rw [vj h2.2 hn',Tb.add_assoc]
theorem HR{k:Nat}{N:List Bo}:(List.range' k N.length).map (gN g k N)=N:=by
  refine eR (!1) λi h1 h2=>?_;rw [c6,fj];unfold gN;rw [h9 (!2),show k+1*i - k=i by lia,ae h2];rfl
theorem Gk{s:As}(h:Stp d tn s x)(ht:x.1.isT=false)(up:s.ns.Pairwise (· < ·))(lt:∀ n∈s.ns,n<s.k)(ob:∀ n∈s.ns,BoD d D M (s.g n)):tbs ((s.next x).ns.map (s.next x).g)=tbs (s.ns.map s.g):=by
  obtain ⟨e,n,m⟩:=x;have h0:=h.nms;have on:=ob n h0.hn;have om:=ob m h0.hm;have key:tbs ((s.next (e,n,m)).ns.map (s.next (e,n,m)).g)=(tbs ((yg s.ns e.names).map s.g)).add (tbs (e.new (s.g n) (s.g m))):=by
    show tbs ((yg s.ns e.names++List.range' s.k (e.new (s.g n) (s.g m)).length).map (gN s.g s.k (e.new (s.g n) (s.g m))))=_;rw [aj,ud,HR,dM (g:=s.g) λj hj=>vy (lt j (mem_ndrop.mp hj).1)]
  rw [key];clear key;have one:∀ l:List Bo,tbs l=(s.g n).tb->(tbs ((yg s.ns [(n:Int)]).map s.g)).add (tbs l)=tbs (s.ns.map s.g):=λl hl=>by
    rw [hl];exact (vj (g:=s.g) up h0.hn).symm
  have two:∀ b1 b2:Bo,tbs [b1,b2]=b1.tb.add b2.tb:=λb1 b2=>by
    show b1.tb.add (b2.tb.add Tb.zero)=_;rw [Tb.add_comm b2.tb,Tb.zero_add]
  have hnm:=h0.nm;have hfit:=h.fit;have ht:e.isT=false:=ht;have hnm:e.names=if e.two then [(n:Int),(m:Int)] else [(n:Int)]:=hnm
  have hfit:e.Fit d (s.g n) (s.g m):=hfit;cases e with
  | cut al a t =>
    rw [hnm];refine one _ ?_;cases al with
    | false =>
      obtain ⟨_,ss,_,_⟩:=hfit;exact (two _ _).trans (Lq on.1.ne ss.ne)
    | true =>
      obtain ⟨_,ss,_,_⟩:=hfit;exact (two _ _).trans (L6 on.2.ne ss.ne)
  | shift al a k =>
    rw [hnm];have hk:k≠0:=by have:=hfit.1; lia
    refine one _ ?_;cases al with
    | false=>exact (vQ _).trans (LI on.1.ne on.2.ne hk)
    | true=>exact (vQ _).trans (LY on.1.ne on.2.ne hk)
  | turn a=>exact nomatch ht
  | glue al a b =>
    rw [hnm];have nm:n≠m:=h0.ne rfl;have up2:(s.ns.filter λk:Nat=>decide ((k:Int)≠(n:Int))).Pairwise (· < ·):=up.filter _;have hm2:m∈s.ns.filter λk:Nat=>decide ((k:Int)≠(n:Int)):=dQ.mpr ⟨h0.hm,by simp; lia⟩;have e1:=vj (g:=s.g) up h0.hn;have e2:=vj (g:=s.g) up2 hm2;show (tbs ((((s.ns.filter λk:Nat=>decide ((k:Int)≠(n:Int))).filter λk:Nat=>decide ((k:Int)≠(m:Int)))).map s.g)).add _=_;rw [e1,e2,Tb.add_assoc];congr 1;rw [Tb.add_comm];cases al with
    | false =>
      obtain ⟨eh,_,_⟩:=hfit;refine (vQ _).trans ((LN on.1.ne om.1.ne).trans ?_);show (Bo.tb _).add (⟨(s.g m).w,(s.g n).h⟩:Bo).tb=(s.g n).tb.add (s.g m).tb;rw [show (⟨(s.g m).w,(s.g n).h⟩:Bo)=s.g m from by rw [eh]]
    | true =>
      obtain ⟨eh,_,_⟩:=hfit;refine (vQ _).trans ((Lu on.2.ne om.2.ne).trans ?_);show (Bo.tb _).add (⟨(s.g n).w,(s.g m).h⟩:Bo).tb=(s.g n).tb.add (s.g m).tb;rw [show (⟨(s.g n).w,(s.g m).h⟩:Bo)=s.g m from by rw [eh]]
theorem Ch{d D:Int}{M c:Nat}{s:As}{es:DL}(h:WalkB d D M false s es)(ok:As.Ok c s 0)(ob:∀ n∈s.ns,BoD d D M (s.g n)):∀ t,t<=es.length->(∀ n∈(ends s (es.take t)).ns,BoD d D M ((ends s (es.take t)).g n))/\tbs ((ends s (es.take t)).ns.map (ends s (es.take t)).g)=tbs (s.ns.map s.g)
  | 0,_=>⟨ob,rfl⟩
  | t+1,ht=>by
    obtain ⟨ih1,ih2⟩:=Ch h ok ob t (bf ht);have ht':t<es.length:=ht;have hx:es[t]?=some es[t]:=ae ht';have st:=h t _ hx;have okt:=z6 ok h.walk t (bf ht);rw [yj hx];generalize ends s (es.take t)=s1 at *
    generalize es[t]=x at *
    refine ⟨λn hn=>?_,?_⟩
    . rcases mem_next.mp hn with ⟨h1,_⟩ | ⟨h1,h2⟩
      . have:(s1.next x).g n=s1.g n:=vy (okt.lt n h1);rw [this];exact ih1 n h1
      . obtain ⟨j,rfl⟩:∃ j,n=s1.k+j:=⟨n - s1.k,by lia⟩
        have hj:j<(x.1.new (s1.g x.2.1) (s1.g x.2.2)).length:=by rw [Dd.puts_new]; lia
        have e:(s1.next x).g (s1.k+j)=(x.1.new (s1.g x.2.1) (s1.g x.2.2))[j]:=yu (ae hj);rw [e];exact st.nw _ (bH hj)
    . refine (Gk (D:=D) (M:=M) st.st ?_ okt.up okt.lt ih1).trans ih2;cases e:x.1.isT with
      | false=>rfl
      | true=>exact nomatch st.st.tn e
theorem IT(h1:1<=C.length):As.Ok C.length (As.st C) 0:=⟨bU,λn hn=>bC.mp hn,λh=>by have h:List.range C.length=[]:=h; rw [eB] at h; lia,by show (List.range C.length).length<=_; rw [bA]; lia,by show C.length<=_; lia⟩
theorem Jt(C:List Cell):(As.st C).ns.map (As.st C).g=C.map Cell.b:=by
  show (List.range C.length).map (λn=>(fL C n).b)=C.map Cell.b;refine eR (!1) λi h1 h2=>?_;have hi:i<C.length:=by rw [aa] at h2; exact h2
  rw [c6,List.getElem_range,c6,FS (ae hi)]
theorem BK.bod{N E:Int}{s:B4}{b:Bo}(hR:Rt d)(hD:1<=N*E)(h:BK d s N E M0 M b)(wu:sgn d b.w.x b.w.y=1):BoD d (N*E) M b:=by
  have ew:b.w=sdO (N*E) (s.a*E*(bxD s N (N*E) b).i+s.c*E*(bxD s N (N*E) b).j) (s.b*E*(bxD s N (N*E) b).i+s.e*E*(bxD s N (N*E) b).j):=congrArg Bo.w h.bo;have eh:b.h=sdO (N*E) (bxD s N (N*E) b).x (bxD s N (N*E) b).y:=congrArg Bo.h h.bo;have r:=yF (D:=N*E) (X:=s.a*E*(bxD s N (N*E) b).i+s.c*E*(bxD s N (N*E) b).j) (Y:=s.b*E*(bxD s N (N*E) b).i+s.e*E*(bxD s N (N*E) b).j) hD;rw [<-ew] at r;refine ⟨⟨r.z1,r.g,wu,_,_,h.ok.bw.1,h.ok.bw.2,r.x,r.y⟩,?_⟩;rw [eh];exact xj hR hD h.ok.up h.ok.bh.1 h.ok.bh.2
theorem BD(hD:1<=D):(sdO D X Y).p=Rat.divInt X D/\(sdO D X Y).q=Rat.divInt Y D:=by
  have r:=yF (D:=D) (X:=X) (Y:=Y) hD;have z:=r.z1;exact ⟨yo (!2) (!2) r.x,yo (!2) (!2) r.y⟩
def TbX(s:B4)(E D:Int)(l:List Bx):Tb:=⟨Rat.divInt (s.a*E*hX 0 l+s.c*E*hX 1 l) (D*D),Rat.divInt (s.a*E*hY 0 l+s.c*E*hY 1 l) (D*D),Rat.divInt (s.b*E*hX 0 l+s.e*E*hX 1 l) (D*D),Rat.divInt (s.b*E*hY 0 l+s.e*E*hY 1 l) (D*D)⟩
theorem Ea{d N E:Int}{s:B4}{M0 M:Nat}(hD:1<=N*E):∀ {L:List Bo},(∀ b∈L,BK d s N E M0 M b)->tbs L=TbX s E (N*E) (L.map (bxD s N (N*E)))
  | [],_=>by
    unfold TbX;show Tb.zero=_;simp only [hX,hY,sI,cK,cL,cq,Rat.zero_divInt];rfl
  | b::L,h=>by
    have hb:=h b aB;have ih:=Ea hD (L:=L) λc hc=>h c (ay _ hc);have n0:N*E*(N*E)≠0:=aI (!2) (!2);have ew:b.w=sdO (N*E) (s.a*E*(bxD s N (N*E) b).i+s.c*E*(bxD s N (N*E) b).j) (s.b*E*(bxD s N (N*E) b).i+s.e*E*(bxD s N (N*E) b).j):=congrArg Bo.w hb.bo;have eh:b.h=sdO (N*E) (bxD s N (N*E) b).x (bxD s N (N*E) b).y:=congrArg Bo.h hb.bo;have e1:b.w.p=_:=(congrArg Sd.p ew).trans (BD hD).1;have e2:b.w.q=_:=(congrArg Sd.q ew).trans (BD hD).2;have e3:b.h.p=_:=(congrArg Sd.p eh).trans (BD hD).1;have e4:b.h.q=_:=(congrArg Sd.q eh).trans (BD hD).2;show b.tb.add (tbs L)=_;rw [ih];unfold TbX;show (⟨b.w.p*b.h.p+_,b.w.p*b.h.q+_,b.w.q*b.h.p+_,b.w.q*b.h.q+_⟩:Tb)=_;rw [e1,e2,e3,e4,<-w8,<-w8,<-w8,<-w8,xB n0,xB n0,xB n0,xB n0];have cx:∀ pl,hX pl ((b::L).map (bxD s N (N*E)))=cn pl (bxD s N (N*E) b)*(bxD s N (N*E) b).x+hX pl (L.map (bxD s N (N*E))):=λpl=>rfl;have cy:∀ pl,hY pl ((b::L).map (bxD s N (N*E)))=cn pl (bxD s N (N*E) b)*(bxD s N (N*E) b).y+hY pl (L.map (bxD s N (N*E))):=λpl=>rfl;rw [cx,cx,cy,cy,show cn 0 (bxD s N (N*E) b)=(bxD s N (N*E) b).i from rfl,show cn 1 (bxD s N (N*E) b)=(bxD s N (N*E) b).j from rfl];generalize (bxD s N (N*E) b).i=i;generalize (bxD s N (N*E) b).j=j;generalize (bxD s N (N*E) b).x=x;generalize (bxD s N (N*E) b).y=y;generalize hX 0 (L.map (bxD s N (N*E)))=x0;generalize hX 1 (L.map (bxD s N (N*E)))=x1;generalize hY 0 (L.map (bxD s N (N*E)))=y0;generalize hY 1 (L.map (bxD s N (N*E)))=y1;clear cx cy e1 e2 e3 e4 ew eh hb h ih;refine Tb.ext ?_ ?_ ?_ ?_ <;> (dsimp only; congr 1; grind)
variable {x' y':Int}
theorem lin2{k:Nat}{s:B4}{E x:Int}(g:GB d k s)(hE:1<=E)(h1:s.a*E*x+s.c*E*y=s.a*E*x'+s.c*E*y')(h2:s.b*E*x+s.e*E*y=s.b*E*x'+s.e*E*y'):x=x'/\y=y':=by
  have n:E≠0:=by lia
  have a1:s.a*(x - x')+s.c*(y - y')=0:=by
    have:E*(s.a*(x - x')+s.c*(y - y'))=0:=by grind
    rcases fk.mp this with z|z
    . exact absurd z n
    . exact z
  have a2:s.b*(x - x')+s.e*(y - y')=0:=by
    have:E*(s.b*(x - x')+s.e*(y - y'))=0:=by grind
    rcases fk.mp this with z|z
    . exact absurd z n
    . exact z
  have dt:s.a*s.e - s.b*s.c≠0:=by
    rcases g.det with z|z <;> lia
  have b1:(s.a*s.e - s.b*s.c)*(x - x')=0:=by grind
  have b2:(s.a*s.e - s.b*s.c)*(y - y')=0:=by grind
  constructor
  . rcases fk.mp b1 with z | z
    . exact absurd z dt
    . lia
  . rcases fk.mp b2 with z | z
    . exact absurd z dt
    . lia
theorem CD{N E:Int}{s:B4}{k M0':Nat}{L L':List Bo}(g:GB d k s)(hN:1<=N)(hE:1<=E)(h:∀ b∈L,BK d s N E M0 M b)(h':∀ b∈L',BK d s N E M0' M' b)(e:tbs L=tbs L'):nrmD s N E L=nrmD s N E L':=by
  have hD:1<=N*E:=aZ (!2) (!2);have n0:N*E*(N*E)≠0:=aI (!2) (!2);rw [Ea hD h,Ea hD h'] at e;have cut:∀ {a b:Int},Rat.divInt a (N*E*(N*E))=Rat.divInt b (N*E*(N*E))->a=b:=λz=>aC n0 ((cN n0 n0).mp z);obtain ⟨x0,x1⟩:=lin2 g hE (cut (congrArg Tb.a e)) (cut (congrArg Tb.c e));obtain ⟨y0,y1⟩:=lin2 g hE (cut (congrArg Tb.b e)) (cut (congrArg Tb.e e));exact EW ⟨x0,y0⟩ ⟨x1,y1⟩
theorem ul{d D:Int}{M c:Nat}{tn:Bool}{s:As}{es:DL}(h:WalkB d D M tn s es)(ev:Ever d D M s):∀ t,t<=es.length->Ever d D M (ends s (es.take t))
  | 0,_=>ev
  | t+1,ht=>by
    have ih:=ul (c:=c) h ev t (bf ht);have ht':t<es.length:=ht;have hx:es[t]?=some es[t]:=ae ht';have st:=h t _ hx;rw [yj hx];intro n hn;rw [xr] at hn;generalize ends s (es.take t)=s1 at *
    generalize es[t]=x at *
    by_cases c:n<s1.k
    . have:(s1.next x).g n=s1.g n:=vy c;rw [this];exact ih n c
    . obtain ⟨j,rfl⟩:∃ j,n=s1.k+j:=⟨n - s1.k,by lia⟩
      have hj:j<(x.1.new (s1.g x.2.1) (s1.g x.2.2)).length:=by rw [Dd.puts_new]; lia
      have e:(s1.next x).g (s1.k+j)=(x.1.new (s1.g x.2.1) (s1.g x.2.2))[j]:=yu (ae hj);rw [e];exact st.nw _ (bH hj)
def Dd.rn(r:Nat->Nat):Dd->Dd
  | .cut al n s=>.cut al (r n.toNat:Nat) s
  | .glue al n m=>.glue al (r n.toNat:Nat) (r m.toNat:Nat)
  | .shift al n k=>.shift al (r n.toNat:Nat) k
  | .turn n=>.turn (r n.toNat:Nat)
def rnx(r:Nat->Nat)(x:Dd×Nat×Nat):Dd×Nat×Nat:=(x.1.rn r,r x.2.1,r x.2.2)
structure Led(r:Nat->Nat)(s t:As):Prop where
  mono:∀ i j,i<j->r i<r j
  ns:t.ns=s.ns.map r
  g:∀ n,n<s.k->t.g (r n)=s.g n
  k:∀ i,r (s.k+i)=t.k+i
theorem Led.inj{s t:As}(h:Led r s t){i j:Nat}(e:r i=r j):i=j:=by
  rcases Nat.lt_trichotomy i j with c|c|c
  . have:=h.mono i j c; lia
  . exact c
  . have:=h.mono j i c; lia
theorem Dp(r:Nat->Nat)(e:Dd):(e.rn r).two=e.two:=by cases e <;> rfl
theorem JS(r:Nat->Nat)(e:Dd):(e.rn r).isT=e.isT:=by cases e <;> rfl
theorem Kw(r:Nat->Nat)(e:Dd)(b c:Bo):(e.rn r).new b c=e.new b c:=by
  cases e with
  | cut al n s=>cases al <;> rfl
  | glue al n m=>cases al <;> rfl
  | shift al n k=>cases al <;> rfl
  | turn n=>rfl
theorem Ca{s:As}{n m:Nat}(h:Nms s e n m):(e.rn r).names=if e.two then [((r n:Nat):Int),((r m:Nat):Int)] else [((r n:Nat):Int)]:=by
  have hn:=h.nm;cases e with
  | glue al a b =>
    simp [Dd.names,Dd.two] at hn;obtain ⟨rfl,rfl⟩:=hn;rfl
  | cut al a t =>
    simp [Dd.names,Dd.two,Dd.n] at hn;subst hn;rfl
  | shift al a t =>
    simp [Dd.names,Dd.two,Dd.n] at hn;subst hn;rfl
  | turn a =>
    simp [Dd.names,Dd.two,Dd.n] at hn;subst hn;rfl
theorem uT{s t:As}(h:Led r s t)(ns:List Nat)(n:Nat):(ns.map r).filter (λk:Nat=>decide ((k:Int)≠((r n:Nat):Int)))=(ns.filter λk:Nat=>decide ((k:Int)≠(n:Int))).map r:=by
  rw [List.filter_map];congr 1;refine List.filter_congr λk _=>?_;show decide (((r k:Nat):Int)≠((r n:Nat):Int))=decide ((k:Int)≠(n:Int));by_cases c:k=n
  . subst c; simp
  . have:r k≠r n:=λz=>c (h.inj z);rw [iw (!2),iw (!2)]
theorem II{s t:As}{n m:Nat}(h:Led r s t)(hn:Nms s e n m):yg t.ns (e.rn r).names=(yg s.ns e.names).map r:=by
  rw [Ca hn,hn.nm,h.ns];cases e.two with
  | true =>
    show ((s.ns.map r).filter _).filter _=((s.ns.filter _).filter _).map r;rw [uT h,uT h]
  | false =>
    show (s.ns.map r).filter _=(s.ns.filter _).map r;rw [uT h]
theorem Led.step{s t:As}(h:Led r s t)(lt:∀ n∈s.ns,n<s.k)(st:Stp d tn s x):Stp d tn t (rnx r x)/\Led r (s.next x) (t.next (rnx r x)):=by
  obtain ⟨e,n,m⟩:=x;have n0:=st.nms;have gn:t.g (r n)=s.g n:=h.g n (lt n n0.hn);have gm:t.g (r m)=s.g m:=h.g m (lt m n0.hm);have nw:(rnx r (e,n,m)).1.new (t.g (r n)) (t.g (r m))=e.new (s.g n) (s.g m):=by
    show (e.rn r).new _ _=_;rw [Kw,gn,gm]
  refine ⟨⟨⟨?_,?_,?_,?_,?_⟩,?_,?_,?_⟩,h.mono,?_,?_,?_⟩
  . show (e.rn r).names=if (e.rn r).two then _ else _
    rw [Dp];exact Ca n0
  . show r n∈t.ns;rw [h.ns]; exact bI n0.hn
  . show r m∈t.ns;rw [h.ns]; exact bI n0.hm
  . intro z c;exact n0.ne (by rw [<-z]; exact (Dp r e).symm) (h.inj c)
  . intro z;show r m=r n;exact congrArg r (n0.eq (by rw [<-z]; exact (Dp r e).symm))
  . have:=st.ok;show (e.rn r).Ok;cases e <;> exact this
  . have:=st.fit;show (e.rn r).Fit d (t.g (r n)) (t.g (r m));rw [gn,gm];cases e with
    | cut al a s=>cases al <;> exact this
    | glue al a b=>cases al <;> exact this
    | shift al a k=>cases al <;> exact this
    | turn a=>exact this
  . intro z;exact st.tn (by rw [<-z]; exact (JS r e).symm)
  . show yg t.ns (e.rn r).names++List.range' t.k ((e.rn r).new (t.g (r n)) (t.g (r m))).length=(yg s.ns e.names++List.range' s.k (e.new (s.g n) (s.g m)).length).map r;rw [II h n0,aj,show (e.rn r).new (t.g (r n)) (t.g (r m))=e.new (s.g n) (s.g m) from nw];congr 1;refine eR (!1) λi h1 h2=>?_;rw [fj,c6,fj,Nat.one_mul,h.k]
  . intro j hj;show gN t.g t.k ((e.rn r).new (t.g (r n)) (t.g (r m))) (r j)=gN s.g s.k (e.new (s.g n) (s.g m)) j;rw [show (e.rn r).new (t.g (r n)) (t.g (r m))=e.new (s.g n) (s.g m) from nw];have hj:j<s.k+(e.new (s.g n) (s.g m)).length:=hj;have k0:=h.k 0;simp only [gR] at k0;by_cases c:j<s.k
    . have:=h.mono j s.k c;rw [vy c,vy (!2),h.g j c]
    . obtain ⟨i,rfl⟩:∃ i,j=s.k+i:=⟨j - s.k,by lia⟩
      have hi:i<(e.new (s.g n) (s.g m)).length:=by lia
      rw [h.k,yu (ae hi),yu (ae hi)]
  . intro i;show r (s.k+(e.new (s.g n) (s.g m)).length+i)=t.k+((e.rn r).new (t.g (r n)) (t.g (r m))).length+i;rw [show (e.rn r).new (t.g (r n)) (t.g (r m))=e.new (s.g n) (s.g m) from nw,gi,h.k,gi]
theorem Fy{s t:As}{fs:DL}{B:Nat}(h:Led r s t)(ok:As.Ok B s 0)(w:Walk d tn s fs):Walk d tn t (fs.map (rnx r))/\∀ i,i<=fs.length->Led r (ends s (fs.take i)) (ends t ((fs.map (rnx r)).take i)):=by
  have key:∀ i,i<=fs.length->Led r (ends s (fs.take i)) (ends t ((fs.map (rnx r)).take i)):=λi=>by
    induction i with
    | zero=>exact λ_=>h
    | succ i ih =>
      intro hi;have hi':i<fs.length:=hi;have hx:fs[i]?=some fs[i]:=ae hi';have hx':(fs.map (rnx r))[i]?=some (rnx r fs[i]):=by rw [ag,hx]; rfl
      rw [yj hx,yj hx'];exact ((ih (bf hi)).step (z6 ok w i (bf hi)).lt (w i _ hx)).2
  refine ⟨λi y hy=>?_,key⟩;rw [ag] at hy;obtain ⟨x,hx,rfl⟩:=am.mp hy;have hi:=(af.mp hx).1;exact ((key i (bf hi)).step (z6 ok w i (bf hi)).lt (w i x hx)).1
theorem F8{s:As}{fs:DL}(h:Walk d tn s es)(g:Walk d tn (ends s es) fs):Walk d tn s (es++fs):=λi x hx=>by
  by_cases c:i<es.length
  . rw [aM c] at hx;rw [cB (!2)];exact h i x hx
  . rw [aH (!2)] at hx;have e:(es++fs).take i=es++fs.take (i - es.length):=by rw [gx,bJ (!2)]
    rw [e,yD];exact g _ x hx
def nmr(s:As)(i:Nat):Nat:=if i<s.ns.length then s.ns[i]?.getD 0 else s.k+(i - s.ns.length)
theorem led0{s:As}{bs:List Bo}(up:s.ns.Pairwise (· < ·))(lt:∀ n∈s.ns,n<s.k)(hb:s.ns.map s.g=bs):Led (nmr s) (As.sb bs) s:=by
  have hl:bs.length=s.ns.length:=by rw [<-hb,aa]
  have at':∀ i (h:i<s.ns.length),nmr s i=s.ns[i]:=λi h=>by unfold nmr; rw [h8 h,ae h]; rfl
  refine ⟨λi j hij=>?_,?_,λn hn=>?_,λi=>?_⟩
  . by_cases cj:j<s.ns.length
    . rw [at' i (!2),at' j cj];exact fR.mp up i j (!2) cj hij
    . by_cases ci:i<s.ns.length
      . rw [at' i ci];have:=lt _ (bH ci);unfold nmr;rw [h9 cj]
        lia
      . unfold nmr;rw [h9 ci,h9 cj]
        lia
  . show s.ns=(List.range bs.length).map (nmr s);rw [hl];refine eR (!1) λi h1 h2=>?_;rw [c6,List.getElem_range,at' i h1]
  . have hn:n<bs.length:=hn;show s.g (nmr s n)=bs[n]?.getD _;rw [at' n (!2),ae hn];subst hb;show _=(s.ns.map s.g)[n]
    rw [c6]
  . show nmr s (bs.length+i)=s.k+i;unfold nmr;rw [h9 (!2)]
    lia
structure Plan(d:Int)(tn:Bool)(D:Int)(M:Nat)(bs bs':List Bo)(es:DL)(qs:List Nat):Prop where
  w:Walk d tn (As.sb bs) es
  b:∀ i,i<=es.length->∀ n∈(ends (As.sb bs) (es.take i)).ns,BoD d D M ((ends (As.sb bs) (es.take i)).g n)
  p:qs.Perm (List.range bs'.length)
  l:(ends (As.sb bs) es).ns.length=bs'.length
  g:∀ k q:Nat,qs[k]?=some q->∃ n,(ends (As.sb bs) es).ns[q]?=some n/\bs'[k]?=some ((ends (As.sb bs) es).g n)
theorem G9{B:Nat}{bs bs' F:List Bo}{fs:DL}(h1:1<=bs.length)(hB:bs.length<=B)(w:Walk d tn (As.sb bs) es)(wb:∀ i,i<=es.length->∀ n∈(ends (As.sb bs) (es.take i)).ns,BoD d D M ((ends (As.sb bs) (es.take i)).g n))(e:(ends (As.sb bs) es).ns.map (ends (As.sb bs) es).g=F)(T:Turned d tn D M bs' F fs qs) : Plan d tn D M bs bs' (es++fs.map (rnx (nmr (ends (As.sb bs) es)))) qs:=by
  have ok:=z6 (vq h1 hB) w es.length (ai _);rw [aq] at ok;have l0:=led0 ok.up ok.lt e;have F1:1<=F.length:=by
    rw [<-e,aa];exact bu.mpr ok.ne
  obtain ⟨w2,key⟩:=Fy l0 (vq F1 (ai _)) T.w;have kN:=key fs.length (ai _);rw [aq,show (fs.map (rnx (nmr (ends (As.sb bs) es)))).take fs.length=fs.map (rnx (nmr (ends (As.sb bs) es))) by rw [<-aa (f:=rnx (nmr (ends (As.sb bs) es))),aq]] at kN;have okF:=z6 (vq F1 (ai _)) T.w fs.length (ai _);rw [aq] at okF;refine ⟨F8 w w2,λi hi n hn=>?_,T.p,?_,λk q hq=>?_⟩
  . by_cases c:i<=es.length
    . rw [cB c] at hn ⊢;exact wb i c n hn
    . have et:(es++fs.map (rnx (nmr (ends (As.sb bs) es)))).take i=es++(fs.map (rnx (nmr (ends (As.sb bs) es)))).take (i - es.length):=by rw [gx,bJ (!2)]
      rw [ah,aa] at hi;have hj:i - es.length<=fs.length:=by lia
      have kj:=key (i - es.length) hj;have okj:=z6 (vq F1 (ai _)) T.w (i - es.length) hj;rw [et,yD] at hn ⊢;rw [kj.ns] at hn;obtain ⟨m,hm,rfl⟩:=aY.mp hn;rw [kj.g m (okj.lt m hm)];exact T.b _ hj m hm
  . rw [yD,kN.ns,aa];exact T.l
  . obtain ⟨n,h1,h2⟩:=T.g k q hq;rw [yD];refine ⟨nmr (ends (As.sb bs) es) n,?_,?_⟩
    . rw [kN.ns,ag,h1]; rfl
    . rw [h2,kN.g n (okF.lt n (ar h1))]
theorem FH{f:Int}(hf:1<=f)(hz:1<=z)(h1:f∣D)(h2:z∣D):lcmI f z∣D:=by
  obtain ⟨s,u,v,hs,s1,u1,v1,ez,ez',fu,fv,guv⟩:=ES hf hz;unfold lcmI;rw [<-hs,fu];obtain ⟨t,ht⟩:=h2;have h3:u∣v*t:=by
    obtain ⟨w,hw⟩:=h1;refine ⟨w,dH (show s≠0 by lia) ?_⟩;have e1:s*(v*t)=D:=by rw [ht,ez',ao]
    have e2:s*(u*w)=D:=by rw [hw,ez,ao]
    rw [e1,e2]
  have h4:u∣t:=bQ.mp (Nat.Coprime.dvd_of_dvd_mul_left (show Nat.gcd u.natAbs v.natAbs=1 from guv) (by rw [<-b9]; exact bQ.mpr h3));obtain ⟨w,hw⟩:=h4;exact ⟨w,by rw [ht,hw]; grind⟩
theorem Ej{D:Int}:∀ (zs:List Int) (f:Int),1<=f->f∣D->(∀ z∈zs,1<=z/\z∣D)->zs.foldl lcmI f∣D
  | [],_,_,h,_=>h
  | z::zs,f,hf,h,hz=>by
    have h1:=hz z aB;exact Ej zs _ (wK hf h1.1).1 (FH hf h1.1 h h1.2) λu hu=>hz u (ay _ hu)
theorem uK:∀ (zs:List Int) (f:Int),1<=f->(∀ z∈zs,1<=z)->1<=zs.foldl lcmI f/\f∣zs.foldl lcmI f/\∀ z∈zs,z∣zs.foldl lcmI f
  | [],_,h,_=>⟨h,dy _,λz hz=>absurd hz (!1)⟩
  | z::zs,f,hf,h=>by
    obtain ⟨a1,a2,a3,_⟩:=wK hf (h z aB);obtain ⟨b1,b2,b3⟩:=uK zs (lcmI f z) a1 λu hu=>h u (ay _ hu);exact ⟨b1,aX a2 b2,λu hu=>by
      rcases aN.mp hu with e|e
      . subst e; exact aX a3 b2
      . exact b3 u e⟩
theorem So.dvd{s:Sd}(h:So d D M s)(hD:1<=D):s.z∣D:=by
  obtain ⟨X,Y,_,_,hx,hy⟩:=h.r;rw [(ym h.z1 h.g (show D≠0 by lia) hx hy).2.2];exact ⟨gd X Y D,lN_mul.symm⟩
theorem Bd.dvd_le{k:Nat}{a b:Int}(h:Bd k b)(hb:1<=b)(d:a∣b):Bd k a:=by
  obtain ⟨t,ht⟩:=d;refine h.of_le ?_;rw [ht,b9];refine d6 _ ?_;have:t≠0:=λz=>by rw [z,cL] at ht; lia
  lia
theorem So.num{N:Int}{s:Sd}(h:So d D M s)(hD:1<=D)(ND:N∣D)(zN:s.z∣N):Bd M (N / s.z*s.x)/\Bd M (N / s.z*s.y):=by
  obtain ⟨X,Y,bX,bY,hx,hy⟩:=h.r;obtain ⟨t,ht⟩:=ND;obtain ⟨u,hu⟩:=zN;have z1:=h.z1;have eu:N / s.z=u:=by rw [hu]; exact cH _ (!2)
  have t0:t≠0:=λz=>by rw [z,cL] at ht; lia
  have ex:u*s.x*t=X:=aC (show s.z≠0 by lia) (by rw [<-hx,ht,hu]; grind);have ey:u*s.y*t=Y:=aC (show s.z≠0 by lia) (by rw [<-hy,ht,hu]; grind);rw [eu];exact ⟨bX.of_le (by rw [<-ex,b9 (u*s.x)]; exact d6 _ (!2)),bY.of_le (by rw [<-ey,b9 (u*s.y)]; exact d6 _ (!2))⟩
variable {kN:Nat}
theorem So.num2{N E:Int}{s:Sd}(h:So d E M s)(hE:1<=E)(bN:Bd kN N):Bd (kN+M) (N*E / s.z*s.x)/\Bd (kN+M) (N*E / s.z*s.y):=by
  obtain ⟨X,Y,bX,bY,hx,hy⟩:=h.r;obtain ⟨u,hu⟩:=h.dvd hE;have z1:=h.z1;have eu:N*E / s.z=N*u:=by rw [hu,show N*(s.z*u)=s.z*(N*u) by grind]; exact cH _ (!2)
  have ex:u*s.x=X:=aC (show s.z≠0 by lia) (by rw [<-hx,hu]; grind);have ey:u*s.y=Y:=aC (show s.z≠0 by lia) (by rw [<-hy,hu]; grind);rw [eu,ao,ao,ex,ey];exact ⟨bN.mul bX,bN.mul bY⟩
theorem BK.so{N E:Int}{k Mw Mh:Nat}{s:B4}{b:Bo}(hR:Rt d)(g:GB d k s)(hN:1<=N)(hE:1<=E)(hD:1<=D)(ow:So d D Mw b.w)(wd:b.w.z∣N)(ND:N∣D)(oh:So d E Mh b.h)(sv:s.srv b.w.x b.w.y)(bN:Bd kN N)(bE:Bd kE E)(l1:Mw<=900)(l2:Mw+k+2<=1024)(l3:kN+Mh<=M)(l4:k+kE+(Mw+k+2)+1<=M)(l5:Mw+k+2+(kN+Mh)<=M0):BK d s N E M0 M b:=by
  obtain ⟨n1,n2⟩:=ow.num hD ND wd;obtain ⟨m1,m2⟩:=oh.num2 hE bN;obtain ⟨t1,_⟩:=t6 ow.z1 hN bN wd;exact BK.gen (k:=k) (kw:=Mw) (kh:=kN+Mh) (kE:=kE) hR g hN hE ow.z1 ow.g ow.up wd oh.z1 oh.g oh.up (aX (oh.dvd hE) (ca _ _)) (λpl=>by
    have:=(Di t1).mpr sv;unfold mny;split
    . exact this.1
    . exact this.2) bE n1 n2 m1 m2 l1 l2 l3 l4 l5
theorem FM{s:As}(lt:∀ n∈s.ns,n<s.k)(ob:∀ n∈s.ns,BoD d D M (s.g n))(nb:∀ b∈x.1.new (s.g x.2.1) (s.g x.2.2),BoD d D M b):∀ n∈(s.next x).ns,BoD d D M ((s.next x).g n):=λn hn=>by
  rcases mem_next.mp hn with ⟨h1,_⟩|⟨h1,h2⟩
  . have:(s.next x).g n=s.g n:=vy (lt n h1);rw [this];exact ob n h1
  . obtain ⟨j,rfl⟩:∃ j,n=s.k+j:=⟨n - s.k,by lia⟩
    have hj:j<(x.1.new (s.g x.2.1) (s.g x.2.2)).length:=by rw [Dd.puts_new]; lia
    have e:(s.next x).g (s.k+j)=(x.1.new (s.g x.2.1) (s.g x.2.2))[j]:=yu (ae hj);rw [e];exact nb _ (bH hj)
theorem CW{K:iC}{Q:VK}{b:Addr}{xs:List V}(h:H a=some (.tup xs))(h':H b=some (.tup ys))(n:xs≠[])(n':ys≠[])(z:xs.length+ys.length<=1000)(q:∀ (p:Addr) (H2:Hp),H p=none->Same H H2->H2 p=some (.tup (xs++ys))->Q (.ref p) H2):J8 K (.ref a) (.ref b) H Q :=
  ⟨a,b,_,_,rfl,rfl,SqT.of h,SqT.of h',n,Df z,λe=>absurd e n',λ_ p hp=>q p _ hp (zD hp _) zg⟩
theorem GV{K:iC}{Q:VK}{x y z:V}(h:H a=some (.tup [x,y,z]))(q:∀ (p:Addr) (H2:Hp),Same H H2->H2 p=some (.tup [z])->Q (.ref p) H2):rSlT K (.ref a) (some 2) none H Q :=
  ⟨a,_,rfl,SqT.of h,show ¬ (HT.sIx 3 0 (some 2)=0/\HT.sIx 3 3 none=3) by decide,λp hp=>q p _ (zD hp _) zg⟩
theorem Eo(e:Dd):inV (.str e.wd) [.str (Str.ofString "beside"),.str (Str.ofString "atop")]=e.two:=by
  cases e with
  | cut al n s =>
    cases al
    . exact (show inV (V.str (Str.ofString "across")) [.str (Str.ofString "beside"),.str (Str.ofString "atop")]=false by decide +kernel)
    . exact (show inV (V.str (Str.ofString "along")) [.str (Str.ofString "beside"),.str (Str.ofString "atop")]=false by decide +kernel)
  | glue al n m =>
    cases al
    . exact (show inV (V.str (Str.ofString "beside")) [.str (Str.ofString "beside"),.str (Str.ofString "atop")]=true by decide +kernel)
    . exact (show inV (V.str (Str.ofString "atop")) [.str (Str.ofString "beside"),.str (Str.ofString "atop")]=true by decide +kernel)
  | shift al n k =>
    cases al
    . exact (show inV (V.str (Str.ofString "stack")) [.str (Str.ofString "beside"),.str (Str.ofString "atop")]=false by decide +kernel)
    . exact (show inV (V.str (Str.ofString "spread")) [.str (Str.ofString "beside"),.str (Str.ofString "atop")]=false by decide +kernel)
  | turn n=>exact (show inV (V.str (Str.ofString "turn")) [.str (Str.ofString "beside"),.str (Str.ofString "atop")]=false by decide +kernel)
def nmI(r:Nat->Nat)(k:Nat):List V:=((List.range k).map λj=>((r j:Nat):Int)).map V.int
theorem Cm{k n:Nat}(h:n<k):atI (nmI r k) (n:Int)=some (.int ((r n:Nat):Int)):=zB (by
  unfold nmI;rw [ag,ag,cW h];rfl)
theorem Fw{k:Nat}:nmI r (k+1)=nmI r k++[.int ((r k:Nat):Int)]:=by
  unfold nmI;rw [dW,aj,aj];rfl
def cmT(k:Nat)(t:Tb):Rat:=if k=0 then t.a else if k=1 then t.b else if k=2 then t.c else t.e
theorem Ij{s t:Tb}(h:∀ k,k<4->cmT k s=cmT k t):s=t:=Tb.ext (h 0 ⋯) (h 1 ⋯) (h 2 ⋯) (h 3 ⋯)
theorem JR{p:Addr}{t:Tb}(h:TbAt H p t){i j:Nat}(hi:i<2)(hj:j<2):∃ (xs ys:List V) (rr ff:Addr),H p=some (.tup xs)/\atI xs (0+(i:Int))=some (.ref rr)/\H rr=some (.tup ys)/\atI ys (0+(j:Int))=some (.ref ff)/\H ff=some (.tup [.int (cmT (2*i+j) t).num,.int (cmT (2*i+j) t).den]):=by
  obtain ⟨r0,r1,f0,f1,f2,f3,hp,h0,h1,g0,g1,g2,g3⟩:=h;have i2:i=0\/i=1:=by lia
  have j2:j=0\/j=1:=by lia
  rcases i2 with rfl|rfl <;> rcases j2 with rfl|rfl
  . exact ⟨_,_,r0,f0,hp,rfl,h0,rfl,g0⟩
  . exact ⟨_,_,r0,f1,hp,rfl,h0,rfl,g1⟩
  . exact ⟨_,_,r1,f2,hp,rfl,h1,rfl,g2⟩
  . exact ⟨_,_,r1,f3,hp,rfl,h1,rfl,g3⟩
structure Fu(s t:Tb)(i j:Nat):Prop where
  i2:i<2
  j2:j<2
  eq:∀ k,k<2*i+j->cmT k s=cmT k t
  ne:cmT (2*i+j) s≠cmT (2*i+j) t
theorem skp{k j:Nat}{s:Sd}(h:SK k j s):Br k j s.p:=ui h.ne h.bx h.bz
theorem skq{k j:Nat}{s:Sd}(h:SK k j s):Br k j s.q:=ui h.ne h.by' h.bz
structure HpD(d D:Int)(M n:Nat)(H:Hp)(p:Addr)(L:List Cell):Prop where
  l:H p=some (.lst (L.map Cell.v))
  at':∀ c∈L,c.At H
  ok:∀ c∈L,BoD d D M c.b
  ne:L≠[]
  len:L.length<=n
theorem HpD.sk{d D:Int}{M K n:Nat}{H:Hp}{p:Addr}{L:List Cell}(h:HpD d D M n H p L)(hD:1<=D)(bD:Bd K D)(hK:K<=340)(hM:M<=430):∀ c∈L,SK 430 340 c.b.w/\SK 430 340 c.b.h:=λc hc=>⟨((h.ok c hc).1.sk hD bD).mono hM hK,((h.ok c hc).2.sk hD bD).mono hM hK⟩
theorem L3{p q:Prop}[Decidable p]{A B:Prop}(hB:¬ (p/\q)->B)(hA:p->(¬ (p/\q)->B)->A):if decide p=true then A else B:=by
  by_cases h:p
  . rw [h8 (iw h)]; exact hA h hB
  . rw [h9 (by rw [h7 h]; decide)]; exact hB (λz=>h z.1)
theorem KS{K:iC}{Q:VK}{xs:List V}{k:Nat}(h:H a=some (.lst xs))(q:∀ (p:Addr) (H2:Hp),Same H H2->H2 p=some (.lst (xs.take k))->Q (.ref p) H2):rSlL K (.ref a) none (some (k:Int)) H Q:=by
  refine ⟨a,_,rfl,SqL.of h,λp hp=>?_⟩;refine q p _ (zD hp _) ?_;rw [zg];unfold cutV;rw [HT.sIx_none,HT.sIx_nat,List.drop_zero,gS];congr 2;rcases gO k xs.length with z|z
  . rw [d5 z]
  . rw [eQ z,aq,bJ z]
theorem fN_b{f:Nat->Cell}{k:Nat}{N:List Cell}{j:Nat}:(fN f k N j).b=gN (λn=>(f n).b) k (N.map Cell.b) j:=by
  unfold fN gN fL;by_cases c:j<k
  . rw [h8 c,h8 c]
  . rw [h9 c,h9 c,ag];cases N[j - k]? <;> rfl
theorem So.low{a b:Nat}{s:Sd}(hD:1<=D)(z1:1<=s.z)(g:g3 s.x s.y s.z=1)(up:sgn d s.x s.y=1)(dv:s.z∣D)(bx:Bd a s.x)(by':Bd a s.y)(bD:Bd b D):So d D (b+a) s:=by
  obtain ⟨_,tb⟩:=t6 z1 hD bD dv;obtain ⟨t,ht⟩:=dv;have et:D / s.z=t:=by rw [ht]; exact cH _ (!2)
  rw [et] at tb;exact ⟨z1,g,up,t*s.x,t*s.y,tb.mul bx,tb.mul by',by rw [ht]; grind,by rw [ht]; grind⟩
theorem Ge{l m:List Bo}(h:l.Perm m):tbs l=tbs m:=by
  induction h with
  | nil=>rfl
  | cons b _ ih=>show b.tb.add _=b.tb.add _; rw [ih]
  | swap a b l=>show b.tb.add (a.tb.add _)=a.tb.add (b.tb.add _); rw [<-Tb.add_assoc,<-Tb.add_assoc,Tb.add_comm b.tb]
  | trans _ _ h1 h2=>exact h1.trans h2
structure LOb(d:Int)(k:Nat)(s:Sd):Prop where
  z1:1<=s.z
  g:g3 s.x s.y s.z=1
  up:sgn d s.x s.y=1
  bx:Bd k s.x
  by':Bd k s.y
  bz:Bd 890 s.z
structure LsB(d:Int)(k:Nat)(H:Hp)(p:Addr)(L:List Ln):Prop where
  l:H p=some (.lst (L.map Ln.v))
  at':∀ c∈L,SdAt H c.p c.s
  ok:∀ c∈L,LOb d k c.s
theorem LsB.same{k:Nat}{p:Addr}{L:List Ln}(h:LsB d k H p L)(s:Same H H'):LsB d k H' p L:=⟨s _ _ h.l,λc hc=>s _ _ (h.at' c hc),h.ok⟩
theorem JO{k:Nat}{L:List Ln}(ok:∀ c∈L,LOb d k c.s):∀ z∈L.map (λc=>c.s.z),1<=z/\Bd 890 z:=λz hz=>by
  obtain ⟨c,hc,e⟩:=aY.mp hz;subst e;exact ⟨(ok c hc).z1,(ok c hc).bz⟩
theorem Gf{k:Nat}{L:List Ln}(ok:∀ c∈L,LOb d k c.s)(hb:Bd 890 (cbs (L.map λc=>c.s.z)))(i:Nat):1<=cbs ((L.take i).map λc=>c.s.z)/\Bd 890 (cbs ((L.take i).map λc=>c.s.z)):=by
  have z1:∀ z∈L.map (λc=>c.s.z),1<=z:=λz hz=>(JO ok z hz).1;have a:1<=cbs ((L.take i).map λc:Ln=>c.s.z):=(uK ((L.take i).map λc:Ln=>c.s.z) 1 ⋯ λz hz=>z1 z (by rw [hU] at hz; exact bO hz)).1;have e:cbs (L.map λc=>c.s.z)=((L.drop i).map λc=>c.s.z).foldl lcmI (cbs ((L.take i).map λc=>c.s.z)):=by
    conv=>lhs; rw [<-dn i L,aj]
    unfold cbs;rw [df]
  obtain ⟨b1,b2,_⟩:=uK ((L.drop i).map λc:Ln=>c.s.z) (cbs ((L.take i).map λc:Ln=>c.s.z)) a λz hz=>z1 z (by rw [gj] at hz; exact dE hz);rw [<-e] at b1 b2;exact ⟨a,Bd.dvd_le hb b1 b2⟩
theorem IE{k:Nat}{L:List Ln}(ok:∀ c∈L,LOb d k c.s):(∀ u∈L.map Ln.u,sgn d u.1 u.2=1)/\∀ u∈L.map Ln.u,Bd k u.1/\Bd k u.2:=by
  constructor
  . intro u hu;obtain ⟨c,hc,e⟩:=aY.mp hu;subst e;exact (ok c hc).up
  . intro u hu;obtain ⟨c,hc,e⟩:=aY.mp hu;subst e;exact ⟨(ok c hc).bx,(ok c hc).by'⟩
theorem HP{k:Nat}{L:List Ln}(ok:∀ c∈L,LOb d k c.s)(i:Nat):∀ c∈L.take i,LOb d k c.s:=λc hc=>ok c (bO hc)
theorem HD{i j:Int}(h:m=i\/m=j)(h1:m<=i)(h2:m<=j):m<0↔¬ (0<=i/\0<=j):=by lia
inductive P0(vs:List V)(H:Hp)(Q:VK)(E:XK):Prop
  | mk (i:Int) (_:vs=[.int i]) (_:Q (.bl true) H):P0 vs H Q E
theorem Ct{i:Int}{Q:VK}(q:Q (.bl true) H):P0 ([.int i]++[]) H Q E:=⟨i,rfl,q⟩
local macro_rules | `(tactic| walk_at "rd")=>`(tactic| with_reducible refine Ct ?_)
inductive P1(vs:List V)(H:Hp)(Q:VK)(E:XK):Prop
  | mk (a b:Int) (_:vs=[.int a,.int b]) (_:Bd 8192 b) (_:Q (.int (Int.gcd a b:Nat)) H):P1 vs H Q E
theorem va{a b:Int}{Q:VK}(hb:Bd 8192 b)(q:Q (.int (Int.gcd a b:Nat)) H):P1 ([.int a,.int b]++[]) H Q E:=⟨a,b,rfl,hb,q⟩
local macro_rules | `(tactic| walk_at "rd")=>`(tactic| ((with_reducible refine va ?_ ?_); focus (walk_at "b8")))
inductive P2(vs:List V)(H:Hp)(Q:VK)(E:XK):Prop
  | mk (g n:Int) (_:vs=[.int g,.int n]) (_:Q (.int (if n<0 then -g else g)) H):P2 vs H Q E
theorem vU{g n:Int}{Q:VK}(q:Q (.int (if n<0 then -g else g)) H):P2 ([.int g,.int n]++[]) H Q E:=⟨g,n,rfl,q⟩
local macro_rules | `(tactic| walk_at "rd")=>`(tactic| with_reducible refine vU ?_)
inductive P3(vs:List V)(H:Hp)(Q:VK)(E:XK):Prop
  | mk {d a b:Int} (_:vs=[.int d,.int a,.int b]) (_:Bd 64 d) (_:Bd 8000 a) (_:Bd 8000 b) (_:Q (.bl (decide (0<sgn d a b))) H):P3 vs H Q E
abbrev wO:=@P3.mk
inductive P4(vs:List V)(H:Hp)(Q:VK)(E:XK):Prop
  | mk (p p':Addr) (x y z x' y' z':Int) (_:vs=[.ref p,.ref p']) (_:H p=some (.tup [.int x,.int y,.int z])) (_:H p'=some (.tup [.int x',.int y',.int z'])) (_:(Bd 900 x/\Bd 900 y/\Bd 900 x'/\Bd 900 y')) (_:Q (.int (x*y' - y*x')) H):P4 vs H Q E
variable {p':Addr}{z':Int}
theorem vD{p:Addr}{x:Int}{Q:VK}(h1:H p=some (.tup [.int x,.int y,.int z]))(h2:H p'=some (.tup [.int x',.int y',.int z']))(b1:Bd 900 x)(b2:Bd 900 y)(b3:Bd 900 x')(b4:Bd 900 y')(q:Q (.int (x*y' - y*x')) H):P4 ([.ref p,.ref p']++[]) H Q E:=⟨p,p',x,y,z,x',y',z',rfl,h1,h2,⟨b1,b2,b3,b4⟩,q⟩
inductive P5(vs:List V)(H:Hp)(Q:VK)(E:XK):Prop
  | mk {a:Addr} {us:List Addr} {pc:List Pc} {u:Nat} (_:vs=[.ref a,.int (u:Int)]) (_:H a=some (.lst (us.map V.ref))) (_:PcAt H us pc) (_:pc.length<=100) (_:u<=1000) (_:(∀ (r:Addr) (ps:List Addr) (H':Hp),Same H H'->H r=none->H' r=some (.lst (ps.map V.ref))->Runs H' ps (gth u pc pc.length)->Q (.ref r) H')):P5 vs H Q E
abbrev vM:=@P5.mk
inductive P6(vs:List V)(H:Hp)(Q:VK)(E:XK):Prop
  | mk {p:Addr} {e:Dd} (_:vs=[.ref p]) (_:DdAt H p e) (_:∀ (r:Addr) (H':Hp),Same H H'->H r=none->H' r=some (.lst (e.names.map V.int))->Q (.ref r) H'):P6 vs H Q E
abbrev xl:=@P6.mk
inductive P7(vs:List V)(H:Hp)(Q:VK)(E:XK):Prop
  | mk {p:Addr} {e:Dd} (_:vs=[.ref p]) (_:DdAt H p e) (_:Q (.int (e.puts:Nat)) H):P7 vs H Q E
abbrev yk:=@P7.mk
inductive P8(vs:List V)(H:Hp)(Q:VK)(E:XK):Prop
  | mk {c:Cell} (_:vs=[.ref c.p]) (_:c.At H) (_:∀ (r:Addr) (H':Hp),Same H H'->H r=none->Cell.At H' ⟨r,c.ph,c.pw,⟨c.b.h,c.b.w⟩⟩->Q (.ref r) H'):P8 vs H Q E
abbrev yZ:=@P8.mk
inductive P9(vs:List V)(H:Hp)(Q:VK)(E:XK):Prop
  | mk {a:Addr} {ms ts:List Nat} (_:vs=[.ref a]) (_:H a=some (.lst ((ms.map λn:Nat=>(n:Int)).map V.int))) (_:ms.Perm ts) (_:ts.Pairwise (· < ·)) (_:ts.length<64) (_:(∀ (r:Addr) (H':Hp),Same H H'->H r=none->H' r=some (.lst (((ms.map (rk ts)).map λn:Nat=>(n:Int)).map V.int))->Q (.ref r) H')):P9 vs H Q E
abbrev AX:=@P9.mk
inductive P10(vs:List V)(H:Hp)(Q:VK)(E:XK):Prop
  | mk {p a:Addr} {e:Dd} {r:Nat->Nat} {k:Nat} (_:vs=[.ref p,.ref a]) (_:DdAt H p e) (_:e.isT=false) (_:H a=some (.lst (nmI r k))) (_:(∀ m∈e.names,∃ n,n<k/\m=((n:Nat):Int))) (_:(∀ (b:Addr) (H':Hp),Same H H'->H b=none->DdAt H' b (e.rn r)->Q (.ref b) H')):P10 vs H Q E
abbrev Ah:=@P10.mk
inductive P11(vs:List V)(H:Hp)(Q:VK)(E:XK):Prop
  | mk {p p':Addr} {s t:Tb} (_:vs=[.ref p,.ref p']) (_:TbAt H p s) (_:TbAt H p' t) (_:(s=t->Q .non H)) (_:(∀ (r:Addr) (H':Hp) (i j:Nat),Same H H'->H' r=some (.tup [.int (i:Int),.int (j:Int)])->Fu s t i j->Q (.ref r) H')):P11 vs H Q E
abbrev v0:=@P11.mk
inductive P12(K:iC)(vs:List V)(H:Hp)(Q:VK)(E:XK):Prop
  | mk {p:Addr} {ns:List Int} {k:Int} (_:vs=[.ref p,.int k]) (_:SqL K H p (ns.map V.int)) (_:0<=k) (_:(∀ x∈ns,Bd 1048576 x)) (_:∀ c:Int,Bd 1048576 c->Q (.int c) H):P12 K vs H Q E
abbrev yA:=@P12.mk
inductive P13(vs:List V)(H:Hp)(Q:VK)(E:XK):Prop
  | mk (i:Int) (_:vs=[.int i]) (_:Q (.bl true) H):P13 vs H Q E
theorem AF{i:Int}{Q:VK}(q:Q (.bl true) H):P13 ([.int i]++[]) H Q E:=⟨i,rfl,q⟩
local macro_rules | `(tactic| walk_at "rd")=>`(tactic| with_reducible refine AF ?_)
inductive P14(vs:List V)(H:Hp)(Q:VK)(E:XK):Prop
  | mk {c k:Int} (_:vs=[.int c,.int k]) (_:Bd 1048576 c) (_:Bd 64 k) (_:∀ r:Int,0<=r->r<170141183460469231731687303715884105727->Q (.int r) H):P14 vs H Q E
abbrev yE:=@P14.mk
inductive P15(vs:List V)(H:Hp)(Q:VK)(E:XK):Prop
  | mk (a b:Int) (_:vs=[.int a,.int b]) (_:Q (.int (Int.gcd a b:Nat)) H):P15 vs H Q E
theorem vW{a b:Int}{Q:VK}(q:Q (.int (Int.gcd a b:Nat)) H):P15 ([.int a,.int b]++[]) H Q E:=⟨a,b,rfl,q⟩
local macro_rules | `(tactic| walk_at "rd")=>`(tactic| with_reducible refine vW ?_)
inductive P16(vs:List V)(H:Hp)(Q:VK)(E:XK):Prop
  | mk {d a b:Int} (_:vs=[.int d,.int a,.int b]) (_:Bd 64 d) (_:Bd 8000 a) (_:Bd 8000 b) (_:∀ H',Same H H'->Q (.int (sgn d a b)) H'):P16 vs H Q E
abbrev vx:=@P16.mk
inductive P17(vs:List V)(H:Hp)(Q:VK)(E:XK):Prop
  | mk {l:Addr} {L:List Cell} (_:vs=[.ref l]) (_:H l=some (.lst (L.map Cell.v))) (_:(∀ c∈L,c.At H)) (_:L.length<=60) (_:(∀ (r a:Addr) (H':Hp),Same H H'->H a=none->H' r=some (.tup [.ref a,.int (L.length:Int)])->Ly H' a (List.range L.length) (fL L)->Q (.ref r) H')):P17 vs H Q E
abbrev wW:=@P17.mk
inductive P18(cs:Cs)(vs:List V)(H:Hp)(Q:VK)(E:XK):Prop
  | mk (p dx hp:Addr) (d:Int) (tn:Bool) (cl:List Cell) (_:vs=[.ref p,.int d,.ref hp,.bl tn]) (_:H p=some (.ins cs.Yard dx [])) (_:H hp=some (.lst (cl.map Cell.v))) (_:(∀ c∈cl,c.At H)) (_:cl.length<=60) (_:∀ (y:Yd) (H':Hp),y.p=p->y.dx=dx->(∀ b o,H b=some o->b≠p->H' b=some o)->YdAt cs.Yard H' y d tn cl (List.range cl.length) []->H y.k=none->H y.l=none->H y.t=none->Q .non H'):P18 cs vs H Q E
variable {vs:List V}
theorem vC{cs:Cs}{x hp:Addr}{H1:Hp}{Q:VK}(hv:vs=[.ref x,.int d,.ref hp,.bl tn])(n1:H1 x=none)(n2:H1 dx=none)(hh:H1 hp=some (.lst (cl.map Cell.v)))(hat:∀ c∈cl,c.At H1)(hl:cl.length<=60)(q:∀ (y:Yd) (H':Hp),y.p=x->Same H1 H'->YdAt cs.Yard H' y d tn cl (List.range cl.length) []->H1 y.k=none->H1 y.l=none->H1 y.t=none->Q .non H') : P18 cs vs (upd (upd H1 dx (.own x)) x (.ins cs.Yard dx [])) Q E:=by
  subst hv;have k:∀ b o,H1 b=some o->(upd (upd H1 dx (.own x)) x (.ins cs.Yard dx [])) b=some o:=λb o e=>by
    rw [zl (zb e n1),zl (zb e n2)]; exact e
  have nn:∀ b,(upd (upd H1 dx (.own x)) x (.ins cs.Yard dx [])) b=none->H1 b=none:=λb h=>by
    cases e:H1 b with
    | none=>rfl
    | some o=>rw [k b o e] at h; cases h
  exact ⟨x,dx,hp,d,tn,cl,rfl,zg,k _ _ hh,λc hc=>⟨k _ _ (hat c hc).t,k _ _ (hat c hc).w,k _ _ (hat c hc).h⟩,hl,λy H' e1 _ fr hy h1 h2 h3=>q y H' e1 (λb o e=>fr b o (k b o e) (zb e n1)) hy (nn _ h1) (nn _ h2) (nn _ h3)⟩
inductive P19(cs:Cs)(vs:List V)(H:Hp)(Q:VK)(E:XK):Prop
  | mk {y:Yd} {d:Int} {tn:Bool} {cl:List Cell} {ns:List Nat} {lg:List V} {n:Nat} {c:Cell} (_:vs=[.ref y.p,.int (n:Int)]) (_:YdAt cs.Yard H y d tn cl ns lg) (_:cl[n]?=some c) (_:Q (.ref c.p) H):P19 cs vs H Q E
abbrev wE:=@P19.mk
inductive P20(cs:Cs)(vs:List V)(H:Hp)(Q:VK)(E:XK):Prop
  | mk {y:Yd} {d:Int} {tn:Bool} {cl:List Cell} {ns:List Nat} {lg:List V} (_:vs=[.ref y.p]) (_:YdAt cs.Yard H y d tn cl ns lg) (_:∀ (r:Addr) (H':Hp) (ps:List Addr),Same H H'->H r=none->H' r=some (.lst (ps.map V.ref))->Prs cl ns H' ps->Q (.ref r) H'):P20 cs vs H Q E
abbrev uO:=@P20.mk
inductive P21(vs:List V)(H:Hp)(Q:VK)(E:XK):Prop
  | mk (a b n:Int) (_:vs=[.int a,.int b,.int n]) (_:n≠0) (_:Bd 8000 n) (_:(Bd 8192 a/\Bd 8192 b)) (_:∀ p H',Same H H'->H' p=some (.tup [.int (lA a b n),.int (lB a b n),.int (lN a b n)])->Q (.ref p) H'):P21 vs H Q E
theorem yT{a b n:Int}{Q:VK}(e:vs=[.int a,.int b,.int n])(hn:n≠0)(hb:Bd 8000 n)(q:∀ p H',Same H H'->H' p=some (.tup [.int (lA a b n),.int (lB a b n),.int (lN a b n)])->Q (.ref p) H')(ha8:Bd 8192 a:=by walk_at "b8")(hb8:Bd 8192 b:=by walk_at "b8"):P21 vs H Q E:=⟨a,b,n,e,hn,hb,⟨ha8,hb8⟩,q⟩
inductive P22(vs:List V)(H:Hp)(Q:VK)(E:XK):Prop
  | mk (t b:Int) (_:vs=[.int t,.int b]) (_:b≠0) (_:Bd 8000 b) (_:∀ (r:Addr) (H':Hp),Same H H'->H' r=some (.tup [.int (fT t b),.int (fB t b)])->Q (.ref r) H'):P22 vs H Q E
theorem ur{t b:Int}{Q:VK}(e:vs=[.int t,.int b])(hn:b≠0)(hb:Bd 8000 b)(q:∀ (r:Addr) (H':Hp),Same H H'->H' r=some (.tup [.int (fT t b),.int (fB t b)])->Q (.ref r) H'):P22 vs H Q E:=⟨t,b,e,hn,hb,q⟩
inductive P23(K:iC)(vs:List V)(H:Hp)(Q:VK)(E:XK):Prop
  | mk (p q:Addr) (x y z x' y' z':Int) (_:vs=[.ref p,.ref q]) (_:SqT K H p [.int x,.int y,.int z]) (_:H q=some (.tup [.int x',.int y',.int z'])) (_:1<=z) (_:1<=z') (_:g3 x y z=1) (_:g3 x' y' z'=1) (_:(Bd 3900 x/\Bd 3900 y/\Bd 3900 z/\Bd 3900 x'/\Bd 3900 y'/\Bd 3900 z')) (_:∀ (r:Addr) (H':Hp),Same H H'->H' r=some (.tup [.int (lA (x*z'+x'*z) (y*z'+y'*z) (z*z')),.int (lB (x*z'+x'*z) (y*z'+y'*z) (z*z')),.int (lN (x*z'+x'*z) (y*z'+y'*z) (z*z'))])->Q (.ref r) H'):P23 K vs H Q E
theorem Du{K:iC}{p:Addr}{x:Int}{Q:VK}(h1:SqT K H p [.int x,.int y,.int z])(h2:H p'=some (.tup [.int x',.int y',.int z']))(n1:1<=z)(n2:1<=z')(k1:g3 x y z=1)(k2:g3 x' y' z'=1)(b1:Bd 3900 x)(b2:Bd 3900 y)(b3:Bd 3900 z)(b4:Bd 3900 x')(b5:Bd 3900 y')(b6:Bd 3900 z')(q:∀ (r:Addr) (H':Hp),Same H H'->H' r=some (.tup [.int (lA (x*z'+x'*z) (y*z'+y'*z) (z*z')),.int (lB (x*z'+x'*z) (y*z'+y'*z) (z*z')),.int (lN (x*z'+x'*z) (y*z'+y'*z) (z*z'))])->Q (.ref r) H'):P23 K ([.ref p,.ref p']++[]) H Q E:=⟨p,p',x,y,z,x',y',z',rfl,h1,h2,n1,n2,k1,k2,⟨b1,b2,b3,b4,b5,b6⟩,q⟩
inductive P24(K:iC)(vs:List V)(H:Hp)(Q:VK)(E:XK):Prop
  | mk (d:Int) (p p':Addr) (x y z x' y' z':Int) (_:vs=[.int d,.ref p,.ref p']) (_:SqT K H p [.int x,.int y,.int z]) (_:H p'=some (.tup [.int x',.int y',.int z'])) (_:Bd 64 d) (_:(Bd 2500 x/\Bd 2500 y/\Bd 2500 z/\Bd 2500 x'/\Bd 2500 y'/\Bd 2500 z')) (_:Q (.bl (decide (0<sgn d (x'*z - x*z') (y'*z - y*z')))) H):P24 K vs H Q E
theorem Ba{K:iC}{p:Addr}{x:Int}{Q:VK}(h1:SqT K H p [.int x,.int y,.int z])(h2:H p'=some (.tup [.int x',.int y',.int z']))(hd:Bd 64 d)(b1:Bd 2500 x)(b2:Bd 2500 y)(b3:Bd 2500 z)(b4:Bd 2500 x')(b5:Bd 2500 y')(b6:Bd 2500 z')(q:Q (.bl (decide (0<sgn d (x'*z - x*z') (y'*z - y*z')))) H):P24 K ([.int d,.ref p,.ref p']++[]) H Q E:=⟨d,p,p',x,y,z,x',y',z',rfl,h1,h2,hd,⟨b1,b2,b3,b4,b5,b6⟩,q⟩
inductive P25(vs:List V)(H:Hp)(Q:VK)(E:XK):Prop
  | mk (d d':Int) (p r1 r2 o:Addr) (s:B4) (N x y:Int) (_:vs=[.int d,.ref p,.ref o]) (_:BsAt H p r1 r2 s N) (_:H o=some (.tup [.int (lA x y N),.int (lB x y N),.int (lN x y N)])) (_:1<=N) (_:Bd 900 N) (_:GB d' 900 s) (_:(Bd 900 x/\Bd 900 y)) (_:∀ (r:Addr) (H':Hp),Same H H'->H' r=some (.tup [.int (s.i x y),.int (s.j x y)])->Q (.ref r) H'):P25 vs H Q E
variable {r1 r2:Addr}
theorem BI{d':Int}{p o:Addr}{s:B4}{N x:Int}{Q:VK}(h:BsAt H p r1 r2 s N)(ho:H o=some (.tup [.int (lA x y N),.int (lB x y N),.int (lN x y N)]))(hN:1<=N)(hb:Bd 900 N)(g:GB d' 900 s)(bx:Bd 900 x)(by':Bd 900 y)(q:∀ (r:Addr) (H':Hp),Same H H'->H' r=some (.tup [.int (s.i x y),.int (s.j x y)])->Q (.ref r) H'):P25 ([.int d,.ref p,.ref o]++[]) H Q E:=⟨d,d',p,r1,r2,o,s,N,x,y,rfl,h,ho,hN,hb,g,⟨bx,by'⟩,q⟩
inductive P26(K:iC)(vs:List V)(H:Hp)(Q:VK)(E:XK):Prop
  | mk {d:Int} {k:Nat} {p:Addr} {L:List Ln} (_:vs=[.ref p]) (_:LsB d k H p L) (_:L.length<=40) (_:Bd 890 (cbs (L.map λc=>c.s.z))) (_:Q (.int (cbs (L.map λc=>c.s.z))) H):P26 K vs H Q E
abbrev vo:=@P26.mk
inductive P27(cs:Cs)(vs:List V)(H:Hp)(Q:VK)(E:XK):Prop
  | mk {y:Yd} {d:Int} {tn:Bool} {cl:List Cell} {ns:List Nat} {lg:List V} {p a:Addr} {e:Dd} {n:Nat} {c:Cell} {m m':Int} (_:vs=[.ref y.p,.ref p,.ref a]) (_:YdAt cs.Yard H y d tn cl ns lg) (_:DdAt H p e) (_:H a=some (.lst (if e.puts=2 then [.int m,.int m'] else [.int m]))) (_:e.n=(n:Int)) (_:cl[n]?=some c) (_:(∀ (r:Addr) (H':Hp),Same H H'->H r=none->DdAt H' r (e.und m m' c.b)->Q (.ref r) H')):P27 cs vs H Q E
abbrev Ep:=@P27.mk
inductive P28(vs:List V)(H:Hp)(Q:VK)(E:XK):Prop
  | mk {pl:Addr} {ps:List Addr} {bs:List Bo} {es:DL} {d:Int} {tn:Bool} (_:vs=[.int ((bs.length:Nat):Int),.ref pl]) (_:1<=bs.length) (_:bs.length<=30) (_:H pl=some (.lst (ps.map V.ref))) (_:ps.length<=150) (_:Runs H ps es) (_:Walk d tn (As.sb bs) es) (_:(∀ (r:Addr) (H':Hp),Same H H'->H r=none->H' r=some (.lst (((ends (As.sb bs) es).ns.map λn:Nat=>(n:Int)).map V.int))->Q (.ref r) H')):P28 vs H Q E
abbrev vY:=@P28.mk
inductive P29(K:iC)(vs:List V)(H:Hp)(Q:VK)(E:XK):Prop
  | mk (p p':Addr) (x y:Rat) (_:vs=[.ref p,.ref p']) (_:Fs K H p x) (_:Fq H p' y) (_:(Bq 8000 x/\Bq 8000 y)) (_:∀ (r:Addr) (H':Hp),Same H H'->Fq H' r (x+y)->Q (.ref r) H'):P29 K vs H Q E
theorem uR{K:iC}{p:Addr}{x y:Rat}{Q:VK}(h1:Fs K H p x)(h2:Fq H p' y)(b1:Bq 8000 x)(b2:Bq 8000 y)(q:∀ (r:Addr) (H':Hp),Same H H'->Fq H' r (x+y)->Q (.ref r) H'):P29 K ([.ref p,.ref p']++[]) H Q E:=⟨p,p',x,y,rfl,h1,h2,⟨b1,b2⟩,q⟩
inductive P30(vs:List V)(H:Hp)(Q:VK)(E:XK):Prop
  | mk (p p':Addr) (x y:Rat) (_:vs=[.ref p,.ref p']) (_:Fq H p x) (_:Fq H p' y) (_:(Bq 8000 x/\Bq 8000 y)) (_:∀ (r:Addr) (H':Hp),Same H H'->Fq H' r (x*y)->Q (.ref r) H'):P30 vs H Q E
theorem uX{p:Addr}{x y:Rat}{Q:VK}(h1:Fq H p x)(h2:Fq H p' y)(b1:Bq 8000 x)(b2:Bq 8000 y)(q:∀ (r:Addr) (H':Hp),Same H H'->Fq H' r (x*y)->Q (.ref r) H'):P30 ([.ref p,.ref p']++[]) H Q E:=⟨p,p',x,y,rfl,h1,h2,⟨b1,b2⟩,q⟩
inductive P31(vs:List V)(H:Hp)(Q:VK)(E:XK):Prop
  | mk (c m:Int) (_:vs=[.int c,.int m]) (_:Bd 1048576 c) (_:(0<=m/\m<=20)) (_:∀ (l:Addr) (H':Hp) (ds:List Int),Same H H'->H' l=some (.lst (ds.map V.int))->(ds.length:Int)=m->(∀ x∈ds,0<=x/\x<1000000)->Q (.ref l) H'):P31 vs H Q E
theorem yL{c:Int}{Q:VK}(hc:Bd 1048576 c)(m0:0<=m)(m1:m<=20)(q:∀ (l:Addr) (H':Hp) (ds:List Int),Same H H'->H' l=some (.lst (ds.map V.int))->(ds.length:Int)=m->(∀ x∈ds,0<=x/\x<1000000)->Q (.ref l) H'):P31 ([.int c,.int m]++[]) H Q E:=⟨c,m,rfl,hc,⟨m0,m1⟩,q⟩
inductive P32(vs:List V)(H:Hp)(Q:VK)(E:XK):Prop
  | mk {a b n:Int} (_:vs=[.int a,.int b,.int n]) (_:n≠0) (_:Bd 8000 n) (_:∀ (r:Addr) (H':Hp),Same H H'->H' r=some (.tup [.int (lA a b n),.int (lB a b n),.int (lN a b n)])->Q (.ref r) H'):P32 vs H Q E
abbrev xp:=@P32.mk
inductive P33(vs:List V)(H:Hp)(Q:VK)(E:XK):Prop
  | mk {c k:Int} (_:vs=[.int c,.int k]) (_:Bd 1048576 c) (_:Bd 64 k) (_:∀ (d:Int) (H':Hp),Rt d->Same H H'->Q (.int d) H'):P33 vs H Q E
abbrev AR:=@P33.mk
inductive P34(vs:List V)(H:Hp)(Q:VK)(E:XK):Prop
  | mk {p:Addr} {s:Sd} (_:vs=[.ref p]) (_:SdAt H p s) (_:1<=s.z) (_:Q (.bl true) H):P34 vs H Q E
abbrev wZ:=@P34.mk
inductive P35(cs:Cs)(vs:List V)(H:Hp)(Q:VK)(E:XK):Prop
  | mk {y:Yd} {d:Int} {tn:Bool} {cl:List Cell} {ns:List Nat} {lg:List V} {a:Addr} {ms:List Int} (_:vs=[.ref y.p,.ref a]) (_:YdAt cs.Yard H y d tn cl ns lg) (_:H a=some (.lst (ms.map V.int))) (_:(∀ m∈ms,∃ n∈ns,m=(n:Int))) (_:ms.Nodup) (_:ms.length<=2) (_:Q .non H):P35 cs vs H Q E
abbrev wx:=@P35.mk
inductive P36(vs:List V)(H:Hp)(Q:VK)(E:XK):Prop
  | mk {p:Addr} {a b n:Int} (_:vs=[.ref p]) (_:H p=some (.tup [.int a,.int b,.int n])) (_:n≠0) (_:Bd 8000 n) (_:∀ (r r1 r2:Addr) (H':Hp),Same H H'->H' r=some (.tup [.ref r1,.ref r2])->H' r1=some (.tup [.int (fT a n),.int (fB a n)])->H' r2=some (.tup [.int (fT b n),.int (fB b n)])->Q (.ref r) H'):P36 vs H Q E
abbrev EV:=@P36.mk
inductive P37(vs:List V)(H:Hp)(Q:VK)(E:XK):Prop
  | mk (p q:Addr) (x y z x' y' z':Int) (_:vs=[.ref p,.ref q]) (_:H p=some (.tup [.int x,.int y,.int z])) (_:H q=some (.tup [.int x',.int y',.int z'])) (_:1<=z) (_:1<=z') (_:g3 x y z=1) (_:g3 x' y' z'=1) (_:(Bd 3900 x/\Bd 3900 y/\Bd 3900 z/\Bd 3900 x'/\Bd 3900 y'/\Bd 3900 z')) (_:∀ (r:Addr) (H':Hp),Same H H'->H' r=some (.tup [.int (lA (x*z'+-x'*z) (y*z'+-y'*z) (z*z')),.int (lB (x*z'+-x'*z) (y*z'+-y'*z) (z*z')),.int (lN (x*z'+-x'*z) (y*z'+-y'*z) (z*z'))])->Q (.ref r) H'):P37 vs H Q E
theorem Bn{p:Addr}{x:Int}{Q:VK}(h1:H p=some (.tup [.int x,.int y,.int z]))(h2:H p'=some (.tup [.int x',.int y',.int z']))(n1:1<=z)(n2:1<=z')(k1:g3 x y z=1)(k2:g3 x' y' z'=1)(b1:Bd 3900 x)(b2:Bd 3900 y)(b3:Bd 3900 z)(b4:Bd 3900 x')(b5:Bd 3900 y')(b6:Bd 3900 z')(q:∀ (r:Addr) (H':Hp),Same H H'->H' r=some (.tup [.int (lA (x*z'+-x'*z) (y*z'+-y'*z) (z*z')),.int (lB (x*z'+-x'*z) (y*z'+-y'*z) (z*z')),.int (lN (x*z'+-x'*z) (y*z'+-y'*z) (z*z'))])->Q (.ref r) H'):P37 ([.ref p,.ref p']++[]) H Q E:=⟨p,p',x,y,z,x',y',z',rfl,h1,h2,n1,n2,k1,k2,⟨b1,b2,b3,b4,b5,b6⟩,q⟩
inductive P38(vs:List V)(H:Hp)(Q:VK)(E:XK):Prop
  | mk (d:Int) (p p':Addr) (x y z x' y' z':Int) (_:vs=[.int d,.ref p,.ref p']) (_:H p=some (.tup [.int x,.int y,.int z])) (_:H p'=some (.tup [.int x',.int y',.int z'])) (_:Bd 64 d) (_:(Bd 1990 x/\Bd 1990 y/\Bd 1990 z/\Bd 1990 x'/\Bd 1990 y'/\Bd 1990 z')) (_:z≠0) (_:z'≠0) (_:∀ (r:Addr) (H':Hp),Same H H'->H' r=some (.tup [.int (lA (x*x'+d*y*y') (x*y'+y*x') (z*z')),.int (lB (x*x'+d*y*y') (x*y'+y*x') (z*z')),.int (lN (x*x'+d*y*y') (x*y'+y*x') (z*z'))])->Q (.ref r) H'):P38 vs H Q E
theorem Ix{p:Addr}{x:Int}{Q:VK}(h1:H p=some (.tup [.int x,.int y,.int z]))(h2:H p'=some (.tup [.int x',.int y',.int z']))(hd:Bd 64 d)(b1:Bd 1990 x)(b2:Bd 1990 y)(b3:Bd 1990 z)(b4:Bd 1990 x')(b5:Bd 1990 y')(b6:Bd 1990 z')(n1:z≠0)(n2:z'≠0)(q:∀ (r:Addr) (H':Hp),Same H H'->H' r=some (.tup [.int (lA (x*x'+d*y*y') (x*y'+y*x') (z*z')),.int (lB (x*x'+d*y*y') (x*y'+y*x') (z*z')),.int (lN (x*x'+d*y*y') (x*y'+y*x') (z*z'))])->Q (.ref r) H'):P38 ([.int d,.ref p,.ref p']++[]) H Q E:=⟨d,p,p',x,y,z,x',y',z',rfl,h1,h2,hd,⟨b1,b2,b3,b4,b5,b6⟩,n1,n2,q⟩
inductive P39(vs:List V)(H:Hp)(Q:VK)(E:XK):Prop
  | mk {d N:Int} (_:vs=[.int d,.int N]) (_:1<=N) (_:Bd 900 N) (_:∀ (p' r1' r2':Addr) (H':Hp),Same H H'->BsAt H' p' r1' r2' b4 N->Q (.ref p') H'):P39 vs H Q E
abbrev t8:=@P39.mk
inductive P40(vs:List V)(H:Hp)(Q:VK)(E:XK):Prop
  | mk {p:Addr} {s:Sd} (_:vs=[.ref p]) (_:SdAt H p s) (_:SK 2400 2100 s) (_:∀ H',Same H H'->Q (.bl true) H'):P40 vs H Q E
abbrev Bj:=@P40.mk
inductive P41(vs:List V)(H:Hp)(Q:VK)(E:XK):Prop
  | mk {c c':Cell} (_:vs=[.ref c.p,.ref c'.p]) (_:c.At H) (_:c'.At H) (_:c.b.h=c'.b.h) (_:SY c.b.w) (_:SY c'.b.w) (_:∀ (c1:Cell) (H':Hp),Same H H'->H c1.p=none->c1.At H'->c1.b=⟨adS c.b.w c'.b.w,c.b.h⟩->Q (.ref c1.p) H'):P41 vs H Q E
abbrev xT:=@P41.mk
inductive P42(vs:List V)(H:Hp)(Q:VK)(E:XK):Prop
  | mk {c:Cell} {k:Int} (_:vs=[.ref c.p,.int k]) (_:c.At H) (_:1<=k) (_:Bd 1024 k) (_:SY c.b.w) (_:SY c.b.h) (_:∀ (c1:Cell) (H':Hp),Same H H'->H c1.p=none->c1.At H'->c1.b=⟨shS c.b.w 1 k,shS c.b.h k 1⟩->Q (.ref c1.p) H'):P42 vs H Q E
abbrev tX:=@P42.mk
inductive P43(vs:List V)(H:Hp)(Q:VK)(E:XK):Prop
  | mk {pl ml:Addr} {ps ms:List Addr} {bs F:List Bo} {es fs:DL} {d:Int} {tn:Bool} (_:vs=[.int ((bs.length:Nat):Int),.ref pl,.ref ml]) (_:1<=bs.length) (_:bs.length<=30) (_:H pl=some (.lst (ps.map V.ref))) (_:ps.length<=150) (_:Runs H ps es) (_:Walk d tn (As.sb bs) es) (_:H ml=some (.lst (ms.map V.ref))) (_:ms.length<=150) (_:Runs H ms fs) (_:(ends (As.sb bs) es).ns.map (ends (As.sb bs) es).g=F) (_:Walk d false (As.sb F) fs) (_:(∀ (b:Addr) (qs:List Addr) (H':Hp),Same H H'->H b=none->H' b=some (.lst ((ps++qs).map V.ref))->Runs H' (ps++qs) (es++fs.map (rnx (nmr (ends (As.sb bs) es))))->Q (.ref b) H')):P43 vs H Q E
abbrev Cu:=@P43.mk
inductive P44(K:iC)(vs:List V)(H:Hp)(Q:VK)(E:XK):Prop
  | mk {p p':Addr} {s t:Tb} (_:vs=[.ref p,.ref p']) (_:(∃ r0 r1 f0 f1 f2 f3:Addr,TbS K H p r0 r1 f0 f1 f2 f3 s)) (_:TbAt H p' t) (_:s.Bt 4000 4000) (_:t.Bt 4000 4000) (_:∀ (r:Addr) (H':Hp),Same H H'->TbAt H' r (s.add t)->Q (.ref r) H'):P44 K vs H Q E
abbrev CQ:=@P44.mk
inductive P45(vs:List V)(H:Hp)(Q:VK)(E:XK):Prop
  | mk {p p':Addr} {s t:Sd} {g:Int} (_:vs=[.ref p,.ref p',.int g]) (_:SdAt H p s) (_:SdAt H p' t) (_:SY s) (_:SY t) (_:Bd 60 g) (_:(∀ (r:Addr) (H':Hp),Same H H'->SdAt H' r (plS s t g)->Q (.ref r) H')):P45 vs H Q E
abbrev yN:=@P45.mk
inductive P46(vs:List V)(H:Hp)(Q:VK)(E:XK):Prop
  | mk {p:Addr} {s:Sd} {m k:Int} (_:vs=[.ref p,.int m,.int k]) (_:SdAt H p s) (_:SY s) (_:Bd 1024 m) (_:k≠0) (_:Bd 1024 k) (_:(∀ (r:Addr) (H':Hp),Same H H'->SdAt H' r (shS s m k)->Q (.ref r) H')):P46 vs H Q E
abbrev yn:=@P46.mk
inductive P47(vs:List V)(H:Hp)(Q:VK)(E:XK):Prop
  | mk {d c:Int} {k:Nat} (_:vs=[.int d,.int c,.int (k:Int)]) (_:Rt d) (_:Bd 1048576 c) (_:k<=10) (_:(∀ (r:Addr) (H':Hp) (s:Sd),Same H H'->SdAt H' r s->Dw d s->Q (.ref r) H')):P47 vs H Q E
abbrev we:=@P47.mk
inductive P48(vs:List V)(H:Hp)(Q:VK)(E:XK):Prop
  | mk {d:Int} {p r1 r2:Addr} {s:B4} {N:Int} (_:vs=[.int d,.ref p]) (_:BsAt H p r1 r2 s N) (_:Rt d) (_:1<=N) (_:Bd 900 N) (_:GB d 900 s) (_:∀ (p' r1' r2':Addr) (H':Hp),Same H H'->BsAt H' p' r1' r2' (s.nx d) N->Q (.ref p') H'):P48 vs H Q E
abbrev Bw:=@P48.mk
inductive P49(vs:List V)(H:Hp)(Q:VK)(E:XK):Prop
  | mk {d m:Int} {p:Addr} {s:Sd} (_:vs=[.int d,.int m,.ref p]) (_:SdAt H p s) (_:Bd 64 d) (_:Bd 1024 m) (_:SK 900 900 s) (_:∀ (r:Addr) (H':Hp),Same H H'->SdAt H' r (tmS m s)->Q (.ref r) H'):P49 vs H Q E
abbrev t9:=@P49.mk
inductive P50(vs:List V)(H:Hp)(Q:VK)(E:XK):Prop
  | mk {p:Addr} {e:Dd} (_:vs=[.ref p]) (_:DdAt H p e) (_:e.Ok) (_:∀ H',Same H H'->Q (.bl true) H'):P50 vs H Q E
abbrev DQ:=@P50.mk
inductive P51(vs:List V)(H:Hp)(Q:VK)(E:XK):Prop
  | mk {d:Int} {c:Cell} {p:Addr} {s:Sd} (_:vs=[.int d,.ref c.p,.ref p]) (_:c.At H) (_:SdAt H p s) (_:Bd 64 d) (_:SY c.b.w) (_:SY s) (_:0<sgn d s.x s.y) (_:0<sgn d (c.b.w.x*s.z - s.x*c.b.w.z) (c.b.w.y*s.z - s.y*c.b.w.z)) (_:∀ (r:Addr) (c1 c2:Cell) (H':Hp),Same H H'->H r=none->H' r=some (.lst [.ref c1.p,.ref c2.p])->c1.At H'->c2.At H'->c1.b=⟨s,c.b.h⟩->c2.b=⟨tkS c.b.w s,c.b.h⟩->Q (.ref r) H'):P51 vs H Q E
abbrev wR:=@P51.mk
inductive P52(vs:List V)(H:Hp)(Q:VK)(E:XK):Prop
  | mk {c:Cell} (_:vs=[.ref c.p]) (_:c.At H) (_:(SK 430 340 c.b.w/\SK 430 340 c.b.h)) (_:∀ (r:Addr) (H':Hp),Same H H'->TbAt H' r (c.b.tb)->Q (.ref r) H'):P52 vs H Q E
abbrev tK:=@P52.mk
inductive P53(vs:List V)(H:Hp)(Q:VK)(E:XK):Prop
  | mk {d:Int} {p p':Addr} {s t:Sd} (_:vs=[.int d,.ref p,.ref p']) (_:SdAt H p s) (_:SdAt H p' t) (_:SY s) (_:SY t) (_:Bd 64 d) (_:(∀ H',Same H H'->Q (.bl (decide (sgn d (tkS s t).x (tkS s t).y<0))) H')):P53 vs H Q E
abbrev yW:=@P53.mk
inductive P54(K:iC)(vs:List V)(H:Hp)(Q:VK)(E:XK):Prop
  | mk {p:Addr} {ns:List Int} {d:Int} {ft:Nat} (_:vs=[.ref p,.int d,.int (ft:Int)]) (_:ft<=30) (_:SqL K H p (ns.map V.int)) (_:(∀ x∈ns,Bd 1048576 x)) (_:Rt d) (_:(∀ (r qa l:Addr) (H':Hp) (P:PL) (L:List Cell),Same H H'->H' r=some (.tup [.ref qa,.ref l])->Pl H' qa P->H' l=some (.lst (L.map Cell.v))->(∀ c∈L,c.At H')->(∀ x∈P,Dw d x.2)->(∀ c∈L,Dw d c.b.w/\Dw d c.b.h)->1<=L.length->L.length<=6->Q (.ref r) H')):P54 K vs H Q E
abbrev Bv:=@P54.mk
inductive P55(vs:List V)(H:Hp)(Q:VK)(E:XK):Prop
  | mk {p a:Addr} {d:Int} {e:Dd} {c c':Cell} (_:vs=[.ref p,.ref a]) (_:DdAt H p e) (_:H a=some (.lst (if e.two then [.ref c.p,.ref c'.p] else [.ref c.p]))) (_:c.At H) (_:c'.At H) (_:e.Fit d c.b c'.b) (_:(∀ (r:Addr) (N:List Cell) (H':Hp),Same H H'->H r=none->H' r=some (.lst (N.map Cell.v))->(∀ x∈N,x.At H')->N.map Cell.b=e.new c.b c'.b->Q (.ref r) H')):P55 vs H Q E
abbrev CI:=@P55.mk
inductive P56(K:iC)(vs:List V)(H:Hp)(Q:VK)(E:XK):Prop
  | mk {d:Int} {p:Addr} {L:List Ln} {k:Nat} (_:vs=[.int d,.ref p]) (_:LsB d 700 H p L) (_:Rt d) (_:L.length<=40) (_:Fst d (L.map Ln.u) k) (_:Bd 890 (cbs (L.map λc=>c.s.z))) (_:∀ (p' r1 r2:Addr) (H':Hp),Same H H'->BsAt H' p' r1 r2 (st d k) (cbs (L.map λc=>c.s.z))->Q (.ref p') H'):P56 K vs H Q E
abbrev DI:=@P56.mk
inductive P57(vs:List V)(H:Hp)(Q:VK)(E:XK):Prop
  | mk {d d':Int} {p pb r1 r2:Addr} {s':B4} {N D px py:Int} {C:List Cell} {hb:List Bx} (_:vs=[.int d,.ref p,.ref pb]) (_:H p=some (.lst (C.map Cell.v))) (_:(∀ c∈C,c.At H)) (_:BsAt H pb r1 r2 s' N) (_:1<=N) (_:Bd 900 N) (_:GB d' 900 s') (_:C.length=hb.length) (_:hb.length<=60) (_:Bd 64 d) (_:1<=D) (_:bw1 s' N=sdO D px py) (_:SK 900 900 (bw1 s' N)) (_:(∀ (k:Nat) (c:Cell) (b:Bx),C[k]?=some c->hb[k]?=some b->∃ X Y,c.b.w=sdO N X Y/\Bd 900 X/\Bd 900 Y/\b.i=s'.i X Y/\b.j=s'.j X Y/\Bd 1024 b.i)) (_:(∀ (r:Addr) (ps:List Addr) (H':Hp),Same H H'->H r=none->H' r=some (.lst (ps.map V.ref))->Runs H' ps (npl D px py hb)->Q (.ref r) H')):P57 vs H Q E
abbrev uS:=@P57.mk
inductive P58(K:iC)(vs:List V)(H:Hp)(Q:VK)(E:XK):Prop
  | mk {p:Addr} {L:List Cell} {d D:Int} {M n K':Nat} (_:vs=[.ref p]) (_:HpD d D M n H p L) (_:n<=40) (_:(1<=D/\Bd K' D/\K'<=340/\M<=430)) (_:∀ (r:Addr) (H':Hp),Same H H'->TbAt H' r (tbs (L.map Cell.b))->Q (.ref r) H'):P58 K vs H Q E
abbrev DB:=@P58.mk
inductive P59(vs:List V)(H:Hp)(Q:VK)(E:XK):Prop
  | mk {d:Int} {l p qa:Addr} {ds:List Int} {s:Sd} {P:PL} {D:Int} {M K':Nat} (_:vs=[.int d,.ref l,.ref p,.ref qa]) (_:H l=some (.lst (ds.map V.int))) (_:(ds.length:Int)=8) (_:(∀ x∈ds,0<=x/\x<1000000)) (_:SdAt H p s) (_:So d D M s) (_:Pl H qa P) (_:(∀ x∈P,So d D M x.2)) (_:Sz D K' M) (_:Rt d) (_:(∀ (r:Addr) (H':Hp) (f:Sd) (k:Int),Same H H'->SdAt H' r f->1<=k->Bd 6 k->So d (D*k) (M+6) f->sgn d (tkS s f).x (tkS s f).y=1->Q (.ref r) H')):P59 vs H Q E
abbrev Ac:=@P59.mk
inductive P60(vs:List V)(H:Hp)(Q:VK)(E:XK):Prop
  | mk {a p:Addr} {ns:List Nat} {f:Nat->Cell} {k:Nat} {d D:Int} {M:Nat} {e:Dd} {n m:Nat} (_:vs=[.ref a,.int (k:Int),.ref p]) (_:Ly H a ns f) (_:(∀ n∈ns,n<k)) (_:ns.length<250) (_:DdAt H p e) (_:e.Good d D M ns f n m) (_:(∀ (r a':Addr) (N:List Cell) (H':Hp),Same H H'->H a'=none->H' r=some (.tup [.ref a',.int ((k+N.length:Nat):Int)])->N.map Cell.b=(e.new (f n).b (f m).b)->Ly H' a' (yg ns e.names++List.range' k N.length) (fN f k N)->Q (.ref r) H')):P60 vs H Q E
abbrev vH:=@P60.mk
inductive P61(vs:List V)(H:Hp)(Q:VK)(E:XK):Prop
  | mk {d:Int} {p a:Addr} {ns:List Nat} {f:Nat->Cell} {e:Dd} {n m:Nat} (_:vs=[.int d,.ref p,.ref a]) (_:DdAt H p e) (_:Ly H a ns f) (_:n∈ns) (_:m∈ns) (_:e.names=(if e.two then [(n:Int),(m:Int)] else [(n:Int)])) (_:(e.two=true->n≠m)) (_:(e.two=false->m=n)) (_:e.Ok) (_:e.Fit d (f n).b (f m).b) (_:e.isT=false) (_:Bd 64 d) (_:Rt d) (_:(∀ H',Same H H'->Q (.bl true) H')):P61 vs H Q E
abbrev Bu:=@P61.mk
inductive P62(cs:Cs)(vs:List V)(H:Hp)(Q:VK)(E:XK):Prop
  | mk {y:Yd} {d:Int} {tn:Bool} {cl:List Cell} {ns:List Nat} {lg:List V} {p a:Addr} {e:Dd} {c c':Cell} (_:vs=[.ref y.p,.ref p,.ref a]) (_:YdAt cs.Yard H y d tn cl ns lg) (_:DdAt H p e) (_:H a=some (.lst (if e.two then [.ref c.p,.ref c'.p] else [.ref c.p]))) (_:c.At H) (_:c'.At H) (_:Bd 64 d) (_:e.Fit d c.b c'.b) (_:(∀ (r:Addr) (N:List Cell) (H':Hp),Same H H'->H r=none->H' r=some (.lst (N.map Cell.v))->(∀ x∈N,x.At H')->N.map Cell.b=e.new c.b c'.b->Q (.ref r) H')):P62 cs vs H Q E
abbrev tz:=@P62.mk
inductive P63(K:iC)(vs:List V)(H:Hp)(Q:VK)(E:XK):Prop
  | mk {d c:Int} {a qa:Addr} {ns:List Nat} {f:Nat->Cell} {P:PL} {D:Int} {M K':Nat} (_:vs=[.int d,.int c,.ref a,.ref qa]) (_:Bd 1048576 c) (_:Ly H a ns f) (_:ns.Pairwise (· < ·)) (_:ns.length<64) (_:ns≠[]) (_:(∀ n∈ns,BoD d D M (f n).b)) (_:Pl H qa P) (_:(∀ x∈P,So d D M x.2)) (_:Sz D K' M) (_:Rt d) (_:(∀ (p:Addr) (e:Dd) (n m:Nat) (H':Hp),Same H H'->DdAt H' p e->e.Good d D M ns f n m->e.isT=false->Q (.ref p) H')):P63 K vs H Q E
abbrev AV:=@P63.mk
inductive P64(vs:List V)(H:Hp)(Q:VK)(E:XK):Prop
  | mk {d:Int} {hp pl:Addr} {L:List Cell} {ps:List Addr} {es:DL} {D:Int} {M K':Nat} (_:vs=[.int d,.ref hp,.ref pl]) (_:H hp=some (.lst (L.map Cell.v))) (_:(∀ c∈L,c.At H)) (_:1<=L.length) (_:L.length<=30) (_:H pl=some (.lst (ps.map V.ref))) (_:es.length<=150) (_:Rt d) (_:Runs H ps es) (_:Walk d false (As.st L) es) (_:Sz D K' M) (_:(∀ i,i<=es.length->∀ n∈(ends (As.st L) (es.take i)).ns,BoD d D M ((ends (As.st L) (es.take i)).g n))) (_:(ends (As.st L) es).ns.length<=30) (_:(∀ (r:Addr) (C:List Cell) (H':Hp),Same H H'->H' r=some (.lst (C.map Cell.v))->(∀ c∈C,c.At H')->C.map Cell.b=(ends (As.st L) es).ns.map (ends (As.st L) es).g->Q (.ref r) H')):P64 vs H Q E
abbrev uC:=@P64.mk
inductive P65(cs:Cs)(vs:List V)(H:Hp)(Q:VK)(E:XK):Prop
  | mk {y:Yd} {d:Int} {tn:Bool} {cl:List Cell} {ns:List Nat} {lg:List V} {p:Addr} {e:Dd} {c c':Cell} (_:vs=[.ref y.p,.ref p]) (_:YdAt cs.Yard H y d tn cl ns lg) (_:DdAt H p e) (_:e.Ok) (_:(∀ m∈e.names,∃ n∈ns,m=(n:Int))) (_:e.names.Nodup) (_:(e.isT=true->tn=true)) (_:CellsOf cl e c c') (_:e.Fit d c.b c'.b) (_:Bd 64 d) (_:cl.length<=398) (_:lg.length<=199) (_:(∀ (N:List Cell) (H':Hp),YdAt cs.Yard H' y d tn (cl++N) (yg ns e.names++List.range' cl.length N.length) (lg++[.ref p])->N.map Cell.b=e.new c.b c'.b->(∀ b o,H b=some o->b≠y.k->b≠y.l->b≠y.t->H' b=some o)->Q .non H')):P65 cs vs H Q E
abbrev Dj:=@P65.mk
inductive P66(cs:Cs)(vs:List V)(H:Hp)(Q:VK)(E:XK):Prop
  | mk {hp pl:Addr} {d:Int} {tn:Bool} {L:List Cell} {ps:List Addr} {es:DL} (_:vs=[.int d,.ref hp,.ref pl,.bl tn]) (_:H hp=some (.lst (L.map Cell.v))) (_:(∀ c∈L,c.At H)) (_:L.length<=30) (_:H pl=some (.lst (ps.map V.ref))) (_:ps.length<=150) (_:Bd 64 d) (_:Runs H ps es) (_:Walk d tn (As.st L) es) (_:(∀ (y:Yd) (H':Hp),Same H H'->YdS cs.Yard H' y d tn (ends (As.st L) es) (ps.map V.ref)->Q (.ref y.p) H')):P66 cs vs H Q E
abbrev uY:=@P66.mk
inductive P67(vs:List V)(H:Hp)(Q:VK)(E:XK):Prop
  | mk {d D':Int} {fo pl pp p1 p2:Addr} {L C2:List Cell} {ps:List Addr} {es:DL} {qs:List Nat} (_:vs=[.int d,.ref fo,.ref p1,.ref p2]) (_:H fo=some (.tup [.str (Str.ofString "plan"),.ref pl,.ref pp])) (_:H pl=some (.lst (ps.map V.ref))) (_:H pp=some (.lst ((qs.map λn:Nat=>(n:Int)).map V.int))) (_:Runs H ps es) (_:ps.length<=150) (_:H p1=some (.lst (L.map Cell.v))) (_:H p2=some (.lst (C2.map Cell.v))) (_:(∀ c∈L,c.At H)) (_:(∀ c∈C2,c.At H)) (_:(1<=L.length/\L.length<=20)) (_:(1<=C2.length/\C2.length<=20)) (_:Sz D' 660 1400) (_:Plan d false D' 1400 (L.map Cell.b) (C2.map Cell.b) es qs) (_:Rt d) (_:(∀ H',Same H H'->Q (.bl true) H')):P67 vs H Q E
abbrev yB:=@P67.mk
inductive P68(K:iC)(vs:List V)(H:Hp)(Q:VK)(E:XK):Prop
  | mk {d D:Int} {a l qa:Addr} {ns:List Int} {L:List Cell} {P:PL} {ft n6 M K':Nat} (_:vs=[.int d,.ref a,.ref l,.ref qa,.int (ft:Int),.int ((ft+n6:Nat):Int)]) (_:SqL K H a (ns.map V.int)) (_:(∀ x∈ns,Bd 1048576 x)) (_:H l=some (.lst (L.map Cell.v))) (_:(∀ c∈L,c.At H)) (_:Pl H qa P) (_:Rt d) (_:1<=L.length) (_:L.length<=20) (_:(∀ c∈L,BoD d D M c.b)) (_:(∀ x∈P,Dw d x.2/\x.2.z∣D)) (_:Sz D K' M) (_:n6<=10) (_:K'<=1000) (_:(K'+13<=M/\M<=1000)) (_:(∀ (r:Addr) (H':Hp) (O:List Cell) (D':Int),Same H H'->H r=none->H' r=some (.lst (O.map Cell.v))->(∀ c∈O,c.At H')->D∣D'->1<=D'->Bd (K'+6*n6) D'->(∀ c∈O,BoD d D' (M+13*n6) c.b)->tbs (O.map Cell.b)=tbs (L.map Cell.b)->1<=O.length->O.length<=L.length+n6->Q (.ref r) H')):P68 K vs H Q E
abbrev uV:=@P68.mk
inductive P69(cs:Cs)(vs:List V)(H:Hp)(Q:VK)(E:XK):Prop
  | mk {hp pl:Addr} {d:Int} {tn:Bool} {L:List Cell} {ps:List Addr} {es:DL} {D0:Int} {K' M:Nat} (_:vs=[.int d,.ref hp,.ref pl]) (_:H hp=some (.lst (L.map Cell.v))) (_:(∀ c∈L,c.At H)) (_:1<=L.length) (_:L.length<=20) (_:H pl=some (.lst (ps.map V.ref))) (_:ps.length<=100) (_:Rt d) (_:Runs H ps es) (_:Walk d tn (As.st L) es) (_:Sz D0 K' M) (_:Ever d D0 M (ends (As.st L) es)) (_:(∀ (r a b:Addr) (ps':List Addr) (es':DL) (qs:List Nat) (H':Hp),Same H H'->H' r=some (.tup [.ref a,.ref b])->H a=none->H b=none->a≠b->H' a=some (.lst (ps'.map V.ref))->H' b=some (.lst ((qs.map λn:Nat=>(n:Int)).map V.int))->Runs H' ps' es'->es'.length=es.length->Turned d tn D0 M (L.map Cell.b) ((ends (As.st L) es).ns.map (ends (As.st L) es).g) es' qs->Q (.ref r) H')):P69 cs vs H Q E
abbrev KY:=@P69.mk
inductive P70(cs:Cs)(vs:List V)(H:Hp)(Q:VK)(E:XK):Prop
  | mk {d D:Int} {p1 p2:Addr} {C1 C2:List Cell} (_:vs=[.int d,.ref p1,.ref p2]) (_:H p1=some (.lst (C1.map Cell.v))) (_:H p2=some (.lst (C2.map Cell.v))) (_:(∀ c∈C1,c.At H)) (_:(∀ c∈C2,c.At H)) (_:(∀ c∈C1,BoD d D 330 c.b)) (_:(∀ c∈C2,BoD d D 330 c.b)) (_:1<=D) (_:Bd 330 D) (_:(1<=C1.length/\C1.length<=20)) (_:(1<=C2.length/\C2.length<=20)) (_:Rt d) (_:(tbs (C1.map Cell.b)=tbs (C2.map Cell.b)->∀ (r pl pp:Addr) (H':Hp) (ps:List Addr) (es:DL) (qs:List Nat) (D':Int),Same H H'->H' r=some (.tup [.str (Str.ofString "plan"),.ref pl,.ref pp])->H pl=none->H pp=none->pl≠pp->H' pl=some (.lst (ps.map V.ref))->Runs H' ps es->ps.length<=5*(C1.length+C2.length)->H' pp=some (.lst ((qs.map λn:Nat=>(n:Int)).map V.int))->Sz D' 660 1400->Plan d false D' 1400 (C1.map Cell.b) (C2.map Cell.b) es qs->Q (.ref r) H')) (_:(∀ (r:Addr) (H':Hp) (i j:Nat),Same H H'->H' r=some (.tup [.str (Str.ofString "apart"),.int (i:Int),.int (j:Int)])->Fu (tbs (C1.map Cell.b)) (tbs (C2.map Cell.b)) i j->Q (.ref r) H')):P70 cs vs H Q E
abbrev BY:=@P70.mk
theorem C0:FnScope ["thing"] ["thing"] (defScope S0):=by walk_at "sc"
theorem C4:FnScope ["one","other","pair","rest"] ["one","other"] (defScope S1):=by walk_at "sc"
theorem C5:FnScope ["divisor","bottom"] ["divisor","bottom"] (defScope S2):=by walk_at "sc"
theorem C6:FnScope ["d","a","b"] ["d","a","b"] (defScope S9):=by walk_at "sc"
theorem C7:FnScope ["one","other"] ["one","other"] (defScope S13):=by walk_at "sc"
theorem C8:FnScope ["pieces","unused","deeds","place","piece","fresh"] ["pieces","unused"] (defScope S19):=by walk_at "sc"
theorem C9:FnScope ["deed"] ["deed"] (defScope S22):=by walk_at "sc"
theorem C10:FnScope ["deed"] ["deed"] (defScope S23):=by walk_at "sc"
theorem C11:FnScope ["one"] ["one"] (defScope S24):=by walk_at "sc"
theorem C12:FnScope ["names","places","place","name"] ["names"] (defScope S30):=by walk_at "sc"
theorem C13:FnScope ["deed","names"] ["deed","names"] (defScope S33):=by walk_at "sc"
theorem C14:FnScope ["one","other","row","column"] ["one","other"] (defScope S40):=by walk_at "sc"
theorem C15:FnScope ["_law_script","_law_k"] ["_law_script","_law_k"] (defScope S42):=by walk_at "sc"
theorem C16:FnScope ["_law_found"] ["_law_found"] (defScope S43):=by walk_at "sc"
theorem C17:FnScope ["_law_cell_here","_law_k","_law_number"] ["_law_cell_here","_law_k"] (defScope S44):=by walk_at "sc"
theorem C18:FnScope ["_law_one","_law_other"] ["_law_one","_law_other"] (defScope S46):=by walk_at "sc"
theorem C19:FnScope ["_law_d","_law_a","_law_b"] ["_law_d","_law_a","_law_b"] (defScope S48):=by walk_at "sc"
theorem C20:FnScope ["_law_heap_here","_law_lying","_law_k"] ["_law_heap_here"] (defScope S59):=by walk_at "sc"
theorem C21:FnScope ["self","d","heap","turning"] ["self","d","heap","turning"] (defScope S66):=by walk_at "sc"
theorem C22:FnScope ["self","name"] ["self","name"] (defScope S70):=by walk_at "sc"
theorem C23:FnScope ["self"] ["self"] (defScope S71):=by walk_at "sc"
theorem C24:FnScope ["a","b","n","divisor"] ["a","b","n"] (defScope S3):=by walk_at "sc"
theorem C25:FnScope ["top","bottom","divisor"] ["top","bottom"] (defScope S4):=by walk_at "sc"
theorem C26:FnScope ["one","other","shared","ahead","behind","a","b","left"] ["one","other"] (defScope S6):=by walk_at "sc"
theorem C27:FnScope ["d","one","other"] ["d","one","other"] (defScope S10):=by walk_at "sc"
theorem C28:FnScope ["d","base","one","p","q","bottom"] ["d","base","one"] (defScope S14):=by walk_at "sc"
theorem C29:FnScope ["lengths","bottom","one"] ["lengths"] (defScope S15):=by walk_at "sc"
theorem C30:FnScope ["yard","deed","names","word"] ["yard","deed","names"] (defScope S29):=by walk_at "sc"
theorem C31:FnScope ["many","plan","lying","unused","deed","name"] ["many","plan"] (defScope S32):=by walk_at "sc"
theorem C32:FnScope ["one","other","shared","top","left"] ["one","other"] (defScope S35):=by walk_at "sc"
theorem C33:FnScope ["one","other","first","second"] ["one","other"] (defScope S36):=by walk_at "sc"
theorem C34:FnScope ["_law_cell_here","_law_many","_law_found","_law_number","_law_k"] ["_law_cell_here","_law_many"] (defScope S45):=by walk_at "sc"
theorem C35:FnScope ["_law_a","_law_b","_law_n","_law_share_here"] ["_law_a","_law_b","_law_n"] (defScope S47):=by walk_at "sc"
theorem C36:FnScope ["_law_cell_here","_law_k","_law_some"] ["_law_cell_here","_law_k"] (defScope S52):=by walk_at "sc"
theorem C37:FnScope ["_law_found"] ["_law_found"] (defScope S60):=by walk_at "sc"
theorem C38:FnScope ["self","names","name"] ["self","names"] (defScope S68):=by walk_at "sc"
theorem C39:FnScope ["one"] ["one"] (defScope S5):=by walk_at "sc"
theorem C40:FnScope ["one","other"] ["one","other"] (defScope S7):=by walk_at "sc"
theorem C41:FnScope ["d","one","other"] ["d","one","other"] (defScope S8):=by walk_at "sc"
theorem C42:FnScope ["d","n"] ["d","n"] (defScope S11):=by walk_at "sc"
theorem C43:FnScope ["thing"] ["thing"] (defScope S20):=by walk_at "sc"
theorem C44:FnScope ["one","other"] ["one","other"] (defScope S26):=by walk_at "sc"
theorem C45:FnScope ["one","many","width","height"] ["one","many"] (defScope S27):=by walk_at "sc"
theorem C46:FnScope ["many","plan","more","names","unused","deeds","deed","name"] ["many","plan","more"] (defScope S34):=by walk_at "sc"
theorem C47:FnScope ["one","other"] ["one","other"] (defScope S39):=by walk_at "sc"
theorem C48:FnScope ["_law_one","_law_other","_law_sign_here","_law_a","_law_b"] ["_law_one","_law_other","_law_sign_here"] (defScope S49):=by walk_at "sc"
theorem C49:FnScope ["_law_one","_law_top","_law_bottom"] ["_law_one","_law_top","_law_bottom"] (defScope S50):=by walk_at "sc"
theorem C50:FnScope ["_law_d","_law_cell_here","_law_at_here","_law_digits_here","_law_a","_law_b","_law_n","_law_sign_here"] ["_law_d","_law_cell_here","_law_at_here"] (defScope S53):=by walk_at "sc"
theorem C51:FnScope ["d","base","p","q"] ["d","base"] (defScope S12):=by walk_at "sc"
theorem C52:FnScope ["d","many","one"] ["d","many","one"] (defScope S17):=by walk_at "sc"
theorem C53:FnScope ["thing"] ["thing"] (defScope S21):=by walk_at "sc"
theorem C54:FnScope ["d","one","at"] ["d","one","at"] (defScope S25):=by walk_at "sc"
theorem C55:FnScope ["one","widths","heights"] ["one"] (defScope S38):=by walk_at "sc"
theorem C56:FnScope ["_law_d","_law_one","_law_other","_law_left"] ["_law_d","_law_one","_law_other"] (defScope S51):=by walk_at "sc"
theorem C57:FnScope ["_law_script","_law_d","_law_first","_law_pool","_law_heap_here","_law_k","_law_cell_here","_law_digits_here","_law_width","_law_height"] ["_law_script","_law_d","_law_first"] (defScope S54):=by walk_at "sc"
theorem C58:FnScope ["_law_deed_here","_law_some","_law_width","_law_height"] ["_law_deed_here","_law_some"] (defScope S55):=by walk_at "sc"
theorem C59:FnScope ["d","lengths","base","one","tops","bottom"] ["d","lengths"] (defScope S16):=by walk_at "sc"
theorem C60:FnScope ["d","heap","base","deeds","firsts","others","unused","name","one","pair","stacking"] ["d","heap","base"] (defScope S18):=by walk_at "sc"
theorem C61:FnScope ["heap","whole","one"] ["heap"] (defScope S37):=by walk_at "sc"
theorem C62:FnScope ["_law_d","_law_digits_here","_law_side_here","_law_pool","_law_at_here","_law_bottom"] ["_law_d","_law_digits_here","_law_side_here","_law_pool"] (defScope S56):=by walk_at "sc"
theorem C63:FnScope ["_law_lying","_law_used","_law_deed_here","_law_names","_law_new_here","_law_left","_law_name","_law_k"] ["_law_lying","_law_used","_law_deed_here"] (defScope S58):=by walk_at "sc"
theorem C64:FnScope ["_law_d","_law_deed_here","_law_lying","_law_side_here"] ["_law_d","_law_deed_here","_law_lying"] (defScope S61):=by walk_at "sc"
theorem C65:FnScope ["self","deed","boards","word"] ["self","deed","boards"] (defScope S69):=by walk_at "sc"
theorem C66:FnScope ["_law_d","_law_cell_here","_law_lying","_law_pool","_law_digits_here","_law_names","_law_name","_law_way","_law_side_here","_law_others"] ["_law_d","_law_cell_here","_law_lying","_law_pool"] (defScope S57):=by walk_at "sc"
theorem C67:FnScope ["_law_d","_law_heap_here","_law_plan","_law_lying","_law_used","_law_deed_here"] ["_law_d","_law_heap_here","_law_plan"] (defScope S62):=by walk_at "sc"
theorem C68:FnScope ["self","deed","names","fresh","name","one"] ["self","deed"] (defScope S67):=by walk_at "sc"
theorem C69:FnScope ["d","heap","plan","turning","yard","deed"] ["d","heap","plan","turning"] (defScope S28):=by walk_at "sc"
theorem C70:FnScope ["_law_d","_law_found","_law_one","_law_other","_law_places","_law_ended"] ["_law_d","_law_found","_law_one","_law_other"] (defScope S63):=by walk_at "sc"
theorem C71:FnScope ["_law_d","_law_script","_law_heap_here","_law_pool","_law_first","_law_last","_law_lying","_law_used","_law_cell_here","_law_deed_here","_law_found","_law_turn"] ["_law_d","_law_script","_law_heap_here","_law_pool","_law_first","_law_last"] (defScope S64):=by walk_at "sc"
theorem C72:FnScope ["d","heap","plan","yard","ends","renamed","place","named","unused","behind","deeds","deed","ahead","name"] ["d","heap","plan"] (defScope S31):=by walk_at "sc"
theorem C73:FnScope ["d","one","other","place","base","returning","plan"] ["d","one","other"] (defScope S41):=by walk_at "sc"
theorem C74:FnScope ["_law_script","_law_d","_law_pool","_law_heap_here","_law_other","_law_handed","_law_found"] ["_law_script"] (defScope S65):=by walk_at "sc"
section
variable (P:Program)(w:World)(K:iC)(mg:Str->Option Value)(base:Heap)
abbrev O2x:=Own P w K mg base 1 "with_sign_of" ["divisor","bottom"] [] P2
abbrev O1x:=Own P w K mg base 1 "common_divisor" ["one","other"] [] P1
abbrev O0x:=Own P w K mg base 1 "is_whole" ["thing"] [] P0
abbrev O22x:=Own P w K mg base 1 "names_taken" ["deed"] [] P6
abbrev O23x:=Own P w K mg base 1 "count_put" ["deed"] [] P7
abbrev O44x:=Own P w K mg base 1 "_law_great" ["_law_cell_here","_law_k"] [] P14
abbrev O43x:=Own P w K mg base 1 "_law_whole" ["_law_found"] [] P13
abbrev O6x:=Own P w K mg base 2 "added" ["one","other"] [] (P23 K)
abbrev O3x:=Own P w K mg base 2 "length" ["a","b","n"] [] P21
abbrev O47x:=Own P w K mg base 2 "_law_lowest" ["_law_a","_law_b","_law_n"] [] P32
abbrev O48x:=Own P w K mg base 1 "_law_sign" ["_law_d","_law_a","_law_b"] [] P16
abbrev O45x:=Own P w K mg base 2 "_law_digits" ["_law_cell_here","_law_many"] [] P31
abbrev O10x:=Own P w K mg base 2 "under" ["d","one","other"] [] (P24 K)
abbrev O7x:=Own P w K mg base 3 "taken" ["one","other"] [] P37
abbrev O49x:=Own P w K mg base 3 "_law_plus" ["_law_one","_law_other","_law_sign_here"] [] P45
abbrev O42x:=Own P w K mg base 1 "_law_cell" ["_law_script","_law_k"] [] (P12 K)
abbrev O50x:=Own P w K mg base 3 "_law_share" ["_law_one","_law_top","_law_bottom"] [] P46
abbrev O14x:=Own P w K mg base 2 "counts" ["d","base","one"] [] P25
abbrev O51x:=Own P w K mg base 4 "_law_below" ["_law_d","_law_one","_law_other"] [] P53
abbrev O59x:=Own P w K mg base 1 "_law_begin" ["_law_heap_here"] [] P17
abbrev O58x:=Own P w K mg base 5 "_law_done" ["_law_lying","_law_used","_law_deed_here"] [] P60
end
variable {f:Addr}{fd:FuncData}{its:List Value}
section
variable {P:Program}{w:World}{K:iC}{mg:Str->Option Value}{base:Heap}{cs:Cs}
theorem K0(F:Fun K "is_whole" "is_whole" S0 f fd)(B:Bl mg)  :FnOk P w K mg base CX0 1 f fd ["thing"] P0:=by
  refine F.okA C0 λcdv A outer s H vs Q E hr h=>?_;obtain ⟨i,rfl,q⟩:=h;refine ⟨_,(zc (zf (wv (zm zJ rfl B.isinstance zA (pa2 (pv 0) (yK (v:=.ty "int") rfl B.int vp rfl))) (wX (GS (zm zJ rfl B.isinstance zA (pa2 (pv 0) (yK (v:=.ty "bool") rfl B.bool DH rfl)))))))),?_⟩;walk_at "s";walk_at "r";exact q
theorem K1(F:Fun K "common_divisor" "common_divisor" S1 f fd)(B:Bl mg)(g_GREAT_BITS:TopI mg "GREAT_BITS" (8192)) :FnOk P w K mg base CX0 1 f fd ["one","other"] P1:=by
  obtain ⟨u_GREAT_BITS,m_GREAT_BITS,r_GREAT_BITS⟩:=g_GREAT_BITS;refine F.okA C4 λcdv A outer s H vs Q E hr h=>?_;obtain ⟨a,b,rfl,hb,q⟩:=h;refine ⟨_,(za (zv (zi xY (Cb PySem.F.plainAttrs_int PySem.F.slot_int_bit_length PySem.F.type_int_bit_length Hy (pv 1)) (yR (v:=.int (8192)) rfl m_GREAT_BITS r_GREAT_BITS) (zk _)) E5 zj) (za (uE PassesOwn.never (zi uD (pv 1) zd (zk _)) (za (ps_s 3 C4.nd (zh Ig (pv 0) (pv 1))) (za (ps_s 0 C4.nd (pv 1)) (zc (ps_s 1 C4.nd (pv 3)))))) (zc (zf (zm vG rfl B.abs Eb (pa1 (pv 0))))))),?_⟩;walk_at "s";exists if_d (λc=>absurd c (Hl hb)) (λ_=>?_);exists BQ (λσ' H'=>E3 λ(x y:Int) (r:Option V)=>A3 (σ'=[vI x,vI y,none,r]) (H'=H) (Int.gcd x y=Int.gcd a b)) (λσ' _=>match σ' with | [_,some (.int y),_,_]=>y.natAbs | _=>0) ⟨a,b,none,rfl,rfl,rfl⟩ ?_ ?_
  . rintro σ' H' ⟨x,y,r,rfl,rfl,hg⟩;exists AN (λc=>?_) (λc=>?_)
    . walk_at "r";exact ⟨⟨y,x.fmod y,_,rfl,rfl,(Fr x y).trans hg⟩,IC c⟩
    . walk_at "r";have e:(if x<0 then -x else x)=((Int.gcd a b:Nat):Int):=by
        rw [<-hg,c,Int.gcd_zero_right];split <;> lia
      rw [e];exact q
  . intro σ H Q Q' hq h;obtain ⟨v,e,hs,k,e2,z⟩:=h;exact ⟨v,e,hs,k,e2,hq _ _ z⟩
theorem K2(F:Fun K "with_sign_of" "with_sign_of" S2 f fd)(B:Bl mg)  :FnOk P w K mg base CX0 1 f fd ["divisor","bottom"] P2:=by
  refine F.okA C5 λcdv A outer s H vs Q E hr h=>?_;obtain ⟨g,n,rfl,q⟩:=h;refine ⟨_,(zc (zf (uJ (zi uN (pv 1) zd (zk _)) (u8 wB (pv 0)) (pv 0)))),?_⟩;walk_at "s";exists if_d (λc=>?_) (λc=>?_)
  . walk_at "r";rw [h8 c] at q;exact q
  . walk_at "r";rw [h9 c] at q;exact q
theorem K3(F:Fun K "is_above_nought" "is_above_nought" S9 f fd)(B:Bl mg)  :FnOk P w K mg base CX0 1 f fd ["d","a","b"] P3:=by
  refine F.okA C6 λcdv A outer s H vs Q E hr h=>?_;obtain @⟨d,a,b,rfl,hd,ha,hb,q⟩:=h;refine ⟨_,(za (zv (PW.pt (xk (zi Ed (pv 1) zd (zk _)) (yI (zi Ed (pv 2) zd (zk _))))) (zc (zf (LO (zY xY (pv 1) zd (zk _)) (wX (zY xY (pv 2) zd (zk _)))))) zj) (za (zv (PW.pt (xk (zi Fv (pv 1) zd (zk _)) (yI (zi Fv (pv 2) zd (zk _))))) (zc (zf xq)) zj) (za (zv (zi xY (pv 1) zd (zk _)) (zc (zf (zY xY (zh zn (pv 1) (pv 1)) (zh zn (zh zn (pv 0) (pv 2)) (pv 2)) (zk _)))) zj) (zc (zf (zY xY (zh zn (zh zn (pv 0) (pv 2)) (pv 2)) (zh zn (pv 1) (pv 1)) (zk _))))))),?_⟩;walk_at "s";exists if_d (λc1=>?_) (λc1=>?_)
  . exists if_d (λc2=>?_) (λc2=>?_)
    . exists if_d (λc3=>?_) (λc3=>?_)
      . exact bl_q (Eq.symm (iw (by unfold sgn; rw [h8 ⟨c1,c2⟩,h8 (!2)]; decide))) q
      . walk_at "r";exact bl_q (decide_eq_decide.mpr (by unfold sgn; rw [h8 ⟨c1,c2⟩]; split <;> lia)) q
    . exists if_d (λc3=>?_) (λc3=>?_)
      . exists if_d (λc4=>?_) (λc4=>?_)
        . walk_at "r";exact bl_q (Eq.symm (h7 (by unfold sgn; rw [h9 (!2),h8 ⟨c3,c4⟩]; decide))) q
        . lia
      . exists if_d (λc4=>?_) (λc4=>?_)
        . walk_at "r";exact bl_q (decide_eq_decide.mpr (by unfold sgn; rw [h9 (!2),h9 (!2),h8 c4]; split <;> lia)) q
        . lia
  . exists if_d (λc3=>?_) (λc3=>?_)
    . exists if_d (λc4=>?_) (λc4=>?_)
      . walk_at "r";exact bl_q (Eq.symm (h7 (by unfold sgn; rw [h9 (!2),h8 ⟨c3,c4⟩]; decide))) q
      . exists if_d (λc5=>?_) (λc5=>?_)
        . lia
        . walk_at "r";exact bl_q (decide_eq_decide.mpr (by unfold sgn; rw [h9 (!2),h9 (!2),h9 c5]; split <;> lia)) q
    . lia
theorem K4(F:Fun K "crossed" "crossed" S13 f fd)(B:Bl mg)  :FnOk P w K mg base CX0 1 f fd ["one","other"] P4:=by
  refine F.okA C7 λcdv A outer s H vs Q E hr h=>?_;obtain ⟨p,p',x,y,z,x',y',z',rfl,h1,h2,⟨b1,b2,b3,b4⟩,q⟩:=h;refine ⟨_,(zc (zf (zh yV (zh zn (pit 0) (pit 1)) (zh zn (pit 0) (pit 1))))),?_⟩;walk_at "s";walk_at "r";exact q
theorem K5(F:Fun K "gathering" "gathering" S19 f fd)(B:Bl mg)  :FnOk P w K mg base CX0 1 f fd ["pieces","unused"] P5:=by
  refine F.okA C8 λcdv A outer s H vs Q E hr h=>?_;obtain @⟨a,us,pc,u,rfl,ha,hp,hl,hu,q⟩:=h;refine ⟨_,(za (ps_s 2 C8.nd (zI yl)) (za (zV PassesOwn.never rfl (tG rfl B.enumerate (pa1 (pv 0))) (xR (n:=2) rfl (zH (pg_n 3 C8.nd) (zH (pg_n 4 C8.nd) xb))) (za (zL (xO aJ aQ aR zE (pv 2) (pa1 (zo (pa3 zx (pit 4) (pit 4)))))) (zc (zv (zi xY (pv 3) zd (zk _)) (za (ps_s 5 C8.nd (zh yV (zh zF (pv 1) (zm zt rfl B.len aV (pa1 (pv 2)))) zd)) (zc (zL (xO aJ aQ aR zE (pv 2) (pa1 (zo (pa3 zx (pv 5) (zh yV (pv 5) zd)))))))) zj)))) (zc (zf (pv 2))))),?_⟩;walk_at "s";exists zy (!1) λD H1 nD s1 e1=>?_;have ha1:=s1 _ _ ha;have aD:a≠D:=zb ha nD;exists BV ?_;exists ⟨a,_,rfl,SqL.of ha1,vh (K:=K) (a:=a) (xs:=us.map V.ref) (λi σ H'=>E4 λv1 v2 v3 ps=>A4 (σ=[vR a,vI (u:Int),vR D,v1,v2,v3]) (H' D=some (.lst (ps.map V.ref))) (Runs H' ps (gth u pc i)) (∀ b o,H1 b=some o->b≠D->H' b=some o)) ⟨_,_,_,[],rfl,e1,⟨rfl,λi p x h=>by simp at h⟩,λb o e _=>e⟩ (λi σ H' _ z'=>by obtain ⟨_,_,_,_,_,_,_,z⟩:=z'; exact SqL.of (z _ _ ha1 aD)) ?_ ?_⟩
  . rintro i x T σ H' hi hT ⟨v1,v2,v3,ps,rfl,eD,hrun,fr⟩;have hi':=(af.mp hi).1;rw [aa,hp.1] at hi';rw [ag] at hi;obtain ⟨qa,hq,rfl⟩:=am.mp hi;obtain ⟨p,hpi⟩:∃ p,pc[i]?=some p:=⟨_,ae hi'⟩
    have hqt:=s1 _ _ (hp.2 i qa p hq hpi);have hqt3:=fr _ _ hqt (ya hqt e1 (λz=>nomatch z));have hgl:=wF (u:=u) (pc:=pc) (t:=i) (bf hi');have hpl:ps.length=2*i - 1:=hrun.1.trans hgl;have eg:gth u pc (i+1)=gth u pc i++gd1 u i p:=by
      show gth u pc i++_=_;rw [hpi]
    rw [eg];have tkT:TupK H' (upd H' T (.tup [.int (i:Int),.ref qa])):=λb xs e=>by rw [zl (zb e hT)]; exact e
    have eD':(upd H' T (.tup [.int (i:Int),.ref qa])) D=some (.lst (ps.map V.ref)):=by rw [zl (zb eD hT)]; exact eD
    have eT:(upd H' T (.tup [.int (i:Int),.ref qa])) T=some (.tup [.int (i:Int),.ref qa]):=zg;have hqt4:=tkT _ _ hqt3;have frT:∀ b o,H1 b=some o->b≠D->(upd H' T (.tup [.int (i:Int),.ref qa])) b=some o:=λb o e n=>by rw [zl (zb (fr b o e n) hT)]; exact fr b o e n
    have hrunT:=hrun.tk tkT;generalize upd H' T (.tup [.int (i:Int),.ref qa])=G at eT eD' frT hqt4 hrunT ⊢;exists zw (!1) λt1 G1 n1 g1 f1=>?_;have eD1:=g1 _ _ eD';exists zp eD1 (by rw [aa]; lia) λG2 x2 e2=>?_;have f2:=x2.tup f1 eD1;have hrun2:Runs G2 (ps++[t1]) (gth u pc i++[(Dd.shift false p.n p.m,p.n,p.n)]):=xA ((hrunT.same g1).sameX x2 eD1) f2;have fr2:∀ b o,H1 b=some o->b≠D->G2 b=some o:=λb o e n=>x2 _ _ (g1 _ _ (frT b o e n)) n;have e2:G2 D=some (.lst ((ps++[t1]).map V.ref)):=by rw [aj]; exact e2
    walk_at "r";by_cases c0:i=0
    . refine if_d (λc=>absurd c (!2)) (λ_=>?_);exists ⟨_,_,_,ps++[t1],rfl,e2,?_,fr2⟩;unfold gd1;rw [h8 c0];exact hrun2
    . refine if_d (λ_=>?_) (λc=>absurd (!2) c);have hlen:((((ps++[t1]).map V.ref).length:Nat):Int)=((2*i:Nat):Int):=by
        rw [aa,ah,hpl];simp only [au,aP]
        lia
      walk_at "r";rw [hlen];exists zw (!1) λt2 G3 n3 g3 f3=>?_;have e23:=g3 _ _ e2;exists zp e23 (by rw [aa,ah]; simp only [au,aP]; lia) λG4 x4 e4=>?_;have f4:=x4.tup f3 e23;exists ⟨_,_,_,ps++[t1]++[t2],rfl,by rw [aj]; exact e4,?_,λb o e n=>x4 _ _ (g3 _ _ (fr2 b o e n)) n⟩;have:gth u pc i++gd1 u i p=gth u pc i++[(Dd.shift false p.n p.m,p.n,p.n)]++[(Dd.glue true ((u+2*i - 1:Nat):Int) ((u+2*i - 2:Nat):Int),u+2*i - 1,u+2*i - 2)]:=by
        unfold gd1;rw [h9 c0,bB];rfl
      rw [this];refine xA ((hrun2.same g3).sameX x4 e23) ?_;rw [show (u:Int)+((2*i:Nat):Int) - 1=((u+2*i - 1:Nat):Int) by lia,show ((u+2*i - 1:Nat):Int) - 1=((u+2*i - 2:Nat):Int) by lia] at f4;exact f4
  rintro σ H5 ⟨v1,v2,v3,ps,rfl,eD,hrun,fr⟩;rw [aa,hp.1] at hrun;walk_at "r";exact q D ps H5 (λb o e=>fr _ _ (s1 _ _ e) (zb e nD)) nD eD hrun
theorem K6(F:Fun K "names_taken" "names_taken" S22 f fd)(B:Bl mg)(g_GLUINGS:TopT K mg "GLUINGS" [.str "beside",.str "atop"]) :FnOk P w K mg base CX0 1 f fd ["deed"] P6:=by
  obtain ⟨a_GLUINGS,m_GLUINGS,q_GLUINGS⟩:=g_GLUINGS;refine F.okA C9 λcdv A outer s H vs Q E hr h=>?_;obtain @⟨p,e,rfl,he,q⟩:=h;refine ⟨_,(zc (zf (uJ (zi yt (pit 0) (yR (v:=.ref a_GLUINGS) rfl m_GLUINGS rfl) (by with_unfolding_all rfl)) (zI (pa2 (pit 0) (pit 0))) (zI (pa1 (pit 0)))))),?_⟩;walk_at "s";cases e with
  | cut al n s =>
    obtain ⟨pq,h0,hs⟩:=he;cases al
    all_goals
      simp [DdAt,Dd.wd] at h0;exists ⟨_,_,rfl,.inr (q_GLUINGS H),rfl,rfl,?_⟩;rw [show (if false=true then !inV _ _ else inV _ _)=false from by decide +kernel];exists zy (!1) λr H1 hr s1 e1=>?_;exact q r H1 s1 hr e1
  | glue al n m =>
    have h0:=he;cases al
    all_goals
      simp [DdAt,Dd.wd] at h0;exists ⟨_,_,rfl,.inr (q_GLUINGS H),rfl,rfl,?_⟩;rw [show (if false=true then !inV _ _ else inV _ _)=true from by decide +kernel];exists zy (!1) λr H1 hr s1 e1=>?_;exact q r H1 s1 hr e1
  | shift al n k =>
    have h0:=he;cases al
    all_goals
      simp [DdAt,Dd.wd] at h0;exists ⟨_,_,rfl,.inr (q_GLUINGS H),rfl,rfl,?_⟩;rw [show (if false=true then !inV _ _ else inV _ _)=false from by decide +kernel];exists zy (!1) λr H1 hr s1 e1=>?_;exact q r H1 s1 hr e1
  | turn n =>
    have h0:=he;have h0:H p=some (.tup [.str (Str.ofString "turn"),.int n]):=h0;exists ⟨_,_,rfl,.inr (q_GLUINGS H),rfl,rfl,?_⟩;rw [show (if false=true then !inV _ _ else inV _ _)=false from by decide +kernel];exists zy (!1) λr H1 hr s1 e1=>?_;exact q r H1 s1 hr e1
theorem K7(F:Fun K "count_put" "count_put" S23 f fd)(B:Bl mg)(g_CUTS:TopT K mg "CUTS" [.str "across",.str "along"]) :FnOk P w K mg base CX0 1 f fd ["deed"] P7:=by
  obtain ⟨a_CUTS,m_CUTS,q_CUTS⟩:=g_CUTS;refine F.okA C10 λcdv A outer s H vs Q E hr h=>?_;obtain @⟨p,e,rfl,he,q⟩:=h;refine ⟨_,(zc (zf (uJ (zi yt (pit 0) (yR (v:=.ref a_CUTS) rfl m_CUTS rfl) (by with_unfolding_all rfl)) zd zd))),?_⟩;walk_at "s";cases e with
  | cut al n s =>
    obtain ⟨pq,h0,hs⟩:=he;cases al
    all_goals
      simp [DdAt,Dd.wd] at h0;exists ⟨_,_,rfl,.inr (q_CUTS H),rfl,rfl,?_⟩;rw [show (if false=true then !inV _ _ else inV _ _)=true from by decide +kernel];walk_at "r";exact q
  | glue al n m =>
    have h0:=he;cases al
    all_goals
      simp [DdAt,Dd.wd] at h0;exists ⟨_,_,rfl,.inr (q_CUTS H),rfl,rfl,?_⟩;rw [show (if false=true then !inV _ _ else inV _ _)=false from by decide +kernel];walk_at "r";exact q
  | shift al n k =>
    have h0:=he;cases al
    all_goals
      simp [DdAt,Dd.wd] at h0;exists ⟨_,_,rfl,.inr (q_CUTS H),rfl,rfl,?_⟩;rw [show (if false=true then !inV _ _ else inV _ _)=false from by decide +kernel];walk_at "r";exact q
  | turn n =>
    have h0:=he;have h0:H p=some (.tup [.str (Str.ofString "turn"),.int n]):=h0;exists ⟨_,_,rfl,.inr (q_CUTS H),rfl,rfl,?_⟩;rw [show (if false=true then !inV _ _ else inV _ _)=false from by decide +kernel];walk_at "r";exact q
theorem K8(F:Fun K "turned" "turned" S24 f fd)(B:Bl mg)  :FnOk P w K mg base CX0 1 f fd ["one"] P8:=by
  refine F.okA C11 λcdv A outer s H vs Q E hr h=>?_;obtain @⟨c,rfl,hc,q⟩:=h;refine ⟨_,(zc (zf (zo (pa2 (pit 0) (pit 0))))),?_⟩;walk_at "s";have ct:=hc.t;exists zw (!1) λr H1 hr s1 e1=>?_;exact q r H1 s1 hr ⟨e1,s1 _ _ hc.h,s1 _ _ hc.w⟩
theorem K9(F:Fun K "places_of" "places_of" S30 f fd)(B:Bl mg)  :FnOk P w K mg base CX0 1 f fd ["names"] P9:=by
  refine F.okA C12 λcdv A outer s H vs Q E hr h=>?_;obtain @⟨a,ms,ts,rfl,ha,hp,up,hl,q⟩:=h;refine ⟨_,(za (ps_s 1 C12.nd uW) (za (zV PassesOwn.never rfl (tG rfl B.enumerate (pa1 (zm ux rfl B.sorted xu (pa1 (pv 0))))) (xR (n:=2) rfl (zH (pg_n 2 C12.nd) (zH (pg_n 3 C12.nd) xb))) (zc (xV (yS hr) (pv 1) (pv 3) (pv 2) rfl))) (zc (zf (ye ["name"] [1] rfl (zG (pv 0)) (λ_ _ _ _ _=>(pg_n 0 (show List.Nodup (α:=Str) ["name","places"] by decide +kernel))) (λ_ _ _ _ _=>zP) (λ_ _ _ _ _=>(yJ (yS hr) (pv 1) (pv 0) (λ_ _=>rfl)))))))),?_⟩;walk_at "s";have hml:=hp.length_eq;have hnd:=xG up;exists AU λD H1 nD s1 e1=>?_;exists BV ?_;exists Em (s1 _ _ ha) (Aj hp) (D6 up) (by rw [aa]; lia) λb H2 nb s2 e2=>?_;have e12:=s2 _ _ e1;have bD:b≠D:=bZ (zb e1 nb);exists ⟨b,_,rfl,SqL.of e2,vh (K:=K) (a:=b) (xs:=(ts.map λn:Nat=>(n:Int)).map V.int) (λi σ H'=>E3 λv1 v2 kvs=>A5 (σ=[vR a,vR D,v1,v2]) (H' D=some (.dK kvs)) (kvs.length<=i) (Rn kvs (ts.take i) (rk ts)) (∀ b o,H2 b=some o->b≠D->H' b=some o)) ⟨_,_,[],rfl,e12,ai _,λn hn=>by simp at hn,λb o e _=>e⟩ (λi σ H' _ z'=>by obtain ⟨_,_,_,_,_,_,_,z⟩:=z'; exact SqL.of (z _ _ e2 bD)) ?_ ?_⟩
  . rintro i x T σ H' hi hT ⟨v1,v2,kvs,rfl,eD,hkl,hR,fr⟩;have hi':=(af.mp hi).1;rw [ag,ag] at hi;obtain ⟨z,hz,rfl⟩:=am.mp hi;obtain ⟨n,hn,rfl⟩:=am.mp hz;have eD':(upd H' T (.tup [.int (i:Int),.int (n:Int)])) D=some (.dK kvs):=by rw [zl (zb eD hT)]; exact eD
    have eT:(upd H' T (.tup [.int (i:Int),.int (n:Int)])) T=some (.tup [.int (i:Int),.int (n:Int)]):=zg;have frT:∀ b o,H2 b=some o->b≠D->(upd H' T (.tup [.int (i:Int),.int (n:Int)])) b=some o:=λb o e n=>by rw [zl (zb (fr b o e n) hT)]; exact fr b o e n
    generalize upd H' T (.tup [.int (i:Int),.int (n:Int)])=G at eT eD' frT ⊢;exists ⟨D,_,rfl,DPut.k (k:=.inl (n:Int)) eD' (aE (show _<1000 by simp only [aa] at hi'; lia) (!3)),?_⟩;refine ⟨_,_,_,rfl,zg,bK (yO ..) (!2),λj hj=>?_,λb o e n=>by rw [zl n]; exact frT b o e n⟩;rw [wA];rw [a8,hn] at hj;by_cases c:j=n
    . subst c;rw [h8 rfl,FE hnd hn]
    . have cj:¬ ((.inl (j:Int):Key)=.inl (n:Int)):=λh=>c (dh (dL h));rw [h9 cj];refine hR j ?_;rcases aw.mp hj with h|h
      . exact h
      . exact absurd (by simpa using h) c
  rintro σ H3 ⟨v1,v2,kvs,rfl,eD,hkl,hR,fr⟩;rw [aa,aa,aq] at hR;have s3:Same H H3:=λb o e=>fr _ _ (s2 _ _ (s1 _ _ e)) (zb e nD);exists yz ?_;walk_at "r";have ha3:=s3 _ _ ha;refine ⟨a,rfl,⟨_,SqL.of ha3⟩,λO hO=>zT (K:=K) (a:=a) (ys:=(ms.map λn:Nat=>(n:Int)).map V.int) (λi xs σ' H'=>E1 λ(v:Option V)=>A4 (σ'=[v,vR D]) (xs=(((ms.take i).map (rk ts)).map λn:Nat=>(n:Int)).map V.int) (H' O=some (.lst xs)) (SameX O H3 H')) ⟨none,rfl,rfl,zg,λb o e n=>by rw [zl n]; exact e⟩ (λi xs σ' H' _ z=>by obtain ⟨v,_,_,_,z⟩:=z; exact SqL.of (z _ _ ha3 (zb ha3 hO))) ?_ ?_⟩
  . rintro i x xs σ' H' hi ⟨v,rfl,rfl,eO,sx⟩;have hi':=(af.mp hi).1;rw [ag,ag] at hi;obtain ⟨z,hz,rfl⟩:=am.mp hi;obtain ⟨n,hn,rfl⟩:=am.mp hz;have hD':=sx _ _ eD (zb eD hO);have hmt:=hp.mem_iff.mp (ar hn);exists ⟨D,_,rfl,DGet.k (k:=.inl (n:Int)) hD' |> (λz=>by rw [hR n hmt] at z; exact z),?_⟩;exists zp eO (by simp only [aa,aK] at hi' ⊢; lia) λH5 x5 e5=>?_;refine yv hi' ⟨_,rfl,rfl,?_,sx.trans x5⟩;rw [a8,hn,aj,aj,aj];exact e5
  rintro xs σ' H5 ⟨v,rfl,rfl,eO,sx⟩;rw [aa,aa,aq] at eO;refine q O H5 (λb o e=>sx _ _ (s3 _ _ e) (zb (s3 _ _ e) hO)) ?_ eO;exact Same.nn s3 hO
theorem K10(F:Fun K "with_names" "with_names" S33 f fd)(B:Bl mg)(g_GLUINGS:TopT K mg "GLUINGS" [.str "beside",.str "atop"]) :FnOk P w K mg base CX0 1 f fd ["deed","names"] P10:=by
  obtain ⟨a_GLUINGS,m_GLUINGS,q_GLUINGS⟩:=g_GLUINGS;refine F.okA C13 λcdv A outer s H vs Q E hr h=>?_;obtain @⟨p,a,e,r,k,rfl,he,nT,ha,hn,q⟩:=h;refine ⟨_,(za (zv (zi yt (pit 0) (yR (v:=.ref a_GLUINGS) rfl m_GLUINGS rfl) (by with_unfolding_all rfl)) (zc (zf (zo (pa3 (pit 0) (pe_i zK (pv 1) (pit 0)) (pe_i zK (pv 1) (pit 0)))))) zj) (zc (zf (zh Ic (zo (pa2 (pit 0) (pe_i zK (pv 1) (pit 0)))) (xH GH (pv 0) (wf zd) vP))))),?_⟩;walk_at "s";cases e with
  | glue al n m =>
    have h0:H p=some (.tup [.str (Dd.glue al n m).wd,.int n,.int m]):=he;obtain ⟨n',n1,rfl⟩:=hn n (by simp [Dd.names]);obtain ⟨m',m1,rfl⟩:=hn m (by simp [Dd.names]);exists ⟨_,_,rfl,.inr (q_GLUINGS H),rfl,rfl,?_⟩;rw [show (if false=true then !inV _ _ else inV _ _)=true from Eo (.glue al n' m')];exists zu ha (Cm n1) ?_;exists zu ha (Cm m1) ?_;exists zw (!1) λb H1 nb s1 e1=>?_;exact q b H1 s1 nb e1
  | cut al n s =>
    obtain ⟨pq,h0,hs⟩:=he;obtain ⟨n',n1,rfl⟩:=hn n (by simp [Dd.names,Dd.n]);exists ⟨_,_,rfl,.inr (q_GLUINGS H),rfl,rfl,?_⟩;rw [show (if false=true then !inV _ _ else inV _ _)=false from Eo (.cut al n' s)];exists zu ha (Cm n1) ?_;exists zC (!1) λt1 H1 s1 e1=>?_;have h1:=s1 _ _ h0;exists GV h1 λt2 H2 s2 e2=>?_;refine CW (s2 _ _ e1) e2 (!1) (!1) (!1) λb H3 nb s3 e3=>?_;exact q b H3 ((s1.trans s2).trans s3) (Same.nn (s1.trans s2) nb) ⟨pq,e3,((s1.trans s2).trans s3) _ _ hs⟩
  | shift al n k' =>
    have h0:H p=some (.tup [.str (Dd.shift al n k').wd,.int n,.int k']):=he;obtain ⟨n',n1,rfl⟩:=hn n (by simp [Dd.names,Dd.n]);exists ⟨_,_,rfl,.inr (q_GLUINGS H),rfl,rfl,?_⟩;rw [show (if false=true then !inV _ _ else inV _ _)=false from Eo (.shift al n' k')];exists zu ha (Cm n1) ?_;exists zC (!1) λt1 H1 s1 e1=>?_;have h1:=s1 _ _ h0;exists GV h1 λt2 H2 s2 e2=>?_;refine CW (s2 _ _ e1) e2 (!1) (!1) (!1) λb H3 nb s3 e3=>?_;exact q b H3 ((s1.trans s2).trans s3) (Same.nn (s1.trans s2) nb) e3
  | turn n=>exact nomatch nT
theorem K11(F:Fun K "first_unlike" "first_unlike" S40 f fd)(B:Bl mg)  :FnOk P w K mg base CX0 1 f fd ["one","other"] P11:=by
  refine F.okA C14 λcdv A outer s H vs Q E hr h=>?_;obtain @⟨p,p',s,t,rfl,h1,h2,qn,q⟩:=h;refine ⟨_,(za (zV PassesOwn.never rfl (yh rfl B.range (pa1 zd)) (pg_n 2 C14.nd) (zc (zV PassesOwn.never rfl (yh rfl B.range (pa1 zd)) (pg_n 3 C14.nd) (zc (zv (zi (CZ hr.units) (pe_i zW (pe_i zW (pv 0) (pv 2)) (pv 3)) (pe_i zW (pe_i zW (pv 1) (pv 2)) (pv 3)) (zk _)) (zc (zf (zo (pa2 (pv 2) (pv 3))))) zj))))) (zc (zf BH))),?_⟩;walk_at "s";exists wN ?_;exists ⟨2,rfl,by decide,by decide,yG (lo:=0) (n:=2) (λi σ H'=>E2 λv v'=>A3 (σ=[vR p,vR p',v,v']) (H'=H) (∀ k,k<2*i->cmT k s=cmT k t)) ⟨_,_,rfl,rfl,λk hk=>absurd hk (!2)⟩ ?_ ?_⟩
  . rintro i σ H' hi ⟨v,v',rfl,rfl,eqs⟩;exists wN ?_;exists ⟨2,rfl,by decide,by decide,yG (lo:=0) (n:=2) (λj σ H2=>E1 λv'=>A3 (σ=[vR p,vR p',vI (0+(i:Int)),v']) (H2=H') (∀ k,k<2*i+j->cmT k s=cmT k t)) ⟨_,rfl,rfl,eqs⟩ ?_ ?_⟩
    . rintro j σ H2 hj ⟨v',rfl,rfl,eqs⟩;obtain ⟨xs,ys,rr,ff,a1,a2,a3,a4,a5⟩:=JR h1 hi hj;obtain ⟨xs',ys',rr',ff',b1,b2,b3,b4,b5⟩:=JR h2 hi hj;exists xn a1 a2 ?_;exists xn a3 a4 ?_;exists xn b1 b2 ?_;exists xn b3 b4 ?_;exists Kc a5 b5 ?_;exists AN (λc=>?_) (λc=>?_)
      . exists zC (!1) λr H3 s3 e3=>?_;rw [dg,dg] at e3;exact q r H3 i j s3 e3 ⟨hi,hj,eqs,λz=>c (by rw [z]; exact ⟨rfl,rfl⟩)⟩
      . exists ⟨_,rfl,rfl,λk hk=>?_⟩;by_cases z:k<2*i+j
        . exact eqs k z
        . rw [show k=2*i+j by lia];exact Rat.ext c.1 (dh c.2)
    . rintro σ H2 ⟨v',rfl,rfl,eqs⟩;walk_at "r";exact ⟨_,_,rfl,rfl,λk hk=>eqs k (!2)⟩
  rintro σ H' ⟨v,v',rfl,rfl,eqs⟩;walk_at "r";exact qn (Ij λk hk=>eqs k (!2))
theorem K12(F:Fun K "_law_cell" "_law_cell" S42 f fd)(B:Bl mg)  :FnOk P w K mg base CX0 1 f fd ["_law_script","_law_k"] (P12 K):=by
  refine F.okA C15 λcdv A outer s H vs Q E hr h=>?_;obtain @⟨p,ns,k,rfl,hS,hk,hb,q⟩:=h;refine ⟨_,(za (zv (zi uN (pv 1) (zm zt rfl B.len aV (pa1 (pv 0))) (zk _)) (zc (zf (pe_i zK (pv 0) (pv 1)))) zj) (zc (zf zd))),?_⟩;walk_at "s";exists ⟨p,_,rfl,.inl hS,?_⟩;exists if_d (λc=>?_) (λc=>?_)
  . walk_at "r";rw [aa] at c;obtain ⟨d,hd,e⟩:=Bz (xs:=ns) (i:=k) hk c;exact ⟨p,_,_,_,rfl,rfl,hS,e,q d (hb d hd)⟩
  . walk_at "r";exact q 0 (by exact (Dx 0).mono (!3))
theorem K13(F:Fun K "_law_whole" "_law_whole" S43 f fd)(B:Bl mg)  :FnOk P w K mg base CX0 1 f fd ["_law_found"] P13:=by
  refine F.okA C16 λcdv A outer s H vs Q E hr h=>?_;obtain ⟨i,rfl,q⟩:=h;refine ⟨_,(zc (zf (wv (zm zJ rfl B.isinstance zA (pa2 (pv 0) (yK (v:=.ty "int") rfl B.int vp rfl))) (wX (GS (zm zJ rfl B.isinstance zA (pa2 (pv 0) (yK (v:=.ty "bool") rfl B.bool DH rfl)))))))),?_⟩;walk_at "s";walk_at "r";exact q
theorem K14(F:Fun K "_law_great" "_law_great" S44 f fd)(B:Bl mg)  :FnOk P w K mg base CX0 1 f fd ["_law_cell_here","_law_k"] P14:=by
  refine F.okA C17 λcdv A outer s H vs Q E hr h=>?_;obtain @⟨c,k,rfl,hc,hk,q⟩:=h;refine ⟨_,(za (ps_s 2 C17.nd (zh zn (zh zF (zh zF (zh zF (pv 0) (zh zn (zh zn zd (pv 1)) (pv 1))) (pv 1)) zd) zd)) (za (ps_s 2 C17.nd (zh zM (pv 2) zd)) (zc (zf (zh zM (zh zn (pv 2) (pv 2)) zd))))),?_⟩;walk_at "s";walk_at "r";exact q _ (b8 _ ⋯) (cg _ ⋯)
theorem K15(F:Fun K "_law_divisor" "_law_divisor" S46 f fd)(B:Bl mg)  :FnOk P w K mg base CX0 1 f fd ["_law_one","_law_other"] P15:=by
  refine F.okA C18 λcdv A outer s H vs Q E hr h=>?_;obtain ⟨a,b,rfl,q⟩:=h;refine ⟨_,(za (ps_s 0 C18.nd (zm vG rfl B.abs Eb (pa1 (pv 0)))) (za (ps_s 1 C18.nd (zm vG rfl B.abs Eb (pa1 (pv 1)))) (za (uE PassesOwn.never (zi xY (pv 1) zd (zk _)) (zc (Jv (i:=0) (j:=1) rfl C18.nd rfl rfl ⋯ rfl rfl (pa2 (pv 1) (zh zM (pv 0) (pv 1))) rfl))) (zc (zf (pv 0)))))),?_⟩;walk_at "s";exists BQ (λσ' H'=>E2 λ(x y:Int)=>A5 (σ'=[vI x,vI y]) (H'=H) (0<=x) (0<=y) (Int.gcd x y=Int.gcd a b)) (λσ' _=>match σ' with | [_,some (.int y)]=>y.natAbs | _=>0) ⟨_,_,rfl,rfl,?_,?_,?_⟩ ?_ ?_
  . split <;> lia
  . split <;> lia
  . exact FT a b
  . rintro σ' H' ⟨x,y,rfl,rfl,hx,hy,hg⟩;exists if_d (λc=>?_) (λc=>?_)
    . walk_at "r";exact ⟨⟨y,x % y,rfl,rfl,hy,b8 _ (!2),(Fl x y).trans hg⟩,by
        have h1:=b8 x (show y≠0 by lia);have h2:=cg x c;show (x % y).natAbs<y.natAbs
        lia⟩
    . walk_at "r";have hy0:y=0:=by lia
      have e:x=((Int.gcd a b:Nat):Int):=by
        rw [<-hg,hy0,Int.gcd_zero_right]
        lia
      rw [e];exact q
  . intro σ H Q Q' hq h;obtain ⟨v,e,i,j,e1,e2,k,e3,z⟩:=h;exact ⟨v,e,i,j,e1,e2,k,e3,hq _ _ z⟩
theorem KP{k:Bool}:atI [V.int (-1),V.int 1] (if k=true then 1 else 0)=some (.int (if k=true then 1 else -1)):=by cases k <;> rfl
theorem K16(F:Fun K "_law_sign" "_law_sign" S48 f fd)(B:Bl mg)  :FnOk P w K mg base CX0 1 f fd ["_law_d","_law_a","_law_b"] P16:=by
  refine F.okA C19 λcdv A outer s H vs Q E hr h=>?_;obtain @⟨d,a,b,rfl,hd,ha,hb,q⟩:=h;refine ⟨_,(za (zv (PW.pt (xk (zi Ed (pv 1) zd (zk _)) (yI (zi Ed (pv 2) zd (zk _))))) (zc (zf (zQ xy rfl B.int vp (pa1 (zY xY (zh zF (pv 1) (pv 2)) zd (zk _)))))) zj) (za (zv (PW.pt (xk (zi Fv (pv 1) zd (zk _)) (yI (zi Fv (pv 2) zd (zk _))))) (zc (zf (u8 wB zd))) zj) (za (zv (zi xY (pv 1) zd (zk _)) (zc (zf (pe_i zK (zI (pa2 (u8 wB zd) zd)) (zQ xy rfl B.int vp (pa1 (zY xY (zh zn (pv 1) (pv 1)) (zh zn (zh zn (pv 0) (pv 2)) (pv 2)) (zk _))))))) zj) (zc (zf (pe_i zK (zI (pa2 (u8 wB zd) zd)) (zQ xy rfl B.int vp (pa1 (zY xY (zh zn (zh zn (pv 0) (pv 2)) (pv 2)) (zh zn (pv 1) (pv 1)) (zk _)))))))))),?_⟩;walk_at "s";exists if_d (λc1=>?_) (λc1=>?_)
  . exists if_d (λc2=>?_) (λc2=>?_)
    . walk_at "r";exact EB (by rw [uu c1 c2]; simp only [iB]) (q H (Same.refl H))
    . exists if_d (λc3=>?_) (λc3=>?_)
      . exists if_d (λc4=>?_) (λc4=>?_)
        . walk_at "r";exact EB (by unfold sgn; rw [h9 (!2),h8 ⟨c3,c4⟩]) (q H (Same.refl H))
        . lia
      . exists if_d (λc4=>?_) (λc4=>?_)
        . exists GX (!1) λp H2 s2 e2=>?_;exists zu e2 KP ?_;exact EB (by rw [EY c4 (!2)]; simp only [iB]) (q H2 s2)
        . lia
  . exists if_d (λc3=>?_) (λc3=>?_)
    . exists if_d (λc4=>?_) (λc4=>?_)
      . walk_at "r";exact EB (by unfold sgn; rw [h9 (!2),h8 ⟨c3,c4⟩]) (q H (Same.refl H))
      . exists if_d (λc5=>?_) (λc5=>?_)
        . lia
        . exists GX (!1) λp H2 s2 e2=>?_;exists zu e2 KP ?_;exact EB (by rw [DC (!2) (!2)]; simp only [iB]) (q H2 s2)
    . lia
theorem K17(F:Fun K "_law_begin" "_law_begin" S59 f fd)(B:Bl mg)  :FnOk P w K mg base CX0 1 f fd ["_law_heap_here"] P17:=by
  refine F.okA C20 λcdv A outer s H vs Q E hr h=>?_;obtain @⟨l,L,rfl,hl,hA,h6,q⟩:=h;refine ⟨_,(za (ps_s 1 C20.nd uW) (za (zV PassesOwn.never rfl (yh rfl B.range (pa1 (zm zt rfl B.len aV (pa1 (pv 0))))) (pg_n 2 C20.nd) (zc (xV (yS hr) (pv 1) (pv 2) (pe_i zK (pv 0) (pv 2)) rfl))) (zc (zf (zo (pa2 (pv 1) (zm zt rfl B.len aV (pa1 (pv 0))))))))),?_⟩;walk_at "s";exists AU λA H1 n1 s1 e1=>?_;have lA:l≠A:=zb hl n1;have hl1:=s1 _ _ hl;exists wN ?_;walk_at "r";rw [aa];refine ⟨(L.length:Int),rfl,by lia,by lia,yG (lo:=0) (n:=(L.length:Int).toNat) (λi σ H'=>E1 λv=>A3 (σ=[vR l,vR A,v]) (H' A=some (.dK (cdK (List.range i) (fL L)))) (SameX A H1 H')) ⟨_,rfl,e1,λb o e _=>e⟩ ?_ ?_⟩
  . rintro i σ H' hi ⟨v,rfl,el,sx⟩;have hi':i<L.length:=by lia
    have hl':=sx _ _ hl1 lA;obtain ⟨cx,hcx⟩:∃ c,L[i]?=some c:=⟨_,ae hi'⟩
    exists zu hl' (v:=cx.v) (by rw [show (0:Int)+(i:Int)=((i:Nat):Int) by lia]; exact zB (by rw [ag,hcx]; rfl)) ?_;walk_at "r";rw [show (0:Int)+(i:Int)=((i:Nat):Int) by lia];refine ⟨A,_,rfl,DPut.k (k:=.inl ((i:Nat):Int)) el (by rw [AZ,bA]; exact aE (show _<1000 by lia) (!3)),?_⟩;refine ⟨_,rfl,?_,λb o e n=>by rw [zl n]; exact sx b o e n⟩;rw [zg,vk _ (wa (λj hj=>bC.mp hj)),dW,Cj,uy hcx]
  rintro σ H2 ⟨v,rfl,el,sx⟩;have s2:Same H H2:=λb o e=>sx b o (s1 b o e) (zb e n1);rw [fV] at el;have hl2:=s2 _ _ hl;walk_at "r";rw [aa];exists zw (!1) λr H3 n3 s3 e3=>?_;refine q r A H3 (s2.trans s3) n1 e3 ⟨s3 _ _ el,λj hj=>?_⟩;have hj:=bC.mp hj;rw [uy (ae hj)];exact ((hA _ (bH hj)).same s2).same s3
theorem K18(F:FunD K "__init__" "Yard.__init__" S66 f fd its)(B:Bl mg)(X:Xs K mg cs) :FnOk P w K mg base CX0 1 f fd ["self","d","heap","turning"] (P18 cs):=by
  refine F.okA C21 λcdv A outer s H vs Q E hr h=>?_;obtain ⟨p,dx,hp,d,tn,cl,rfl,h0,hh,hat,hlen,q⟩:=h;refine ⟨_,(za (tZ (pv 0) (pv 1) rfl) (za (tZ (pv 0) (pv 3) rfl) (za (tZ (pv 0) (zQ wp rfl B.list xD (pa1 (pv 2))) rfl) (za (tZ (pv 0) (zQ (ue rfl) rfl B.dict Bc (pa1 (ye ["name"] [] rfl (yh rfl B.range (pa1 (zm zt rfl B.len aV (pa1 (pv 2))))) (λ_ _ _ _ _=>(pg_n 0 (show List.Nodup (α:=Str) ["name"] by decide +kernel))) (λ_ _ _ _ _=>zP) (λ_ _ _ _ _=>(zo (pa2 (pv 0) xq)))))) rfl) (zc (tZ (pv 0) (zI yl) rfl)))))),?_⟩;walk_at "s";exists Az h0 X.c_Yard X.n_Yard_root (!1) λH1 x1 e1=>?_;exists Az e1 X.c_Yard X.n_Yard_turning (y6 (!1)) λH2 x2 e2=>?_;have np:hp≠p:=ya hh h0 (λz=>nomatch z);have hh2:=x2 _ _ (x1 _ _ hh np) np;exists tH hh2 λk H3 nk s3 ek=>?_;have e3:=s3 _ _ e2;have kp:k≠p:=ya ek e3 (λz=>nomatch z);exists Az e3 X.c_Yard X.n_Yard_known (y6 (y6 (!1))) λH4 x4 e4=>?_;have ek4:=x4 _ _ ek kp;have hh4:=x4 _ _ (s3 _ _ hh2) np;exists vd ?_;exists ⟨_,rfl,by simp only [aa]; lia,by simp only [aa]; lia,λD hD=>yM (lo:=0) (n:=((cl.map Cell.v).length:Int).toNat) (λi xs σ' H'=>E2 λ(v:Option V) (ps:List Addr)=>A6 (σ'=[v]) (xs=ps.map V.ref) (ps.length=i) (H' D=some (.lst xs)) (SameX D H4 H') (∀ (j:Nat) (p':Addr),ps[j]?=some p'->H' p'=some (.tup [.int (j:Int),.bl true]))) ⟨none,[],rfl,rfl,rfl,zg,λb o e n=>by rw [zl n]; exact e,by simp⟩ ?_ ?_⟩
  . rintro i xs σ' H' hi ⟨v,ps,rfl,rfl,hl,eD,sx,hps⟩;exists zw (!1) λr H5 hr s5 e5=>?_;walk_at "r";have hi':i<61:=by simp only [aa] at hi; lia
    refine zp (s5 _ _ eD) (by rw [aa]; lia) λH6 x6 e6=>?_;have rD:r≠D:=ya e5 (s5 _ _ eD) (λz=>nomatch z);refine yv hi ⟨_,ps++[r],rfl,rfl,by rw [ah,hl]; rfl,by rw [aj]; exact e6,sx.trans ((SameX.of s5).trans x6),?_⟩;intro j p' hj;by_cases c:j<ps.length
    . rw [aM c] at hj;have:=hps j p' hj;exact x6.tup (s5 _ _ this) (s5 _ _ eD)
    . rw [aH (!2)] at hj;have hj1:=(af.mp hj).1;have j0:j - ps.length=0:=by simpa using hj1
      rw [j0] at hj;injection hj with hj;subst hj;have:j=i:=by lia
      subst this;have:=x6.tup e5 (s5 _ _ eD);simpa using this
  . rintro xs σ' H' ⟨v,ps,rfl,rfl,hl,eD,sx,hps⟩;have s5:Same H4 H':=λb o e=>sx b o e (zb e hD);have hl:ps.length=cl.length:=by rw [hl]; simp
    exists Ev (kvs:=nmK (List.range cl.length)) eD (by simp [nmK,hl]) (λi p' kv h1 h2=>?_) (Al bU) (by simp [nmK]; lia) λl H6 nl s6 el=>?_
    . have h3:=hps i p' h1;have hi:=(af.mp h1).1;rw [nmK,ag,cW (!2)] at h2;injection h2 with h2;rw [<-h2];exact h3
    have e6:=s6 _ _ (s5 _ _ e4);have lp:l≠p:=ya el e6 (λz=>nomatch z);exists Az e6 X.c_Yard X.n_Yard_lying (y6 (y6 (y6 (!1)))) λH7 x7 e7=>?_;exists zy (!1) λt H8 nt s8 et=>?_;have e8:=s8 _ _ e7;have tp:t≠p:=ya et e8 (λz=>nomatch z);exists Az e8 X.c_Yard X.n_Yard_done (y6 (y6 (y6 (y6 (!1))))) λH9 x9 e9=>?_;have ek7:=x7 _ _ (s6 _ _ (s5 _ _ ek4)) kp;have xx:SameX p H H9:=x1.trans (x2.trans ((SameX.of s3).trans (x4.trans ((SameX.of (s5.trans s6)).trans (x7.trans ((SameX.of s8).trans x9))))));have pn:∀ {b:Addr} {G:Hp},SameX p H G->b≠p->G b=none->H b=none:=λ{b G} x n g=>by
      cases e:H b with
      | none=>rfl
      | some o=>rw [x _ _ e n] at g; cases g
    refine q ⟨p,dx,k,l,t⟩ H9 rfl rfl xx ⟨e9,x9 _ _ (s8 _ _ ek7) kp,x9 _ _ (s8 _ _ (x7 _ _ el lp)) lp,x9 _ _ et tp,zb ek7 nt,λc hc=>?_,bU,λn hn=>bC.mp hn,by lia,by simp⟩ (pn (x1.trans x2) kp nk) (pn (x1.trans (x2.trans ((SameX.of s3).trans (x4.trans (SameX.of s5))))) lp nl) (pn (x1.trans (x2.trans ((SameX.of s3).trans (x4.trans ((SameX.of (s5.trans s6)).trans x7))))) tp nt);have hc:=hat c hc;exact ⟨xx _ _ hc.t (ya hc.t h0 (λz=>nomatch z)),xx _ _ hc.w (ya hc.w h0 (λz=>nomatch z)),xx _ _ hc.h (ya hc.h h0 (λz=>nomatch z))⟩
theorem K19(F:Fun K "board_ever" "Yard.board_ever" S70 f fd)(B:Bl mg)(X:Xs K mg cs) :FnOk P w K mg base CX0 1 f fd ["self","name"] (P19 cs):=by
  refine F.okA C22 λcdv A outer s H vs Q E hr h=>?_;obtain @⟨y,d,tn,cl,ns,lg,n,c,rfl,hy,hc,q⟩:=h;refine ⟨_,(zc (zf (pe_i zK (yw (K:=K) rfl (pv 0) rfl) (pv 1)))),?_⟩;walk_at "s";exists ⟨_,_,_,_,_,rfl,hy.o,X.c_Yard,X.n_Yard_known,rfl,?_⟩;exists zu hy.k (v:=c.v) (zB (by rw [ag,hc]; rfl)) ?_;walk_at "r";exact q
theorem K20(F:Fun K "boards" "Yard.boards" S71 f fd)(B:Bl mg)(X:Xs K mg cs) :FnOk P w K mg base CX0 1 f fd ["self"] (P20 cs):=by
  refine F.okA C23 λcdv A outer s H vs Q E hr h=>?_;obtain @⟨y,d,tn,cl,ns,lg,rfl,hy,q⟩:=h;refine ⟨_,(zc (zf (FW ["name"] [0] rfl (Ib (yw (K:=K) rfl (pv 0) rfl)) (λ_ _ _ _ _=>(pg_n 0 (show List.Nodup (α:=Str) ["name","self"] by decide +kernel))) (λ_ _ _ _ _=>zP) (λ_ _ _ _ _=>(zo (pa2 (pv 0) (pe_i (r:=rIxL K) zK (yw (K:=K) rfl (pv 1) rfl) (pv 0)))))))),?_⟩;walk_at "s";refine i_ret ?_;refine Iq ?_;exists ⟨_,_,_,_,_,rfl,hy.o,X.c_Yard,X.n_Yard_lying,rfl,?_⟩;refine ⟨y.l,nmK ns,rfl,hy.l,λob nf D hD=>DA (d:=y.l) (ob:=ob) (kvs:=nmK ns) (λi xs σ' H'=>E1 λ(v:Option V)=>A5 (σ'=[v,vR y.p]) ((∃ ps:List Addr,xs=ps.map V.ref/\ps.length=i/\∀ (j:Nat) (p:Addr),ps[j]?=some p->∃ n c,ns[j]?=some n/\cl[n]?=some c/\H' p=some (.tup [.int (n:Int),.ref c.p]))) (H' D=some (.lst xs)) (H' y.l=some (.frz ob (.dK (nmK ns)))) (∀ b o,H b=some o->b≠y.l->H' b=some o)) ?_ (λi xs σ' H' _ z=>by obtain ⟨_,_,_,_,z,_⟩:=z; exact z) ?_ ?_⟩
  . have nl:D≠y.l:=λc=>by rw [c,zg] at hD; cases hD
    have hD':H D=none:=by rw [zl nl] at hD; exact hD
    exact ⟨none,rfl,⟨[],rfl,rfl,by simp⟩,zg,by rw [zl (bZ nl),zg],λb o e n=>by rw [zl (zb e hD'),zl n]; exact e⟩
  . rintro i kv xs σ' H' hi ⟨v,rfl,⟨ps,rfl,hl,hps⟩,eD,el,sx⟩;have nl0:D≠y.l:=λc=>by rw [c,zg] at hD; cases hD
    have hD':H D=none:=by rw [zl nl0] at hD; exact hD
    rw [nmK,ag] at hi;obtain ⟨n,hn,rfl⟩:=am.mp hi;have hlt:=hy.lt n (ar hn);obtain ⟨c,hc⟩:∃ c,cl[n]?=some c:=⟨_,ae hlt⟩
    have nl:∀ {b:Addr} {o:HO},H b=some o->(∀ k,o≠.dK k)->b≠y.l:=λe h z=>by rw [z,hy.l] at e; injection e with e; exact h _ e.symm
    have eo:=sx _ _ hy.o (nl hy.o (λ_ z=>nomatch z));have ek:=sx _ _ hy.k (nl hy.k (λ_ z=>nomatch z));exists ⟨_,_,_,_,_,rfl,eo,X.c_Yard,X.n_Yard_known,rfl,?_⟩;exists zu ek (v:=c.v) (zB (by rw [ag,hc]; rfl)) ?_;have hi3:=(af.mp hn).1;have l1:=E8 hy.up hy.lt;have l2:=hy.lc;exists zw (!1) λr H5 hr s5 e5=>?_;walk_at "r";have eD5:=s5 _ _ eD;refine zp eD5 (by rw [aa]; lia) λH3 x3 e3=>?_;refine yv (by simp only [nmK,aa]; exact hi3) ⟨_,rfl,⟨ps++[r],rfl,by rw [ah,hl]; rfl,?_⟩,by rw [aj]; exact e3,x3 _ _ (s5 _ _ el) (ya (s5 _ _ el) eD5 (λz=>nomatch z)),λb o e n=>x3 _ _ (s5 _ _ (sx b o e n)) (zb e hD')⟩;intro j p' hj;by_cases cj:j<ps.length
    . rw [aM cj] at hj;obtain ⟨n',c',h1,h2,h3⟩:=hps j p' hj;exact ⟨n',c',h1,h2,x3.tup (s5 _ _ h3) eD5⟩
    . rw [aH (!2)] at hj;have hj1:=(af.mp hj).1;have j0:j - ps.length=0:=by simpa using hj1
      rw [j0] at hj;injection hj with hj;subst hj;have:j=i:=by lia
      subst this;exact ⟨n,c,hn,hc,x3.tup e5 eD5⟩
  . rintro xs σ' H' ⟨v,rfl,⟨ps,rfl,hl,hps⟩,eD,el,sx⟩;have nl0:D≠y.l:=λc=>by rw [c,zg] at hD; cases hD
    have hD':H D=none:=by rw [zl nl0] at hD; exact hD
    refine ⟨y.l,ob,nmK ns,nf,el,?_⟩;refine q D _ ps (λb o e=>?_) hD' (by rw [zl nl0]; exact eD) ⟨by rw [hl,nmK,aa],λj p' hj=>?_⟩;rotate_left
    . obtain ⟨n',c',h1,h2,h3⟩:=hps j p' hj;exact ⟨n',c',h1,h2,by rw [zl (ya h3 el (λz=>nomatch z))]; exact h3⟩
    by_cases c:b=y.l
    . rw [c,zg]; rw [c,hy.l] at e; exact e
    . rw [zl c]; exact sx b o e c
theorem K21(F:FunD K "length" "length" S3 f fd its)(B:Bl mg)(o2x:O2x P w K mg base)(o1x:O1x P w K mg base)(o0x:O0x P w K mg base):FnOk P w K mg base CX0 2 f fd ["a","b","n"] P21:=by
  refine F.okA C24 λcdv A outer s H vs Q E hr h=>?_;obtain ⟨a,b,n,rfl,hn,hb,⟨ha8,hb8⟩,q⟩:=h;refine ⟨_,(za (zv (yd (PW.pt (xk (zU (ze o0x hr rfl (pa1 (pv 0)))) (xk (zU (ze o0x hr rfl (pa1 (pv 1)))) (yI (zU (ze o0x hr rfl (pa1 (pv 2))))))))) (zc yY) zj) (za (zv (zi z5 (pv 2) zd (zk _)) (zc yY) zj) (za (ps_s 3 C24.nd (ze o2x hr rfl (pa2 (ze o1x hr rfl (pa2 (ze o1x hr rfl (pa2 (pv 2) (pv 0))) (pv 1))) (pv 2)))) (zc (zf (zo (pa3 (zh zS (pv 0) (pv 3)) (zh zS (pv 1) (pv 3)) (zh zS (pv 2) (pv 3))))))))),?_⟩;walk_at "s";have hc:∀ x,CFd x (gd a b n):=λx=>⟨Ho hn,bn (Ip hn hb).log ⋯⟩
  exists if_d (λc=>absurd c hn) (λ_=>?_);walk_at "r"
  . exact zC (!1) λp H' s e=>q p H' s e
  all_goals exact hc _
theorem K22(F:FunD K "fraction" "fraction" S4 f fd its)(B:Bl mg)(o2x:O2x P w K mg base)(o1x:O1x P w K mg base):FnOk P w K mg base CX0 2 f fd ["top","bottom"] P22:=by
  refine F.okA C25 λcdv A outer s H vs Q E hr h=>?_;obtain ⟨t,b,rfl,hn,hb,q⟩:=h;refine ⟨_,(za (ps_s 2 C25.nd (ze o2x hr rfl (pa2 (ze o1x hr rfl (pa2 (pv 0) (pv 1))) (pv 1)))) (zc (zf (zo (pa2 (zh zS (pv 0) (pv 2)) (zh zS (pv 1) (pv 2))))))),?_⟩;walk_at "s";have hc:∀ x,CFd x (fg t b):=λx=>⟨Lf hn,bn (LR hn hb).log ⋯⟩
  walk_at "r"
  . exact zC (!1) λp H' s e=>q p H' s e
  all_goals exact hc _
theorem K23(F:Fun K "added" "added" S6 f fd)(B:Bl mg)(o1x:O1x P w K mg base):FnOk P w K mg base CX0 2 f fd ["one","other"] (P23 K):=by
  refine F.okA C26 λcdv A outer s H vs Q E hr h=>?_;obtain ⟨p,p',x,y,z,x',y',z',rfl,h1,h2,n1,n2,k1,k2,⟨b1,b2,b3,b4,b5,b6⟩,q⟩:=h;refine ⟨_,(za (ps_s 2 C26.nd (ze o1x hr rfl (pa2 (pit 0) (pit 1)))) (za (ps_s 3 C26.nd (zh zS (pit 1) (pv 2))) (za (ps_s 4 C26.nd (zh zS (pit 0) (pv 2))) (za (ps_s 5 C26.nd (zh zF (zh zn (pit 0) (pv 3)) (zh zn (pit 1) (pv 4)))) (za (ps_s 6 C26.nd (zh zF (zh zn (pit 0) (pv 3)) (zh zn (pit 1) (pv 4)))) (za (ps_s 7 C26.nd (ze o1x hr rfl (pa2 (ze o1x hr rfl (pa2 (pv 2) (pv 5))) (pv 6)))) (zc (zf (zo (pa3 (zh zS (pv 5) (pv 7)) (zh zS (pv 6) (pv 7)) (zh zn (pv 4) (zh zS (pit 1) (pv 7))))))))))))),?_⟩;walk_at "s";obtain ⟨as1,al1,ea,eb,en⟩:=IH n1 n2 k1 k2;have gb:Bd 3900 (aS z z'):=uP (!2) b3;have lb:Bd 3900 (aL x y z x' y' z'):=uP (by have:=cI (aA x z x' z') (show aS z z'≠0 by lia); lia) (uP (!2) gb);have ba8:Bd 8192 (aA x z x' z'):=Bd.mono (Bd.add (k:=7800) (b1.mul (b6.fdiv _)) (b4.mul (b3.fdiv _))) ⋯;have bb8:Bd 8192 (aA y z y' z'):=Bd.mono (Bd.add (k:=7800) (b2.mul (b6.fdiv _)) (b5.mul (b3.fdiv _))) ⋯;have hs:∀ t,CFd t (aS z z'):=λt=>⟨by lia,bn gb.log ⋯⟩
  have hl:∀ t,CFd t (aL x y z x' y' z'):=λt=>⟨by lia,bn lb.log ⋯⟩
  rw [<-ea,<-eb,<-en] at q;walk_at "r"
  . exact zC (!1) λr H' s e=>q r H' s e
  all_goals first | exact hs _ | exact hl _
theorem K24(F:Fun K "under" "under" S10 f fd)(B:Bl mg)(o9x:Own P w K mg base 1 "is_above_nought" ["d","a","b"] [] P3):FnOk P w K mg base CX0 2 f fd ["d","one","other"] (P24 K):=by
  refine F.okA C27 λcdv A outer s H vs Q E hr h=>?_;obtain ⟨d,p,p',x,y,z,x',y',z',rfl,h1,h2,hd,⟨b1,b2,b3,b4,b5,b6⟩,q⟩:=h;refine ⟨_,(zc (zf (ze o9x hr rfl (pa3 (pv 0) (zh yV (zh zn (pit 2) (pit 1)) (zh zn (pit 1) (pit 2))) (zh yV (zh zn (pit 2) (pit 1)) (zh zn (pit 1) (pit 2))))))),?_⟩;walk_at "s";walk_at "r";exact wO rfl hd ((Bd.sub (b4.mul b3) (b1.mul b6)).mono ⋯) ((Bd.sub (b5.mul b3) (b2.mul b6)).mono ⋯) q
theorem K25(F:Fun K "counts" "counts" S14 f fd)(B:Bl mg)(o13x:Own P w K mg base 1 "crossed" ["one","other"] [] P4):FnOk P w K mg base CX0 2 f fd ["d","base","one"] P25:=by
  refine F.okA C28 λcdv A outer s H vs Q E hr h=>?_;obtain ⟨d,d',p,r1,r2,o,s,N,x,y,rfl,⟨h0,h1,h2⟩,ho,hN,hb,g,⟨bx,by'⟩,q⟩:=h;refine ⟨_,(za (ps_s 3 C28.nd (pit 1)) (za (ps_s 4 C28.nd (pit 1)) (za (ps_s 5 C28.nd (zh zn (pit 2) (ze o13x hr rfl (pa2 (pv 3) (pv 4))))) (zc (zf (zo (pa2 (zh zS (zh zn (ze o13x hr rfl (pa2 (pv 2) (pv 4))) (pit 3)) (pv 5)) (zh zS (zh zn (ze o13x hr rfl (pa2 (pv 3) (pv 2))) (pit 4)) (pv 5))))))))),?_⟩;walk_at "s";obtain ⟨b0,ci,cj⟩:=LD (x:=x) (y:=y) g hN;have k1:Bd 900 (lA s.a s.b N):=g.ba.fdiv _;have k2:Bd 900 (lB s.a s.b N):=g.bb.fdiv _;have k3:Bd 900 (lN s.a s.b N):=hb.fdiv _;have k4:Bd 900 (lA s.c s.e N):=g.bc.fdiv _;have k5:Bd 900 (lB s.c s.e N):=g.be.fdiv _;have k6:Bd 900 (lN s.c s.e N):=hb.fdiv _;have k7:Bd 900 (lA x y N):=bx.fdiv _;have k8:Bd 900 (lB x y N):=by'.fdiv _;have k9:Bd 900 (lN x y N):=hb.fdiv _;have bb:Bd 4000 (lN x y N*(lA s.a s.b N*lB s.c s.e N - lB s.a s.b N*lA s.c s.e N)):=Bd.mono (k9.mul ((k1.mul k5).sub (k2.mul k4))) ⋯;have hc:∀ t,CFd t (lN x y N*(lA s.a s.b N*lB s.c s.e N - lB s.a s.b N*lA s.c s.e N)):=λt=>⟨b0,bn bb.log ⋯⟩
  rw [<-ci,<-cj] at q;exists vD h1 h2 k1 k2 k4 k5 ?_;exists vD ho h2 k7 k8 k4 k5 ?_;walk_at "r"
  . refine vD h1 ho k1 k2 k7 k8 ?_;walk_at "r"
    . exact zC (!1) λr H' s' e=>q r H' s' e
    exact hc _
  all_goals exact hc _
theorem K26(F:Fun K "common_bottom" "common_bottom" S15 f fd)(B:Bl mg)(o1x:O1x P w K mg base):FnOk P w K mg base CX0 2 f fd ["lengths"] (P26 K):=by
  refine F.okA C29 λcdv A outer s H vs Q E hr h=>?_;obtain @⟨d,k,p,L,rfl,hL,hlen,hNb,q⟩:=h;refine ⟨_,(za (ps_s 1 C29.nd zd) (za (zV PassesOwn.never rfl (zG (pv 0)) (pg_n 2 C29.nd) (zc (ps_s 1 C29.nd (zh zn (zh zS (pv 1) (ze o1x hr rfl (pa2 (pv 1) (pit 2)))) (pit 2))))) (zc (zf (pv 1))))),?_⟩;walk_at "s";exists yU ?_;exists ⟨p,rfl,⟨_,SqL.of hL.l⟩,z8 (K:=K) (a:=p) (xs:=L.map Ln.v) (λi σ H'=>∃ (v:Option V),σ=[vR p,vI (cbs ((L.take i).map λc=>c.s.z)),v]/\H'=H) ⟨none,rfl,rfl⟩ (λi σ H' _ z'=>by obtain ⟨_,_,e⟩:=z'; exact by rw [e]; exact SqL.of hL.l) ?_ ?_⟩
  . rintro i y σ H' hi ⟨v,rfl,rfl⟩;obtain ⟨c,rfl,hc,hic⟩:=Jn hi;have e0:=hL.at' c hc;have ok:=hL.ok c hc;have bz:=ok.bz;have z1:=ok.z1;obtain ⟨f1,fb⟩:=Gf hL.ok hNb i;have hn:0<Int.gcd (cbs ((L.take i).map λc=>c.s.z)) c.s.z:=cI _ (!2);have gb:Bd 890 ((Int.gcd (cbs ((L.take i).map λc=>c.s.z)) c.s.z:Nat):Int):=uP (!2) fb;have hcf:∀ t,CFd t ((Int.gcd (cbs ((L.take i).map λc=>c.s.z)) c.s.z:Nat):Int):=λt=>⟨by lia,bn gb.log ⋯⟩
    walk_at "r"
    . exact ⟨some (.ref c.p),by rw [Be hic,Fh]; rfl,rfl⟩
    all_goals exact hcf _
  . rintro σ H' ⟨v,rfl,rfl⟩;rw [aa,aq];walk_at "r";exact q
theorem K27(F:Fun K "undoing" "undoing" S29 f fd)(B:Bl mg)(o70x:OwnM P w K mg base CX0 cs.Yard 1 "board_ever" ["self","name"] [] (P19 cs)):FnOk P w K mg base CX0 2 f fd ["yard","deed","names"] (P27 cs):=by
  refine F.okA C30 λcdv A outer s H vs Q E hr h=>?_;obtain @⟨y,d,tn,cl,ns,lg,p,a,e,n,c,m,m',rfl,hy,he,ha,hn,hc,q⟩:=h;refine ⟨_,(za (ps_s 3 C30.nd (pit 1)) (za (zv (zi z5 (pv 3) zx (zk _)) (zc (zf (zo (pa3 zx (pil 2) (pil 2))))) zj) (za (zv (zi z5 (pv 3) zx (zk _)) (zc (zf (zo (pa3 zx (pil 2) (pil 2))))) zj) (za (zv (zi z5 (pv 3) zx (zk _)) (zc (zf (zo (pa3 zx (pil 2) (pe_i zW (vz o70x tP hr (pv 0) (pa1 (pit 1))) zd))))) zj) (za (zv (zi z5 (pv 3) zx (zk _)) (zc (zf (zo (pa3 zx (pil 2) (pe_i zW (vz o70x tP hr (pv 0) (pa1 (pit 1))) zd))))) zj) (za (zv (zi z5 (pv 3) zx (zk _)) (zc (zf (zo (pa3 zx (pil 2) (pit 1))))) zj) (za (zv (zi z5 (pv 3) zx (zk _)) (zc (zf (zo (pa3 zx (pil 2) (pit 1))))) zj) (zc (zf (zo (pa2 zx (pil 2)))))))))))),?_⟩;walk_at "s";cases e with
  | cut al n1 s' =>
    obtain ⟨pq,h0,hs⟩:=he;have ga:al=al:=rfl;cases al
    all_goals
      simp [DdAt,Dd.wd] at h0;have ha:H a=some (.lst [.int m,.int m']):=ha;first
       | have:false=false:=ga
       | (walk_at "r"
          refine ifn ?_)
      exists if_d (λ_=>?_) (λc=>absurd rfl c);exists zw (!1) λr H1 nr s1 e1=>?_;exact q r H1 s1 nr e1
  | glue al n1 m1 =>
    have h0:=he;have ga:al=al:=rfl;cases al
    all_goals
      simp [DdAt,Dd.wd] at h0;have ha:H a=some (.lst [.int m]):=ha;first
       | have:false=false:=ga
       | (walk_at "r"
          refine ifn ?_)
      exists ifn ?_;exists ifn ?_;exists if_d (λ_=>?_) (λc=>absurd rfl c);walk_at "r";have hn:n1=(n:Int):=hn;subst hn;refine ⟨_,_,_,rfl,hy.o,rfl,?_⟩;exists wE rfl hy hc ?_;have hc':=hy.at' c (ar hc);have ht:=hc'.t;exists zw (!1) λr H1 nr s1 e1=>?_;first
       | (have:false=false:=ga
          exact q r H1 s1 nr ⟨c.pw,e1,s1 _ _ hc'.w⟩)
       | exact q r H1 s1 nr ⟨c.ph,e1,s1 _ _ hc'.h⟩
  | shift al n1 k =>
    have h0:=he;have ga:al=al:=rfl;cases al
    all_goals
      simp [DdAt,Dd.wd] at h0;have ha:H a=some (.lst [.int m]):=ha;first
       | have:false=false:=ga
       | (walk_at "r"
          refine ifn ?_)
      exists ifn ?_;exists ifn ?_;exists ifn ?_;exists ifn ?_;exists if_d (λ_=>?_) (λc=>absurd rfl c);exists zw (!1) λr H1 nr s1 e1=>?_;exact q r H1 s1 nr e1
  | turn n1 =>
    have h0:=he;have h0:H p=some (.tup [.str (Str.ofString "turn"),.int n1]):=h0;have ha:H a=some (.lst [.int m]):=ha;exists ifn ?_;exists ifn ?_;exists ifn ?_;exists ifn ?_;exists ifn ?_;exists ifn ?_;exists zw (!1) λr H1 nr s1 e1=>?_;exact q r H1 s1 nr e1
theorem K28(F:Fun K "names_behind" "names_behind" S32 f fd)(B:Bl mg)(o22x:O22x P w K mg base)(o23x:O23x P w K mg base):FnOk P w K mg base CX0 2 f fd ["many","plan"] P28:=by
  refine F.okA C31 λcdv A outer s H vs Q E hr h=>?_;obtain @⟨pl,ps,bs,es,d,tn,rfl,b1,b30,hpl,plen,hr',hw,q⟩:=h;refine ⟨_,(za (ps_s 2 C31.nd (zQ (ue rfl) rfl B.dict Bc (pa1 (ye ["name"] [] rfl (yh rfl B.range (pa1 (pv 0))) (λ_ _ _ _ _=>(pg_n 0 (show List.Nodup (α:=Str) ["name"] by decide +kernel))) (λ_ _ _ _ _=>zP) (λ_ _ _ _ _=>(zo (pa2 (pv 0) xq))))))) (za (ps_s 3 C31.nd (pv 0)) (za (zV PassesOwn.never rfl (zG (pv 1)) (pg_n 4 C31.nd) (za (zV PassesOwn.never rfl (zG (ze o22x hr rfl (pa1 (pv 4)))) (pg_n 5 C31.nd) (zc (zL (u9 (pv 2) (pv 5) ⟨rfl,rfl,rfl,rfl⟩)))) (za (zV PassesOwn.never rfl (wt rfl B.range (pa2 (pv 3) (zh zF (pv 3) (ze o23x hr rfl (pa1 (pv 4)))))) (pg_n 5 C31.nd) (zc (xV (yS hr) (pv 2) (pv 5) xq rfl))) (zc (ps_s 3 C31.nd (zh zF (pv 3) (ze o23x hr rfl (pa1 (pv 4))))))))) (zc (zf (zQ (Eh rfl) rfl B.list xD (pa1 (pv 2)))))))),?_⟩;walk_at "s";exists vd ?_;exists ⟨_,rfl,by lia,by lia,λD hD=>yM (lo:=0) (n:=((bs.length:Nat):Int).toNat) (λi xs σ' H'=>E2 λ(v:Option V) (zs:List Addr)=>A6 (σ'=[v]) (xs=zs.map V.ref) (zs.length=i) (H' D=some (.lst xs)) (SameX D H H') (∀ (j:Nat) (p':Addr),zs[j]?=some p'->H' p'=some (.tup [.int (j:Int),.bl true]))) ⟨none,[],rfl,rfl,rfl,zg,λb o e n=>by rw [zl n]; exact e,by simp⟩ ?_ ?_⟩
  . rintro i xs σ' H' hi ⟨v,zs,rfl,rfl,hl,eD,sx,hzs⟩;exists zw (!1) λr H5 hr s5 e5=>?_;walk_at "r";have hi':i<61:=by lia
    refine zp (s5 _ _ eD) (by rw [aa]; lia) λH6 x6 e6=>?_;have rD:r≠D:=ya e5 (s5 _ _ eD) (λz=>nomatch z);refine yv hi ⟨_,zs++[r],rfl,rfl,by rw [ah,hl]; rfl,by rw [aj]; exact e6,sx.trans ((SameX.of s5).trans x6),?_⟩;intro j p' hj;by_cases c:j<zs.length
    . rw [aM c] at hj;have:=hzs j p' hj;exact x6.tup (s5 _ _ this) (s5 _ _ eD)
    . rw [aH (!2)] at hj;have hj1:=(af.mp hj).1;have j0:j - zs.length=0:=by simpa using hj1
      rw [j0] at hj;injection hj with hj;subst hj;have:j=i:=by lia
      subst this;have:=x6.tup e5 (s5 _ _ eD);simpa using this
  . rintro xs σ' H' ⟨v,zs,rfl,rfl,hl,eD,sx,hzs⟩;have s5:Same H H':=λb o e=>sx b o e (zb e hD);have hl:zs.length=bs.length:=by rw [hl]; lia
    exists Ev (kvs:=nmK (List.range bs.length)) eD (by simp [nmK,hl]) (λi p' kv h1 h2=>?_) (Al bU) (by simp [nmK]; lia) λl H6 nl s6 el=>?_
    . have h3:=hzs i p' h1;have hi:=(af.mp h1).1;rw [nmK,ag,cW (!2)] at h2;injection h2 with h2;rw [<-h2];exact h3
    have hpl6:=(s5.trans s6) _ _ hpl;have npl:pl≠l:=zb (s5 _ _ hpl) nl;have hn0:H l=none:=Same.nn s5 nl;have oks:=z6 (vq b1 b30) hw;have hel:es.length<=150:=by rw [<-hr'.1]; exact plen
    exists yU ?_;exists ⟨pl,rfl,⟨_,SqL.of hpl6⟩,z8 (K:=K) (a:=pl) (xs:=ps.map V.ref) (λi σ G=>E2 λv4 v5=>A3 (σ=[vI ((bs.length:Nat):Int),vR pl,vR l,vI ((ends (As.sb bs) (es.take i)).k:Nat),v4,v5]) (G l=some (.dK (nmK (ends (As.sb bs) (es.take i)).ns))) (∀ b o,H6 b=some o->b≠l->G b=some o)) ⟨_,_,rfl,el,λb o e _=>e⟩ (λi σ G _ z'=>by obtain ⟨_,_,_,_,z⟩:=z'; exact SqL.of (z _ _ hpl6 npl)) ?_ ?_⟩
    . rintro i x σ G hi ⟨v4,v5,rfl,elG,fr⟩;rw [ag] at hi;obtain ⟨p,hp',rfl⟩:=am.mp hi;have hie:i<es.length:=by rw [<-hr'.1]; exact (af.mp hp').1
      obtain ⟨e,n,m,hx⟩:∃ e n m,es[i]?=some (e,n,m):=⟨_,_,_,ae hie⟩
      have st:=hw i _ hx;have sG:Same H G:=λb o z=>fr _ _ ((s5.trans s6) _ _ z) (zb z hn0);have he:=(hr'.2 i p _ hp' hx).same sG;have oki:=oks i (bf hie);have klb:=oki.kl;have nk:=xr (ends (As.sb bs) (es.take i)) (e,n,m);rw [yj hx];have hsn:(ends (As.sb bs) (es.take i)).next (e,n,m)=⟨(ends (As.sb bs) (es.take i)).k+e.puts,yg (ends (As.sb bs) (es.take i)).ns e.names++List.range' (ends (As.sb bs) (es.take i)).k e.puts,((ends (As.sb bs) (es.take i)).next (e,n,m)).g⟩:=by
        show (⟨_,_,_⟩:As)=_;rw [Dd.puts_new];rfl
      rw [hsn];generalize ((ends (As.sb bs) (es.take i)).next (e,n,m)).g=gg at *
      generalize ends (As.sb bs) (es.take i)=s at *
      have pu:=puts_le e;have he:DdAt G p e:=he;exists yU ?_;exists xl rfl he λa H2 s2 na ea=>?_;have el2:=s2 _ _ elG;have al:a≠l:=bZ (zb elG na);exists ⟨a,rfl,⟨_,SqL.of ea⟩,z8 (K:=K) (a:=a) (xs:=e.names.map V.int) (λj σ G2=>E1 λv5=>A3 (σ=[vI ((bs.length:Nat):Int),vR pl,vR l,vI (s.k:Nat),vR p,v5]) (G2 l=some (.dK (nmK (yg s.ns (e.names.take j))))) (SameX l H2 G2)) ⟨_,rfl,el2,λb o e _=>e⟩ (λj σ G2 _ z'=>by obtain ⟨_,_,_,z⟩:=z'; exact SqL.of (z _ _ ea al)) ?_ ?_⟩
      . rintro j y σ G2 hj ⟨w5,rfl,elj,sxj⟩;rw [ag] at hj;obtain ⟨nm,hm',rfl⟩:=am.mp hj;obtain ⟨n',hn',rfl⟩:=st.nms.names_in nm (ar hm');have hn':n'∈s.ns:=hn';have hnd:e.names.Nodup:=st.nms.nodup;have hni:(n':Int)∉e.names.take j:=by
          intro hh;obtain ⟨k,hk⟩:=cR hh;have hk1:=(af.mp hk).1;rw [aK] at hk1;rw [dc (!2)] at hk;have:=(dD (i:=k) (!2) hnd).mp (hk.trans hm'.symm)
          lia
        exists ⟨l,rfl,.inl ⟨_,.inl elj⟩,?_⟩;exists ⟨_,.inl (n':Int),_,elj,rfl,vf (mem_ndrop.mpr ⟨hn',hni⟩),?_⟩;refine ⟨_,rfl,?_,λb o e n=>by rw [zl n]; exact sxj b o e n⟩;rw [zg,vv,a8,hm',show ((some (n':Int)).toList)=[(n':Int)] from rfl,xI]
      rintro σ H3 ⟨w5,rfl,el3,sx3⟩;rw [aa,aq] at el3;have fr3:∀ b o,G b=some o->b≠l->H3 b=some o:=λb o z n=>sx3 _ _ (s2 _ _ z) n;have he3:DdAt H3 p e:=he.tk λb xs z=>fr3 _ _ z (ya z elG (λq=>nomatch q));have dl:=E8 (xM (ms:=e.names) oki.up) (λn h=>oki.lt n (mem_ndrop.mp h).1);exists Er ?_;exists yk rfl he3 ?_;exists ⟨(s.k:Int),(s.k:Int)+(e.puts:Nat),rfl,⟨by lia,by lia,by lia,by lia⟩,yG (lo:=(s.k:Int)) (n:=((s.k:Int)+(e.puts:Nat) - (s.k:Int)).toNat) (λj σ G2=>E1 λv5=>A3 (σ=[vI ((bs.length:Nat):Int),vR pl,vR l,vI (s.k:Nat),vR p,v5]) (G2 l=some (.dK (nmK (yg s.ns e.names++List.range' s.k j)))) (SameX l H3 G2)) ⟨_,rfl,by simpa using el3,λb o e _=>e⟩ ?_ ?_⟩
      . rintro j σ G2 hj ⟨w6,rfl,elj,sxj⟩;walk_at "r";rw [show (s.k:Int)+(j:Int)=((s.k+j:Nat):Int) by lia];refine ⟨l,_,rfl,DPut.k (k:=.inl ((s.k+j:Nat):Int)) elj (by simp only [nmK,aa,ah,dm]; exact aE (show _<1000 by lia) (!3)),?_⟩;refine ⟨_,rfl,?_,λb o e n=>by rw [zl n]; exact sxj b o e n⟩;rw [zg,vk _ (wP (λn hn=>?_))]
        . rw [fF,<-bB];simp [nmK]
        . rcases aw.mp hn with hn | hn
          . have:=oki.lt n (mem_ndrop.mp hn).1
            lia
          . have:=ce.mp hn
            lia
      rintro σ H4 ⟨w6,rfl,el4,sx4⟩;rw [show ((s.k:Int)+(e.puts:Nat) - (s.k:Int)).toNat=e.puts by lia] at el4;have he4:DdAt H4 p e:=he3.tk λb xs z=>sx4 _ _ z (ya z el3 (λq=>nomatch q));exists yk rfl he4 ?_;walk_at "r";exact ⟨_,_,by rw [show (s.k:Int)+(e.puts:Nat)=((s.k+e.puts:Nat):Int) by lia],el4,λb o z n=>sx4 _ _ (fr3 _ _ (fr _ _ z n) n) n⟩
    rintro σ G ⟨v4,v5,rfl,elG,fr⟩;rw [aa,hr'.1,aq] at elG;have okN:=oks es.length (ai _);rw [aq] at okN;have nlN:=okN.nl;exists IQ (ns:=(ends (As.sb bs) es).ns.map λn:Nat=>(n:Int)) elG (by simp [nmK]) (by simp only [nmK,aa]; lia) λr H7 nr s7 e7=>?_;exact q r H7 (λb o z=>s7 _ _ (fr _ _ ((s5.trans s6) _ _ z) (zb z hn0))) (by
      cases z:H r with
      | none=>rfl
      | some o=>rw [fr _ _ ((s5.trans s6) _ _ z) (zb z hn0)] at nr; cases nr) e7
theorem K29(F:Fun K "plus" "plus" S35 f fd)(B:Bl mg)(o1x:O1x P w K mg base):FnOk P w K mg base CX0 2 f fd ["one","other"] (P29 K):=by
  refine F.okA C32 λcdv A outer s H vs Q E hr h=>?_;obtain ⟨p,p',x,y,rfl,h1,h2,⟨⟨b1,b2⟩,⟨b3,b4⟩⟩,q⟩:=h;refine ⟨_,(za (ps_s 2 C32.nd (ze o1x hr rfl (pa2 (pit 0) (pit 1)))) (za (ps_s 3 C32.nd (zh zF (zh zn (pit 0) (zh z7 (pit 1) (pv 2))) (zh zn (pit 1) (zh z7 (pit 0) (pv 2))))) (za (ps_s 4 C32.nd (ze o1x hr rfl (pa2 (pv 3) (pv 2)))) (zc (zf (zo (pa2 (zh z7 (pv 3) (pv 4)) (zh zn (zh z7 (pit 0) (pv 2)) (zh z7 (pit 1) (pv 4)))))))))),?_⟩;walk_at "s";have hs:(0:Int)<(Int.gcd x.den y.den:Nat):=yq (a:=(x.den:Int)) (den_pos y);have hl:(0:Int)<(Int.gcd (plT x.num x.den y.num y.den) (Int.gcd x.den y.den:Nat):Nat):=yq (!2);have ks:Bd 8000 ((Int.gcd x.den y.den:Nat):Int):=Cc (xU y) b4;have kl:Bd 8000 ((Int.gcd (plT x.num x.den y.num y.den) (Int.gcd x.den y.den:Nat):Nat):Int):=Cc (!2) ks;have hcs:∀ z,CFp z ((Int.gcd x.den y.den:Nat):Int):=λz=>⟨hs,bn ks.log ⋯⟩
  have hcl:∀ z,CFp z ((Int.gcd (plT x.num x.den y.num y.den) (Int.gcd x.den y.den:Nat):Nat):Int):=λz=>⟨hl,bn kl.log ⋯⟩
  unfold plT at hcl;have c1:=hcs y.den;have c2:=hcl y.den;walk_at "r";exact zC (!1) λr H' s e=>q r H' s (Iz e)
theorem K30(F:Fun K "times" "times" S36 f fd)(B:Bl mg)(o1x:O1x P w K mg base):FnOk P w K mg base CX0 2 f fd ["one","other"] P30:=by
  refine F.okA C33 λcdv A outer s H vs Q E hr h=>?_;obtain ⟨p,p',x,y,rfl,h1,h2,⟨⟨b1,b2⟩,⟨b3,b4⟩⟩,q⟩:=h;refine ⟨_,(za (ps_s 2 C33.nd (ze o1x hr rfl (pa2 (pit 0) (pit 1)))) (za (ps_s 3 C33.nd (ze o1x hr rfl (pa2 (pit 1) (pit 0)))) (zc (zf (zo (pa2 (zh zn (zh z7 (pit 0) (pv 2)) (zh z7 (pit 1) (pv 3))) (zh zn (zh z7 (pit 0) (pv 3)) (zh z7 (pit 1) (pv 2))))))))),?_⟩;walk_at "s";have hs:(0:Int)<(Int.gcd x.num y.den:Nat):=yq (den_pos y);have hl:(0:Int)<(Int.gcd y.num x.den:Nat):=yq (den_pos x);have ks:Bd 8000 ((Int.gcd x.num y.den:Nat):Int):=Cc (xU y) b4;have kl:Bd 8000 ((Int.gcd y.num x.den:Nat):Int):=Cc (xU x) b2;have hcs:∀ z,CFp z ((Int.gcd x.num y.den:Nat):Int):=λz=>⟨hs,bn ks.log ⋯⟩
  have hcl:∀ z,CFp z ((Int.gcd y.num x.den:Nat):Int):=λz=>⟨hl,bn kl.log ⋯⟩
  have c1:=hcs y.den;have c2:=hcl y.den;walk_at "r";exact zC (!1) λr H' s e=>q r H' s (FJ e)
theorem dig{ds:List Int}(hl:(ds.length:Int)=m)(hd:∀ x∈ds,0<=x/\x<1000000)(i:Int)(h0:0<=i)(h1:i<m):∃ x:Int,atI (ds.map V.int) i=some (.int x)/\0<=x/\x<1000000:=by
  obtain ⟨x,hx,e⟩:=Bz (xs:=ds) (i:=i) h0 (!2);exact ⟨x,e,hd x hx⟩
theorem K31(F:Fun K "_law_digits" "_law_digits" S45 f fd)(B:Bl mg)(o44x:O44x P w K mg base):FnOk P w K mg base CX0 2 f fd ["_law_cell_here","_law_many"] P31:=by
  refine F.okA C34 λcdv A outer s H vs Q E hr h=>?_;obtain ⟨c,m,rfl,hc,⟨m0,m1⟩,q⟩:=h;refine ⟨_,(za (ps_s 2 C34.nd (zI yl)) (za (ps_s 3 C34.nd (zh z7 (pv 0) zd)) (za (zV PassesOwn.never rfl (yh rfl B.range (pa1 (pv 1))) (pg_n 4 C34.nd) (zc (zv (PW.pt (xk (zi z5 (zh zM (pv 0) zd) zd (zk _)) (yI (zi xY (pv 3) zd (zk _))))) (za (zL (xO aJ aQ aR zE (pv 2) (pa1 (zh zM (pv 3) (zh Bf zd zd))))) (zc (ps_s 3 C34.nd (zh z7 (pv 3) (zh Bf zd zd))))) (zc (zL (xO aJ aQ aR zE (pv 2) (pa1 (zh zM (ze o44x hr rfl (pa2 (pv 0) (pv 4))) (zh Bf zd zd))))))))) (zc (zf (pv 2)))))),?_⟩;walk_at "s";have e6:(10:Int) ^ (6:Int).toNat=1000000:=by decide +kernel
  exists zy (!1) λl H1 hl s1 e1=>?_;exists wN ?_;exists ⟨m,rfl,by lia,by lia,yG (lo:=0) (n:=m.toNat) (λi σ H'=>E3 λ(n:Int) (v:Option V) (ds:List Int)=>A6 (σ=[vI c,vI m,vR l,vI n,v]) (SameX l H1 H') (H' l=some (.lst (ds.map V.int))) (ds.length=i) ((∀ x∈ds,0<=x/\x<1000000)) (Bd 1048576 n)) ⟨_,_,[],rfl,λb o e _=>e,e1,rfl,λx hx=>absurd hx (!1),A9 hc⟩ ?_ ?_⟩
  . rintro i σ H' hi ⟨n,v,ds,rfl,sx,el,hlen,hds,nb⟩;exists if_d (λc1=>?_) (λc1=>?_)
    . exists if_d (λc2=>?_) (λc2=>?_)
      . walk_at "r";rw [e6];refine zp el (by rw [aa]; lia) λH2 sx2 e2=>?_;walk_at "r";rw [e6];refine ⟨n / 1000000,_,ds++[n % 1000000],rfl,sx.trans sx2,by rw [aj]; exact e2,by rw [ah,hlen]; rfl,λx hx=>?_,A9 nb⟩;rcases aw.mp hx with h|h
        . exact hds x h
        . have:x=n % 1000000:=by simpa using h
          subst this
          lia
      . exists yE rfl hc (xN 64 (!2) (!2) ⋯) λr r0 r1=>?_;walk_at "r";rw [e6];refine zp el (by rw [aa]; lia) λH2 sx2 e2=>?_;exists ⟨n,_,ds++[r % 1000000],rfl,sx.trans sx2,by rw [aj]; exact e2,by rw [ah,hlen]; rfl,λx hx=>?_,nb⟩;rcases aw.mp hx with h|h
        . exact hds x h
        . have:x=r % 1000000:=by simpa using h
          subst this
          lia
    . exists yE rfl hc (xN 64 (!2) (!2) ⋯) λr r0 r1=>?_;walk_at "r";rw [e6];refine zp el (by rw [aa]; lia) λH2 sx2 e2=>?_;exists ⟨n,_,ds++[r % 1000000],rfl,sx.trans sx2,by rw [aj]; exact e2,by rw [ah,hlen]; rfl,λx hx=>?_,nb⟩;rcases aw.mp hx with h|h
      . exact hds x h
      . have:x=r % 1000000:=by simpa using h
        subst this
        lia
  . rintro σ H' ⟨n,v,ds,rfl,sx,el,hlen,hds,nb⟩;walk_at "r";exact q l H' ds (λb o e=>sx b o (s1 b o e) (zb e hl)) el (!2) hds
theorem K32(F:Fun K "_law_lowest" "_law_lowest" S47 f fd)(B:Bl mg)(o46x:Own P w K mg base 1 "_law_divisor" ["_law_one","_law_other"] [] P15):FnOk P w K mg base CX0 2 f fd ["_law_a","_law_b","_law_n"] P32:=by
  refine F.okA C35 λcdv A outer s H vs Q E hr h=>?_;obtain @⟨a,b,n,rfl,hn,hb,q⟩:=h;refine ⟨_,(za (ps_s 3 C35.nd (ze o46x hr rfl (pa2 (ze o46x hr rfl (pa2 (pv 0) (pv 1))) (pv 2)))) (za (vE (zv (zi uN (pv 2) zd (zk _)) (zc (ps_s 3 C35.nd (zh yV zd (pv 3)))) zj)) (zc (zf (zo (pa3 (zh zS (pv 0) (pv 3)) (zh zS (pv 1) (pv 3)) (zh zS (pv 2) (pv 3)))))))),?_⟩;walk_at "s";have hc:∀ x,CFd x (gd a b n):=λx=>⟨Ho hn,bn (Ip hn hb).log ⋯⟩
  exists AI (T:=λσ' H'=>σ'=[vI a,vI b,vI n,vI (gd a b n)]/\H'=H) ?_ ?_
  . exists if_d (λc=>?_) (λc=>?_)
    . exists ⟨?_,rfl⟩;have e:(0:Int) - ((Int.gcd (Int.gcd a b) n:Nat):Int)=gd a b n:=by
        unfold gd;rw [h8 c,IU]
        lia
      rw [e]
    . exists ⟨?_,rfl⟩;have e:((Int.gcd (Int.gcd a b) n:Nat):Int)=gd a b n:=by
        unfold gd;rw [h9 c,IU]
      rw [e]
  rintro σ' H' ⟨rfl,rfl⟩;walk_at "r"
  . exact zC (!1) λp H' s e=>q p H' s e
  all_goals exact hc _
theorem K33(F:Fun K "_law_root" "_law_root" S52 f fd)(B:Bl mg)(o44x:O44x P w K mg base):FnOk P w K mg base CX0 2 f fd ["_law_cell_here","_law_k"] P33:=by
  refine F.okA C36 λcdv A outer s H vs Q E hr h=>?_;obtain @⟨c,k,rfl,hc,hk,q⟩:=h;refine ⟨_,(za (tt (i:=2) C36.nd rfl rfl ["_law_d"] [] rfl (wt rfl B.range (pa2 zd zd)) (λ_ _ _ _ _=>(pg_n 0 (show List.Nodup (α:=Str) ["_law_d"] by decide +kernel))) (λ_ _ _ _ _=>(tw (zi (r:=rIn K true) wT (pv 0) (zo (zr zd (zr zd (zr zd (zr zd (zr zd (zr zd (zr zd (zr zd yl))))))))) (by with_unfolding_all rfl)))) (λ_ _ _ _ _=>(pv 0))) (zc (zf (pe_i zK (pv 2) (zh zM (zh z7 (ze o44x hr rfl (pa2 (pv 0) (pv 1))) zd) (zm zt rfl B.len aV (pa1 (pv 2)))))))),?_⟩;walk_at "s";exists Ce ?_;exists ⟨2,100,rfl,by decide,λD hD=>yM (λi xs σ' H'=>(∃ v,σ'=[v])/\xs=(yP i).map V.int/\H' D=some (.lst xs)/\SameX D H H') ⟨⟨none,rfl⟩,rfl,zg,λb o e n=>by rw [zl n]; exact e⟩ ?_ ?_⟩
  . rintro i xs σ' H' hi ⟨⟨v,rfl⟩,rfl,eD,sx⟩;have hi:i<98:=hi;exists zC (!1) λp H2 s2 e2=>?_;refine FB e2 rfl rfl ?_;rw [Ih];walk_at "r";have hlen:(yP i).length<=i:=bK (eI ..) (!1);by_cases hs:sqs.contains ((2:Int)+(i:Int))=true
    . rw [hs];exists yv hi ⟨⟨_,rfl⟩,rfl,?_,sx.trans (s2.sameX D)⟩;rw [wU,h8 hs,dR];exact s2 _ _ eD
    . rw [Bool.not_eq_true _ |>.mp hs];exists zp (s2 _ _ eD) (by rw [aa]; lia) λH3 sx3 e3=>?_;refine yv hi ⟨⟨_,rfl⟩,rfl,?_,(sx.trans (s2.sameX D)).trans sx3⟩;rw [wU,h9 hs,aj];exact e3
  . rintro xs σ' H' ⟨_,rfl,eD,sx⟩;have eD:H' D=some (.lst ((yP 98).map V.int)):=eD;have s':Same H H':=λb o e=>sx b o e (zb e hD);exists yE rfl hc hk λr r0 r1=>?_;walk_at "r";have hl:((List.map V.int (yP 98)).length:Int)=90:=by rw [aa,Aa]; rfl
    rw [hl];walk_at "r";obtain ⟨d,hd,e⟩:=Bz (xs:=yP 98) (i:=r / 7 % 90) (!2) (by rw [Aa]; lia);exact zu eD e (q d H' (CC (ai _) hd) s')
theorem K34(F:Fun K "_law_is_length" "_law_is_length" S60 f fd)(B:Bl mg)(o43x:O43x P w K mg base):FnOk P w K mg base CX0 2 f fd ["_law_found"] P34:=by
  refine F.okA C37 λcdv A outer s H vs Q E hr h=>?_;obtain @⟨p,s,rfl,h1,z1,q⟩:=h;refine ⟨_,(za (zv (PW.pt (xi (yd (zU (zm zJ rfl B.isinstance zA (pa2 (pv 0) (yK (v:=.ty "tuple") rfl B.tuple xJ rfl))))) (xt (zi uD (zm zt rfl B.len aV (pa1 (pv 0))) zd (zk _))))) (zc (zf xq)) zj) (zc (zf (wv (ze o43x hr rfl (pa1 (pit 0))) (wv (ze o43x hr rfl (pa1 (pit 0))) (wv (ze o43x hr rfl (pa1 (pit 0))) (wX (zY xY (pit 0) zd (zk _))))))))),?_⟩;walk_at "s";have h1':H p=some (.tup [.int s.x,.int s.y,.int s.z]):=h1;exists vK (by rfl) ?_;walk_at "r";exact bl_q (iw (show 0<s.z by lia)) q
theorem K35(F:Fun K "check_names" "Yard.check_names" S68 f fd)(B:Bl mg)(X:Xs K mg cs)(o0x:O0x P w K mg base):FnOk P w K mg base CX0 2 f fd ["self","names"] (P35 cs):=by
  refine F.okA C38 λcdv A outer s H vs Q E hr h=>?_;obtain @⟨y,d,tn,cl,ns,lg,a,ms,rfl,hy,ha,hm,hn,hl,q⟩:=h;refine ⟨_,(za (zV PassesOwn.never rfl (zG (pv 1)) (pg_n 2 C38.nd) (zc (zv (PW.pt (xi (yd (zU (ze o0x hr rfl (pa1 (pv 2))))) (xt (Dc (vn (yS hr) (pv 2) (yw (K:=K) rfl (pv 0) rfl)))))) (zc yY) zj))) (zc (zv (PW.pt (xk (zi z5 (zm zt rfl B.len aV (pa1 (pv 1))) zd (zk _)) (yI (zi z5 (pil 1) (pil 1) (zk _))))) (zc yY) zj))),?_⟩;walk_at "s";refine LA ?_;refine yU ?_;exists ⟨a,rfl,⟨_,SqL.of ha⟩,z8 (K:=K) (a:=a) (xs:=ms.map V.int) (λi σ H'=>∃ v,σ=[vR y.p,vR a,v]/\H'=H) ⟨none,rfl,rfl⟩ (λi σ H' _ z'=>by obtain ⟨_,_,e⟩:=z'; exact by rw [e]; exact SqL.of ha) ?_ ?_⟩
  . rintro i x σ H' hi ⟨v,rfl,rfl⟩;obtain ⟨m,hm',rfl⟩:=aY.mp (ar hi);obtain ⟨n,hn',rfl⟩:=hm m hm';exists ⟨_,_,_,_,_,rfl,hy.o,X.c_Yard,X.n_Yard_lying,rfl,?_⟩;refine ⟨y.l,_,rfl,DGet.k (k:=.inl (n:Int)) hy.l,?_⟩;rw [vf hn',show (!(some (V.bl true)).isSome)=false from rfl];walk_at "r";exact ⟨_,rfl,rfl⟩
  . rintro σ H' ⟨v,rfl,rfl⟩;walk_at "r";rcases ms with _|⟨m1,_|⟨m2,_|⟨m3,ms⟩⟩⟩
    . refine if_d (λc=>absurd c (!1)) (λ_=>?_);walk_at "r";exact q
    . refine if_d (λc=>absurd c (!1)) (λ_=>?_);walk_at "r";exact q
    . have ha:H' a=some (.lst [.int m1,.int m2]):=ha;refine if_d (λ_=>?_) (λc=>absurd (!1) c);walk_at "r";have ne:m1≠m2:=by simpa using hn
      refine if_d (λc=>absurd c ne) (λ_=>?_);walk_at "r";exact q
    . simp at hl
theorem K36(F:Fun K "parts" "parts" S5 f fd)(B:Bl mg)(o4x:Own P w K mg base 2 "fraction" ["top","bottom"] [] P22):FnOk P w K mg base CX0 3 f fd ["one"] P36:=by
  refine F.okA C39 λcdv A outer s H vs Q E hr h=>?_;obtain @⟨p,a,b,n,rfl,h1,hn,hb,q⟩:=h;refine ⟨_,(zc (zf (zo (pa2 (ze o4x hr rfl (pa2 (pit 0) (pit 0))) (ze o4x hr rfl (pa2 (pit 0) (pit 0))))))),?_⟩;walk_at "s";exists ur rfl hn hb λr1 H1 s1 e1=>?_;have h1':=s1 _ _ h1;exists ur rfl hn hb λr2 H2 s2 e2=>?_;walk_at "r";exact zC (!1) λr H' s e=>q r r1 r2 H' ((s1.trans s2).trans s) e (s _ _ (s2 _ _ e1)) (s _ _ e2)
theorem K37(F:Fun K "taken" "taken" S7 f fd)(B:Bl mg)(o6x:O6x P w K mg base):FnOk P w K mg base CX0 3 f fd ["one","other"] P37:=by
  refine F.okA C40 λcdv A outer s H vs Q E hr h=>?_;obtain ⟨p,p',x,y,z,x',y',z',rfl,h1,h2,n1,n2,k1,k2,⟨b1,b2,b3,b4,b5,b6⟩,q⟩:=h;refine ⟨_,(zc (zf (ze o6x hr rfl (pa2 (pv 0) (zo (pa3 (u8 wB (pit 1)) (u8 wB (pit 1)) (pit 1))))))),?_⟩;walk_at "s";exists zC (!1) λt H2 s2 e2=>?_;walk_at "r";exact Du (K:=K) (SqT.of (s2 _ _ h1)) e2 n1 n2 k1 (by rw [Jd]; exact k2) b1 b2 b3 b4.neg b5.neg b6 λr H' s' e'=>q r H' (s2.trans s') e'
theorem K38(F:Fun K "timed" "timed" S8 f fd)(B:Bl mg)(o3x:O3x P w K mg base):FnOk P w K mg base CX0 3 f fd ["d","one","other"] P38:=by
  refine F.okA C41 λcdv A outer s H vs Q E hr h=>?_;obtain ⟨d,p,p',x,y,z,x',y',z',rfl,h1,h2,hd,⟨b1,b2,b3,b4,b5,b6⟩,n1,n2,q⟩:=h;refine ⟨_,(zc (zf (ze o3x hr rfl (pa3 (zh zF (zh zn (pit 1) (pit 2)) (zh zn (zh zn (pv 0) (pit 1)) (pit 2))) (zh zF (zh zn (pit 1) (pit 2)) (zh zn (pit 1) (pit 2))) (zh zn (pit 1) (pit 2)))))),?_⟩;walk_at "s";walk_at "r";exact yT rfl (aI n1 n2) (Bd.mono (b3.mul b6) ⋯) q (LU hd b1 b2 b4 b5 ⋯) (Lr b1 b2 b4 b5 ⋯)
theorem K39(F:Fun K "first_base" "first_base" S11 f fd)(B:Bl mg)(o3x:O3x P w K mg base):FnOk P w K mg base CX0 3 f fd ["d","n"] P39:=by
  refine F.okA C42 λcdv A outer s H vs Q E hr h=>?_;obtain @⟨d,N,rfl,hN,hb,q⟩:=h;refine ⟨_,(zc (zf (zo (pa2 (ze o3x hr rfl (pa3 zd zd (pv 1))) (ze o3x hr rfl (pa3 zd zd (pv 1))))))),?_⟩;walk_at "s";exists yT rfl (!2) (hb.mono ⋯) λr1 H1 s1 e1=>?_;exists yT rfl (!2) (hb.mono ⋯) λr2 H2 s2 e2=>?_;walk_at "r";exact zC (!1) λp H' s e=>q p r1 r2 H' ((s1.trans s2).trans s) ⟨e,s _ _ (s2 _ _ e1),s _ _ e2⟩
theorem K40(F:Fun K "is_length" "is_length" S20 f fd)(B:Bl mg)(o3x:O3x P w K mg base)(o0x:O0x P w K mg base):FnOk P w K mg base CX0 3 f fd ["thing"] P40:=by
  refine F.okA C43 λcdv A outer s H vs Q E hr h=>?_;obtain @⟨p,s,rfl,h1,ok,q⟩:=h;refine ⟨_,(za (zv (PW.pt (xi (yd (zU (zm zJ rfl B.isinstance zA (pa2 (pv 0) (yK (v:=.ty "tuple") rfl B.tuple xJ rfl))))) (xt (zi uD (zm zt rfl B.len aV (pa1 (pv 0))) zd (zk _))))) (zc (zf xq)) zj) (za (zv (PW.pt (xi (yd (zU (zm (DW rfl) rfl B.all KF (pa1 (ye ["number"] [] rfl (GW (pv 0)) (λ_ _ _ _ _=>(pg_n 0 (show List.Nodup (α:=Str) ["number"] by decide +kernel))) (λ_ _ _ _ _=>zP) (λ_ _ _ _ _=>(ze o0x hr rfl (pa1 (pv 0))))))))) (xt (zi uN (pit 0) zd (zk _))))) (zc (zf xq)) zj) (zc (zf (zY (CV hr.units) (ze o3x hr rfl (pa3 (pit 0) (pit 0) (pit 0))) (pv 0) (zk _)))))),?_⟩;walk_at "s";have z1:=ok.z1;exists vK (by rfl) ?_;exists D9 ?_;exists ⟨p,rfl,⟨_,SqT.of h1⟩,λD hD=>BN (ys:=[V.int s.x,V.int s.y,V.int s.z]) (λi ys σ' H'=>(∃ v,σ'=[v])/\ys=([V.int s.x,V.int s.y,V.int s.z].take i).map (λ_=>V.bl true)/\H' D=some (.lst ys)/\SameX D H H') ⟨⟨none,rfl⟩,rfl,zg,λb o e n=>by rw [zl n]; exact e⟩ (λi ys σ' H' _ p=>SqT.of (p.2.2.2 _ _ h1 (zb h1 hD))) ?_ ?_⟩
  . rintro i x ys σ' H' hi ⟨⟨v,rfl⟩,rfl,eD,sx⟩;obtain ⟨n,rfl⟩:∃ n:Int,x=.int n:=by
      have:=ar hi;simp only [aN,List.not_mem_nil,or_false] at this;rcases this with rfl|rfl|rfl <;> exact ⟨_,rfl⟩
    have hi3:=(af.mp hi).1;exists zp eD (by rw [aa,aK]; simp only [au,aP] at hi3 ⊢; lia) λH3 sx3 e3=>?_;refine yv hi3 ⟨⟨_,rfl⟩,rfl,?_,sx.trans sx3⟩;rw [a8,hi,aj];exact e3
  . rintro ys σ' H' ⟨_,rfl,eD,sx⟩;have s':Same H H':=λb o e=>sx b o e (zb e hD);have h1':=s' _ _ h1;have eD':H' D=some (.lst ([true,true,true].map V.bl)):=eD;exists Jq (SqL.of eD') ?_;rw [show ([true,true,true]:List Bool).all id=true from rfl];exists if_d (λc=>absurd c (!2)) (λ_=>?_);exists yT rfl ok.ne (ok.bz.mono ⋯) (λr H2 s2 e2=>?_) (ok.bx.mono ⋯) (ok.by'.mono ⋯);exists i_eq3 e2 (s2 _ _ h1') ?_;exact bl_q (iw (Fj ok.z1 ok.g)) (q H2 (s'.trans s2))
theorem K41(F:Fun K "glued_beside" "glued_beside" S26 f fd)(B:Bl mg)(o6x:O6x P w K mg base):FnOk P w K mg base CX0 3 f fd ["one","other"] P41:=by
  refine F.okA C44 λcdv A outer s H vs Q E hr h=>?_;obtain @⟨c,c',rfl,hc,hc',eh,okw,oks,q⟩:=h;refine ⟨_,(za (zv (zi (CZ hr.units) (pit 0) (pit 1) (zk _)) (zc yY) zj) (zc (zf (zo (pa2 (ze o6x hr rfl (pa2 (pit 0) (pit 1))) (pit 0)))))),?_⟩;walk_at "s";have ct:=hc.t;have ct':=hc'.t;have cw:H c.pw=some (.tup [.int c.b.w.x,.int c.b.w.y,.int c.b.w.z]):=hc.w;have cw':H c'.pw=some (.tup [.int c'.b.w.x,.int c'.b.w.y,.int c'.b.w.z]):=hc'.w;have ch:H c.ph=some (.tup [.int c.b.h.x,.int c.b.h.y,.int c.b.h.z]):=hc.h;have ch':H c'.ph=some (.tup [.int c'.b.h.x,.int c'.b.h.y,.int c'.b.h.z]):=hc'.h;exists LB ch ch' ?_;rw [eh];exists AN (λc=>absurd ⟨rfl,rfl,rfl⟩ c) (λ_=>?_);exists Du (K:=K) (SqT.of cw) cw' okw.z1 oks.z1 okw.g oks.g (okw.bx.mono ⋯) (okw.by'.mono ⋯) (okw.bz.mono ⋯) (oks.bx.mono ⋯) (oks.by'.mono ⋯) (oks.bz.mono ⋯) λr2 H2 s2 e2=>?_;have ct2:=s2 _ _ ct;exists zw (!1) λr3 H3 hr3 s3 e3=>?_;exact q ⟨r3,r2,c.ph,⟨adS c.b.w c'.b.w,c.b.h⟩⟩ H3 (s2.trans s3) (Same.nn s2 hr3) ⟨e3,s3 _ _ e2,s3 _ _ (s2 _ _ hc.h)⟩ rfl
theorem K42(F:Fun K "stacked" "stacked" S27 f fd)(B:Bl mg)(o3x:O3x P w K mg base):FnOk P w K mg base CX0 3 f fd ["one","many"] P42:=by
  refine F.okA C45 λcdv A outer s H vs Q E hr h=>?_;obtain @⟨c,k,rfl,hc,k1,bk,okw,okh,q⟩:=h;refine ⟨_,(za (ps_s 2 C45.nd (pit 0)) (za (ps_s 3 C45.nd (pit 0)) (zc (zf (zo (pa2 (ze o3x hr rfl (pa3 (pit 2) (pit 2) (zh zn (pit 2) (pv 1)))) (ze o3x hr rfl (pa3 (zh zn (pit 3) (pv 1)) (zh zn (pit 3) (pv 1)) (pit 3))))))))),?_⟩;walk_at "s";have ct:=hc.t;have cw:H c.pw=some (.tup [.int c.b.w.x,.int c.b.w.y,.int c.b.w.z]):=hc.w;have ch:H c.ph=some (.tup [.int c.b.h.x,.int c.b.h.y,.int c.b.h.z]):=hc.h;have m1:IntMulOk c.b.w.z k:=Bd.ok okw.bz bk (!3);have m2:IntMulOk c.b.h.x k:=Bd.ok okh.bx bk (!3);have m3:IntMulOk c.b.h.y k:=Bd.ok okh.by' bk (!3);have bz:Bd 3124 (c.b.w.z*k):=okw.bz.mul bk;have bx:Bd 3424 (c.b.h.x*k):=okh.bx.mul bk;have by2:Bd 3424 (c.b.h.y*k):=okh.by'.mul bk;exists yT rfl (aI okw.ne (!2)) (bz.mono ⋯) (λr1 H1 s1 e1=>?_) (okw.bx.mono ⋯) (okw.by'.mono ⋯);have ch1:=s1 _ _ ch;exists yT rfl okh.ne (okh.bz.mono ⋯) (λr2 H2 s2 e2=>?_) (bx.mono ⋯) (by2.mono ⋯);exists zw (!1) λr3 H3 hr3 s3 e3=>?_;refine q ⟨r3,r1,r2,⟨shS c.b.w 1 k,shS c.b.h k 1⟩⟩ H3 ((s1.trans s2).trans s3) (Same.nn (s1.trans s2) hr3) ⟨e3,?_,?_⟩ rfl
  . have:=s3 _ _ (s2 _ _ e1);simpa only [SdAt,shS,cC] using this
  . have:=s3 _ _ e2;simpa only [SdAt,shS,cC] using this
theorem K43(F:Fun K "followed" "followed" S34 f fd)(B:Bl mg)(o32x:Own P w K mg base 2 "names_behind" ["many","plan"] [] P28)(o33x:Own P w K mg base 1 "with_names" ["deed","names"] [] P10)(o23x:O23x P w K mg base):FnOk P w K mg base CX0 3 f fd ["many","plan","more"] P43:=by
  refine F.okA C46 λcdv A outer s H vs Q E hr h=>?_;obtain @⟨pl,ml,ps,ms,bs,F,es,fs,d,tn,rfl,b1,b30,hpl,plen,hr',hw,hml,mlen,hm,eF,hwF,q⟩:=h;refine ⟨_,(za (ps_s 3 C46.nd (ze o32x hr rfl (pa2 (pv 0) (pv 1)))) (za (ps_s 4 C46.nd (zh zF (pv 0) (zm (Af rfl) rfl B.sum Gr (pa1 (ye ["deed"] [] rfl (zG (pv 1)) (λ_ _ _ _ _=>(pg_n 0 (show List.Nodup (α:=Str) ["deed"] by decide +kernel))) (λ_ _ _ _ _=>zP) (λ_ _ _ _ _=>(ze o23x hr rfl (pa1 (pv 0))))))))) (za (ps_s 5 C46.nd (zQ wp rfl B.list xD (pa1 (pv 1)))) (za (zV PassesOwn.never rfl (zG (pv 2)) (pg_n 6 C46.nd) (za (zL (xO aJ aQ aR zE (pv 5) (pa1 (ze o33x hr rfl (pa2 (pv 6) (pv 3)))))) (za (zV PassesOwn.never rfl (wt rfl B.range (pa2 (pv 4) (zh zF (pv 4) (ze o23x hr rfl (pa1 (pv 6)))))) (pg_n 7 C46.nd) (zc (zL (xO aJ aQ aR zE (pv 3) (pa1 (pv 7)))))) (zc (ps_s 4 C46.nd (zh zF (pv 4) (ze o23x hr rfl (pa1 (pv 6))))))))) (zc (zf (pv 5))))))),?_⟩;walk_at "s";have okN:=z6 (vq b1 b30) hw es.length (ai _);rw [aq] at okN;have klN:=okN.kl;have hel:es.length<=150:=by rw [<-hr'.1]; exact plen
  have hfl:fs.length<=150:=by rw [<-hm.1]; exact mlen
  have l0:=led0 okN.up okN.lt eF;have F1:1<=F.length:=by
    rw [<-eF,aa];exact bu.mpr okN.ne
  have okF:=z6 (vq F1 (ai _)) hwF;have lF:F.length<=180:=by
    rw [<-eF,aa];have:=okN.nl
    lia
  exists vY rfl b1 b30 hpl plen hr' hw λa H1 s1 na ea=>?_;have e0:((ends (As.sb bs) es).ns.map λn:Nat=>(n:Int)).map V.int=nmI (nmr (ends (As.sb bs) es)) F.length:=by
    unfold nmI;congr 1;rw [l0.ns,fE];rfl
  rw [e0] at ea;have hpl1:=s1 _ _ hpl;exists yz ?_;exists ⟨pl,rfl,⟨_,SqL.of hpl1⟩,λO hO=>zT (K:=K) (a:=pl) (ys:=ps.map V.ref) (λi xs σ' H'=>E1 λ(v:Option V)=>A4 (σ'=[v]) (xs=((es.take i).map λx=>((x.1.puts:Nat):Int)).map V.int) (H' O=some (.lst xs)) (SameX O H1 H')) ⟨none,rfl,rfl,zg,λb o e n=>by rw [zl n]; exact e⟩ (λi xs σ' H' _ z=>by obtain ⟨v,_,_,_,z⟩:=z; exact SqL.of (z _ _ hpl1 (zb hpl1 hO))) ?_ ?_⟩
  . rintro i x xs σ' H' hi ⟨v,rfl,rfl,eO,sx⟩;have hi':=(af.mp hi).1;rw [ag] at hi;obtain ⟨p,hp',rfl⟩:=am.mp hi;have hie:i<es.length:=by rw [<-hr'.1]; exact (af.mp hp').1
    have hx:=ae hie;have he:=((hr'.2 i p _ hp' hx).same s1).same (λb o e=>sx b o e (zb e hO));exists yk rfl he ?_;exists zp eO (by simp only [aa,aK]; lia) λH5 x5 e5=>?_;refine yv hi' ⟨_,rfl,rfl,?_,sx.trans x5⟩;rw [a8,hx,aj,aj];exact e5
  rintro xs σ' H2 ⟨v,rfl,rfl,eO2,sx2⟩;have s2:Same H1 H2:=λb o e=>sx2 b o e (zb e hO);rw [aa,hr'.1,aq] at eO2;exists Ku (SqL.of eO2) ?_;have hsum:((bs.length:Nat):Int)+(es.map λx=>((x.1.puts:Nat):Int)).sum=((ends (As.sb bs) es).k:Nat):=by
    rw [BC,xE];show _=((bs.length+_:Nat):Int)
    lia
  walk_at "r";rw [hsum];have s12:=s1.trans s2;refine tH (s12 _ _ hpl) λD H3 nD s3 eD=>?_;have ea3:=s3 _ _ (s2 _ _ ea);have aD:a≠D:=zb (s2 _ _ ea) nD;have hml3:=(s12.trans s3) _ _ hml;have mlD:ml≠D:=zb (s12 _ _ hml) nD;have mla:ml≠a:=zb hml na;have hD0:H D=none:=Same.nn s12 nD;exists yU ?_;exists ⟨ml,rfl,⟨_,SqL.of hml3⟩,z8 (K:=K) (a:=ml) (xs:=ms.map V.ref) (λi σ H'=>E3 λ(v6 v7:Option V) (qs:List Addr)=>A4 (σ=[vI ((bs.length:Nat):Int),vR pl,vR ml,vR a,vI (((ends (As.sb bs) es).k+((ends (As.sb F) (fs.take i)).k - F.length):Nat):Int),vR D,v6,v7]) ((H' D=some (.lst ((ps++qs).map V.ref))/\Runs H' (ps++qs) (es++(fs.take i).map (rnx (nmr (ends (As.sb bs) es))))/\qs.length=i)) (H' a=some (.lst (nmI (nmr (ends (As.sb bs) es)) (ends (As.sb F) (fs.take i)).k))) (∀ b o,H3 b=some o->b≠D->b≠a->H' b=some o)) ⟨none,none,[],?_,⟨by rw [dR]; exact eD,by rw [dR]; show Runs H3 ps (es++[]); rw [dR]; exact hr'.same (s12.trans s3),rfl⟩,ea3,λb o e _ _=>e⟩ (λi σ H' _ z'=>by obtain ⟨_,_,_,_,_,_,z⟩:=z'; exact SqL.of (z _ _ hml3 mlD mla)) ?_ ?_⟩
  . rw [show (ends (As.sb F) (fs.take 0)).k=F.length from rfl,dz,gR]
  . rintro i x σ H' hi ⟨v6,v7,qs,rfl,⟨eD',hrun,hql⟩,ea',fr⟩;rw [ag] at hi;obtain ⟨p,hp',rfl⟩:=am.mp hi;have hie:i<fs.length:=by rw [<-hm.1]; exact (af.mp hp').1
    obtain ⟨e,n,m,hx⟩:∃ e n m,fs[i]?=some (e,n,m):=⟨_,_,_,ae hie⟩
    have st:=hwF i _ hx;have s0':Same H H':=λb o z=>fr _ _ ((s12.trans s3) _ _ z) (zb z hD0) (zb z na);have he:DdAt H' p e:=(hm.2 i p _ hp' hx).same s0';have oki:=okF i (bf hie);have kli:=oki.kl;have kge:F.length<=(ends (As.sb F) (fs.take i)).k:=by
      rw [xE];show F.length<=F.length+_
      lia
    have nk:=xr (ends (As.sb F) (fs.take i)) (e,n,m);have nk:((ends (As.sb F) (fs.take i)).next (e,n,m)).k=(ends (As.sb F) (fs.take i)).k+e.puts:=nk;have tk':(fs.take (i+1)).map (rnx (nmr (ends (As.sb bs) es)))=(fs.take i).map (rnx (nmr (ends (As.sb bs) es)))++[rnx (nmr (ends (As.sb bs) es)) (e,n,m)]:=by rw [a8,hx,aj]; rfl
    rw [yj hx,nk,tk'];have lk:∀ j,nmr (ends (As.sb bs) es) (F.length+j)=(ends (As.sb bs) es).k+j:=l0.k;generalize ends (As.sb F) (fs.take i)=s at *
    have pu:=puts_le e;have nT:e.isT=false:=by
      cases z:e.isT with
      | false=>rfl
      | true=>exact nomatch st.tn z
    exists Ah rfl he nT ea' (λm' hm'=>?_) λb H4 s4 nb eb=>?_
    . obtain ⟨j,hj,rfl⟩:=st.nms.names_in m' hm';exact ⟨j,oki.lt j hj,rfl⟩
    have eD4:=s4 _ _ eD';have ea4:=s4 _ _ ea';exists zp eD4 (by rw [aa,ah]; lia) λH5 x5 e5=>?_;have ea5:=x5 _ _ ea4 aD;have eb5:=eb.sameX x5 eD4;have he5:DdAt H5 p e:=(he.same s4).sameX x5 eD4;have hr5:Runs H5 (ps++qs) (es++(fs.take i).map (rnx (nmr (ends (As.sb bs) es)))):=(hrun.same s4).sameX x5 eD4;have hr6:=xA (x:=rnx (nmr (ends (As.sb bs) es)) (e,n,m)) hr5 eb5;exists Er ?_;exists yk rfl he5 ?_;exists ⟨_,_,rfl,⟨by lia,by lia,by lia,by lia⟩,yG (lo:=(((ends (As.sb bs) es).k+(s.k - F.length):Nat):Int)) (n:=((((ends (As.sb bs) es).k+(s.k - F.length):Nat):Int)+(e.puts:Nat) - (((ends (As.sb bs) es).k+(s.k - F.length):Nat):Int)).toNat) (λj σ G=>E1 λ(v7:Option V)=>A3 (σ=[vI ((bs.length:Nat):Int),vR pl,vR ml,vR a,vI (((ends (As.sb bs) es).k+(s.k - F.length):Nat):Int),vR D,vR p,v7]) (G a=some (.lst (nmI (nmr (ends (As.sb bs) es)) (s.k+j)))) (SameX a H5 G)) ⟨_,rfl,ea5,λb o e _=>e⟩ ?_ ?_⟩
    . rintro j σ G hj ⟨w7,rfl,eaj,sxj⟩;exists zp eaj (by unfold nmI; simp only [aa,bA]; lia) λG2 x2 e2=>?_;exists ⟨_,rfl,?_,sxj.trans x2⟩;rw [show (((ends (As.sb bs) es).k+(s.k - F.length):Nat):Int)+(j:Int)=(((ends (As.sb bs) es).k+(s.k - F.length+j):Nat):Int) by lia,<-lk,show F.length+(s.k - F.length+j)=s.k+j by lia] at e2;rw [show s.k+(j+1)=(s.k+j)+1 by lia,Fw,e2]
    rintro σ H6 ⟨w7,rfl,ea6,sx6⟩;rw [show ((((ends (As.sb bs) es).k+(s.k - F.length):Nat):Int)+(e.puts:Nat) - (((ends (As.sb bs) es).k+(s.k - F.length):Nat):Int)).toNat=e.puts by lia] at ea6;have he6:DdAt H6 p e:=he5.sameX sx6 ea5;exists yk rfl he6 ?_;exists ⟨some (.ref p),w7,qs++[b],?_,⟨?_,?_,by rw [ah,hql]; rfl⟩,ea6,λb' o z n1 n2=>sx6 _ _ (x5 _ _ (s4 _ _ (fr _ _ z n1 n2)) n1) n2⟩
    . rw [show (((ends (As.sb bs) es).k+(s.k - F.length):Nat):Int)+(e.puts:Nat)=(((ends (As.sb bs) es).k+(s.k+e.puts - F.length):Nat):Int) by lia]
    . rw [<-bB,aj];exact sx6 _ _ e5 (bZ aD)
    . rw [<-bB,<-bB];exact hr6.sameX sx6 ea5
  rintro σ H4 ⟨v6,v7,qs,rfl,⟨eD',hrun,hql⟩,ea',fr⟩;rw [aa,hm.1,aq] at hrun;walk_at "r";exact q D qs H4 (λb o z=>fr _ _ ((s12.trans s3) _ _ z) (zb z hD0) (zb z na)) hD0 eD' hrun
theorem K44(F:Fun K "together" "together" S39 f fd)(B:Bl mg)(o35x:Own P w K mg base 2 "plus" ["one","other"] [] (P29 K)):FnOk P w K mg base CX0 3 f fd ["one","other"] (P44 K):=by
  refine F.okA C47 λcdv A outer s H vs Q E hr h=>?_;obtain @⟨p,p',s,t,rfl,⟨r0',r1',f0,f1,f2,f3,⟨hp,h0,h1,g0,g1,g2,g3'⟩⟩,⟨u0,u1,i0,i1,i2,i3,⟨kp,k0,k1,l0,l1,l2,l3⟩⟩,bs,bt,q⟩:=h;refine ⟨_,(zc (zf (zo (pa2 (zo (pa2 (ze o35x hr rfl (pa2 (pe_i zW (pit 0) zd) (pe_i zW (pit 1) zd))) (ze o35x hr rfl (pa2 (pe_i zW (pit 0) zd) (pe_i zW (pit 1) zd))))) (zo (pa2 (ze o35x hr rfl (pa2 (pe_i zW (pit 0) zd) (pe_i zW (pit 1) zd))) (ze o35x hr rfl (pa2 (pe_i zW (pit 0) zd) (pe_i zW (pit 1) zd))))))))),?_⟩;walk_at "s";exists uR g0 l0 (bs.a.bq ⋯ ⋯) (bt.a.bq ⋯ ⋯) λt0 H3 s3 et0=>?_;have hp:=s3.sqT hp;have h0:=s3.sqT h0;have h1:=s3.sqT h1;have g0:=s3.sqT g0;have g1:=s3.sqT g1;have g2:=s3.sqT g2;have g3':=s3.sqT g3';have kp:=s3 _ _ kp;have k0:=s3 _ _ k0;have k1:=s3 _ _ k1;have l0:=s3 _ _ l0;have l1:=s3 _ _ l1;have l2:=s3 _ _ l2;have l3:=s3 _ _ l3;exists uR g1 l1 (bs.b.bq ⋯ ⋯) (bt.b.bq ⋯ ⋯) λt1 H4 s4 et1=>?_;have hp:=s4.sqT hp;have h0:=s4.sqT h0;have h1:=s4.sqT h1;have g0:=s4.sqT g0;have g1:=s4.sqT g1;have g2:=s4.sqT g2;have g3':=s4.sqT g3';have kp:=s4 _ _ kp;have k0:=s4 _ _ k0;have k1:=s4 _ _ k1;have l0:=s4 _ _ l0;have l1:=s4 _ _ l1;have l2:=s4 _ _ l2;have l3:=s4 _ _ l3;have et0:=s4 _ _ et0;exists zC (!1) λr0 G0 z0 er0=>?_;have hp:=z0.sqT hp;have h0:=z0.sqT h0;have h1:=z0.sqT h1;have g0:=z0.sqT g0;have g1:=z0.sqT g1;have g2:=z0.sqT g2;have g3':=z0.sqT g3';have kp:=z0 _ _ kp;have k0:=z0 _ _ k0;have k1:=z0 _ _ k1;have l0:=z0 _ _ l0;have l1:=z0 _ _ l1;have l2:=z0 _ _ l2;have l3:=z0 _ _ l3;have et0:=z0 _ _ et0;have et1:=z0 _ _ et1;exists uR g2 l2 (bs.c.bq ⋯ ⋯) (bt.c.bq ⋯ ⋯) λt2 H5 s5 et2=>?_;have hp:=s5.sqT hp;have h0:=s5.sqT h0;have h1:=s5.sqT h1;have g0:=s5.sqT g0;have g1:=s5.sqT g1;have g2:=s5.sqT g2;have g3':=s5.sqT g3';have kp:=s5 _ _ kp;have k0:=s5 _ _ k0;have k1:=s5 _ _ k1;have l0:=s5 _ _ l0;have l1:=s5 _ _ l1;have l2:=s5 _ _ l2;have l3:=s5 _ _ l3;have et0:=s5 _ _ et0;have et1:=s5 _ _ et1;have er0:=s5 _ _ er0;exists uR g3' l3 (bs.e.bq ⋯ ⋯) (bt.e.bq ⋯ ⋯) λt3 H6 s6 et3=>?_;have hp:=s6.sqT hp;have h0:=s6.sqT h0;have h1:=s6.sqT h1;have g0:=s6.sqT g0;have g1:=s6.sqT g1;have g2:=s6.sqT g2;have g3':=s6.sqT g3';have kp:=s6 _ _ kp;have k0:=s6 _ _ k0;have k1:=s6 _ _ k1;have l0:=s6 _ _ l0;have l1:=s6 _ _ l1;have l2:=s6 _ _ l2;have l3:=s6 _ _ l3;have et0:=s6 _ _ et0;have et1:=s6 _ _ et1;have et2:=s6 _ _ et2;have er0:=s6 _ _ er0;exists zC (!1) λr1 G1 z1 er1=>?_;have hp:=z1.sqT hp;have h0:=z1.sqT h0;have h1:=z1.sqT h1;have g0:=z1.sqT g0;have g1:=z1.sqT g1;have g2:=z1.sqT g2;have g3':=z1.sqT g3';have kp:=z1 _ _ kp;have k0:=z1 _ _ k0;have k1:=z1 _ _ k1;have l0:=z1 _ _ l0;have l1:=z1 _ _ l1;have l2:=z1 _ _ l2;have l3:=z1 _ _ l3;have et0:=z1 _ _ et0;have et1:=z1 _ _ et1;have et2:=z1 _ _ et2;have et3:=z1 _ _ et3;have er0:=z1 _ _ er0;exists zC (!1) λr G z er=>?_;exact q r G ((((((s3.trans s4).trans z0).trans s5).trans s6).trans z1).trans z) ⟨r0,r1,t0,t1,t2,t3,er,z _ _ er0,z _ _ er1,z _ _ et0,z _ _ et1,z _ _ et2,z _ _ et3⟩
theorem K45(F:Fun K "_law_plus" "_law_plus" S49 f fd)(B:Bl mg)(o47x:O47x P w K mg base):FnOk P w K mg base CX0 3 f fd ["_law_one","_law_other","_law_sign_here"] P45:=by
  refine F.okA C48 λcdv A outer s H vs Q E hr h=>?_;obtain @⟨p,p',s,t,g,rfl,h1,h2,o1,o2,bg,q⟩:=h;refine ⟨_,(za (ps_s 3 C48.nd (zh zF (zh zn (pit 0) (pit 1)) (zh zn (zh zn (pv 2) (pit 1)) (pit 0)))) (za (ps_s 4 C48.nd (zh zF (zh zn (pit 0) (pit 1)) (zh zn (zh zn (pv 2) (pit 1)) (pit 0)))) (zc (zf (ze o47x hr rfl (pa3 (pv 3) (pv 4) (zh zn (pit 0) (pit 1)))))))),?_⟩;walk_at "s";have h1':H p=some (.tup [.int s.x,.int s.y,.int s.z]):=h1;have h2':H p'=some (.tup [.int t.x,.int t.y,.int t.z]):=h2;have b1:=o1.bx;have b2:=o1.by';have b3:=o1.bz;have c1:=o2.bx;have c2:=o2.by';have c3:=o2.bz;walk_at "r";exact xp rfl (aI o1.ne o2.ne) (Bd.mono (b3.mul c3) ⋯) λr H' s' e=>q r H' s' e
theorem K46(F:Fun K "_law_share" "_law_share" S50 f fd)(B:Bl mg)(o47x:O47x P w K mg base):FnOk P w K mg base CX0 3 f fd ["_law_one","_law_top","_law_bottom"] P46:=by
  refine F.okA C49 λcdv A outer s H vs Q E hr h=>?_;obtain @⟨p,s,m,k,rfl,h1,ok,bm,k1,bk,q⟩:=h;refine ⟨_,(zc (zf (ze o47x hr rfl (pa3 (zh zn (pit 0) (pv 1)) (zh zn (pit 0) (pv 1)) (zh zn (pit 0) (pv 2)))))),?_⟩;walk_at "s";have h1':H p=some (.tup [.int s.x,.int s.y,.int s.z]):=h1;have b1:=ok.bx;have b2:=ok.by';have b3:=ok.bz;have hz:s.z*k≠0:=aI ok.ne k1;walk_at "r";exact xp rfl hz (Bd.mono (b3.mul bk) ⋯) λr H' s' e=>q r H' s' e
theorem FU{x:Int}(h0:-5000<=x)(h1:x<=5000):Bd 13 x:=by
  unfold Bd;have:(2:Nat) ^ 13=8192:=by decide
  lia
theorem K47(F:Fun K "_law_side" "_law_side" S53 f fd)(B:Bl mg)(o48x:O48x P w K mg base)(o47x:O47x P w K mg base)(o45x:O45x P w K mg base):FnOk P w K mg base CX0 3 f fd ["_law_d","_law_cell_here","_law_at_here"] P47:=by
  refine F.okA C50 λcdv A outer s H vs Q E hr h=>?_;obtain @⟨d,c,k,rfl,hR,hc,hk,q⟩:=h;refine ⟨_,(za (ps_s 3 C50.nd (xH u5 (ze o45x hr rfl (pa2 (pv 1) (zh zF (pv 2) zd))) (wf (pv 2)) vP)) (za (ps_s 4 C50.nd (zh yV (zh zM (pil 3) zd) zd)) (za (ps_s 5 C50.nd (zh yV (zh zM (pil 3) zd) zd)) (za (ps_s 6 C50.nd (zh zF zd (zh zM (pil 3) zd))) (za (vE (zv (zi z5 (zh zM (pv 1) zd) zd (zk _)) (za (ps_s 4 C50.nd (zh yV (zh zM (pil 3) zd) zd)) (za (ps_s 5 C50.nd (zh yV (zh zM (pil 3) zd) zd)) (zc (ps_s 6 C50.nd (zh zF zd (zh zM (pil 3) zd)))))) zj)) (za (zv (PW.pt (xk (zi z5 (pv 4) zd (zk _)) (yI (zi z5 (pv 5) zd (zk _))))) (zc (zf (zo (pa3 zd zd zd)))) zj) (za (ps_s 7 C50.nd (ze o48x hr rfl (pa3 (pv 0) (pv 4) (pv 5)))) (zc (zf (ze o47x hr rfl (pa3 (zh zn (pv 7) (pv 4)) (zh zn (pv 7) (pv 5)) (pv 6)))))))))))),?_⟩;walk_at "s";have e6:(10:Int) ^ (6:Int).toNat=1000000:=by decide +kernel
  have e11:(10:Int) ^ (11:Int).toNat=100000000000:=by decide +kernel
  have dlo:=hR.lo;have hd:Bd 64 d:=zR (B:=99) (!2) hR.hi (!3);exists yL hc (!2) (!2) λl H1 ds s1 e1 hl hds=>?_;exists B9 e1 λp H2 s2 e2=>?_;rw [<-gj] at e2;have hl5:((ds.drop k).length:Int)=5:=by rw [cZ]; lia
  have hd5:∀ x∈ds.drop k,0<=x/\x<1000000:=λx hx=>hds x (dE hx);obtain ⟨x0,g0,a0,b0⟩:=dig hl5 hd5 0 ⋯ ⋯;obtain ⟨x1,g1,a1,b1⟩:=dig hl5 hd5 1 ⋯ ⋯;obtain ⟨x2,g2,a2,b2⟩:=dig hl5 hd5 2 ⋯ ⋯;obtain ⟨x3,g3',a3,b3⟩:=dig hl5 hd5 3 ⋯ ⋯;obtain ⟨x4,g4,a4,b4⟩:=dig hl5 hd5 4 ⋯ ⋯;have y0:Bd 20 x0:=zR (B:=999999) (!2) (!2) ⋯;have y1:Bd 20 x1:=zR (B:=999999) (!2) (!2) ⋯;have y2:Bd 20 x2:=zR (B:=999999) (!2) (!2) ⋯;have y3:Bd 20 x3:=zR (B:=999999) (!2) (!2) ⋯;have y4:Bd 20 x4:=zR (B:=999999) (!2) (!2) ⋯;repeat (first | walk_at "rd" | refine zu e2 g0 ?_ | refine zu e2 g1 ?_ | refine zu e2 g2 ?_ | refine zu e2 g3' ?_ | refine zu e2 g4 ?_ | rw [e6] | rw [e11])
  refine AI (T:=λσ' H'=>E3 λ(a b n:Int)=>A6 (σ'=[vI d,vI c,vI (k:Int),vR p,vI a,vI b,vI n,none]) (H'=H2) (Bd 13 a) (Bd 13 b) (1<=n) (n<=30)) ?_ ?_
  . repeat (first | walk_at "rd" | refine zu e2 g0 ?_ | refine zu e2 g1 ?_ | refine zu e2 g2 ?_ | refine zu e2 g3' ?_ | refine zu e2 g4 ?_ | rw [e6] | rw [e11])
    refine if_d (λc1=>?_) (λc1=>?_)
    . repeat (first | walk_at "rd" | refine zu e2 g0 ?_ | refine zu e2 g1 ?_ | refine zu e2 g2 ?_ | refine zu e2 g3' ?_ | refine zu e2 g4 ?_ | rw [e6] | rw [e11])
      exact ⟨_,_,_,rfl,rfl,FU (!2) (!2),FU (!2) (!2),by lia,by lia⟩
    . repeat (first | walk_at "rd" | refine zu e2 g0 ?_ | refine zu e2 g1 ?_ | refine zu e2 g2 ?_ | refine zu e2 g3' ?_ | refine zu e2 g4 ?_ | rw [e6] | rw [e11])
      exact ⟨_,_,_,rfl,rfl,FU (!2) (!2),FU (!2) (!2),by lia,by lia⟩
  rintro σ' H' ⟨a,b,n,rfl,rfl,ba,bb,n1,n2⟩;have s12:=s1.trans s2;exists L3 (q:=b=0) (λc0=>?_) (λc1 hB=>?_)
  . exists vx rfl hd (ba.mono ⋯) (bb.mono ⋯) λH3 s3=>?_;have ba:=ba;have bs:Bd 2 (sgn d a b):=by
      rcases sgn_tri hR a b with h|h|⟨h1,h2⟩
      . rw [h]; decide
      . rw [h]; decide
      . rw [h1,h2,yr]; decide
    exists xp rfl (!2) (zR (k:=8000) (B:=30) (!2) n2 (aE (show (30:Int).natAbs<2 ^ 20 by decide) (Nat.pow_le_pow_right ⋯ ⋯))) λr H4 s4 e4=>?_;refine q r H4 ⟨lA (sgn d a b*a) (sgn d a b*b) n,lB (sgn d a b*a) (sgn d a b*b) n,lN (sgn d a b*a) (sgn d a b*b) n⟩ ((s12.trans s3).trans s4) e4 ?_;rcases sgn_tri hR a b with h|h|h
    . rw [h,d9,d9];exact Dw.low hR ba bb n1 n2 h
    . rw [h,show (-1:Int)*a=-a by lia,show (-1:Int)*b=-b by lia];exact Dw.low hR ba.neg bb.neg n1 n2 (by rw [xw hR,h]; rfl)
    . exact absurd h (!2)
  . exists if_d (λc2=>?_) (λc2=>hB (λz=>c2 z.2));exists zC (!1) λr H4 s4 e4=>?_;exact q r H4 ⟨1,0,1⟩ (s12.trans s4) e4 ⟨by decide,by decide,by rw [uu ⋯ ⋯]; rfl,by decide,by decide,by decide⟩
theorem K48(F:Fun K "next_base" "next_base" S12 f fd)(B:Bl mg)(o10x:O10x P w K mg base)(o7x:O7x P w K mg base):FnOk P w K mg base CX0 4 f fd ["d","base"] P48:=by
  refine F.okA C51 λcdv A outer s H vs Q E hr h=>?_;obtain @⟨d,p,r1,r2,s,N,rfl,⟨h0,h1,h2⟩,hR,hN,hb,g,q⟩:=h;refine ⟨_,(za (ps_s 2 C51.nd (pit 1)) (za (ps_s 3 C51.nd (pit 1)) (za (zv (zU (ze o10x hr rfl (pa3 (pv 0) (pv 3) (pv 2)))) (zc (zf (zo (pa2 (ze o7x hr rfl (pa2 (pv 2) (pv 3))) (pv 3))))) zj) (zc (zf (zo (pa2 (pv 2) (ze o7x hr rfl (pa2 (pv 3) (pv 2)))))))))),?_⟩;walk_at "s";have n0:N≠0:=by lia
  have dlo:=hR.lo;have dhi:=hR.hi;have hd:Bd 64 d:=zR (B:=99) (!2) hR.hi (!3);have k1:Bd 900 (lA s.a s.b N):=g.ba.fdiv _;have k2:Bd 900 (lB s.a s.b N):=g.bb.fdiv _;have k3:Bd 900 (lN s.a s.b N):=hb.fdiv _;have k4:Bd 900 (lA s.c s.e N):=g.bc.fdiv _;have k5:Bd 900 (lB s.c s.e N):=g.be.fdiv _;have k6:Bd 900 (lN s.c s.e N):=hb.fdiv _;exists Ba (K:=K) (SqT.of h2) h1 hd (k4.mono ⋯) (k5.mono ⋯) (k6.mono ⋯) (k1.mono ⋯) (k2.mono ⋯) (k3.mono ⋯) ?_;rw [F5 hR hN];exists if_d (λc=>?_) (λc=>?_)
  . have e:s.nx d=⟨s.a - s.c,s.b - s.e,s.c,s.e⟩:=h8 c;rw [e] at q;exists Bn h1 h2 (l_n n0) (l_n n0) (xQ n0) (xQ n0) (k1.mono ⋯) (k2.mono ⋯) (k3.mono ⋯) (k4.mono ⋯) (k5.mono ⋯) (k6.mono ⋯) λr H1 s1 e1=>?_;obtain ⟨t1,t2,t3⟩:=BZ (a:=s.a) (b:=s.b) (c:=s.c) (e:=s.e) hN;rw [vc,vc,t1,t2,t3] at e1;walk_at "r";exact zC (!1) λp' H' s' e'=>q p' r r2 H' (s1.trans s') ⟨e',s' _ _ e1,s' _ _ (s1 _ _ h2)⟩
  . have e:s.nx d=⟨s.a,s.b,s.c - s.a,s.e - s.b⟩:=h9 c;rw [e] at q;exists Bn h2 h1 (l_n n0) (l_n n0) (xQ n0) (xQ n0) (k4.mono ⋯) (k5.mono ⋯) (k6.mono ⋯) (k1.mono ⋯) (k2.mono ⋯) (k3.mono ⋯) λr H1 s1 e1=>?_;obtain ⟨t1,t2,t3⟩:=BZ (a:=s.c) (b:=s.e) (c:=s.a) (e:=s.b) hN;rw [vc,vc,t1,t2,t3] at e1;walk_at "r";exact zC (!1) λp' H' s' e'=>q p' r1 r H' (s1.trans s') ⟨e',s' _ _ (s1 _ _ h1),s' _ _ e1⟩
theorem K49(F:Fun K "times_over" "times_over" S17 f fd)(B:Bl mg)(o8x:Own P w K mg base 3 "timed" ["d","one","other"] [] P38):FnOk P w K mg base CX0 4 f fd ["d","many","one"] P49:=by
  refine F.okA C52 λcdv A outer s H vs Q E hr h=>?_;obtain @⟨d,m,p,s,rfl,h1,hd,hm,ok,q⟩:=h;refine ⟨_,(zc (zf (ze o8x hr rfl (pa3 (pv 0) (zo (pa3 (pv 1) zd zd)) (pv 2))))),?_⟩;walk_at "s";have z1:=ok.z1;exists zC (!1) λp1 H1 s1 e1=>?_;exists Ix e1 (s1 _ _ h1) hd (hm.mono ⋯) (!3) (!3) (ok.bx.mono ⋯) (ok.by'.mono ⋯) (ok.bz.mono ⋯) ⋯ (!2) λr H2 s2 e2=>?_;rw [show m*s.x+d*0*s.y=m*s.x by rw [cL,bR,cq],show m*s.y+0*s.x=m*s.y by rw [bR,cq],d9] at e2;exact q r H2 (s1.trans s2) e2
theorem K50(F:Fun K "is_deed" "is_deed" S21 f fd)(B:Bl mg)(g_CUTS:TopT K mg "CUTS" [.str "across",.str "along"])(g_SHIFTS:TopT K mg "SHIFTS" [.str "stack",.str "spread"])(g_GLUINGS:TopT K mg "GLUINGS" [.str "beside",.str "atop"])(g_TURN:TopS mg "TURN" (Str.ofString "turn"))(o20x:Own P w K mg base 3 "is_length" ["thing"] [] P40)(o0x:O0x P w K mg base):FnOk P w K mg base CX0 4 f fd ["thing"] P50:=by
  obtain ⟨a_CUTS,m_CUTS,q_CUTS⟩:=g_CUTS;obtain ⟨a_SHIFTS,m_SHIFTS,q_SHIFTS⟩:=g_SHIFTS;obtain ⟨a_GLUINGS,m_GLUINGS,q_GLUINGS⟩:=g_GLUINGS;obtain ⟨u_TURN,m_TURN,r_TURN⟩:=g_TURN;refine F.okA C53 λcdv A outer s H vs Q E hr h=>?_;obtain @⟨p,e,rfl,he,ok,q⟩:=h;refine ⟨_,(za (zv (PW.pt (xi (yd (zU (zm zJ rfl B.isinstance zA (pa2 (pv 0) (yK (v:=.ty "tuple") rfl B.tuple xJ rfl))))) (xi (zi uN (zm zt rfl B.len aV (pa1 (pv 0))) zd (zk _)) (xt (yd (zU (zm zJ rfl B.isinstance zA (pa2 (pit 0) (yK (v:=.ty "str") rfl B.str J6 rfl))))))))) (zc (zf xq)) zj) (za (zv (zi z5 (zm zt rfl B.len aV (pa1 (pv 0))) zd (zk _)) (zc (zf (zY z5 (pit 0) (yR (v:=.str (Str.ofString "turn")) rfl m_TURN r_TURN) (zk _)))) zj) (za (zv (zi uD (zm zt rfl B.len aV (pa1 (pv 0))) zd (zk _)) (zc (zf xq)) zj) (za (zv (zi yt (pit 0) (yR (v:=.ref a_CUTS) rfl m_CUTS rfl) (by with_unfolding_all rfl)) (zc (zf (ze o20x hr rfl (pa1 (pit 0))))) zj) (za (zv (zi yt (pit 0) (yR (v:=.ref a_SHIFTS) rfl m_SHIFTS rfl) (by with_unfolding_all rfl)) (zc (zf (wv (ze o0x hr rfl (pa1 (pit 0))) (wX (zY Ed (pit 0) zd (zk _)))))) zj) (zc (zf (zY yt (pit 0) (yR (v:=.ref a_GLUINGS) rfl m_GLUINGS rfl) (by with_unfolding_all rfl))))))))),?_⟩;walk_at "s";cases e with
  | cut al n s =>
    obtain ⟨pq,h0,hs⟩:=he;cases al
    all_goals
      simp [DdAt,Dd.wd] at h0;exists if_d (λc=>absurd c (!1)) (λ_=>?_);exists if_d (λc=>absurd c (!1)) (λ_=>?_);exists vK (!1) ?_;exists ⟨_,_,rfl,.inr (q_CUTS H),rfl,rfl,?_⟩;rw [show (if false=true then !inV _ _ else inV _ _)=true from by decide +kernel];walk_at "r";exact Bj rfl hs ok λH' s1=>q H' s1
  | glue al n m =>
    have h0:=he;cases al
    all_goals
      simp [DdAt,Dd.wd] at h0;exists if_d (λc=>absurd c (!1)) (λ_=>?_);exists if_d (λc=>absurd c (!1)) (λ_=>?_);exists vK (!1) ?_;exists ⟨_,_,rfl,.inr (q_CUTS H),rfl,rfl,?_⟩;rw [show (if false=true then !inV _ _ else inV _ _)=false from by decide +kernel];exists ⟨_,_,rfl,.inr (q_SHIFTS H),rfl,rfl,?_⟩;rw [show (if false=true then !inV _ _ else inV _ _)=false from by decide +kernel];exists ⟨_,_,rfl,.inr (q_GLUINGS H),rfl,rfl,?_⟩;rw [show (if false=true then !inV _ _ else inV _ _)=true from by decide +kernel];walk_at "r";exact q H (Same.refl H)
  | shift al n k =>
    have h0:=he;cases al
    all_goals
      simp [DdAt,Dd.wd] at h0;exists if_d (λc=>absurd c (!1)) (λ_=>?_);exists if_d (λc=>absurd c (!1)) (λ_=>?_);exists vK (!1) ?_;exists ⟨_,_,rfl,.inr (q_CUTS H),rfl,rfl,?_⟩;rw [show (if false=true then !inV _ _ else inV _ _)=false from by decide +kernel];exists ⟨_,_,rfl,.inr (q_SHIFTS H),rfl,rfl,?_⟩;rw [show (if false=true then !inV _ _ else inV _ _)=true from by decide +kernel];walk_at "r";exact bl_q (iw ok.1) (q H (Same.refl H))
  | turn n =>
    have h0:=he;have h0:H p=some (.tup [.str (Str.ofString "turn"),.int n]):=h0;exists if_d (λc=>absurd c (!1)) (λ_=>?_);exists if_d (λ_=>?_) (λc=>absurd (!1) c);walk_at "r";exact bl_q (!3) (q H (Same.refl H))
theorem K51(F:Fun K "cut_across" "cut_across" S25 f fd)(B:Bl mg)(g_NOUGHT:TopT K mg "NOUGHT" [.int 0,.int 0,.int 1])(o10x:O10x P w K mg base)(o7x:O7x P w K mg base):FnOk P w K mg base CX0 4 f fd ["d","one","at"] P51:=by
  obtain ⟨a_NOUGHT,m_NOUGHT,q_NOUGHT⟩:=g_NOUGHT;refine F.okA C54 λcdv A outer s H vs Q E hr h=>?_;obtain @⟨d,c,p,s,rfl,hc,hs,hd,okw,oks,up,un,q⟩:=h;refine ⟨_,(za (zv (yd (PW.pt (xk (zU (ze o10x hr rfl (pa3 (pv 0) (yR (v:=.ref a_NOUGHT) rfl m_NOUGHT rfl) (pv 2)))) (yI (zU (ze o10x hr rfl (pa3 (pv 0) (pv 2) (pit 1)))))))) (zc yY) zj) (zc (zf (zI (pa2 (zo (pa2 (pv 2) (pit 1))) (zo (pa2 (ze o7x hr rfl (pa2 (pit 1) (pv 2))) (pit 1)))))))),?_⟩;walk_at "s";have ct:=hc.t;have cw:=hc.w;have hs':H p=some (.tup [.int s.x,.int s.y,.int s.z]):=hs;have cw':H c.pw=some (.tup [.int c.b.w.x,.int c.b.w.y,.int c.b.w.z]):=cw;exists Ba (q_NOUGHT H) hs' hd (!3) (!3) (!3) (oks.bx.mono ⋯) (oks.by'.mono ⋯) (oks.bz.mono ⋯) ?_;rw [show decide (0<sgn d (s.x*1 - 0*s.z) (s.y*1 - 0*s.z))=true from iw (by simpa only [cC,bR,Int.sub_zero] using up)];exists Ba (SqT.of hs') cw' hd (oks.bx.mono ⋯) (oks.by'.mono ⋯) (oks.bz.mono ⋯) (okw.bx.mono ⋯) (okw.by'.mono ⋯) (okw.bz.mono ⋯) ?_;rw [show decide (0<sgn d (c.b.w.x*s.z - s.x*c.b.w.z) (c.b.w.y*s.z - s.y*c.b.w.z))=true from iw un];exists zw (!1) λr1 H1 hr1 s1 e1=>?_;have ct1:=s1 _ _ ct;exists Bn (s1 _ _ cw') (s1 _ _ hs') okw.z1 oks.z1 okw.g oks.g (okw.bx.mono ⋯) (okw.by'.mono ⋯) (okw.bz.mono ⋯) (oks.bx.mono ⋯) (oks.by'.mono ⋯) (oks.bz.mono ⋯) λr2 H2 s2 e2=>?_;have ct2:=s2 _ _ ct1;exists zw (!1) λr3 H3 hr3 s3 e3=>?_;exists zy (!1) λr H4 hr s4 e4=>?_;have t4:=((s1.trans s2).trans s3).trans s4;exact q r ⟨r1,p,c.ph,⟨s,c.b.h⟩⟩ ⟨r3,r2,c.ph,⟨tkS c.b.w s,c.b.h⟩⟩ H4 t4 (Same.nn ((s1.trans s2).trans s3) hr) e4 ⟨s4 _ _ (s3 _ _ (s2 _ _ e1)),t4 _ _ hs,t4 _ _ hc.h⟩ ⟨s4 _ _ e3,s4 _ _ (s3 _ _ e2),t4 _ _ hc.h⟩ rfl rfl
theorem K52(F:Fun K "board_table" "board_table" S38 f fd)(B:Bl mg)(o5x:Own P w K mg base 3 "parts" ["one"] [] P36)(o36x:Own P w K mg base 2 "times" ["one","other"] [] P30):FnOk P w K mg base CX0 4 f fd ["one"] P52:=by
  refine F.okA C55 λcdv A outer s H vs Q E hr h=>?_;obtain @⟨c,rfl,⟨ht,hw,hh⟩,⟨ow,oh⟩,q⟩:=h;refine ⟨_,(za (ps_s 1 C55.nd (ze o5x hr rfl (pa1 (pit 0)))) (za (ps_s 2 C55.nd (ze o5x hr rfl (pa1 (pit 0)))) (zc (zf (zo (pa2 (zo (pa2 (ze o36x hr rfl (pa2 (pit 1) (pit 2))) (ze o36x hr rfl (pa2 (pit 1) (pit 2))))) (zo (pa2 (ze o36x hr rfl (pa2 (pit 1) (pit 2))) (ze o36x hr rfl (pa2 (pit 1) (pit 2))))))))))),?_⟩;walk_at "s";have bq:∀ {x:Rat},Br 430 340 x->Bq 8000 x:=λh=>h.bq ⋯ ⋯;exists EV rfl hw ow.ne (ow.bz.mono ⋯) λa0 a1 a2 H1 s1 ea ea1 ea2=>?_;have ea1:=FL ow.ne ea1;have ea2:=FL ow.ne ea2;have ht:=s1 _ _ ht;have hh:=s1 _ _ hh;exists EV rfl hh oh.ne (oh.bz.mono ⋯) λb0 b1 b2 H2 s2 eb eb1 eb2=>?_;have eb1:=FL oh.ne eb1;have eb2:=FL oh.ne eb2;have ea:=s2 _ _ ea;have ea1:=s2 _ _ ea1;have ea2:=s2 _ _ ea2;exists uX ea1 eb1 (bq (skp ow)) (bq (skp oh)) λt0 H3 s3 et0=>?_;have ea:=s3 _ _ ea;have eb:=s3 _ _ eb;have ea1:=s3 _ _ ea1;have ea2:=s3 _ _ ea2;have eb1:=s3 _ _ eb1;have eb2:=s3 _ _ eb2;exists uX ea1 eb2 (bq (skp ow)) (bq (skq oh)) λt1 H4 s4 et1=>?_;have ea:=s4 _ _ ea;have eb:=s4 _ _ eb;have ea1:=s4 _ _ ea1;have ea2:=s4 _ _ ea2;have eb1:=s4 _ _ eb1;have eb2:=s4 _ _ eb2;have et0:=s4 _ _ et0;exists zC (!1) λr0 G0 z0 er0=>?_;have ea:=z0 _ _ ea;have eb:=z0 _ _ eb;have ea1:=z0 _ _ ea1;have ea2:=z0 _ _ ea2;have eb1:=z0 _ _ eb1;have eb2:=z0 _ _ eb2;have et0:=z0 _ _ et0;have et1:=z0 _ _ et1;exists uX ea2 eb1 (bq (skq ow)) (bq (skp oh)) λt2 H5 s5 et2=>?_;have ea:=s5 _ _ ea;have eb:=s5 _ _ eb;have ea1:=s5 _ _ ea1;have ea2:=s5 _ _ ea2;have eb1:=s5 _ _ eb1;have eb2:=s5 _ _ eb2;have et0:=s5 _ _ et0;have et1:=s5 _ _ et1;have er0:=s5 _ _ er0;exists uX ea2 eb2 (bq (skq ow)) (bq (skq oh)) λt3 H6 s6 et3=>?_;have ea:=s6 _ _ ea;have eb:=s6 _ _ eb;have ea1:=s6 _ _ ea1;have ea2:=s6 _ _ ea2;have eb1:=s6 _ _ eb1;have eb2:=s6 _ _ eb2;have et0:=s6 _ _ et0;have et1:=s6 _ _ et1;have et2:=s6 _ _ et2;have er0:=s6 _ _ er0;exists zC (!1) λr1 G1 z1 er1=>?_;have ea:=z1 _ _ ea;have eb:=z1 _ _ eb;have ea1:=z1 _ _ ea1;have ea2:=z1 _ _ ea2;have eb1:=z1 _ _ eb1;have eb2:=z1 _ _ eb2;have et0:=z1 _ _ et0;have et1:=z1 _ _ et1;have et2:=z1 _ _ et2;have et3:=z1 _ _ et3;have er0:=z1 _ _ er0;exists zC (!1) λr G z er=>?_;exact q r G ((((((((s1.trans s2).trans s3).trans s4).trans z0).trans s5).trans s6).trans z1).trans z) ⟨r0,r1,t0,t1,t2,t3,er,z _ _ er0,z _ _ er1,z _ _ et0,z _ _ et1,z _ _ et2,z _ _ et3⟩
theorem Kx{K:iC}{Q:VK}{x y z:V}(h:H a=some (.tup [x,y,z]))(q:∀ (p:Addr) (H2:Hp),Same H H2->H2 p=some (.tup [x,y])->Q (.ref p) H2):rSlT K (.ref a) none (some 2) H Q :=
  ⟨a,_,rfl,SqT.of h,by simp only [au,aP]; decide,λp hp=>q p _ (zD hp _) zg⟩
theorem K53(F:Fun K "_law_below" "_law_below" S51 f fd)(B:Bl mg)(o49x:O49x P w K mg base)(o48x:O48x P w K mg base):FnOk P w K mg base CX0 4 f fd ["_law_d","_law_one","_law_other"] P53:=by
  refine F.okA C56 λcdv A outer s H vs Q E hr h=>?_;obtain @⟨d,p,p',s,t,rfl,h1,h2,o1,o2,hd,q⟩:=h;refine ⟨_,(za (ps_s 3 C56.nd (ze o49x hr rfl (pa3 (pv 1) (pv 2) (u8 wB zd)))) (zc (zf (wv (zY (CZ hr.units) (xH GH (pv 3) vP (wf zd)) (zo (pa2 zd zd)) (zk _)) (wX (zY uN (ze o48x hr rfl (pa3 (pv 0) (pit 3) (pit 3))) zd (zk _))))))),?_⟩;walk_at "s";exists yN rfl h1 h2 o1 o2 (!3) λr H1 s1 e1=>?_;rw [CY] at e1;have e1':H1 r=some (.tup [.int (tkS s t).x,.int (tkS s t).y,.int (tkS s t).z]):=e1;have bx:Bd 4501 (tkS s t).x:=Bd.fdiv (Bd.add (Bd.mul o1.bx (o2.bz)) (Bd.mul o2.bx.neg o1.bz)) _;have by':Bd 4501 (tkS s t).y:=Bd.fdiv (Bd.add (Bd.mul o1.by' (o2.bz)) (Bd.mul o2.by'.neg o1.bz)) _;exists Kx e1' λp2 H2 s2 e2=>?_;have e1':=s2 _ _ e1';exists zC (!1) λp3 H3 s3 e3=>?_;have e1':=s3 _ _ e1';refine Kc (s3 _ _ e2) e3 ?_;exists AN (λc=>?_) (λc=>?_)
  . exists vx rfl hd (bx.mono ⋯) (by'.mono ⋯) λH4 s4=>?_;walk_at "r";exact q H4 (((s1.trans s2).trans s3).trans s4)
  . exists bl_q ?_ (q H3 ((s1.trans s2).trans s3));rw [c.1,c.2,yr];rfl
theorem K54(F:Fun K "_law_heap" "_law_heap" S54 f fd)(B:Bl mg)(o53x:Own P w K mg base 3 "_law_side" ["_law_d","_law_cell_here","_law_at_here"] [] P47)(o42x:O42x P w K mg base)(o45x:O45x P w K mg base):FnOk P w K mg base CX0 4 f fd ["_law_script","_law_d","_law_first"] (P54 K):=by
  refine F.okA C57 λcdv A outer s H vs Q E hr h=>?_;obtain @⟨p,ns,d,ft,rfl,hft,hS,hb,hR,q⟩:=h;refine ⟨_,(za (tt (i:=3) C57.nd rfl rfl ["_law_k"] [0,1,2] rfl (yh rfl B.range (pa1 zd)) (λ_ _ _ _ _=>(pg_n 0 (show List.Nodup (α:=Str) ["_law_k","_law_script","_law_d","_law_first"] by decide +kernel))) (λ_ _ _ _ _=>zP) (λ_ _ _ _ _=>(ze o53x hr rfl (pa3 (pv 2) (ze o42x hr rfl (pa2 (pv 1) (zh zF (pv 3) (pv 0)))) zd)))) (za (ps_s 4 C57.nd (zI yl)) (za (zV PassesOwn.never rfl (yh rfl B.range (pa1 (zh zF zd (zh zM (pe_i zK (ze o45x hr rfl (pa2 (ze o42x hr rfl (pa2 (pv 0) (zh zF (pv 2) zd))) zd)) zd) zd)))) (pg_n 5 C57.nd) (za (ps_s 6 C57.nd (ze o42x hr rfl (pa2 (pv 0) (zh zF (zh zF (pv 2) zd) (pv 5))))) (za (ps_s 7 C57.nd (ze o45x hr rfl (pa2 (pv 6) zd))) (za (ps_s 8 C57.nd (pe_i zK (pv 3) (zh zM (pil 7) zd))) (za (ps_s 9 C57.nd (pe_i zK (pv 3) (zh zM (pil 7) zd))) (za (vE (zv (zi z5 (zh zM (zh z7 (pil 7) zd) zd) zd (zk _)) (zc (ps_s 8 C57.nd (ze o53x hr rfl (pa3 (pv 1) (pv 6) zd)))) zj)) (za (vE (zv (zi z5 (zh zM (zh z7 (pil 7) zd) zd) zd (zk _)) (zc (ps_s 9 C57.nd (ze o53x hr rfl (pa3 (pv 1) (pv 6) zd)))) zj)) (zc (zL (xO aJ aQ aR zE (pv 4) (pa1 (zo (pa2 (pv 8) (pv 9)))))))))))))) (zc (zf (zo (pa2 (pv 3) (pv 4)))))))),?_⟩;walk_at "s";exists vd ?_;exists ⟨3,rfl,by decide,by decide,λD hD=>yM (lo:=0) (n:=(3:Int).toNat) (λi xs σ' H'=>E2 λ(v:Option V) (P:PL)=>A7 (σ'=[v,vR p,vI d,vI (ft:Int)]) (xs=P.map (λx=>V.ref x.1)) (P.length=i) (H' D=some (.lst xs)) (SameX D H H') ((∀ x∈P,SdAt H' x.1 x.2)) (∀ x∈P,Dw d x.2)) ⟨none,[],rfl,rfl,rfl,zg,λb o e n=>by rw [zl n]; exact e,λx hx=>absurd hx (!1),λx hx=>absurd hx (!1)⟩ ?_ ?_⟩
  . rintro i xs σ' H' hi ⟨v,P,rfl,rfl,hPl,eD,sx,hPa,hPd⟩;have hi3:i<3:=hi;have s':Same H H':=λb o e=>sx b o e (zb e hD);exists yA rfl (s'.seq hS) (!2) hb λc0 hc0=>?_;exists we rfl (k:=0) hR hc0 ⋯ λr1 H1 s s1 e1 o1=>?_;walk_at "r";have eD1:=s1 _ _ eD;refine zp eD1 (by rw [aa]; lia) λH2 x2 e2=>?_;refine yv hi ⟨_,P++[(r1,s)],rfl,rfl,by rw [ah,hPl]; rfl,by rw [aj]; exact e2,(sx.trans (s1.sameX D)).trans x2,λx hx=>?_,λx hx=>?_⟩
    . rcases aw.mp hx with hx | hx
      . exact x2.tup (s1 _ _ (hPa x hx)) eD1
      . rw [ak.mp hx]; exact x2.tup e1 eD1
    . rcases aw.mp hx with hx | hx
      . exact hPd x hx
      . rw [ak.mp hx]; exact o1
  rintro xs σ' H2 ⟨v,P,rfl,rfl,hPl,eD,sx,hPa,hPd⟩;have s2:Same H H2:=λb o e=>sx b o e (zb e hD);have hP:Pl H2 D P:=⟨eD,hPa,hPl⟩
  have hS2:=s2.seq hS;clear sx hPa hPl hD;exists zy (!1) λl H3 hl s3 e3=>?_;exists wN ?_;exists yA rfl (s3.seq hS2) (!2) hb λc0 hc0=>?_;exists yL hc0 ⋯ ⋯ λl4 H4 ds s4 e4 hl4 hds=>?_;obtain ⟨x5,g5,a5,b5⟩:=dig hl4 hds 5 ⋯ ⋯;exists zu e4 g5 ?_;walk_at "r";have s34:=s3.trans s4;refine ⟨1+x5 % 6,rfl,by lia,by lia,yG (lo:=0) (n:=(1+x5 % 6).toNat) (λi σ H'=>E6 λ(v1 v2 v3 v4 v5:Option V) (L:List Cell)=>A6 (σ=[vR p,vI d,vI (ft:Int),vR D,vR l,v1,v2,v3,v4,v5]) (SameX l H4 H') (H' l=some (.lst (L.map Cell.v))) (L.length=i) ((∀ c∈L,c.At H')) (∀ c∈L,Dw d c.b.w/\Dw d c.b.h)) ⟨_,_,_,_,_,[],rfl,λb o e _=>e,s4 _ _ e3,rfl,λc hc=>absurd hc (!1),λc hc=>absurd hc (!1)⟩ ?_ ?_⟩
  . rintro i σ H' hi ⟨v1,v2,v3,v4,v5,L,rfl,sx,el,hLl,hLa,hLd⟩;have sH:Same H2 H':=λb o e=>sx b o (s34 b o e) (zb e hl);exists yA rfl (sH.seq hS2) (!2) hb λc1 hc1=>?_;exists yL hc1 ⋯ ⋯ λl5 H5 es s5 e5 hl5 hes=>?_;obtain ⟨y0,k0,u0,w0⟩:=dig hl5 hes 0 ⋯ ⋯;obtain ⟨y1,k1,u1,w1⟩:=dig hl5 hes 1 ⋯ ⋯;have hP5:=(hP.same sH).same s5;obtain ⟨z0,hz0,gz0,ez0⟩:=hP5.get (i:=y0 % 3) (!2) (!2);obtain ⟨z1,hz1,gz1,ez1⟩:=hP5.get (i:=y1 % 3) (!2) (!2);repeat (first | walk_at "rd" | refine zu e5 k0 ?_ | refine zu e5 k1 ?_ | refine zu hP5.l gz0 ?_ | refine zu hP5.l gz1 ?_)
    refine AI (T:=λσ' H6=>E2 λ(pw:Addr) (sw:Sd)=>A4 (σ'=[vR p,vI d,vI (ft:Int),vR D,vR l,vI (0+(i:Int)),vI c1,vR l5,vR pw,vR z1.1]) (Same H5 H6) (SdAt H6 pw sw) (Dw d sw)) ?_ ?_
    . repeat (first | walk_at "rd" | refine zu e5 k0 ?_)
      refine if_d (λ_=>?_) (λ_=>?_)
      . exists we rfl (k:=2) hR hc1 ⋯ λr1 H6 s s6 e6 o6=>?_;walk_at "r";exact ⟨r1,s,rfl,s6,e6,o6⟩
      . walk_at "r";exact ⟨_,_,rfl,Same.refl _,ez0,hPd z0 hz0⟩
    rintro σ' H6 ⟨pw,sw,rfl,s6,ew,ow⟩;have e5:=s6 _ _ e5;exists AI (T:=λσ' H7=>E2 λ(ph:Addr) (sh:Sd)=>A4 (σ'=[vR p,vI d,vI (ft:Int),vR D,vR l,vI (0+(i:Int)),vI c1,vR l5,vR pw,vR ph]) (Same H6 H7) (SdAt H7 ph sh) (Dw d sh)) ?_ ?_
    . repeat (first | walk_at "rd" | refine zu e5 k1 ?_)
      refine if_d (λ_=>?_) (λ_=>?_)
      . exists we rfl (k:=7) hR hc1 ⋯ λr1 H7 s s7 e7 o7=>?_;walk_at "r";exact ⟨r1,s,rfl,s7,e7,o7⟩
      . walk_at "r";exact ⟨_,_,rfl,Same.refl _,s6 _ _ ez1,hPd z1 hz1⟩
    rintro σ' H7 ⟨ph,sh,rfl,s7,eh,oh⟩;have el0:=s7 _ _ (s6 _ _ (s5 _ _ el));exists zw (!1) λr8 H8 n8 s8 e8=>?_;have st:=((s5.trans s6).trans s7).trans s8;have el8:=st _ _ el;exists zp el8 (by rw [aa]; lia) λH9 x9 e9=>?_;exists ⟨_,_,_,_,_,L++[⟨r8,pw,ph,⟨sw,sh⟩⟩],rfl,(sx.trans (st.sameX l)).trans x9,by rw [aj]; exact e9,by rw [ah,hLl]; rfl,λx hx=>?_,λx hx=>?_⟩
    . rcases aw.mp hx with hx | hx
      . exact ((hLa x hx).same st).sameX x9 el8
      . rw [ak.mp hx];exact Cell.At.sameX ⟨e8,s8 _ _ (s7 _ _ ew),s8 _ _ eh⟩ x9 el8
    . rcases aw.mp hx with hx | hx
      . exact hLd x hx
      . rw [ak.mp hx]; exact ⟨ow,oh⟩
  rintro σ H5 ⟨v1,v2,v3,v4,v5,L,rfl,sx,el,hLl,hLa,hLd⟩;have sH:Same H2 H5:=λb o e=>sx b o (s34 b o e) (zb e hl);exists zw (!1) λr H6 n6 s6 e6=>?_;exact q r D l H6 P L ((s2.trans sH).trans s6) e6 ((hP.same sH).same s6) (s6 _ _ el) (λc hc=>(hLa c hc).same s6) hPd hLd (!2) (!2)
theorem K55(F:Fun K "_law_new" "_law_new" S55 f fd)(B:Bl mg)(o49x:O49x P w K mg base)(o50x:O50x P w K mg base):FnOk P w K mg base CX0 4 f fd ["_law_deed_here","_law_some"] P55:=by
  refine F.okA C58 λcdv A outer s H vs Q E hr h=>?_;obtain @⟨p,a,d,e,c,c',rfl,he,ha,hc,hc',hf,q⟩:=h;refine ⟨_,(za (uj (pil 1) (xR (n:=2) rfl (zH (pg_n 2 C58.nd) (zH (pg_n 3 C58.nd) xb)))) (za (zv (zi z5 (pit 0) zx (zk _)) (zc (zf (zI (pa2 (zo (pa2 (pit 0) (pv 3))) (zo (pa2 (ze o49x hr rfl (pa3 (pv 2) (pit 0) (u8 wB zd))) (pv 3))))))) zj) (za (zv (zi z5 (pit 0) zx (zk _)) (zc (zf (zI (pa2 (zo (pa2 (pv 2) (pit 0))) (zo (pa2 (pv 2) (ze o49x hr rfl (pa3 (pv 3) (pit 0) (u8 wB zd))))))))) zj) (za (zv (zi z5 (pit 0) zx (zk _)) (zc (zf (zI (pa1 (zo (pa2 (ze o49x hr rfl (pa3 (pv 2) (pe_i zW (pil 1) zd) zd)) (pv 3))))))) zj) (za (zv (zi z5 (pit 0) zx (zk _)) (zc (zf (zI (pa1 (zo (pa2 (pv 2) (ze o49x hr rfl (pa3 (pv 3) (pe_i zW (pil 1) zd) zd)))))))) zj) (za (zv (zi z5 (pit 0) zx (zk _)) (zc (zf (zI (pa1 (zo (pa2 (ze o50x hr rfl (pa3 (pv 2) zd (pit 0))) (ze o50x hr rfl (pa3 (pv 3) (pit 0) zd)))))))) zj) (za (zv (zi z5 (pit 0) zx (zk _)) (zc (zf (zI (pa1 (zo (pa2 (ze o50x hr rfl (pa3 (pv 2) (pit 0) zd)) (ze o50x hr rfl (pa3 (pv 3) zd (pit 0))))))))) zj) (zc (zf (zI (pa1 (zo (pa2 (pv 3) (pv 2)))))))))))))),?_⟩;walk_at "s";cases e with
  | cut al n s =>
    obtain ⟨pq,h0,hs⟩:=he;have ga:al=al:=rfl;cases al
    all_goals
      simp [DdAt,Dd.wd] at h0;have ha:H a=some (.lst [.ref c.p]):=ha;have ct:=hc.t;have ct':=hc'.t;first
       | have:false=false:=ga
       | (walk_at "r"
          refine ifn ?_)
      exists if_d (λ_=>?_) (λc=>absurd rfl c);walk_at "r";obtain ⟨f1,f2,f3,f4⟩:=hf;refine zw (!1) λr1 H1 hr1 s1 e1=>?_;have h0:=s1 _ _ h0;walk_at "r";first
       | (have:false=false:=ga
          refine yN rfl (s1 _ _ hc.w) (s1 _ _ hs) f1 f2 (!3) λr2 H2 s2 e2=>?_)
       | refine yN rfl (s1 _ _ hc.h) (s1 _ _ hs) f1 f2 (!3) λr2 H2 s2 e2=>?_
      rw [CY] at e2;exists zw (!1) λr3 H3 hr3 s3 e3=>?_;exists zy (!1) λr HL nr sL eL=>?_;have t4:=((s1.trans s2).trans s3).trans sL;first
       | (have:false=false:=ga
          refine q r [⟨r1,pq,c.ph,⟨s,c.b.h⟩⟩,⟨r3,r2,c.ph,⟨tkS c.b.w s,c.b.h⟩⟩] HL t4 (Same.nn ((s1.trans s2).trans s3) nr) eL (λx hx=>?_) rfl)
       | refine q r [⟨r1,c.pw,pq,⟨c.b.w,s⟩⟩,⟨r3,c.pw,r2,⟨c.b.w,tkS c.b.h s⟩⟩] HL t4 (Same.nn ((s1.trans s2).trans s3) nr) eL (λx hx=>?_) rfl
      rcases aN.mp hx with rfl|hx;first
       | (have:false=false:=ga
          . exact ⟨sL _ _ (s3 _ _ (s2 _ _ e1)),t4 _ _ hs,t4 _ _ hc.h⟩
          . rw [ak.mp hx]; exact ⟨sL _ _ e3,sL _ _ (s3 _ _ e2),t4 _ _ hc.h⟩)
       | (· exact ⟨sL _ _ (s3 _ _ (s2 _ _ e1)),t4 _ _ hc.w,t4 _ _ hs⟩
          . rw [ak.mp hx]; exact ⟨sL _ _ e3,t4 _ _ hc.w,sL _ _ (s3 _ _ e2)⟩)
  | glue al n m =>
    have h0:=he;have ga:al=al:=rfl;cases al
    all_goals
      simp [DdAt,Dd.wd] at h0;have ha:H a=some (.lst [.ref c.p,.ref c'.p]):=ha;have ct:=hc.t;have ct':=hc'.t;exists ifn ?_;exists ifn ?_;walk_at "r";first
       | have:false=false:=ga
       | (refine ifn ?_
          walk_at "r")
      refine if_d (λ_=>?_) (λc=>absurd rfl c);walk_at "r";first
       | (have:false=false:=ga
          refine yN rfl hc.w hc'.w hf.2.1 hf.2.2 (!3) λr2 H2 s2 e2=>?_)
       | refine yN rfl hc.h hc'.h hf.2.1 hf.2.2 (!3) λr2 H2 s2 e2=>?_
      rw [IJ] at e2;exists zw (!1) λrc HC nc sC eC=>?_;exists zy (!1) λr HL nr sL eL=>?_;first
       | (have:false=false:=ga
          refine q r [⟨rc,r2,c.ph,⟨adS c.b.w c'.b.w,c.b.h⟩⟩] HL ((s2.trans sC).trans sL) (Same.nn (s2.trans sC) nr) eL (λx hx=>?_) rfl)
       | refine q r [⟨rc,c.pw,r2,⟨c.b.w,adS c.b.h c'.b.h⟩⟩] HL ((s2.trans sC).trans sL) (Same.nn (s2.trans sC) nr) eL (λx hx=>?_) rfl
      rw [ak.mp hx];first
       | (have:false=false:=ga
          exact ⟨sL _ _ eC,sL _ _ (sC _ _ e2),sL _ _ (sC _ _ (s2 _ _ hc.h))⟩)
       | exact ⟨sL _ _ eC,sL _ _ (sC _ _ (s2 _ _ hc.w)),sL _ _ (sC _ _ e2)⟩
  | shift al n k =>
    have h0:=he;have ga:al=al:=rfl;cases al
    all_goals
      simp [DdAt,Dd.wd] at h0;have ha:H a=some (.lst [.ref c.p]):=ha;have ct:=hc.t;have ct':=hc'.t;exists ifn ?_;exists ifn ?_;exists ifn ?_;exists ifn ?_;walk_at "r";first
       | have:false=false:=ga
       | (refine ifn ?_
          walk_at "r")
      refine if_d (λ_=>?_) (λc=>absurd rfl c);walk_at "r";first
       | (have:false=false:=ga
          refine yn rfl hc.w hf.2.2.1 (!3) (by have:=hf.1; lia) (hf.2.1) λr1 H1 s1 e1=>?_)
       | refine yn rfl hc.w hf.2.2.1 (hf.2.1) ⋯ (!3) λr1 H1 s1 e1=>?_
      have h0:=s1 _ _ h0;walk_at "r";first
       | (have:false=false:=ga
          refine yn rfl (s1 _ _ hc.h) hf.2.2.2 (hf.2.1) ⋯ (!3) λr2 H2 s2 e2=>?_)
       | refine yn rfl (s1 _ _ hc.h) hf.2.2.2 (!3) (by have:=hf.1; lia) (hf.2.1) λr2 H2 s2 e2=>?_
      exists zw (!1) λrc HC nc sC eC=>?_;exists zy (!1) λr HL nr sL eL=>?_;first
       | (have:false=false:=ga
          refine q r [⟨rc,r1,r2,⟨shS c.b.w 1 k,shS c.b.h k 1⟩⟩] HL (((s1.trans s2).trans sC).trans sL) (Same.nn ((s1.trans s2).trans sC) nr) eL (λx hx=>?_) rfl)
       | refine q r [⟨rc,r1,r2,⟨shS c.b.w k 1,shS c.b.h 1 k⟩⟩] HL (((s1.trans s2).trans sC).trans sL) (Same.nn ((s1.trans s2).trans sC) nr) eL (λx hx=>?_) rfl
      rw [ak.mp hx];exact ⟨sL _ _ eC,sL _ _ (sC _ _ (s2 _ _ e1)),sL _ _ (sC _ _ e2)⟩
  | turn n =>
    have h0:=he;have h0:H p=some (.tup [.str (Str.ofString "turn"),.int n]):=h0;have ha:H a=some (.lst [.ref c.p]):=ha;have ct:=hc.t;have ct':=hc'.t;exists ifn ?_;exists ifn ?_;exists ifn ?_;exists ifn ?_;exists ifn ?_;exists ifn ?_;exists zw (!1) λrc HC nc sC eC=>?_;exists zy (!1) λr HL nr sL eL=>?_;refine q r [⟨rc,c.ph,c.pw,⟨c.b.h,c.b.w⟩⟩] HL (((Same.refl H).trans sC).trans sL) (Same.nn ((Same.refl H).trans sC) nr) eL (λx hx=>?_) rfl;rw [ak.mp hx];exact ⟨sL _ _ eC,sL _ _ (sC _ _ hc.h),sL _ _ (sC _ _ hc.w)⟩
theorem K56(F:Fun K "serving" "serving" S16 f fd)(B:Bl mg)(o11x:Own P w K mg base 3 "first_base" ["d","n"] [] P39)(o15x:Own P w K mg base 2 "common_bottom" ["lengths"] [] (P26 K))(o12x:Own P w K mg base 4 "next_base" ["d","base"] [] P48)(o3x:O3x P w K mg base)(o14x:O14x P w K mg base):FnOk P w K mg base CX0 5 f fd ["d","lengths"] (P56 K):=by
  refine F.okA C59 λcdv A outer s H vs Q E hr h=>?_;obtain @⟨d,p,L,k,rfl,hL,hR,hlen,hF,hNb,q⟩:=h;refine ⟨_,(za (ps_s 2 C59.nd (ze o11x hr rfl (pa2 (pv 0) zd))) (za (zV PassesOwn.never rfl (zG (pv 1)) (pg_n 3 C59.nd) (za (ps_s 4 C59.nd (zo (pa3 (pit 3) (pit 3) zd))) (zc (uE PassesOwn.never (zi uN (zm (Fe rfl) rfl B.min Km (pa1 (ze o14x hr rfl (pa3 (pv 0) (pv 2) (pv 4))))) zd (zk _)) (zc (ps_s 2 C59.nd (ze o12x hr rfl (pa2 (pv 0) (pv 2))))))))) (za (ps_s 5 C59.nd (ze o15x hr rfl (pa1 (pv 1)))) (zc (zf (zQ CU rfl B.tuple xJ (pa1 (ye ["side"] [5] rfl (GW (pv 2)) (λ_ _ _ _ _=>(pg_n 0 (show List.Nodup (α:=Str) ["side","bottom"] by decide +kernel))) (λ_ _ _ _ _=>zP) (λ_ _ _ _ _=>(ze o3x hr rfl (pa3 (pe_i (r:=rIxT K) zW (pv 0) zd) (pe_i (r:=rIxT K) zW (pv 0) zd) (pv 1)))))))))))),?_⟩;walk_at "s";obtain ⟨N1,_,_⟩:=ED (JO hL.ok);obtain ⟨ups,bds⟩:=IE hL.ok;have gK:=Fst.gb hR ⋯ hF ups bds;exists t8 rfl ⋯ (!3) λp0 a1 a2 H1 s1 f1=>?_;exists yU ?_;exists ⟨p,rfl,⟨_,SqL.of (hL.same s1).l⟩,z8 (K:=K) (a:=p) (xs:=L.map Ln.v) (λi σ H'=>E7 λ(pb r1 r2:Addr) (n:Nat) (v3 v4 v5:Option V)=>A4 (σ=[vI d,vR p,vR pb,v3,v4,v5]) (Same H1 H') (BsAt H' pb r1 r2 (st d n) 1) (Fst d ((L.take i).map Ln.u) n)) ⟨p0,a1,a2,0,_,_,_,rfl,Same.refl _,f1,λu hu=>absurd hu (!1),λn hn=>absurd hn (!2)⟩ (λi σ H' _ z'=>by obtain ⟨_,_,_,_,_,_,_,_,s,_⟩:=z'; exact SqL.of ((hL.same s1).same s).l) ?_ ?_⟩
  . rintro i y σ H' hi ⟨pb,r1,r2,n,v3,v4,v5,rfl,si,fb,hn⟩;obtain ⟨c,rfl,hc,hic⟩:=Jn hi;have e0:H' c.p=some (.tup [.int c.s.x,.int c.s.y,.int c.s.z]):=si _ _ (s1 _ _ (hL.at' c hc));have ok:=hL.ok c hc;obtain ⟨ups',bds'⟩:=IE (HP hL.ok (i+1));obtain ⟨M,hM⟩:=Gs hR ups';rw [Be hic] at hM ups' bds';have ucM:c.u∈(L.take i).map Ln.u++[c.u]:=by simp
    have hnM:n<=M:=by
      refine Nat.not_lt.mp λz=>?_;obtain ⟨u,hu,nu⟩:=hn.2 M z;exact nu (hM.1 u (cf _ hu))
    exists zC (!1) λt H2 s2 e2=>?_;obtain ⟨o1,o2,o3⟩:=Bp c.s.x c.s.y;have e2':H2 t=some (.tup [.int (lA c.s.x c.s.y 1),.int (lB c.s.x c.s.y 1),.int (lN c.s.x c.s.y 1)]):=by rw [o1,o2,o3]; exact e2
    exists Id (λm σ H'=>E4 λ(pb r1 r2:Addr) (n:Nat)=>A5 (σ=[vI d,vR p,vR pb,vR c.p,vR t,v5]) (Same H2 H') (BsAt H' pb r1 r2 (st d n) 1) (n+m=M) (∀ u∈(L.take i).map Ln.u,(st d n).srv u.1 u.2)) ⟨M - n,pb,r1,r2,n,rfl,Same.refl _,fb.same s2,by lia,hn.1⟩ ?_;rintro m σ H3 ⟨pb,r1,r2,n,rfl,s3,fb,hm,hs⟩;have g:GB d 900 (st d n):=(Fst.gb_le hR (k:=700) ⋯ hM (show n<=M by lia) ups' bds').mono ⋯;exists BI fb (s3 _ _ e2') ⋯ (!3) g (ok.bx.mono ⋯) (ok.by'.mono ⋯) λr H4 s4 e4=>?_;exists IK e4 λw hw w1 w2=>?_;have hw0:=HD hw w1 w2;exists if_d (λcc=>?_) (λcc=>?_)
    . have ns:¬ (st d n).srv c.u.1 c.u.2:=hw0.mp cc;have lt:n<M:=by
        refine Nat.not_le.mp λz=>?_;exact ns (EF (hM.1 c.u ucM) z)
      refine wgn ?_;exists Bw rfl (fb.same s4) hR ⋯ (!3) g λpb' r1' r2' H5 s5 f5=>?_;walk_at "r";exact ⟨m - 1,by lia,pb',r1',r2',n+1,rfl,(s3.trans s4).trans s5,f5,by lia,λu hu=>GP d (hs u hu)⟩
    . have sv:(st d n).srv c.u.1 c.u.2:=fK λz=>cc (hw0.mpr z);have all:∀ u∈(L.take i).map Ln.u++[c.u],(st d n).srv u.1 u.2:=λu hu=>by
        rcases aw.mp hu with z|z
        . exact hs u z
        . have:u=c.u:=by simpa using z
          subst this;exact sv
      have eq:n=M:=by
        refine Nat.le_antisymm (!2) (Nat.not_lt.mp λz=>?_);obtain ⟨u,hu,nu⟩:=hM.2 n z;exact nu (all u hu)
      exists ⟨pb,r1,r2,n,_,_,_,rfl,((si.trans s2).trans s3).trans s4,fb.same s4,?_⟩;rw [Be hic,eq];exact hM
  . rintro σ H' ⟨pb,r1,r2,n,v3,v4,v5,rfl,si,fb,hn⟩;rw [aa,aq] at hn;have en:=hn.unique (λ_=>Iff.rfl) hF;subst en;have q1:=gK.ba;have q2:=gK.bb;have q3:=gK.bc;have q4:=gK.be;have hL':=(hL.same s1).same si;exists vo rfl hL' hlen hNb ?_;have hNb8:Bd 8000 (cbs (L.map λc=>c.s.z)):=hNb.mono ⋯;generalize cbs (L.map λc=>c.s.z)=N at *
    obtain ⟨o1,o2,o3⟩:=Bp (st d n).a (st d n).b;obtain ⟨o4,o5,o6⟩:=Bp (st d n).c (st d n).e;obtain ⟨f0,f1,f2⟩:=fb;rw [o1,o2,o3] at f1;rw [o4,o5,o6] at f2;exists D9 ?_;exists ⟨pb,rfl,⟨_,SqT.of f0⟩,λD hD=>BN (K:=K) (a:=pb) (ys:=[.ref r1,.ref r2]) (λi xs σ' H2=>E1 λ(v:Option V)=>A4 (σ'=[v,vI N]) (H2 D=some (.lst xs)) (SameX D H' H2) (((i=0/\xs=[])\/(i=1/\∃ q1,xs=[.ref q1]/\H2 q1=some (.tup [.int (lA (st d n).a (st d n).b N),.int (lB (st d n).a (st d n).b N),.int (lN (st d n).a (st d n).b N)]))\/(i=2/\∃ q1 q2,xs=[.ref q1,.ref q2]/\H2 q1=some (.tup [.int (lA (st d n).a (st d n).b N),.int (lB (st d n).a (st d n).b N),.int (lN (st d n).a (st d n).b N)])/\H2 q2=some (.tup [.int (lA (st d n).c (st d n).e N),.int (lB (st d n).c (st d n).e N),.int (lN (st d n).c (st d n).e N)]))))) ⟨none,rfl,zg,λb o e n=>by rw [zl n]; exact e,.inl ⟨rfl,rfl⟩⟩ (λi xs σ' H2 _ z=>by obtain ⟨v,_,_,z,_⟩:=z; exact SqT.of (z _ _ f0 (zb f0 hD))) ?_ ?_⟩
    . rintro i x xs σ' H2 hi ⟨v,rfl,eD,sx,hx⟩;have k1:H2 r1=some (.tup [.int (st d n).a,.int (st d n).b,.int 1]):=sx _ _ f1 (zb f1 hD);have k2:H2 r2=some (.tup [.int (st d n).c,.int (st d n).e,.int 1]):=sx _ _ f2 (zb f2 hD);have hi':=(af.mp hi).1;rcases hx with ⟨rfl,rfl⟩|⟨rfl,q1,rfl,hq1⟩|⟨rfl,_⟩
      . obtain rfl:V.ref r1=x:=ax hi;exists yT rfl (!2) hNb8 λt H3 s3 e3=>?_;have eD3:=s3 _ _ eD;refine zp eD3 (!1) λH4 sx4 e4=>?_;exact yv hi' ⟨_,rfl,e4,(sx.trans (s3.sameX D)).trans sx4,.inr (.inl ⟨rfl,t,rfl,sx4.tup e3 eD3⟩)⟩
      . obtain rfl:V.ref r2=x:=ax hi;exists yT rfl (!2) hNb8 λt H3 s3 e3=>?_;have eD3:=s3 _ _ eD;refine zp eD3 (!1) λH4 sx4 e4=>?_;exact yv hi' ⟨_,rfl,e4,(sx.trans (s3.sameX D)).trans sx4,.inr (.inr ⟨rfl,q1,t,rfl,sx4.tup (s3 _ _ hq1) eD3,sx4.tup e3 eD3⟩)⟩
      . exact absurd hi' (!1)
    . rintro xs σ' H2 ⟨v,rfl,eD,sx,hx⟩;rcases hx with ⟨h0,_⟩|⟨h0,_⟩|⟨_,q1,q2,rfl,hq1,hq2⟩
      . exact absurd h0 (!1)
      . exact absurd h0 (!1)
      have sD:Same H' H2:=λb o e=>sx b o e (zb e hD);exists JF eD λt H3 s3 e3=>?_;exact q t q1 q2 H3 (((s1.trans si).trans sD).trans s3) ⟨e3,s3 _ _ hq1,s3 _ _ hq2⟩
theorem K57(F:Fun K "normal_plan" "normal_plan" S18 f fd)(B:Bl mg)(o19x:Own P w K mg base 1 "gathering" ["pieces","unused"] [] P5)(o14x:O14x P w K mg base)(o17x:Own P w K mg base 4 "times_over" ["d","many","one"] [] P49):FnOk P w K mg base CX0 5 f fd ["d","heap","base"] P57:=by
  refine F.okA C60 λcdv A outer s H vs Q E hr h=>?_;obtain @⟨d,d',p,pb,r1,r2,s',N,D,px,py,C,hb,rfl,hl,hA,fb,hN,hNb,gb,hlen,h60,hd,hD,hP,okP,hc,q⟩:=h;refine ⟨_,(za (ps_s 3 C60.nd (zI yl)) (za (ps_s 4 C60.nd (zI yl)) (za (ps_s 5 C60.nd (zI yl)) (za (ps_s 6 C60.nd (zm zt rfl B.len aV (pa1 (pv 1)))) (za (zV PassesOwn.never rfl (tG rfl B.enumerate (pa1 (pv 1))) (xR (n:=2) rfl (zH (pg_n 7 C60.nd) (zH (pg_n 8 C60.nd) xb))) (za (ps_s 9 C60.nd (ze o14x hr rfl (pa3 (pv 0) (pv 2) (pit 8)))) (zc (zv (zi z5 (pit 9) zd (zk _)) (zc (zL (xO aJ aQ aR zE (pv 4) (pa1 (zo (pa2 (pv 7) (pit 9))))))) (zc (zv (zi z5 (pit 9) zd (zk _)) (zc (zL (xO aJ aQ aR zE (pv 5) (pa1 (zo (pa2 (pv 7) (pit 9))))))) (za (zL (xO aJ aQ aR zE (pv 3) (pa1 (zo (pa3 zx (pv 7) (ze o17x hr rfl (pa3 (pv 0) (pit 9) (pit 2)))))))) (za (zL (xO aJ aQ aR zE (pv 4) (pa1 (zo (pa2 (pv 6) (pit 9)))))) (za (zL (xO aJ aQ aR zE (pv 5) (pa1 (zo (pa2 (zh zF (pv 6) zd) (pit 9)))))) (zc (ps_s 6 C60.nd (zh zF (pv 6) zd)))))))))))) (za (ps_s 10 C60.nd (ze o19x hr rfl (pa2 (pv 4) (pv 6)))) (zc (zf (zh B1 (zh B1 (pv 3) (pv 10)) (ze o19x hr rfl (pa2 (pv 5) (zh zF (pv 6) (zm zt rfl B.len aV (pa1 (pv 10))))))))))))))),?_⟩;walk_at "s";exists zy (!1) λDD H1 nD s1 e1=>?_;exists zy (!1) λFF H2 nF s2 e2=>?_;exists zy (!1) λOO H3 nO s3 e3=>?_;have z3:=(s1.trans s2).trans s3;have hl3:=z3 _ _ hl;have DF:DD≠FF:=zb e1 nF;have DO:DD≠OO:=zb (s2 _ _ e1) nO;have FO:FF≠OO:=zb e2 nO;have pD:p≠DD:=zb hl nD;have pF:p≠FF:=zb (s1 _ _ hl) nF;have pO:p≠OO:=zb ((s1.trans s2) _ _ hl) nO;exists BV ?_;walk_at "r";rw [aa,hlen];refine ⟨p,_,rfl,SqL.of hl3,vh (K:=K) (a:=p) (xs:=C.map Cell.v) (λt σ H'=>E6 λ(v1 v2 v3:Option V) (ps fs os:List Addr)=>A6 (σ=[vI d,vR p,vR pb,vR DD,vR FF,vR OO,vI ((np1 D px py hb.length hb t).u:Int),v1,v2,v3,none]) ((H' DD=some (.lst (ps.map V.ref))/\Runs H' ps (np1 D px py hb.length hb t).ds/\ps.length<=t)) ((H' FF=some (.lst (fs.map V.ref))/\PcAt H' fs (np1 D px py hb.length hb t).F/\fs.length<=t)) ((H' OO=some (.lst (os.map V.ref))/\PcAt H' os (np1 D px py hb.length hb t).O/\os.length<=t)) ((np1 D px py hb.length hb t).u<=hb.length+2*t) (∀ b o,H3 b=some o->b≠DD->b≠FF->b≠OO->H' b=some o)) ⟨_,_,_,[],[],[],rfl,⟨s3 _ _ (s2 _ _ e1),⟨rfl,λi p x h=>by simp at h⟩,ai _⟩,⟨s3 _ _ e2,⟨rfl,λi p x h=>by simp at h⟩,ai _⟩,⟨e3,⟨rfl,λi p x h=>by simp at h⟩,ai _⟩,ai _,λb o e _ _ _=>e⟩ (λt σ H' _ z=>by obtain ⟨_,_,_,_,_,_,_,_,_,_,_,z⟩:=z; exact SqL.of (z _ _ hl3 pD pF pO)) ?_ ?_⟩
  . rintro t x T σ H' ht hT ⟨v1,v2,v3,ps,fs,os,rfl,⟨eD,hrun,pl⟩,⟨eF,hF,fl⟩,⟨eO,hO,ol⟩,hu,fr⟩;obtain ⟨c,rfl,hcm,htc⟩:=uU ht;have ht':t<hb.length:=by rw [<-hlen]; exact (af.mp htc).1
    obtain ⟨b,hbt⟩:∃ b,hb[t]?=some b:=⟨_,ae ht'⟩
    obtain ⟨X,Y,hw,bX,bY,hi,hj,bi⟩:=hc t c b htc hbt;have tk3:TupK H3 H':=λb xs e=>fr _ _ e (ya e (s3 _ _ (s2 _ _ e1)) (λz=>nomatch z)) (ya e (s3 _ _ e2) (λz=>nomatch z)) (ya e e3 (λz=>nomatch z));have eq:np1 D px py hb.length hb (t+1)=if b.j=0 then ⟨(np1 D px py hb.length hb t).ds,(np1 D px py hb.length hb t).F++[⟨t,b.i,b.x,b.y⟩],(np1 D px py hb.length hb t).O,(np1 D px py hb.length hb t).u⟩
      else if b.i=0 then ⟨(np1 D px py hb.length hb t).ds,(np1 D px py hb.length hb t).F,(np1 D px py hb.length hb t).O++[⟨t,b.j,b.x,b.y⟩],(np1 D px py hb.length hb t).u⟩
      else ⟨(np1 D px py hb.length hb t).ds++[(.cut false t (sdO D (px*b.i) (py*b.i)),t,t)],(np1 D px py hb.length hb t).F++[⟨(np1 D px py hb.length hb t).u,b.i,b.x,b.y⟩],(np1 D px py hb.length hb t).O++[⟨(np1 D px py hb.length hb t).u+1,b.j,b.x,b.y⟩],(np1 D px py hb.length hb t).u+2⟩:=by
      show (match hb[t]? with | none=>_ | some b=>_)=_;rw [hbt]
    rw [eq];generalize np1 D px py hb.length hb t=r at *
    have tkT:TupK H' (upd H' T (.tup [.int (t:Int),.ref c.p])):=λb xs e=>by rw [zl (zb e hT)]; exact e
    have sT:Same H' (upd H' T (.tup [.int (t:Int),.ref c.p])):=zD hT _;have eT:(upd H' T (.tup [.int (t:Int),.ref c.p])) T=some (.tup [.int (t:Int),.ref c.p]):=zg;generalize upd H' T (.tup [.int (t:Int),.ref c.p])=G at eT sT tkT ⊢;have tkG:TupK H3 G:=λb xs e=>tkT _ _ (tk3 _ _ e);have cA:=(hA c hcm).same z3;have ct:=tkG _ _ cA.t;have cw:G c.pw=some (.tup [.int (lA X Y N),.int (lB X Y N),.int (lN X Y N)]):=tkG _ _ (by have:=cA.w; rw [hw] at this; exact this);have fbG:BsAt G pb r1 r2 s' N:=⟨tkG _ _ (fb.same z3).t,tkG _ _ (fb.same z3).f,tkG _ _ (fb.same z3).g⟩
    exists BI fbG cw hN hNb gb bX bY λr4 G1 t1 e4=>?_;rw [<-hi,<-hj] at e4;have sG1:=sT.trans t1;have eD1:=sG1 _ _ eD;have eF1:=sG1 _ _ eF;have eO1:=sG1 _ _ eO;exists if_d (λcj=>?_) (λcj=>?_)
    . rw [h8 cj];exists zw (!1) λk1 G2 nk tk2 ek=>?_;have eF2:=tk2 _ _ (sG1 _ _ eF);exists zp eF2 (by rw [aa]; lia) λG3 x3 e5=>?_;have s02:=sG1.trans tk2;have tkA:TupK H' G3:=λb xs e=>x3.tup (s02 _ _ e) eF2;exists ⟨_,_,_,ps,fs++[k1],os,rfl,⟨x3 _ _ (s02 _ _ eD) DF,hrun.tk tkA,by lia⟩,⟨by rw [aj]; exact e5,(hF.tk tkA).snoc (x3.tup ek eF2),by rw [ah]; simp only [au,aP]; lia⟩,⟨x3 _ _ (s02 _ _ eO) (bZ FO),hO.tk tkA,by lia⟩,by show r.u<=_; lia,λb o e n1 n2 n3=>x3 _ _ (s02 _ _ (fr _ _ e n1 n2 n3)) n2⟩
    . rw [h9 cj];exists if_d (λci=>?_) (λci=>?_)
      . rw [h8 ci];exists zw (!1) λk1 G2 nk tk2 ek=>?_;have eO2:=tk2 _ _ (sG1 _ _ eO);exists zp eO2 (by rw [aa]; lia) λG3 x3 e5=>?_;have s02:=sG1.trans tk2;have tkA:TupK H' G3:=λb xs e=>x3.tup (s02 _ _ e) eO2;exists ⟨_,_,_,ps,fs,os++[k1],rfl,⟨x3 _ _ (s02 _ _ eD) DO,hrun.tk tkA,by lia⟩,⟨x3 _ _ (s02 _ _ eF) FO,hF.tk tkA,by lia⟩,⟨by rw [aj]; exact e5,(hO.tk tkA).snoc (x3.tup ek eO2),by rw [ah]; simp only [au,aP]; lia⟩,by show r.u<=_; lia,λb o e n1 n2 n3=>x3 _ _ (s02 _ _ (fr _ _ e n1 n2 n3)) n3⟩
      . rw [h9 ci];have bt1:=t1 _ _ fbG.t;have bf1:SdAt G1 r1 (bw1 s' N):=t1 _ _ fbG.f;exists t9 rfl bf1 hd bi okP λra G2 t2 ea=>?_;rw [hP,JE hD] at ea;have e42:=t2 _ _ e4;exists zw (!1) λk1 G3 nk t3 ek=>?_;have s03:=(sG1.trans t2).trans t3;have eD3:=s03 _ _ eD;have e43:=t3 _ _ e42;exists zp eD3 (by rw [aa]; lia) λG4 x4 e5=>?_;have e44:=x4.tup e43 eD3;have ek4:DdAt G4 k1 (.cut false t (sdO D (px*b.i) (py*b.i))):=⟨ra,x4.tup ek eD3,x4.tup (t3 _ _ ea) eD3⟩
        have eF4:=x4 _ _ (s03 _ _ eF) (bZ DF);exists zw (!1) λk2 G5 nk2 t5 ek2=>?_;have eF5:=t5 _ _ (x4 _ _ (s03 _ _ eF) (bZ DF));have e45:=t5 _ _ e44;exists zp eF5 (by rw [aa]; lia) λG6 x6 e7=>?_;have e46:=x6.tup e45 eF5;have eO6:=x6 _ _ (t5 _ _ (x4 _ _ (s03 _ _ eO) (bZ DO))) (bZ FO);exists zw (!1) λk3 G7 nk3 t7 ek3=>?_;have eO7:=t7 _ _ (x6 _ _ (t5 _ _ (x4 _ _ (s03 _ _ eO) (bZ DO))) (bZ FO));exists zp eO7 (by rw [aa]; lia) λG8 x8 e9=>?_;have tkA:TupK H' G8:=λb xs e=>x8.tup (t7 _ _ (x6.tup (t5 _ _ (x4.tup (s03 _ _ e) eD3)) eF5)) eO7;have tkB:TupK G4 G8:=λb xs e=>x8.tup (t7 _ _ (x6.tup (t5 _ _ e) eF5)) eO7;have tkC:TupK G5 G8:=λb xs e=>x8.tup (t7 _ _ (x6.tup e eF5)) eO7;exists ⟨_,_,_,ps++[k1],fs++[k2],os++[k3],by rw [show ((r.u:Nat):Int)+2=((r.u+2:Nat):Int) by lia],⟨by rw [aj]; exact x8 _ _ (t7 _ _ (x6 _ _ (t5 _ _ e5) DF)) DO,xA (hrun.tk tkA) (ek4.tk tkB),by rw [ah]; simp only [au,aP]; lia⟩,⟨by rw [aj]; exact x8 _ _ (t7 _ _ e7) FO,(hF.tk tkA).snoc (tkC _ _ ek2),by rw [ah]; simp only [au,aP]; lia⟩,⟨by rw [aj]; exact e9,(hO.tk tkA).snoc (x8.tup (by rw [show ((r.u:Nat):Int)+1=((r.u+1:Nat):Int) by lia] at ek3; exact ek3) eO7),by rw [ah]; simp only [au,aP]; lia⟩,by show r.u+2<=_; lia,λb o e n1 n2 n3=>x8 _ _ (t7 _ _ (x6 _ _ (t5 _ _ (x4 _ _ (s03 _ _ (fr _ _ e n1 n2 n3)) n1)) n2)) n3⟩
  rintro σ H5 ⟨v1,v2,v3,ps,fs,os,rfl,⟨eD,hrun,pl⟩,⟨eF,hF,fl⟩,⟨eO,hO,ol⟩,hu,fr⟩;rw [aa,hlen] at hrun hF hO hu pl fl ol;rw [aa,hlen];have s05:Same H H5:=λb o e=>fr _ _ (z3 _ _ e) (zb e nD) (zb (s1 _ _ e) nF) (zb ((s1.trans s2) _ _ e) nO);have q':∀ (r:Addr) (ps:List Addr) (H':Hp),Same H H'->H r=none->H' r=some (.lst (ps.map V.ref))->Runs H' ps (npl D px py hb)->Q (.ref r) H':=q;unfold npl at q';generalize np1 D px py hb.length hb hb.length=r at *
  have lF:=hF.1;have lO:=hO.1;have glF:=wF (u:=r.u) (pc:=r.F) (ai _);have glO:=wF (u:=r.u+(2*r.F.length - 1)) (pc:=r.O) (ai _);exists vM rfl eF hF (!2) (!2) λra pa G1 t1 na ea hra=>?_;have lpa:pa.length=2*r.F.length - 1:=hra.1.trans glF;exists Ke (t1 _ _ eD) ea (by simp only [aa]; lia) λo2 G2 t2 e2'=>?_;have eO2:=(t1.trans t2) _ _ eO;have ea2:=t2 _ _ ea;walk_at "r";have hlen2:((r.u:Nat):Int)+(((pa.map V.ref).length:Nat):Int)=((r.u+(2*r.F.length - 1):Nat):Int):=by rw [aa,lpa]; lia
  rw [hlen2];refine vM rfl eO2 (hO.tk λb xs e=>(t1.trans t2) _ _ e) (!2) (!2) λrb pb' G3 t3 nb eb hrb=>?_;have lpb:pb'.length=2*r.O.length - 1:=hrb.1.trans glO;exists Gv (t3 _ _ e2') eb (by simp only [ah,aa]; lia) λo4 G4 n4 t4 e4=>?_;refine q' o4 (ps++(pa++pb')) G4 (((s05.trans t1).trans t2).trans (t3.trans t4)) (Same.nn (((s05.trans t1).trans t2).trans t3) n4) (by rw [e4]; simp only [aj,bB]) ?_;exact BA ((((hrun.same t1).same t2).same t3).same t4) (BA (((hra.same t2).same t3).same t4) (hrb.same t4))
theorem K58(F:Fun K "table" "table" S37 f fd)(B:Bl mg)(g_EMPTY:TopE K mg "EMPTY")(o39x:Own P w K mg base 3 "together" ["one","other"] [] (P44 K))(o38x:Own P w K mg base 4 "board_table" ["one"] [] P52):FnOk P w K mg base CX0 5 f fd ["heap"] (P58 K):=by
  obtain ⟨a_EMPTY,m_EMPTY,q_EMPTY⟩:=g_EMPTY;refine F.okA C61 λcdv A outer s H vs Q E hr h=>?_;obtain @⟨p,L,d,D,M,n,K',rfl,hL,hn,⟨hD,bD,kK,kM⟩,q⟩:=h;refine ⟨_,(za (ps_s 1 C61.nd (yR (v:=.ref a_EMPTY) rfl m_EMPTY rfl)) (za (zV PassesOwn.never rfl (zG (pv 0)) (pg_n 2 C61.nd) (zc (ps_s 1 C61.nd (ze o39x hr rfl (pa2 (pv 1) (ze o38x hr rfl (pa1 (pv 2)))))))) (zc (zf (pv 1))))),?_⟩;walk_at "s";have h1:=hL.l;exists yU ?_;exists ⟨p,rfl,⟨_,SqL.of h1⟩,z8 (K:=K) (a:=p) (xs:=L.map Cell.v) (λi σ H'=>E2 λ(r:Addr) (v:Option V)=>A4 (σ=[vR p,vR r,v]) (Same H H') ((∃ r0 r1 f0 f1 f2 f3:Addr,TbS K H' r r0 r1 f0 f1 f2 f3 (tbs ((L.take i).map Cell.b)))) ((0<i->TbAt H' r (tbs ((L.take i).map Cell.b))))) ⟨a_EMPTY,_,rfl,Same.refl _,q_EMPTY H,λz=>absurd z ⋯⟩ (λi σ H' _ z'=>by obtain ⟨_,_,_,s,_⟩:=z'; exact SqL.of (s _ _ h1)) ?_ ?_⟩
  . rintro i t σ H' hi ⟨r,v,rfl,s,⟨r0,r1,f0,f1,f2,f3,hT⟩,_⟩;obtain ⟨c,rfl,hc,hci⟩:=uU hi;have bt:=IY (d:=d) (n:=40) (l:=(L.take i).map Cell.b) (λb hb=>by
      obtain ⟨c,hc,rfl⟩:=aY.mp hb;exact hL.ok c (bO hc)) hD bD (by
        rw [aa,aK];have:=hL.len
        lia)
    have sk:=hL.sk hD bD kK kM c hc;have bc:c.b.tb.Bt 860 680:=((hL.ok c hc).tb hD).bt (aI (!2) (!2)) (bD.mul bD) |>.mono (!2) (!2);exists tK rfl ((hL.at' c hc).same s) sk λr2 H2 s2 e2=>?_;exists CQ rfl ⟨r0,r1,f0,f1,f2,f3,hT.same s2⟩ e2 (bt.mono (!2) (!2)) (bc.mono ⋯ ⋯) λr3 H3 s3 e3=>?_;have e3:=e3.eq (u:=tbs ((L.take (i+1)).map Cell.b)) (by rw [Cp hci,Gh]);exists ⟨r3,_,rfl,(s.trans s2).trans s3,?_,λ_=>e3⟩;obtain ⟨r0,r1,f0,f1,f2,f3,e3⟩:=e3;exact ⟨r0,r1,f0,f1,f2,f3,e3.s⟩
  . rintro σ H' ⟨r,v,rfl,s,_,hT⟩;rw [aa] at hT;have hpos:0<L.length:=bu.mpr hL.ne;have hT:=hT hpos;rw [aq] at hT;walk_at "r";exact q r H' s hT
theorem K59(F:Fun K "_law_at" "_law_at" S56 f fd)(B:Bl mg)(o50x:O50x P w K mg base)(o51x:O51x P w K mg base):FnOk P w K mg base CX0 5 f fd ["_law_d","_law_digits_here","_law_side_here","_law_pool"] P59:=by
  refine F.okA C62 λcdv A outer s H vs Q E hr h=>?_;obtain @⟨d,l,p,qa,ds,s,P,D,M,K',rfl,hl,n8,hds,h1,so,hP,oP,zz,hR,q⟩:=h;refine ⟨_,(za (ps_s 4 C62.nd (pe_i zK (pv 3) (zh zM (pil 1) zd))) (za (zv (PW.pt (xk (zi z5 (zh zM (pil 1) zd) zd (zk _)) (yI (zU (ze o51x hr rfl (pa3 (pv 0) (pv 4) (pv 2))))))) (zc (zf (pv 4))) zj) (za (ps_s 5 C62.nd (zh zF zd (zh zM (pil 1) zd))) (zc (zf (ze o50x hr rfl (pa3 (pv 2) (zh zF zd (zh zM (pil 1) (zh yV (pv 5) zd))) (pv 5)))))))),?_⟩;walk_at "s";have dlo:=hR.lo;have hd:Bd 64 d:=zR (B:=99) (!2) hR.hi (!3);have sk:SY s:=zz.sy so;obtain ⟨x3,g3',a3,b3⟩:=dig n8 hds 3 ⋯ ⋯;obtain ⟨x4,g4,a4,b4⟩:=dig n8 hds 4 ⋯ ⋯;obtain ⟨x5,g5,a5,b5⟩:=dig n8 hds 5 ⋯ ⋯;obtain ⟨x6,g6,a6,b6⟩:=dig n8 hds 6 ⋯ ⋯;obtain ⟨y,hy,gy,ey⟩:=hP.get (i:=x3 % 3) (!2) (!2);have oy:=oP y hy;have hPl:=hP.l;have fin:∀ (r:Addr) (H':Hp),Same H H'->SdAt H' r (shS s (1+x6 % (2+x5 % 50 - 1)) (2+x5 % 50))->Q (.ref r) H':=λr H' s' e=>by
    have h4:=b8 x6 (show 2+x5 % 50 - 1≠0 by lia);have h5:=cg x6 (show 0<2+x5 % 50 - 1 by lia);generalize x6 % (2+x5 % 50 - 1)=t at *
    have hk:2<=2+x5 % 50/\2+x5 % 50<=51:=by lia
    generalize 2+x5 % 50=k at *
    exact q r H' _ k s' e (!2) (zR (B:=51) (!2) (!2) ⋯) ((Ik hR so (!2) (!2) (zR (k:=6) (B:=51) (!2) (!2) ⋯)).mono (!2)) (Lk hR so.z1 so.up (!2) (!2))
  repeat (first | walk_at "rd" | refine zu hl g3' ?_ | refine zu hl g4 ?_ | refine zu hPl gy ?_)
  refine if_d (λc1=>?_) (λc1=>?_)
  . exists yW rfl ey h1 (zz.sy oy) sk hd λH1 s1=>?_;have hl:=s1 _ _ hl;exists if_d (λc2=>?_) (λc2=>?_)
    . walk_at "r";exact q y.1 H1 y.2 1 s1 (s1 _ _ ey) ⋯ ⋯ (by rw [cC]; exact oy.mono (!2)) (Lo hR so.z1 oy.z1 c2)
    . repeat (first | walk_at "rd" | refine zu hl g5 ?_ | refine zu hl g6 ?_)
      have h4:=b8 x6 (show 2+x5 % 50 - 1≠0 by lia);have h5:=cg x6 (show 0<2+x5 % 50 - 1 by lia);repeat (first | walk_at "rd" | refine zu hl g5 ?_ | refine zu hl g6 ?_)
      refine yn rfl (s1 _ _ h1) sk (Bd.mono (xN 64 (!2) (!2) ⋯) ⋯) (!2) (Bd.mono (xN 64 (!2) (!2) ⋯) ⋯) λr Hz sz ez=>?_;exact fin r Hz (s1.trans sz) ez
  . repeat (first | walk_at "rd" | refine zu hl g5 ?_ | refine zu hl g6 ?_)
    have h4:=b8 x6 (show 2+x5 % 50 - 1≠0 by lia);have h5:=cg x6 (show 0<2+x5 % 50 - 1 by lia);repeat (first | walk_at "rd" | refine zu hl g5 ?_ | refine zu hl g6 ?_)
    refine yn rfl h1 sk (Bd.mono (xN 64 (!2) (!2) ⋯) ⋯) (!2) (Bd.mono (xN 64 (!2) (!2) ⋯) ⋯) λr Hz sz ez=>?_;exact fin r Hz (sz) ez
theorem Av:∀ {ms:List Int} {ns:List Nat},(yg ns ms).length<=ns.length
  | [],_=>ai _
  | _::ms,ns=>bK (Av (ms:=ms)) (eI ..)
theorem K60(F:Fun K "_law_done" "_law_done" S58 f fd)(B:Bl mg)(o55x:Own P w K mg base 4 "_law_new" ["_law_deed_here","_law_some"] [] P55):FnOk P w K mg base CX0 5 f fd ["_law_lying","_law_used","_law_deed_here"] P60:=by
  refine F.okA C63 λcdv A outer s H vs Q E hr h=>?_;obtain @⟨a,p,ns,f,k,d,D,M,e,n,m,rfl,hL,lt,nl,he,gd,q⟩:=h;refine ⟨_,(za (ps_s 3 C63.nd (zI (pa1 (pit 2)))) (za (vE (zv (zi yt (pit 2) (zo (pa2 zx zx)) (by with_unfolding_all rfl)) (zc (zL (xO aJ aQ aR zE (pv 3) (pa1 (pit 2))))) zj)) (za (ps_s 4 C63.nd (ze o55x hr rfl (pa2 (pv 2) (ye ["_law_name"] [0] rfl (zG (pv 3)) (λ_ _ _ _ _=>(pg_n 0 (show List.Nodup (α:=Str) ["_law_name","_law_lying"] by decide +kernel))) (λ_ _ _ _ _=>zP) (λ_ _ _ _ _=>(yJ (yS hr) (pv 1) (pv 0) (λ_ _=>rfl))))))) (za (ps_s 5 C63.nd (zQ CL rfl B.dict Bc (pa1 (pv 0)))) (za (zV PassesOwn.never rfl (zG (pv 3)) (pg_n 6 C63.nd) (zc (zL (u9 (pv 5) (pv 6) ⟨rfl,rfl,rfl,rfl⟩)))) (za (zV PassesOwn.never rfl (yh rfl B.range (pa1 (zm zt rfl B.len aV (pa1 (pv 4))))) (pg_n 7 C63.nd) (zc (xV (yS hr) (pv 5) (zh zF (pv 1) (pv 7)) (pe_i zK (pv 4) (pv 7)) rfl))) (zc (zf (zo (pa2 (pv 5) (zh zF (pv 1) (zm zt rfl B.len aV (pa1 (pv 4)))))))))))))),?_⟩;walk_at "s";obtain ⟨rs,hp⟩:=he.tup;have hcn:=hL.at' n gd.hn;have hcm:=hL.at' m gd.hm;exists xn hp (zB (j:=1) rfl) ?_;exists zy (!1) λl H1 nl1 s1 e1=>?_;exists AI (T:=λσ' H'=>σ'=[vR a,vI (k:Int),vR p,vR l,none,none,none,none]/\SameX l H1 H'/\H' l=some (.lst (e.names.map V.int))) ?_ ?_
  . clear gd q hp;cases e with
    | cut al n' s' =>
      obtain ⟨pq,h0,hs⟩:=he;cases al
      all_goals
        simp [DdAt,Dd.wd] at h0;have h0:=s1 _ _ h0;exists zC (!1) λq2 H2 s2 e2=>?_;refine wn (b:=false) e2 rfl rfl (!3) ?_;have h0:=s2 _ _ h0;have e1:=s2 _ _ e1;walk_at "r";exact ⟨rfl,s2.sameX l,e1⟩
    | glue al n' m' =>
      have h0:=he;cases al
      all_goals
        simp [DdAt,Dd.wd] at h0;have h0:=s1 _ _ h0;exists zC (!1) λq2 H2 s2 e2=>?_;refine wn (b:=true) e2 rfl rfl (!3) ?_;have h0:=s2 _ _ h0;have e1:=s2 _ _ e1;exists zp e1 (!1) λH3 x3 e3=>?_;walk_at "r";exact ⟨rfl,(s2.sameX l).trans x3,e3⟩
    | shift al n' k' =>
      have h0:=he;cases al
      all_goals
        simp [DdAt,Dd.wd] at h0;have h0:=s1 _ _ h0;exists zC (!1) λq2 H2 s2 e2=>?_;refine wn (b:=false) e2 rfl rfl (!3) ?_;have h0:=s2 _ _ h0;have e1:=s2 _ _ e1;walk_at "r";exact ⟨rfl,s2.sameX l,e1⟩
    | turn n' =>
      have h0:=he;have h0:H p=some (.tup [.str (Str.ofString "turn"),.int n']):=h0;have h0:=s1 _ _ h0;exists zC (!1) λq2 H2 s2 e2=>?_;refine wn (b:=false) e2 rfl rfl (!3) ?_;have h0:=s2 _ _ h0;have e1:=s2 _ _ e1;walk_at "r";exact ⟨rfl,s2.sameX l,e1⟩
  rintro σ' H2 ⟨rfl,sx2,e2⟩;have s2:Same H H2:=λb o e=>sx2 b o (s1 b o e) (zb e nl1);have hL2:=hL.same s2;clear sx2 e1 s1;exists yz ?_;exists ⟨l,rfl,⟨_,SqL.of e2⟩,λO hO=>zT (K:=K) (a:=l) (ys:=e.names.map V.int) (λi xs σ' H'=>E1 λ(v:Option V)=>A4 (σ'=[v,vR a]) (xs=((e.cells (f n) (f m)).take i).map Cell.v) (H' O=some (.lst xs)) (SameX O H2 H')) ⟨none,rfl,rfl,zg,λb o e n=>by rw [zl n]; exact e⟩ (λi xs σ' H' _ z=>by obtain ⟨v,_,_,_,z⟩:=z; exact SqL.of (z _ _ e2 (zb e2 hO))) ?_ ?_⟩
  . rintro i x xs σ' H' hi ⟨v,rfl,rfl,eO,sx⟩;rw [ag] at hi;obtain ⟨z,hz,rfl⟩:=am.mp hi;obtain ⟨j,hj,rfl,hcx⟩:=DX gd hz;have hi3:=(af.mp hz).1;have hn2:=e.names_len;have s':Same H2 H':=λb o e=>sx b o e (zb e hO);have hL':=hL2.same s';exists ⟨a,_,rfl,DGet.k (k:=.inl (j:Int)) hL'.l |> (λz=>by rw [zO hj] at z; exact z),?_⟩;exists zp eO (by rw [aa,aK]; lia) λH3 x3 e3=>?_;refine yv (by rw [aa]; exact hi3) ⟨_,rfl,rfl,?_,sx.trans x3⟩;rw [a8,hcx,aj];exact e3
  rintro xs σ' H3 ⟨v,rfl,rfl,eO,sx⟩;have s3:Same H2 H3:=λb o e=>sx b o e (zb e hO);rw [aa,<-e.cells_len (f n) (f m),aq] at eO;clear sx;have t3:=s2.trans s3;exists CI rfl (he.same t3) (by rw [eO]; unfold Dd.cells; cases e.two <;> rfl) (hcn.same t3) (hcm.same t3) gd.fit λr4 N H4 s4 n4 e4 hN hNb=>?_;have t4:=t3.trans s4;have hL4:=hL.same t4;have hNl:N.length<=2:=by rw [<-aa (f:=Cell.b),hNb]; exact uL e _ _
  have e2:=s4 _ _ (s3 _ _ e2);exists Ga hL4.l λA H5 n5 s5 e5=>?_;have lA:l≠A:=zb e2 n5;have e2:=s5 _ _ e2;exists yU ?_;exists ⟨l,rfl,⟨_,SqL.of e2⟩,z8 (K:=K) (a:=l) (xs:=e.names.map V.int) (λi σ H'=>E1 λv=>A3 (σ=[vR a,vI (k:Int),vR p,vR l,vR r4,vR A,v,none]) (H' A=some (.dK (cdK (yg ns (e.names.take i)) f))) (SameX A H5 H')) ⟨_,rfl,e5,λb o e _=>e⟩ (λi σ H' _ z'=>by obtain ⟨_,_,_,x⟩:=z'; exact SqL.of (x _ _ e2 lA)) ?_ ?_⟩
  . rintro i x σ H' hi ⟨v,rfl,el,sx⟩;rw [ag] at hi;obtain ⟨z,hz,rfl⟩:=am.mp hi;obtain ⟨j,hj,rfl,hcx⟩:=DX gd hz;have hni:(j:Int)∉e.names.take i:=by
      intro hh;obtain ⟨j',hj'⟩:=cR hh;have hj1:=(af.mp hj').1;rw [aK] at hj1;rw [dc (!2)] at hj';have:=(dD (i:=j') (!2) gd.nodup).mp (hj'.trans hz.symm)
      lia
    exists ⟨A,rfl,.inl ⟨_,.inl el⟩,?_⟩;exists ⟨_,.inl (j:Int),_,el,rfl,zO (mem_ndrop.mpr ⟨hj,hni⟩),?_⟩;refine ⟨_,rfl,?_,λb o e n=>by rw [zl n]; exact sx b o e n⟩;rw [zg,tL,a8,hz,show ((some (j:Int)).toList)=[(j:Int)] from rfl,xI]
  rintro σ H6 ⟨v,rfl,el6,sx6⟩;rw [aa,aq,EZ (g:=fN f k N) (λj hj=>(Ia (lt j (mem_ndrop.mp hj).1)).symm)] at el6;have rA:r4≠A:=zb e4 n5;have e4:=sx6 _ _ (s5 _ _ e4) rA;have dl:(yg ns e.names).length<=ns.length:=Av;exists wN ?_;walk_at "r";rw [aa];refine ⟨(N.length:Int),rfl,by lia,by lia,yG (lo:=0) (n:=(N.length:Int).toNat) (λi σ H'=>E2 λv v'=>A3 (σ=[vR a,vI (k:Int),vR p,vR l,vR r4,vR A,v,v']) (H' A=some (.dK (cdK (yg ns e.names++List.range' k i) (fN f k N)))) (SameX A H6 H')) ⟨_,_,rfl,by simpa using el6,λb o e _=>e⟩ ?_ ?_⟩
  . rintro i σ H' hi ⟨v,v',rfl,el,sx⟩;have hi':i<N.length:=by lia
    have e4':=sx _ _ e4 rA;obtain ⟨cx,hcx⟩:∃ c,N[i]?=some c:=⟨_,ae hi'⟩
    exists zu e4' (v:=cx.v) (by rw [show (0:Int)+(i:Int)=((i:Nat):Int) by lia]; exact zB (by rw [ag,hcx]; rfl)) ?_;walk_at "r";rw [show (k:Int)+(0+(i:Int))=((k+i:Nat):Int) by lia];refine ⟨A,_,rfl,DPut.k (k:=.inl ((k+i:Nat):Int)) el (by rw [AZ,ah,dm]; exact aE (show _<1000 by lia) (!3)),?_⟩;refine ⟨_,_,rfl,?_,λb o e n=>by rw [zl n]; exact sx b o e n⟩;rw [zg,vk _ (wa (λj hj=>?_)),fF,<-bB,Cj,Nat.one_mul,Ht,uy hcx];rcases aw.mp hj with hj|hj
    . have:=lt j (mem_ndrop.mp hj).1
      lia
    . have:=ce.mp hj
      lia
  rintro σ H7 ⟨v,v',rfl,el7,sx7⟩;have sE:Same H4 H7:=λb o e=>sx7 _ _ (sx6 _ _ (s5 _ _ e) (zb e n5)) (zb e n5);rw [fV] at el7;have e4:=sx7 _ _ e4 rA;walk_at "r";rw [aa];exists zw (!1) λr H8 n8 s8 e8=>?_;refine q r A N H8 ((t4.trans sE).trans s8) (Same.nn t4 n5) (by rw [Int.natCast_add]; exact e8) hNb ⟨s8 _ _ el7,λj hj=>?_⟩;rcases aw.mp hj with hj|hj
  . have hj:=(mem_ndrop.mp hj).1;rw [Ia (lt j hj)];exact ((hL4.at' j hj).same sE).same s8
  . have hj:=ce.mp hj;obtain ⟨i,rfl⟩:∃ i,j=k+i:=⟨j - k,by lia⟩
    have hi:i<N.length:=by lia
    rw [Ht,uy (ae hi)];exact ((hN _ (bH hi)).same sE).same s8
theorem K61(F:Fun K "_law_fits" "_law_fits" S61 f fd)(B:Bl mg)(o51x:O51x P w K mg base)(o43x:O43x P w K mg base)(o60x:Own P w K mg base 2 "_law_is_length" ["_law_found"] [] P34):FnOk P w K mg base CX0 5 f fd ["_law_d","_law_deed_here","_law_lying"] P61:=by
  refine F.okA C64 λcdv A outer s H vs Q E hr h=>?_;obtain @⟨d,p,a,ns,f,e,n,m,rfl,he,hL,hn,hm,nm,ne,eq,ok,fit,ht,hd,hR,q⟩:=h;refine ⟨_,(za (zv (PW.pt (xi (yd (zU (zm zJ rfl B.isinstance zA (pa2 (pv 1) (yK (v:=.ty "tuple") rfl B.tuple xJ rfl))))) (xi (zi uD (zm zt rfl B.len aV (pa1 (pv 1))) zd (zk _)) (xi (yd (zU (ze o43x hr rfl (pa1 (pit 1))))) (xt (Dc (vn (yS hr) (pit 1) (pv 2)))))))) (zc (zf xq)) zj) (za (zv (zi yt (pit 1) (zo (pa2 zx zx)) (by with_unfolding_all rfl)) (za (ps_s 3 C64.nd (zQ xy rfl B.int vp (pa1 (zY z5 (pit 1) zx (zk _))))) (za (zv (PW.pt (xi (yd (zU (ze o43x hr rfl (pa1 (pit 1))))) (xi (Dc (vn (yS hr) (pit 1) (pv 2))) (xt (zi z5 (pit 1) (pit 1) (zk _)))))) (zc (zf xq)) zj) (zc (zf (zY (CV hr.units) (pe_i zW (yJ (yS hr) (pv 2) (pit 1) (λ_ _=>rfl)) (pv 3)) (pe_i zW (yJ (yS hr) (pv 2) (pit 1) (λ_ _=>rfl)) (pv 3)) (zk _)))))) zj) (za (zv (zi yt (pit 1) (zo (pa2 zx zx)) (by with_unfolding_all rfl)) (zc (zf (wv (ze o43x hr rfl (pa1 (pit 1))) (wX (zY xY (pit 1) zd (zk _)))))) zj) (za (ps_s 3 C64.nd (zQ xy rfl B.int vp (pa1 (zY z5 (pit 1) zx (zk _))))) (za (zv (PW.pt (xi (zi wT (pit 1) (zo (pa2 zx zx)) (by with_unfolding_all rfl)) (xi (yd (zU (ze o60x hr rfl (pa1 (pit 1))))) (xt (yd (zU (ze o51x hr rfl (pa3 (pv 0) (zo (pa3 zd zd zd)) (pit 1))))))))) (zc (zf xq)) zj) (zc (zf (ze o51x hr rfl (pa3 (pv 0) (pit 1) (pe_i zW (yJ (yS hr) (pv 2) (pit 1) (λ_ _=>rfl)) (pv 3))))))))))),?_⟩;walk_at "s";cases e with
  | cut al n' s' =>
    obtain ⟨pq,h0,hs⟩:=he;have ga:al=al:=rfl;cases al
    all_goals
      simp [DdAt,Dd.wd] at h0;simp [Dd.names,Dd.two,Dd.n] at nm;subst nm;have mn:m=n:=eq rfl;subst mn;exists vK (by rfl) ?_;exists ⟨a,_,rfl,DGet.k (k:=.inl (m:Int)) hL.l |> (λz=>by rw [zO hn] at z; exact z),?_⟩;rw [show (!(some (f m).v).isSome)=false from rfl];exists zC (!1) λq2 H2 s2 e2=>?_;refine wn (b:=false) e2 rfl rfl (!3) ?_;have h0:=s2 _ _ h0;have hL2:=hL.same s2;exists zC (!1) λq3 H3 s3 e3=>?_;refine wn (b:=false) e3 rfl rfl (!3) ?_;have h0:=s3 _ _ h0;have hL3:=hL2.same s3;walk_at "r";first
       | rw [show decide (Str.ofString "across"=Str.ofString "along")=false from by decide +kernel]
       | rw [show decide (Str.ofString "along"=Str.ofString "along")=true from by decide +kernel]
      exists zC (!1) λq4 H4 s4 e4=>?_;refine J0 (b:=false) e4 rfl rfl (!3) ?_;have h0:=s4 _ _ h0;have hs4:=(s2.trans (s3.trans s4)) _ _ hs;exists wZ rfl hs4 fit.2.1.z1 ?_;exists zC (!1) λq5 H5 s5 e5=>?_;have h0:=s5 _ _ h0;have hs5:=s5 _ _ hs4;walk_at "r";obtain ⟨f1,f2,f3,f4⟩:=fit;have i0:=vA (d:=d) (s:=⟨0,0,1⟩) (t:=s') hR ⋯ f2.z1;first
       | (have:false=false:=ga
          have i1:=vA (d:=d) (s:=s') (t:=(f m).b.w) hR f2.z1 f1.z1)
       | have i1:=vA (d:=d) (s:=s') (t:=(f m).b.h) hR f2.z1 f1.z1
      simp only [cC,bR,Int.sub_zero] at i0;refine yW rfl (s:=⟨0,0,1⟩) e5 hs5 Dt f2 hd λH6 s6=>?_;rw [iw (i0.mpr f3)];have h0:=s6 _ _ h0;have hL6:=((hL3.same s4).same s5).same s6;have cn:=hL6.at' m hn;have ctn:=cn.t;exists ⟨a,_,rfl,DGet.k (k:=.inl (m:Int)) hL6.l |> (λz=>by rw [zO hn] at z; exact z),?_⟩;walk_at "r";first
       | refine xn ctn (zB (j:=0) rfl) ?_
       | refine xn ctn (zB (j:=1) rfl) ?_
      walk_at "r";first
       | (have:false=false:=ga
          refine yW rfl (s6 _ _ hs5) cn.w f2 f1 hd λH7 s7=>?_)
       | refine yW rfl (s6 _ _ hs5) cn.h f2 f1 hd λH7 s7=>?_
      rw [iw (i1.mpr f4)];exact q _ (((((s2.trans s3).trans s4).trans s5).trans s6).trans s7)
  | glue al n' m' =>
    have h0:=he;have ga:al=al:=rfl;cases al
    all_goals
      simp [DdAt,Dd.wd] at h0;simp [Dd.names,Dd.two,Dd.n] at nm;obtain ⟨rfl,rfl⟩:=nm;exists vK (by rfl) ?_;exists ⟨a,_,rfl,DGet.k (k:=.inl (n:Int)) hL.l |> (λz=>by rw [zO hn] at z; exact z),?_⟩;rw [show (!(some (f n).v).isSome)=false from rfl];exists zC (!1) λq2 H2 s2 e2=>?_;refine wn (b:=true) e2 rfl rfl (!3) ?_;have h0:=s2 _ _ h0;have hL2:=hL.same s2;walk_at "r";first
       | rw [show decide (Str.ofString "beside"=Str.ofString "beside")=true from by decide +kernel]
       | rw [show decide (Str.ofString "atop"=Str.ofString "beside")=false from by decide +kernel]
      have cn:=hL2.at' n hn;have cm:=hL2.at' m hm;have ctn:=cn.t;have ctm:=cm.t;have nem:=ne rfl;exists ⟨a,_,rfl,DGet.k (k:=.inl (m:Int)) hL2.l |> (λz=>by rw [zO hm] at z; exact z),?_⟩;rw [show (!(some (f m).v).isSome)=false from rfl];exists if_d (λc=>absurd (!2) nem) (λ_=>?_);exists ⟨a,_,rfl,DGet.k (k:=.inl (n:Int)) hL2.l |> (λz=>by rw [zO hn] at z; exact z),?_⟩;walk_at "r";first
       | refine xn ctn (zB (j:=1) rfl) ?_
       | refine xn ctn (zB (j:=0) rfl) ?_
      exists ⟨a,_,rfl,DGet.k (k:=.inl (m:Int)) hL2.l |> (λz=>by rw [zO hm] at z; exact z),?_⟩;walk_at "r";first
       | refine xn ctm (zB (j:=1) rfl) ?_
       | refine xn ctm (zB (j:=0) rfl) ?_
      walk_at "r";first
       | (have:false=false:=ga
          refine i_eq3 cn.h cm.h ?_;have hsd:(f n).b.h=(f m).b.h:=fit.1;rw [show decide ((f n).b.h.x=(f m).b.h.x/\(f n).b.h.y=(f m).b.h.y/\(f n).b.h.z=(f m).b.h.z)=true from iw (by rw [hsd]; exact ⟨rfl,rfl,rfl⟩)])
       | (refine i_eq3 cn.w cm.w ?_
          have hsd:(f n).b.w=(f m).b.w:=fit.1;rw [show decide ((f n).b.w.x=(f m).b.w.x/\(f n).b.w.y=(f m).b.w.y/\(f n).b.w.z=(f m).b.w.z)=true from iw (by rw [hsd]; exact ⟨rfl,rfl,rfl⟩)])
      exact q _ s2
  | shift al n' k' =>
    have h0:=he;cases al
    all_goals
      simp [DdAt,Dd.wd] at h0;simp [Dd.names,Dd.two,Dd.n] at nm;subst nm;have mn:m=n:=eq rfl;subst mn;exists vK (by rfl) ?_;exists ⟨a,_,rfl,DGet.k (k:=.inl (m:Int)) hL.l |> (λz=>by rw [zO hn] at z; exact z),?_⟩;rw [show (!(some (f m).v).isSome)=false from rfl];exists zC (!1) λq2 H2 s2 e2=>?_;refine wn (b:=false) e2 rfl rfl (!3) ?_;have h0:=s2 _ _ h0;have hL2:=hL.same s2;exists zC (!1) λq3 H3 s3 e3=>?_;refine wn (b:=true) e3 rfl rfl (!3) ?_;have h0:=s3 _ _ h0;have hL3:=hL2.same s3;walk_at "r";exact bl_q (iw (show 0<k' by have:=ok.1; lia)) (q _ (s2.trans s3))
  | turn n' =>
    have h0:=he;cases ht
theorem K62(F:Fun K "put_by" "Yard.put_by" S69 f fd)(B:Bl mg)(X:Xs K mg cs)(o25x:Own P w K mg base 4 "cut_across" ["d","one","at"] [] P51)(o24x:Own P w K mg base 1 "turned" ["one"] [] P8)(o26x:Own P w K mg base 3 "glued_beside" ["one","other"] [] P41)(o27x:Own P w K mg base 3 "stacked" ["one","many"] [] P42):FnOk P w K mg base CX0 5 f fd ["self","deed","boards"] (P62 cs):=by
  refine F.okA C65 λcdv A outer s H vs Q E hr h=>?_;obtain @⟨y,d,tn,cl,ns,lg,p,a,e,c,c',rfl,hy,he,ha,hc,hc',hd,hf,q⟩:=h;refine ⟨_,(za (ps_s 3 C65.nd (pit 1)) (za (zv (zi z5 (pv 3) zx (zk _)) (zc (zf (ze o25x hr rfl (pa3 (yw (K:=K) rfl (pv 0) rfl) (pil 2) (pit 1))))) zj) (za (zv (zi z5 (pv 3) zx (zk _)) (zc (zf (ye ["one"] [] rfl (zG (ze o25x hr rfl (pa3 (yw (K:=K) rfl (pv 0) rfl) (ze o24x hr rfl (pa1 (pil 2))) (pit 1)))) (λ_ _ _ _ _=>(pg_n 0 (show List.Nodup (α:=Str) ["one"] by decide +kernel))) (λ_ _ _ _ _=>zP) (λ_ _ _ _ _=>(ze o24x hr rfl (pa1 (pv 0))))))) zj) (za (zv (zi z5 (pv 3) zx (zk _)) (zc (zf (zI (pa1 (ze o26x hr rfl (pa2 (pil 2) (pil 2))))))) zj) (za (zv (zi z5 (pv 3) zx (zk _)) (zc (zf (zI (pa1 (ze o24x hr rfl (pa1 (ze o26x hr rfl (pa2 (ze o24x hr rfl (pa1 (pil 2))) (ze o24x hr rfl (pa1 (pil 2))))))))))) zj) (za (zv (zi z5 (pv 3) zx (zk _)) (zc (zf (zI (pa1 (ze o27x hr rfl (pa2 (pil 2) (pit 1))))))) zj) (za (zv (zi z5 (pv 3) zx (zk _)) (zc (zf (zI (pa1 (ze o24x hr rfl (pa1 (ze o27x hr rfl (pa2 (ze o24x hr rfl (pa1 (pil 2))) (pit 1))))))))) zj) (zc (zf (zI (pa1 (ze o24x hr rfl (pa1 (pil 2)))))))))))))),?_⟩;walk_at "s";cases e with
  | cut al n s =>
    obtain ⟨pq,h0,hs⟩:=he;cases al with
    | false =>
      have h0:H p=some (.tup [.str (Str.ofString "across"),.int n,.ref pq]):=h0;have ha:H a=some (.lst [.ref c.p]):=ha;exists if_d (λ_=>?_) (λc=>absurd rfl c);walk_at "r";obtain ⟨f1,f2,f3,f4⟩:=hf;refine ⟨_,_,_,_,_,rfl,hy.o,X.c_Yard,X.n_Yard_root,rfl,?_⟩;exists wR rfl hc hs hd f1 f2 f3 f4 λr c1 c2 H1 s1 hr e1 a1 a2 b1 b2=>?_;refine q r [c1,c2] H1 s1 hr e1 (λx hx=>?_) ?_
      . rcases aN.mp hx with rfl | hx
        . exact a1
        . rw [ak.mp hx]; exact a2
      . show [c1.b,c2.b]=_;rw [b1,b2];rfl
    | true =>
      have h0:H p=some (.tup [.str (Str.ofString "along"),.int n,.ref pq]):=h0;have ha:H a=some (.lst [.ref c.p]):=ha;exists ifn ?_;exists if_d (λ_=>?_) (λc=>absurd rfl c);walk_at "r";obtain ⟨f1,f2,f3,f4⟩:=hf;refine yz ?_;exists ⟨_,_,_,_,_,rfl,hy.o,X.c_Yard,X.n_Yard_root,rfl,?_⟩;exists yZ rfl hc λr1 H1 s1 nr1 a1=>?_;have h01:=s1 _ _ h0;exists wR rfl a1 (s1 _ _ hs) hd f1 f2 f3 f4 λr c1 c2 H2 s2 hr e2 a2 a3 b1 b2=>?_;have t2:=s1.trans s2;have hat:∀ x∈[c1,c2],x.At H2:=λx hx=>by
        rcases aN.mp hx with rfl|hx
        . exact a2
        . rw [ak.mp hx]; exact a3
      refine ⟨r,rfl,⟨_,SqL.of e2⟩,λD hD=>zT (K:=K) (a:=r) (ys:=[c1,c2].map Cell.v) (λi xs σ' H'=>E2 λ(v:Option V) (N:List Cell)=>A7 (σ'=[v]) (xs=N.map Cell.v) (H' D=some (.lst xs)) (SameX D H2 H') ((∀ x∈N,x.At H')) (N.length=i) (N.map Cell.b=([c1,c2].take i).map (λx=>⟨x.b.h,x.b.w⟩))) ⟨none,[],rfl,rfl,zg,λb o e n=>by rw [zl n]; exact e,λx hx=>absurd hx (!1),rfl,rfl⟩ (λi xs σ' H' _ z=>by obtain ⟨v,N,_,_,_,z,_⟩:=z; exact SqL.of (z _ _ e2 (zb e2 hD))) ?_ ?_⟩
      . rintro i x xs σ' H' hi ⟨v,N,rfl,rfl,eD,sx,hN,hl,hb⟩;rw [ag] at hi;obtain ⟨cx,hcx,rfl⟩:=am.mp hi;have hi3:=(af.mp hcx).1;have s':Same H2 H':=λb o e=>sx b o e (zb e hD);exists yZ rfl ((hat cx (ar hcx)).same s') λr3 H3 s3 nr3 a3=>?_;exists zp (s3 _ _ eD) (by rw [aa,hl]; simp only [au,aP] at hi3; lia) λH4 x4 e4=>?_;refine yv hi3 ⟨_,N++[⟨r3,cx.ph,cx.pw,⟨cx.b.h,cx.b.w⟩⟩],rfl,rfl,by rw [aj]; exact e4,sx.trans ((SameX.of s3).trans x4),λx hx=>?_,by rw [ah,hl]; rfl,?_⟩
        . rcases aw.mp hx with hx | hx
          . exact ((hN x hx).same s3).sameX x4 (s3 _ _ eD)
          . rw [ak.mp hx]; exact a3.sameX x4 (s3 _ _ eD)
        . rw [a8,hcx,aj,aj,hb];rfl
      . rintro xs σ' H' ⟨v,N,rfl,rfl,eD,sx,hN,hl,hb⟩;have s':Same H2 H':=λb o e=>sx b o e (zb e hD);exists q D N H' (t2.trans s') (Same.nn t2 hD) eD hN ?_;rw [hb];show [(⟨c1.b.h,c1.b.w⟩:Bo),⟨c2.b.h,c2.b.w⟩]=_;rw [b1,b2];rfl
  | glue al n m =>
    have h0:=he;cases al with
    | false =>
      have h0:H p=some (.tup [.str (Str.ofString "beside"),.int n,.int m]):=h0;have ha:H a=some (.lst [.ref c.p,.ref c'.p]):=ha;exists ifn ?_;exists ifn ?_;exists if_d (λ_=>?_) (λc=>absurd rfl c);exists xT rfl hc hc' hf.1 hf.2.1 hf.2.2 λc1 H1 s1 n1 a1 hb=>?_;exists zy (!1) λr HL nr sL eL=>?_;refine q r [c1] HL (Same.trans s1 sL) (Same.nn s1 nr) eL (λx hx=>?_) ?_
      . rw [ak.mp hx];exact a1.same sL
      . exact congrArg (λz=>[z]) hb
    | true =>
      have h0:H p=some (.tup [.str (Str.ofString "atop"),.int n,.int m]):=h0;have ha:H a=some (.lst [.ref c.p,.ref c'.p]):=ha;exists ifn ?_;exists ifn ?_;exists ifn ?_;exists if_d (λ_=>?_) (λc=>absurd rfl c);exists yZ rfl hc λr1 H1 s1 nr1 a1=>?_;have ha1:=s1 _ _ ha;exists yZ rfl (hc'.same s1) λr2 H2 s2 nr2 a2=>?_;exists xT rfl (a1.same s2) a2 hf.1 hf.2.1 hf.2.2 λc1 H3 s3 n3 a3 hb=>?_;exists yZ rfl a3 λr4 H4 s4 nr4 a4=>?_;replace hb:(⟨c1.b.h,c1.b.w⟩:Bo)=⟨c.b.w,adS c.b.h c'.b.h⟩:=by rw [hb]
      exists zy (!1) λr HL nr sL eL=>?_;refine q r [⟨r4,c1.ph,c1.pw,⟨c1.b.h,c1.b.w⟩⟩] HL (Same.trans (((s1.trans s2).trans s3).trans s4) sL) (Same.nn (((s1.trans s2).trans s3).trans s4) nr) eL (λx hx=>?_) ?_
      . rw [ak.mp hx];exact a4.same sL
      . exact congrArg (λz=>[z]) hb
  | shift al n k =>
    have h0:=he;cases al with
    | false =>
      have h0:H p=some (.tup [.str (Str.ofString "stack"),.int n,.int k]):=h0;have ha:H a=some (.lst [.ref c.p]):=ha;exists ifn ?_;exists ifn ?_;exists ifn ?_;exists ifn ?_;exists if_d (λ_=>?_) (λc=>absurd rfl c);exists tX rfl hc hf.1 hf.2.1 hf.2.2.1 hf.2.2.2 λc1 H1 s1 n1 a1 hb=>?_;exists zy (!1) λr HL nr sL eL=>?_;refine q r [c1] HL (Same.trans s1 sL) (Same.nn s1 nr) eL (λx hx=>?_) ?_
      . rw [ak.mp hx];exact a1.same sL
      . exact congrArg (λz=>[z]) hb
    | true =>
      have h0:H p=some (.tup [.str (Str.ofString "spread"),.int n,.int k]):=h0;have ha:H a=some (.lst [.ref c.p]):=ha;exists ifn ?_;exists ifn ?_;exists ifn ?_;exists ifn ?_;exists ifn ?_;exists if_d (λ_=>?_) (λc=>absurd rfl c);exists yZ rfl hc λr1 H1 s1 nr1 a1=>?_;have h01:=s1 _ _ h0;exists tX rfl a1 hf.1 hf.2.1 hf.2.2.2 hf.2.2.1 λc1 H3 s3 n3 a3 hb=>?_;exists yZ rfl a3 λr4 H4 s4 nr4 a4=>?_;replace hb:(⟨c1.b.h,c1.b.w⟩:Bo)=⟨shS c.b.w k 1,shS c.b.h 1 k⟩:=by rw [hb]
      exists zy (!1) λr HL nr sL eL=>?_;refine q r [⟨r4,c1.ph,c1.pw,⟨c1.b.h,c1.b.w⟩⟩] HL (Same.trans ((s1.trans s3).trans s4) sL) (Same.nn ((s1.trans s3).trans s4) nr) eL (λx hx=>?_) ?_
      . rw [ak.mp hx];exact a4.same sL
      . exact congrArg (λz=>[z]) hb
  | turn n =>
    have h0:=he;have h0:H p=some (.tup [.str (Str.ofString "turn"),.int n]):=h0;have ha:H a=some (.lst [.ref c.p]):=ha;exists ifn ?_;exists ifn ?_;exists ifn ?_;exists ifn ?_;exists ifn ?_;exists ifn ?_;exists yZ rfl hc λr1 H1 s1 nr1 a1=>?_;have hb:(⟨c.b.h,c.b.w⟩:Bo)=⟨c.b.h,c.b.w⟩:=rfl;exists zy (!1) λr HL nr sL eL=>?_;refine q r [⟨r1,c.ph,c.pw,⟨c.b.h,c.b.w⟩⟩] HL (Same.trans s1 sL) (Same.nn s1 nr) eL (λx hx=>?_) ?_
    . rw [ak.mp hx];exact a1.same sL
    . exact congrArg (λz=>[z]) hb
theorem K63(F:Fun K "_law_deed" "_law_deed" S57 f fd)(B:Bl mg)(o45x:O45x P w K mg base)(o56x:Own P w K mg base 5 "_law_at" ["_law_d","_law_digits_here","_law_side_here","_law_pool"] [] P59):FnOk P w K mg base CX0 6 f fd ["_law_d","_law_cell_here","_law_lying","_law_pool"] (P63 K):=by
  refine F.okA C66 λcdv A outer s H vs Q E hr h=>?_;obtain @⟨d,c,a,qa,ns,f,P,D,M,K',rfl,hc,hL,up,nl,ne,ob,hP,oP,zz,hR,q⟩:=h;refine ⟨_,(za (ps_s 4 C66.nd (ze o45x hr rfl (pa2 (pv 1) zd))) (za (ps_s 5 C66.nd (zm (wQ rfl) rfl B.sorted xu (pa1 (pv 2)))) (za (ps_s 6 C66.nd (pe_i zK (pv 5) (zh zM (pil 4) (zm zt rfl B.len aV (pa1 (pv 5)))))) (za (ps_s 7 C66.nd (zh zM (pil 4) zd)) (za (zv (zi uN (pv 7) zd (zk _)) (zc (zf (zo (pa3 (pe_i zK (zI (pa2 zx zx)) (pv 7)) (pv 6) (ze o56x hr rfl (zr (pv 0) (zr (pv 4) (zr (pe_i zW (yJ (yS hr) (pv 2) (pv 6) (λ_ _=>rfl)) (pv 7)) (zr (pv 3) yl))))))))) zj) (za (vE (zv (zi uN (pv 7) zd (zk _)) (za (ps_s 8 C66.nd (zh yV zd (pv 7))) (za (tt (i:=9) C66.nd rfl rfl ["_law_other"] [2,6,8] rfl (zG (pv 5)) (λ_ _ _ _ _=>(pg_n 0 (show List.Nodup (α:=Str) ["_law_other","_law_lying","_law_name","_law_side_here"] by decide +kernel))) (λ_ _ _ _ _=>(tw (PW.pt (xk (zi uD (pv 0) (pv 2) (zk _)) (yI (zi (r:=rEq3 K) (Ka hr.units rfl) (pe_i (r:=rIxT K) zW (yJ (yS hr) (pv 1) (pv 0) (λ_ _=>rfl)) (pv 3)) (pe_i (r:=rIxT K) zW (yJ (yS hr) (pv 1) (pv 2) (λ_ _=>rfl)) (pv 3)) (zk _))))))) (λ_ _ _ _ _=>(pv 0))) (zc (zv (zi (Gm hr.units) (pv 9) (zI yl) (zk _)) (zc (zf (zo (pa3 (pe_i zK (zI (pa2 zx zx)) (zh yV (pv 7) zd)) (pv 6) (pe_i zK (pv 9) (zh zM (pil 4) (zm zt rfl B.len aV (pa1 (pv 9))))))))) zj)))) zj)) (zc (zf (zo (pa3 (pe_i zK (zI (pa2 zx zx)) (zh zM (pv 7) zd)) (pv 6) (zh zF zd (zh zM (pil 4) (pe_i zK (zI (pa2 zd zd)) (zh zM (pv 1) zd)))))))))))))),?_⟩;walk_at "s";have hpos:0<ns.length:=bu.mpr ne;exists yL hc ⋯ ⋯ λl H1 ds s1 e1 hl hds=>?_;obtain ⟨x0,k0,a0,b0⟩:=dig hl hds 0 ⋯ ⋯;obtain ⟨x1,k1,a1,b1⟩:=dig hl hds 1 ⋯ ⋯;obtain ⟨x2,k2,a2,b2⟩:=dig hl hds 2 ⋯ ⋯;obtain ⟨x7,k7,a7,b7⟩:=dig hl hds 7 ⋯ ⋯;exists Bi (s1 _ _ hL.l) up nl λp2 H2 np2 s2 e2=>?_;have e1':=s2 _ _ e1;have hpm:(0:Int)<(((ns.map λn:Nat=>(n:Int)).map V.int).length:Nat):=by simp only [aa]; lia
  obtain ⟨n,hn,gn⟩:=D5 (ns:=ns) (i:=x0) ne;repeat (first | walk_at "rd" | refine zu e1' k0 ?_ | refine zu e1' k1 ?_ | refine zu e2 gn ?_)
  have w6:0<=x1 % 6/\x1 % 6<6:=by lia
  generalize hway:x1 % 6=way at w6 ⊢;by_cases w2:way<2
  . have hw:way=0\/way=1:=by lia
    rcases hw with hw|hw
    . rw [hw];refine if_d (λ_=>?_) (λc=>absurd ⋯ c);exists zy (!1) λq3 H3 n3 s3 e3=>?_;have e1:=s3 _ _ (s2 _ _ e1);have hL3:=hL.same ((s1.trans s2).trans s3);have hc3:=hL3.at' n hn;have ct3:=hc3.t;have hP3:=hP.same ((s1.trans s2).trans s3);repeat (first | walk_at "rd" | refine zu e3 (zB (j:=0) rfl) ?_)
      refine ⟨a,_,rfl,DGet.k (k:=.inl (n:Int)) hL3.l |> (λz=>by rw [zO hn] at z; exact z),?_⟩;exists xn ct3 (zB (j:=0) rfl) ?_;exists Ac rfl e1 hl hds hc3.w (ob n hn).1 hP3 oP zz hR λr H4 g k s4 e4 k1 bk og ug=>?_;exists zw (!1) λp5 H5 n5 s5 e5=>?_;exact q p5 (.cut false n g) n n H5 ((((s1.trans s2).trans s3).trans s4).trans s5) ⟨r,e5,s5 _ _ e4⟩ (BP hR zz hn (ob n hn) k1 bk og ug) rfl
    . rw [hw];refine if_d (λ_=>?_) (λc=>absurd ⋯ c);exists zy (!1) λq3 H3 n3 s3 e3=>?_;have e1:=s3 _ _ (s2 _ _ e1);have hL3:=hL.same ((s1.trans s2).trans s3);have hc3:=hL3.at' n hn;have ct3:=hc3.t;have hP3:=hP.same ((s1.trans s2).trans s3);repeat (first | walk_at "rd" | refine zu e3 (zB (j:=1) rfl) ?_)
      refine ⟨a,_,rfl,DGet.k (k:=.inl (n:Int)) hL3.l |> (λz=>by rw [zO hn] at z; exact z),?_⟩;exists xn ct3 (zB (j:=1) rfl) ?_;exists Ac rfl e1 hl hds hc3.h (ob n hn).2 hP3 oP zz hR λr H4 g k s4 e4 k1 bk og ug=>?_;exists zw (!1) λp5 H5 n5 s5 e5=>?_;exact q p5 (.cut true n g) n n H5 ((((s1.trans s2).trans s3).trans s4).trans s5) ⟨r,e5,s5 _ _ e4⟩ (BP hR zz hn (ob n hn) k1 bk og ug) rfl
  refine if_d (λc=>absurd c w2) (λ_=>?_);exists AI (T:=λσ' H3=>E2 λ(v v':Option V)=>A2 (σ'=[vI d,vI c,vR a,vR qa,vR l,vR p2,vI (n:Int),vI way,v,v']) (Same H2 H3)) ?_ ?_
  . walk_at "r";by_cases w4:way<4
    . have hw:way=2\/way=3:=by lia
      rcases hw with hw|hw
      . rw [hw];refine if_d (λ_=>?_) (λc=>absurd ⋯ c);exists yz ?_;exists ⟨p2,rfl,⟨_,SqL.of e2⟩,λO hO=>zT (K:=K) (a:=p2) (ys:=(ns.map λn:Nat=>(n:Int)).map V.int) (λi xs σ' H'=>E2 λ(v:Option V) (os:List Nat)=>A6 (σ'=[v,vR a,vI (n:Int),vI 1]) (xs=(os.map λn:Nat=>(n:Int)).map V.int) (os.length<=i) (H' O=some (.lst xs)) (SameX O H2 H') (∀ m∈os,m∈ns/\n≠m/\(f n).b.h=(f m).b.h)) ⟨none,[],rfl,rfl,ai _,zg,λb o e n=>by rw [zl n]; exact e,λm hm=>absurd hm (!1)⟩ (λi xs σ' H' _ z=>by obtain ⟨v,os,_,_,_,_,z,_⟩:=z; exact SqL.of (z _ _ e2 (zb e2 hO))) ?_ ?_⟩
        . rintro i x xs σ' H' hi ⟨v,os,rfl,rfl,hol,eO,sx,hos⟩;have hi':=(af.mp hi).1;have hil:i<ns.length:=by simpa using hi'
          obtain ⟨m,hm,rfl⟩:∃ m∈ns,x=.int (m:Int):=by
            obtain ⟨y,hy,rfl⟩:=aY.mp (ar hi);obtain ⟨m,hm,rfl⟩:=aY.mp hy;exact ⟨m,hm,rfl⟩
          have s':Same H2 H':=λb o e=>sx b o e (zb e hO);have hL':=hL.same ((s1.trans s2).trans s');have cm:=hL'.at' m hm;have cn:=hL'.at' n hn;have ctm:=cm.t;have ctn:=cn.t;exists AN (λc1=>?_) (λc1=>?_)
          . exists ⟨a,_,rfl,DGet.k (k:=.inl (m:Int)) hL'.l |> (λz=>by rw [zO hm] at z; exact z),?_⟩;exists xn ctm (zB (j:=1) rfl) ?_;exists ⟨a,_,rfl,DGet.k (k:=.inl (n:Int)) hL'.l |> (λz=>by rw [zO hn] at z; exact z),?_⟩;exists xn ctn (zB (j:=1) rfl) ?_;exists ⟨_,_,_,_,_,_,_,_,rfl,rfl,SqT.of cm.h,SqT.of cn.h,?_⟩;exists if_d (λc2=>?_) (λc2=>?_)
            . exists zp eO (by simp only [aa]; lia) λH3 x3 e3=>?_;refine yv hi' ⟨_,os++[m],rfl,rfl,by rw [ah]; simp only [au,aP]; lia,by rw [aj,aj]; exact e3,sx.trans x3,λk hk=>?_⟩;rcases aw.mp hk with hk|hk
              . exact hos k hk
              . rw [ak.mp hk];refine ⟨hm,λz=>c1 (by rw [z]),?_⟩;have z1:(f m).b.h=⟨(f m).b.h.x,(f m).b.h.y,(f m).b.h.z⟩:=rfl;rw [z1,c2.1,c2.2.1,c2.2.2]
            . walk_at "r";exact yv hi' ⟨_,os,rfl,rfl,eE hol,eO,sx,hos⟩
          . walk_at "r";exact yv hi' ⟨_,os,rfl,rfl,eE hol,eO,sx,hos⟩
        rintro xs σ' H3 ⟨v,os,rfl,rfl,hol,eO,sx,hos⟩;have s3:Same H2 H3:=λb o e=>sx b o e (zb e hO);have e1:=s3 _ _ (s2 _ _ e1);exists zy (!1) λq4 H4 n4 s4 e4=>?_;have e1:=s4 _ _ e1;have eO:=s4 _ _ eO;refine ⟨O,q4,_,rfl,rfl,SqL.of eO,SqL.of e4,?_⟩;cases os with
        | nil =>
          walk_at "r";exact ⟨_,_,rfl,s3.trans s4⟩
        | cons o os =>
          rw [show (!(List.map V.int (List.map (λn:Nat=>(n:Int)) (o::os))).isEmpty)=true from rfl];exists zy (!1) λq5 H5 n5 s5 e5=>?_;have e1:=s5 _ _ e1;have eO:=s5 _ _ eO;have hp2:(0:Int)<((List.map V.int (List.map (λn:Nat=>(n:Int)) (o::os))).length:Nat):=by simp only [aa,au]; lia
          repeat (first | walk_at "rd" | refine zu e5 (zB (j:=0) rfl) ?_ | refine zu e1 k2 ?_)
          repeat (first | walk_at "rd" | refine zu e5 (zB (j:=0) rfl) ?_ | refine zu e1 k2 ?_)
          obtain ⟨m,hm,gm⟩:=D5 (ns:=o::os) (i:=x2) (!1);refine zu eO gm ?_;exists zw (!1) λp6 H6 n6 s6 e6=>?_;obtain ⟨h1,h2,h3⟩:=hos m hm;exact q p6 (.glue false n m) n m H6 (((((s1.trans s2).trans s3).trans s4).trans s5).trans s6) e6 (tR hR zz hn h1 h2 (ob n hn) (ob m h1) h3) rfl
      . rw [hw];refine if_d (λ_=>?_) (λc=>absurd ⋯ c);exists yz ?_;exists ⟨p2,rfl,⟨_,SqL.of e2⟩,λO hO=>zT (K:=K) (a:=p2) (ys:=(ns.map λn:Nat=>(n:Int)).map V.int) (λi xs σ' H'=>E2 λ(v:Option V) (os:List Nat)=>A6 (σ'=[v,vR a,vI (n:Int),vI 0]) (xs=(os.map λn:Nat=>(n:Int)).map V.int) (os.length<=i) (H' O=some (.lst xs)) (SameX O H2 H') (∀ m∈os,m∈ns/\n≠m/\(f n).b.w=(f m).b.w)) ⟨none,[],rfl,rfl,ai _,zg,λb o e n=>by rw [zl n]; exact e,λm hm=>absurd hm (!1)⟩ (λi xs σ' H' _ z=>by obtain ⟨v,os,_,_,_,_,z,_⟩:=z; exact SqL.of (z _ _ e2 (zb e2 hO))) ?_ ?_⟩
        . rintro i x xs σ' H' hi ⟨v,os,rfl,rfl,hol,eO,sx,hos⟩;have hi':=(af.mp hi).1;have hil:i<ns.length:=by simpa using hi'
          obtain ⟨m,hm,rfl⟩:∃ m∈ns,x=.int (m:Int):=by
            obtain ⟨y,hy,rfl⟩:=aY.mp (ar hi);obtain ⟨m,hm,rfl⟩:=aY.mp hy;exact ⟨m,hm,rfl⟩
          have s':Same H2 H':=λb o e=>sx b o e (zb e hO);have hL':=hL.same ((s1.trans s2).trans s');have cm:=hL'.at' m hm;have cn:=hL'.at' n hn;have ctm:=cm.t;have ctn:=cn.t;exists AN (λc1=>?_) (λc1=>?_)
          . exists ⟨a,_,rfl,DGet.k (k:=.inl (m:Int)) hL'.l |> (λz=>by rw [zO hm] at z; exact z),?_⟩;exists xn ctm (zB (j:=0) rfl) ?_;exists ⟨a,_,rfl,DGet.k (k:=.inl (n:Int)) hL'.l |> (λz=>by rw [zO hn] at z; exact z),?_⟩;exists xn ctn (zB (j:=0) rfl) ?_;exists ⟨_,_,_,_,_,_,_,_,rfl,rfl,SqT.of cm.w,SqT.of cn.w,?_⟩;exists if_d (λc2=>?_) (λc2=>?_)
            . exists zp eO (by simp only [aa]; lia) λH3 x3 e3=>?_;refine yv hi' ⟨_,os++[m],rfl,rfl,by rw [ah]; simp only [au,aP]; lia,by rw [aj,aj]; exact e3,sx.trans x3,λk hk=>?_⟩;rcases aw.mp hk with hk|hk
              . exact hos k hk
              . rw [ak.mp hk];refine ⟨hm,λz=>c1 (by rw [z]),?_⟩;have z1:(f m).b.w=⟨(f m).b.w.x,(f m).b.w.y,(f m).b.w.z⟩:=rfl;rw [z1,c2.1,c2.2.1,c2.2.2]
            . walk_at "r";exact yv hi' ⟨_,os,rfl,rfl,eE hol,eO,sx,hos⟩
          . walk_at "r";exact yv hi' ⟨_,os,rfl,rfl,eE hol,eO,sx,hos⟩
        rintro xs σ' H3 ⟨v,os,rfl,rfl,hol,eO,sx,hos⟩;have s3:Same H2 H3:=λb o e=>sx b o e (zb e hO);have e1:=s3 _ _ (s2 _ _ e1);exists zy (!1) λq4 H4 n4 s4 e4=>?_;have e1:=s4 _ _ e1;have eO:=s4 _ _ eO;refine ⟨O,q4,_,rfl,rfl,SqL.of eO,SqL.of e4,?_⟩;cases os with
        | nil =>
          walk_at "r";exact ⟨_,_,rfl,s3.trans s4⟩
        | cons o os =>
          rw [show (!(List.map V.int (List.map (λn:Nat=>(n:Int)) (o::os))).isEmpty)=true from rfl];exists zy (!1) λq5 H5 n5 s5 e5=>?_;have e1:=s5 _ _ e1;have eO:=s5 _ _ eO;have hp2:(0:Int)<((List.map V.int (List.map (λn:Nat=>(n:Int)) (o::os))).length:Nat):=by simp only [aa,au]; lia
          repeat (first | walk_at "rd" | refine zu e5 (zB (j:=1) rfl) ?_ | refine zu e1 k2 ?_)
          repeat (first | walk_at "rd" | refine zu e5 (zB (j:=1) rfl) ?_ | refine zu e1 k2 ?_)
          obtain ⟨m,hm,gm⟩:=D5 (ns:=o::os) (i:=x2) (!1);refine zu eO gm ?_;exists zw (!1) λp6 H6 n6 s6 e6=>?_;obtain ⟨h1,h2,h3⟩:=hos m hm;exact q p6 (.glue true n m) n m H6 (((((s1.trans s2).trans s3).trans s4).trans s5).trans s6) e6 (tR hR zz hn h1 h2 (ob n hn) (ob m h1) h3) rfl
    . refine if_d (λc=>absurd c w4) (λ_=>?_);walk_at "r";exact ⟨_,_,rfl,Same.refl _⟩
  rintro σ' H3 ⟨v,v',rfl,s3⟩;have e1':=s3 _ _ e1';exists zy (!1) λq4 H4 n4 s4 e4=>?_;have e1':=s4 _ _ e1';walk_at "r";obtain ⟨al,gal⟩:∃ al:Bool,atI [V.str (Str.ofString "stack"),V.str (Str.ofString "spread")] (way % 2)=some (.str (Dd.shift al n 1).wd):=by
    have:way % 2=0\/way % 2=1:=by lia
    rcases this with h|h
    . exact ⟨false,by rw [h]; rfl⟩
    . exact ⟨true,by rw [h]; rfl⟩
  refine zu e4 gal ?_;repeat (first | walk_at "rd" | refine zu e1' k7 ?_)
  refine zy (!1) λq5 H5 n5 s5 e5=>?_;walk_at "r";obtain ⟨t,gt,t1,t2⟩:∃ t:Int,atI [V.int 20,V.int 6] (c % 2)=some (.int t)/\1<=t/\t<=20:=by
    have:c % 2=0\/c % 2=1:=by lia
    rcases this with h|h
    . exact ⟨20,by rw [h]; rfl,by decide,by decide⟩
    . exact ⟨6,by rw [h]; rfl,by decide,by decide⟩
  refine zu e5 gt ?_;have h4:=b8 x7 (show t≠0 by lia);have h5:=cg x7 (show 0<t by lia);exists zw (!1) λp6 H6 n6 s6 e6=>?_;exact q p6 (.shift al n (1+x7 % t)) n n H6 (((((s1.trans s2).trans s3).trans s4).trans s5).trans s6) e6 (CM hR zz hn (ob n hn) (!2) (zR (B:=20) (!2) (!2) ⋯)) rfl
theorem K64(F:Fun K "_law_walked" "_law_walked" S62 f fd)(B:Bl mg)(o59x:O59x P w K mg base)(o58x:O58x P w K mg base)(o61x:Own P w K mg base 5 "_law_fits" ["_law_d","_law_deed_here","_law_lying"] [] P61):FnOk P w K mg base CX0 6 f fd ["_law_d","_law_heap_here","_law_plan"] P64:=by
  refine F.okA C67 λcdv A outer s H vs Q E hr h=>?_;obtain @⟨d,hp,pl,L,ps,es,D,M,K',rfl,hh,hA,l1,l30,hpl,el,hR,hr',hw,z,bs,lN,q⟩:=h;refine ⟨_,(za (uj (ze o59x hr rfl (pa1 (pv 1))) (xR (n:=2) rfl (zH (pg_n 3 C67.nd) (zH (pg_n 4 C67.nd) xb)))) (za (zV PassesOwn.never rfl (zG (pv 2)) (pg_n 5 C67.nd) (za (zv (yd (zU (ze o61x hr rfl (pa3 (pv 0) (pv 5) (pv 3))))) (zc (zf BH)) zj) (zc (uj (ze o58x hr rfl (pa3 (pv 3) (pv 4) (pv 5))) (xR (n:=2) rfl (zH (pg_n 3 C67.nd) (zH (pg_n 4 C67.nd) xb))))))) (zc (zf (ye ["_law_name"] [3] rfl (zG (zm (wQ rfl) rfl B.sorted xu (pa1 (pv 3)))) (λ_ _ _ _ _=>(pg_n 0 (show List.Nodup (α:=Str) ["_law_name","_law_lying"] by decide +kernel))) (λ_ _ _ _ _=>zP) (λ_ _ _ _ _=>(yJ (yS hr) (pv 1) (pv 0) (λ_ _=>rfl)))))))),?_⟩;walk_at "s";have dlo:=hR.lo;have hd64:Bd 64 d:=zR (B:=99) (!2) hR.hi (!3);have ok0:As.Ok 30 (As.st L) 0:=by rw [tJ]; exact vq (by rw [aa]; exact l1) (by rw [aa]; exact l30)
  have oks:=z6 ok0 hw;exists wW rfl hh hA (!2) λr1 A0 H1 s1 nA e1 hLy=>?_;exists yU ?_;exists ⟨pl,rfl,⟨_,SqL.of (s1 _ _ hpl)⟩,z8 (K:=K) (a:=pl) (xs:=ps.map V.ref) (λi σ H'=>E3 λ(v:Option V) (A:Addr) (f:Nat->Cell)=>A4 (σ=[vI d,vR hp,vR pl,vR A,vI ((ends (As.st L) (es.take i)).k:Int),v]) (Ly H' A (ends (As.st L) (es.take i)).ns f) ((∀ n∈(ends (As.st L) (es.take i)).ns,(f n).b=(ends (As.st L) (es.take i)).g n)) (Same H H')) ⟨none,A0,fL L,rfl,hLy,λn hn=>rfl,s1⟩ (λi σ H' _ z'=>by obtain ⟨_,_,_,_,_,_,s⟩:=z'; exact SqL.of (s _ _ hpl)) ?_ ?_⟩
  . rintro i x σ H' hi ⟨v,A,f,rfl,hL,hfb,s'⟩;rw [ag] at hi;obtain ⟨p,hp',rfl⟩:=am.mp hi;have hie:i<es.length:=by rw [<-hr'.1]; exact (af.mp hp').1
    obtain ⟨e,n,m,hx⟩:∃ e n m,es[i]?=some (e,n,m):=⟨_,_,_,ae hie⟩
    have st:=hw i _ hx;have he:=(hr'.2 i p _ hp' hx).same s';have hok:=oks i (bf hie);have hsn:=yj (s:=As.st L) hx;have b1:=bs (i+1) hie;rw [hsn] at b1;rw [hsn];have hnl:=hok.nl;generalize hs:ends (As.st L) (es.take i)=s at *
    have hgn:(f n).b=s.g n:=hfb n st.nms.hn;have hgm:(f m).b=s.g m:=hfb m st.nms.hm;have ft:e.Fit d (f n).b (f m).b:=by rw [hgn,hgm]; exact st.fit
    exists Bu rfl (n:=n) (m:=m) he hL st.nms.hn st.nms.hm st.nms.nm st.nms.ne st.nms.eq st.ok ft (by cases hT:e.isT with | false=>rfl | true=>exact absurd (st.tn hT) ⋯) hd64 hR λG1 t1=>?_;have gd:e.Good d D M s.ns f n m:=⟨st.nms.nm,st.nms.hn,st.nms.hm,st.nms.ne,st.nms.eq,st.ok,ft,1,by decide,by decide,λb hb=>by
      rw [hgn,hgm] at hb;rw [cC];obtain ⟨j,hj⟩:=cR hb;have hl:=(af.mp hj).1;rw [Dd.puts_new] at hl;have:=b1 (s.k+j) (mem_next.mpr (.inr ⟨by lia,by show _<s.k+e.puts; lia⟩));rw [show (s.next (e,n,m)).g (s.k+j)=b from yu hj] at this;exact this.mono (!2)⟩
    exists vH rfl (hL.same t1) hok.lt (!2) (he.same t1) gd λr4 A' N' G4 t4 nA' e4 hN' hL4=>?_;rw [hgn,hgm] at hN';have hNl:N'.length=(e.new (s.g n) (s.g m)).length:=by rw [<-hN',aa]
    have hL4:Ly G4 A' (s.next (e,n,m)).ns (fN f s.k N'):=by rw [hNl] at hL4; exact hL4
    have hfb':=LM (x:=(e,n,m)) hfb hok.lt hN';have hk':((s.k+N'.length:Nat):Int)=((s.next (e,n,m)).k:Int):=by rw [hNl]; rfl
    rw [hk'] at e4;walk_at "r";exact ⟨_,A',fN f s.k N',rfl,hL4,hfb',(s'.trans t1).trans t4⟩
  rintro σ H5 ⟨v,A,f,rfl,hL,hfb,s'⟩;rw [aa,hr'.1,aq] at hL hfb;have hok:=oks es.length (ai _);rw [aq] at hok;have hnl:=hok.nl;generalize hs:ends (As.st L) es=s at *
  clear hnl;exists yz ?_;exists Bi hL.l hok.up (!2) λp4 J4 n4 s4 e4=>?_;have hLy4:=hL.same s4;exists ⟨p4,rfl,⟨_,SqL.of e4⟩,λdu hO=>zT (K:=K) (a:=p4) (ys:=(s.ns.map λn:Nat=>(n:Int)).map V.int) (λi xs σ' Hc=>E1 λ(v:Option V)=>A4 (σ'=[v,vR A]) (xs=((s.ns.take i).map f).map Cell.v) (Hc du=some (.lst xs)) (SameX du J4 Hc)) ⟨none,rfl,rfl,zg,(λb o e n=>by rw [zl n]; exact e)⟩ (λi xs σ' Hc _ z=>by obtain ⟨v,_,_,_,z⟩:=z; exact SqL.of (z _ _ e4 (zb e4 hO))) ?_ ?_⟩
  . rintro i x xs σ' Hc hi ⟨v,rfl,rfl,eO,sx⟩;have hi':=(af.mp hi).1;rw [ag,ag] at hi;obtain ⟨z,hz,rfl⟩:=am.mp hi;obtain ⟨n,hn,rfl⟩:=am.mp hz;have s':Same J4 Hc:=λb o e=>sx b o e (zb e hO);have hL':=hLy4.same s';have hn':=ar hn;exists ⟨A,_,rfl,DGet.k (k:=.inl (n:Int)) hL'.l |> (λz=>by rw [zO hn'] at z; exact z),?_⟩;exists zp eO (by simp only [aa,aK] at hi' ⊢; lia) λH5 x5 e5=>?_;refine yv hi' ⟨_,rfl,rfl,?_,sx.trans x5⟩;rw [a8,hn,aj,aj];exact e5
  rintro xs σ' J5 ⟨v,rfl,rfl,edu,sx⟩;have s5:Same J4 J5:=λb o e=>sx b o e (zb e hO);rw [aa,aa,aq] at edu;have z35:=s4.trans s5;have hAdu:∀ c∈s.ns.map f,c.At J5:=λc hc=>by
    obtain ⟨n,hn,rfl⟩:=aY.mp hc;exact (hL.at' n hn).same z35
  have bdu:(s.ns.map f).map Cell.b=s.ns.map s.g:=LV hfb;clear sx;exact q du (s.ns.map f) J5 (s'.trans z35) edu hAdu bdu
theorem K65(F:Fun K "do" "Yard.do" S67 f fd)(B:Bl mg)(X:Xs K mg cs)(g_TURN:TopS mg "TURN" (Str.ofString "turn"))(o22x:O22x P w K mg base)(o68x:OwnM P w K mg base CX0 cs.Yard 2 "check_names" ["self","names"] [] (P35 cs))(o69x:OwnM P w K mg base CX0 cs.Yard 5 "put_by" ["self","deed","boards"] [] (P62 cs))(o21x:Own P w K mg base 4 "is_deed" ["thing"] [] P50):FnOk P w K mg base CX0 6 f fd ["self","deed"] (P65 cs):=by
  obtain ⟨u_TURN,m_TURN,r_TURN⟩:=g_TURN;refine F.okA C68 λcdv A outer s H vs Q E hr h=>?_;obtain @⟨y,d,tn,cl,ns,lg,p,e,c,c',rfl,hy,he,ok,hm,hn,ht,hc,hf,hd,l1,l2,q⟩:=h;refine ⟨_,(za (zv (yd (zU (ze o21x hr rfl (pa1 (pv 1))))) (zc yY) zj) (za (ps_s 2 C68.nd (ze o22x hr rfl (pa1 (pv 1)))) (za (zL (vz o68x tP hr (pv 0) (pa1 (pv 2)))) (za (zv (PW.pt (xk (zi z5 (pit 1) (yR (v:=.str (Str.ofString "turn")) rfl m_TURN r_TURN) (zk _)) (yI (yd (zU (yw (K:=K) rfl (pv 0) rfl)))))) (zc yY) zj) (za (ps_s 3 C68.nd (vz o69x tP hr (pv 0) (pa2 (pv 1) (ye ["name"] [0] rfl (zG (pv 2)) (λ_ _ _ _ _=>(pg_n 0 (show List.Nodup (α:=Str) ["name","self"] by decide +kernel))) (λ_ _ _ _ _=>zP) (λ_ _ _ _ _=>(pe_i (r:=rIxL K) zK (yw (K:=K) rfl (pv 1) rfl) (pv 0))))))) (za (zV PassesOwn.never rfl (zG (pv 2)) (pg_n 4 C68.nd) (zc (zL (u9 (yw (K:=K) rfl (pv 0) rfl) (pv 4) ⟨rfl,rfl,rfl,rfl⟩)))) (za (zV PassesOwn.never rfl (zG (pv 3)) (pg_n 5 C68.nd) (za (xV (yS hr) (yw (K:=K) rfl (pv 0) rfl) (zm zt rfl B.len aV (pa1 (yw (K:=K) rfl (pv 0) rfl))) xq rfl) (zc (zL (xO aJ aQ aR zE (yw (K:=K) rfl (pv 0) rfl) (pa1 (pv 5))))))) (zc (zL (xO aJ aQ aR zE (yw (K:=K) rfl (pv 0) rfl) (pa1 (pv 1)))))))))))),?_⟩;walk_at "s";exists DQ rfl he ok λH1 s1=>?_;exists xl rfl (he.same s1) λa H2 s2 na ea=>?_;have t2:=s1.trans s2;walk_at "r";have hy2:=hy.same t2;have he2:=he.same t2;refine ⟨_,_,_,rfl,hy2.o,rfl,?_⟩;exists wx rfl hy2 ea hm hn e.names_len ?_;walk_at "r";obtain ⟨rs,hp⟩:=he2.tup;refine xn hp (zB (j:=0) rfl) ?_;exists L9 ?_ (λct hB=>?_);rotate_left
  . exists ⟨_,_,_,_,_,rfl,hy2.o,X.c_Yard,X.n_Yard_turning,rfl,?_⟩;rw [ht (Iu ct)];walk_at "rd";exact Jz hB
  exists ⟨_,_,_,rfl,hy2.o,rfl,?_⟩;exists yz ?_;exists ⟨a,rfl,⟨_,SqL.of ea⟩,λD hD=>zT (K:=K) (a:=a) (ys:=e.names.map V.int) (λi xs σ' H'=>E1 λ(v:Option V)=>A4 (σ'=[v,vR y.p]) (xs=((e.cells c c').take i).map Cell.v) (H' D=some (.lst xs)) (SameX D H2 H')) ⟨none,rfl,rfl,zg,λb o e n=>by rw [zl n]; exact e⟩ (λi xs σ' H' _ z=>by obtain ⟨v,_,_,_,z⟩:=z; exact SqL.of (z _ _ ea (zb ea hD))) ?_ ?_⟩
  . rintro i x xs σ' H' hi ⟨v,rfl,rfl,eD,sx⟩;rw [ag] at hi;obtain ⟨m,hm',rfl⟩:=am.mp hi;obtain ⟨n,x,rfl,hx,hcx⟩:=Bs hc hm';have hi3:=(af.mp hm').1;have hn2:=e.names_len;have s':Same H2 H':=λb o e=>sx b o e (zb e hD);have hy':=hy2.same s';exists ⟨_,_,_,_,_,rfl,hy'.o,X.c_Yard,X.n_Yard_known,rfl,?_⟩;exists zu hy'.k (v:=x.v) (zB (by rw [ag,hx]; rfl)) ?_;exists zp eD (by rw [aa,aK]; lia) λH3 x3 e3=>?_;refine yv (by rw [aa]; exact hi3) ⟨_,rfl,rfl,?_,sx.trans x3⟩;rw [a8,hcx,aj];exact e3
  rintro xs σ' H3 ⟨v,rfl,rfl,eD,sx⟩;have s3:Same H2 H3:=λb o e=>sx b o e (zb e hD);have t3:=t2.trans s3;have hy3:=hy.same t3;rw [aa,<-e.cells_len c c',aq] at eD;exists tz rfl hy3 (he.same t3) (by rw [eD]; unfold Dd.cells; cases e.two <;> rfl) (hy3.at' c hc.mem.1) (hy3.at' c' hc.mem.2) hd hf λr N H4 s4 nr er hN hNb=>?_;have t4:=t3.trans s4;have hy4:=hy.same t4;have ea4:=s4 _ _ (s3 _ _ ea);have kl:y.k≠y.l:=ya hy4.k hy4.l (λz=>nomatch z);have tl:y.t≠y.l:=ya hy4.t hy4.l (λz=>nomatch z);have ol:y.p≠y.l:=ya hy4.o hy4.l (λz=>nomatch z);have ok':y.p≠y.k:=ya hy4.o hy4.k (λz=>nomatch z);have ot:y.p≠y.t:=ya hy4.o hy4.t (λz=>nomatch z);have al:a≠y.l:=ya ea4 hy4.l (λz=>nomatch z);have rl:r≠y.l:=ya er hy4.l (λz=>nomatch z);have rk:r≠y.k:=bZ (zb hy3.k nr);exists yU ?_;exists ⟨a,rfl,⟨_,SqL.of ea4⟩,z8 (K:=K) (a:=a) (xs:=e.names.map V.int) (λi σ H'=>E1 λv=>A3 (σ=[vR y.p,vR p,vR a,vR r,v,none]) (H' y.l=some (.dK (nmK (yg ns (e.names.take i))))) (SameX y.l H4 H')) ⟨_,rfl,hy4.l,λb o e _=>e⟩ (λi σ H' _ z'=>by obtain ⟨_,_,_,x⟩:=z'; exact SqL.of (x _ _ ea4 al)) ?_ ?_⟩
  . rintro i x σ H' hi ⟨v,rfl,el,sx5⟩;rw [ag] at hi;obtain ⟨m,hm',rfl⟩:=am.mp hi;obtain ⟨n,hn',rfl⟩:=hm m (ar hm');have hni:(n:Int)∉e.names.take i:=by
      intro hh;obtain ⟨j,hj⟩:=cR hh;have hj1:=(af.mp hj).1;rw [aK] at hj1;rw [dc (!2)] at hj;have:=(dD (i:=j) (!2) hn).mp (hj.trans hm'.symm)
      lia
    have eo:=sx5 _ _ hy4.o ol;exists ⟨_,_,_,_,_,rfl,eo,X.c_Yard,X.n_Yard_lying,rfl,?_⟩;refine ⟨y.l,rfl,.inl ⟨_,.inl el⟩,?_⟩;exists ⟨_,.inl (n:Int),_,el,rfl,vf (mem_ndrop.mpr ⟨hn',hni⟩),?_⟩;refine ⟨_,rfl,?_,λb o e n=>by rw [zl n]; exact sx5 b o e n⟩;rw [zg,vv,a8,hm',show ((some (n:Int)).toList)=[(n:Int)] from rfl,xI]
  rintro σ H5 ⟨v,rfl,el5,sx5⟩;rw [aa,aq] at el5;have er5:=sx5 _ _ er rl;have ek5:=sx5 _ _ hy4.k kl;have hN2:N.length<=2:=by rw [<-aa (f:=Cell.b),hNb]; exact uL e _ _
  have dl:=E8 (xM (ms:=e.names) hy.up) (λn h=>hy.lt n (mem_ndrop.mp h).1);exists yU ?_;exists ⟨r,rfl,⟨_,SqL.of er5⟩,z8 (K:=K) (a:=r) (xs:=N.map Cell.v) (λi σ H'=>E2 λv v'=>A4 (σ=[vR y.p,vR p,vR a,vR r,v,v']) (H' y.l=some (.dK (nmK (yg ns e.names++List.range' cl.length i)))) (H' y.k=some (.lst ((cl++N.take i).map Cell.v))) (∀ b o,H5 b=some o->b≠y.k->b≠y.l->H' b=some o)) ⟨_,_,rfl,by simpa using el5,by simpa using ek5,λb o e _ _=>e⟩ (λi σ H' _ z'=>by obtain ⟨_,_,_,_,_,x⟩:=z'; exact SqL.of (x _ _ er5 rk rl)) ?_ ?_⟩
  . rintro i x σ H' hi ⟨v1,v2,rfl,el,ek,sx6⟩;rw [ag] at hi;obtain ⟨cx,hcx,rfl⟩:=am.mp hi;have hi3:=(af.mp hcx).1;have eo:=sx6 _ _ (sx5 _ _ hy4.o ol) ok' ol;have lk:((cl++N.take i).map Cell.v).length=cl.length+i:=by rw [aa,ah,aK]; lia
    exists ⟨_,_,_,_,_,rfl,eo,X.c_Yard,X.n_Yard_lying,rfl,?_⟩;exists ⟨_,_,_,_,_,rfl,eo,X.c_Yard,X.n_Yard_known,rfl,?_⟩;walk_at "r";rw [lk];refine ⟨y.l,_,rfl,DPut.k (k:=.inl ((cl.length+i:Nat):Int)) el (by simp only [nmK,aa,ah,dm]; exact aE (show _<1000 by lia) (!3)),?_⟩;have ek':upd H' y.l (.dK (putK (nmK (yg ns e.names++List.range' cl.length i)) (.inl ((cl.length+i:Nat):Int)) (.bl true))) y.k=some (.lst ((cl++N.take i).map Cell.v)):=by rw [zl kl]; exact ek
    exists ⟨_,_,_,_,_,rfl,by rw [zl ol]; exact eo,X.c_Yard,X.n_Yard_known,rfl,?_⟩;exists zp ek' (by rw [lk]; lia) λH7 x7 e7=>?_;refine ⟨_,_,rfl,?_,?_,λb o e n1 n2=>x7 _ _ (by rw [zl n2]; exact sx6 b o e n1 n2) n1⟩
    . rw [x7 _ _ zg (bZ kl)];rw [vk _ (wP (λn hn=>?_))]
      . rw [fF,<-bB];simp [nmK]
      . rcases aw.mp hn with hn | hn
        . have:=hy.lt n (mem_ndrop.mp hn).1
          lia
        . have:=ce.mp hn
          lia
    . rw [a8,hcx,<-bB,aj];exact e7
  rintro σ H6 ⟨v1,v2,rfl,el6,ek6,sx6⟩;rw [aa] at el6 ek6;rw [aq] at ek6;have eo6:=sx6 _ _ (sx5 _ _ hy4.o ol) ok' ol;have et6:=sx6 _ _ (sx5 _ _ hy4.t tl) (bZ hy.kt) tl;exists ⟨_,_,_,_,_,rfl,eo6,X.c_Yard,X.n_Yard_done,rfl,?_⟩;exists zp et6 (!2) λH7 x7 e7=>?_;walk_at "r";have keep:∀ x:Cell,x.At H4->x.At H7:=λx hx=>by
    have f:∀ {b:Addr} {ys:List V},H4 b=some (.tup ys)->H7 b=some (.tup ys):=λ{b ys} e=>x7 _ _ (sx6 _ _ (sx5 _ _ e (ya e hy4.l (λz=>nomatch z))) (ya e hy4.k (λz=>nomatch z)) (ya e hy4.l (λz=>nomatch z))) (ya e hy4.t (λz=>nomatch z));exact ⟨f hx.t,f hx.w,f hx.h⟩
  refine q N H7 ⟨x7 _ _ eo6 ot,x7 _ _ ek6 hy.kt,x7 _ _ el6 (bZ tl),e7,hy.kt,λx hx=>?_,?_,λn hn=>?_,by rw [ah]; lia,by rw [ah]; simp only [au,aP]; lia⟩ hNb (λb o e n1 n2 n3=>x7 _ _ (sx6 _ _ (sx5 _ _ (t4 _ _ e) n2) n1 n2) n3)
  . rcases aw.mp hx with hx | hx
    . exact keep x (hy4.at' x hx)
    . exact keep x (hN x hx)
  . refine List.pairwise_append.mpr ⟨xM hy.up,gr ..,λn1 h1 n2 h2=>?_⟩;have:=hy.lt n1 (mem_ndrop.mp h1).1;have:=ce.mp h2
    lia
  . rw [ah];rcases aw.mp hn with hn|hn
    . have:=hy.lt n (mem_ndrop.mp hn).1
      lia
    . have:=ce.mp hn
      lia
theorem K66(F:Fun K "yard_behind" "yard_behind" S28 f fd)(B:Bl mg)(X:Xs K mg cs)(o66x:OwnI P w K mg base CX0 cs.Yard 1 "Yard" ["self","d","heap","turning"] [] (P18 cs))(o67x:OwnM P w K mg base CX0 cs.Yard 6 "do" ["self","deed"] [] (P65 cs)):FnOk P w K mg base CX0 7 f fd ["d","heap","plan","turning"] (P66 cs):=by
  refine F.okA C69 λcdv A outer s H vs Q E hr h=>?_;obtain @⟨hp,pl,d,tn,L,ps,es,rfl,hh,hA,l30,hpl,plen,hd,hr',hw,q⟩:=h;refine ⟨_,(za (ps_s 4 C69.nd (HH o66x tP hr rfl (pa3 (pv 0) (pv 1) (pv 3)))) (za (zV PassesOwn.never rfl (zG (pv 2)) (pg_n 5 C69.nd) (zc (zL (vz o67x tP hr (pv 4) (pa1 (pv 5)))))) (zc (zf (pv 4))))),?_⟩;walk_at "s";exists Kt ?_;walk_at "r";intro x dx nx ndx ndxx;refine vC (tn:=tn) rfl nx ndx hh hA (!2) λy H1 ep s1 hy1 k1 l1 t1=>?_;subst ep;refine ⟨rfl,?_⟩;have hpl1:=s1 _ _ hpl;have plk:pl≠y.k:=zb hpl k1;have plt:pl≠y.t:=zb hpl t1;have hel:es.length<=150:=by rw [<-hr'.1]; exact plen
  have st0:YdS cs.Yard H1 y d tn (As.st L) []:=⟨L,hy1,rfl,λn hn=>by
    have hn:n<L.length:=hn;exact ⟨_,ae hn,by show _=(fL L n).b; rw [uy (ae hn)]⟩⟩
  exists yU ?_;exists ⟨pl,rfl,⟨_,SqL.of hpl1⟩,z8 (K:=K) (a:=pl) (xs:=ps.map V.ref) (λi σ H'=>E1 λv=>A3 (σ=[vI d,vR hp,vR pl,some (.bl tn),vR y.p,v]) (Same H H') (YdS cs.Yard H' y d tn (ends (As.st L) (es.take i)) ((ps.take i).map V.ref))) ⟨_,rfl,s1,st0⟩ (λi σ H' _ z'=>by obtain ⟨_,_,s,_⟩:=z'; exact SqL.of (s _ _ hpl)) ?_ ?_⟩
  . rintro i x σ H' hi ⟨v,rfl,s',⟨cl,hyc,hk,hrel⟩⟩;rw [ag] at hi;obtain ⟨p,hp',rfl⟩:=am.mp hi;have ci:=(af.mp hp').1;have hkk:=JM (s:=As.st L) (es:=es.take i);have hk0:(As.st L).k=L.length:=rfl;rw [aK] at hkk;have hlg:((ps.take i).map V.ref).length<=150:=by rw [aa,aK]; lia
    have hie:i<es.length:=by rw [<-hr'.1]; exact ci
    obtain ⟨e,n,m,hx⟩:∃ e n m,es[i]?=some (e,n,m):=⟨_,_,_,ae hie⟩
    have st:=hw i _ hx;have he:=(hr'.2 i p _ hp' hx).same s';obtain ⟨cn,hcn,hbn⟩:=hrel n (hk ▸ hyc.lt n st.nms.hn);obtain ⟨cm,hcm,hbm⟩:=hrel m (hk ▸ hyc.lt m st.nms.hm);exists ⟨_,_,_,rfl,hyc.o,rfl,?_⟩;exists Dj rfl (c:=cn) (c':=cm) hyc he st.ok st.nms.names_in st.nms.nodup st.tn (st.nms.cells hcn hcm) (by rw [hbn,hbm]; exact st.fit) hd (!2) (!2) λN H2 hy2 hN fr2=>?_;rw [hbn,hbm] at hN;exists ⟨_,rfl,λb o e=>fr2 _ _ (s' _ _ e) (zb e k1) (zb e l1) (zb e t1),?_⟩;rw [yj hx,a8,hp',aj];exact YdS.next hk hrel hy2 hN
  rintro σ H' ⟨v,rfl,s',st⟩;rw [aa,aq,hr'.1,aq] at st;walk_at "r";exact q y H' s' st
theorem K67(F:Fun K "_law_is_plan" "_law_is_plan" S63 f fd)(B:Bl mg)(o62x:Own P w K mg base 6 "_law_walked" ["_law_d","_law_heap_here","_law_plan"] [] P64)(o43x:O43x P w K mg base):FnOk P w K mg base CX0 7 f fd ["_law_d","_law_found","_law_one","_law_other"] P67:=by
  refine F.okA C70 λcdv A outer s H vs Q E hr h=>?_;obtain @⟨d,D',fo,pl,pp,p1,p2,L,C2,ps,es,qs,rfl,hf,hpl,hpp,hr',plen,h1,h2,hA1,hA2,n1,n2,sz,T,hR,q⟩:=h;refine ⟨_,(za (zv (PW.pt (xi (yd (zU (zm zJ rfl B.isinstance zA (pa2 (pv 1) (yK (v:=.ty "tuple") rfl B.tuple xJ rfl))))) (xi (zi uD (zm zt rfl B.len aV (pa1 (pv 1))) zd (zk _)) (xi (zi uD (pit 1) zx (zk _)) (xt (yd (zU (zm zJ rfl B.isinstance zA (pa2 (pit 1) (yK (v:=.ty "list") rfl B.list xD rfl)))))))))) (zc (zf xq)) zj) (za (ps_s 4 C70.nd (pit 1)) (za (zv (PW.pt (xi (yd (zU (zm zJ rfl B.isinstance zA (pa2 (pv 4) (yK (v:=.ty "list") rfl B.list xD rfl))))) (xt (zi (Gm hr.units) (ye ["_law_place"] [] rfl (zG (pv 4)) (λ_ _ _ _ _=>(pg_n 0 (show List.Nodup (α:=Str) ["_law_place"] by decide +kernel))) (λ_ _ _ _ _=>(tw (yd (zU (ze o43x hr rfl (pa1 (pv 0))))))) (λ_ _ _ _ _=>(pv 0))) (zI yl) (zk _))))) (zc (zf xq)) zj) (za (ps_s 5 C70.nd (ze o62x hr rfl (pa3 (pv 0) (pv 2) (pit 1)))) (za (zv (PW.pt (xi (zi HQ (pv 5) BH (zk _)) (xi (zi uD (zm zt rfl B.len aV (pa1 (pv 5))) (zm zt rfl B.len aV (pa1 (pv 3))) (zk _)) (xt (zi (Gw hr.units) (zm ux rfl B.sorted xu (pa1 (pv 4))) (Dm rfl rfl B.list xD rfl B.range (zm zt rfl B.len aV (pa1 (pv 3)))) (zk _)))))) (zc (zf xq)) zj) (zc (zf (zY (J1 hr.units) (ye ["_law_place"] [5] rfl (zG (pv 4)) (λ_ _ _ _ _=>(pg_n 0 (show List.Nodup (α:=Str) ["_law_place","_law_ended"] by decide +kernel))) (λ_ _ _ _ _=>zP) (λ_ _ _ _ _=>(pe_i (r:=rIxL K) zK (pv 1) (pv 0)))) (pv 3) (zk _))))))))),?_⟩;walk_at "s";obtain ⟨a1,a20⟩:=n1;obtain ⟨b1,b20⟩:=n2;have tl:=T.l;have tg:=T.g;have tp:=T.p;rw [aa] at tl tp;have qlen:qs.length=C2.length:=by have:=tp.length_eq; rwa [bA] at this
  exists vK (by rfl) ?_;exists vK (by rfl) ?_;exists JW (.lst hpl) rfl ?_;exists JW (.lst hpp) rfl ?_;exists yz ?_;exists ⟨pp,rfl,⟨_,SqL.of hpp⟩,λO hO=>zT (K:=K) (a:=pp) (ys:=(qs.map λn:Nat=>(n:Int)).map V.int) (λi xs σ' Hc=>E1 λ(v:Option V)=>A4 (σ'=[v]) (xs=[]) (Hc O=some (.lst xs)) (SameX O H Hc)) ⟨none,rfl,rfl,zg,λb o e n=>by rw [zl n]; exact e⟩ (λi xs σ' Hc _ z=>by obtain ⟨v,_,_,_,z⟩:=z; exact SqL.of (z _ _ hpp (zb hpp hO))) ?_ ?_⟩
  . rintro i x xs σ' Hc hi ⟨v,rfl,rfl,eO,sx⟩;have hi':=(af.mp hi).1;rw [ag] at hi;obtain ⟨zq,hz,rfl⟩:=am.mp hi;walk_at "r";exact yv hi' ⟨_,rfl,rfl,eO,sx⟩
  rintro xs σ' H3 ⟨v,rfl,rfl,eO,sx⟩;have s3:Same H H3:=λb o e=>sx b o e (zb e hO);exists zy (!1) λo4 H4 n4 s4 e4=>?_;refine ⟨O,o4,[],rfl,rfl,SqL.of (s4 _ _ eO),SqL.of e4,?_⟩;have s04:=s3.trans s4;rw [show (!([]:List V).isEmpty)=false from rfl];have s4':=s04;have hA14:∀ c∈L,c.At H4:=λc hc=>(hA1 c hc).same s04;have hf4:=s04 _ _ hf;exists uC rfl (s04 _ _ h1) hA14 a1 (!2) (s04 _ _ hpl) (by rw [<-hr'.1]; exact plen) hR (hr'.same s04) (by rw [tJ]; exact T.w) sz (by rw [tJ]; exact T.b) (by rw [tJ,tl]; lia) λr2 W H5 s5 e2 hW bW=>?_;rw [tJ] at bW;have wl:W.length=C2.length:=by
    have:=congrArg List.length bW;rw [aa,aa,tl] at this;exact this
  have s05:=s04.trans s5;have hf5:=s05 _ _ hf;have hpp5:=s05 _ _ hpp;have h25:=s05 _ _ h2;walk_at "r";rw [show decide (V.ref r2=V.non)=false from h7 (λz=>nomatch z)];walk_at "r";have hcl:((W.map Cell.v).length:Int)=((C2.map Cell.v).length:Int):=by rw [aa,aa,wl]
  exists vK hcl ?_;exists Em hpp5 (Aj tp) (D6 bU) (by rw [aa]; lia) λso J3 n3' u3 eso=>?_;have h23:=u3 _ _ h25;exists FI ?_;exists ⟨C2.length,by rw [aa],by lia,λlr nlr=>?_⟩;have u4:Same J3 (upd J3 lr (.lst (((List.range C2.length).map λk:Nat=>(k:Int)).map V.int))):=zD nlr _;have elr:(upd J3 lr (.lst (((List.range C2.length).map λk:Nat=>(k:Int)).map V.int))) lr=some (.lst (((List.range C2.length).map λk:Nat=>(k:Int)).map V.int)):=zg;generalize upd J3 lr (.lst (((List.range C2.length).map λk:Nat=>(k:Int)).map V.int))=J4 at u4 elr ⊢;refine Jj (u4 _ _ eso) elr ?_;have u24:=u3.trans u4;have e14:=u24 _ _ hf5;have hpp4:=u24 _ _ hpp5;have e24:=u24 _ _ e2;have atq:∀ k q:Nat,qs[k]?=some q->∃ c,W[q]?=some c/\(C2.map Cell.b)[k]?=some c.b:=λk q hq=>by
    obtain ⟨n,h1,h2⟩:=tg k q hq;have hq':=(af.mp h1).1;have hq2:q<W.length:=by lia
    refine ⟨W[q],ae hq2,?_⟩;have h3:=congrArg (·[q]?) bW;simp only [ag,ae hq2,h1,dr] at h3;rw [h2];exact h3.symm
  exists yz ?_;exists ⟨pp,rfl,⟨_,SqL.of hpp4⟩,λO2 hO2=>zT (K:=K) (a:=pp) (ys:=(qs.map λn:Nat=>(n:Int)).map V.int) (λi xs σ' Hc=>E2 λ(v:Option V) (F:List Cell)=>A7 (σ'=[v,vR r2]) (xs=F.map Cell.v) (F.length=i) ((∀ c∈F,c∈W)) ((∀ k q:Nat,k<i->qs[k]?=some q->W[q]?=F[k]?)) (Hc O2=some (.lst xs)) (SameX O2 J4 Hc)) ⟨none,[],rfl,rfl,rfl,λc hc=>absurd hc (!1),λk q hk=>absurd hk (!2),zg,λb o e n=>by rw [zl n]; exact e⟩ (λi xs σ' Hc _ z=>by obtain ⟨v,_,_,_,_,_,_,_,z⟩:=z; exact SqL.of (z _ _ hpp4 (zb hpp4 hO2))) ?_ ?_⟩
  . rintro i x xs σ' Hc hi ⟨v,F,rfl,rfl,hFl,hFC,hFq,eO,sx⟩;have hi':=(af.mp hi).1;rw [ag,ag] at hi;obtain ⟨zq,hz,rfl⟩:=am.mp hi;obtain ⟨qn,hq,rfl⟩:=am.mp hz;obtain ⟨c,hc,_⟩:=atq i qn hq;have e5c:=sx _ _ e24 (zb e24 hO2);exists zu e5c (v:=c.v) (zB (by rw [ag,hc]; rfl)) ?_;exists zp eO (by rw [aa]; simp only [aa] at hi'; lia) λJ7 x7 e7=>?_;refine yv hi' ⟨_,F++[c],rfl,rfl,by rw [ah,hFl]; rfl,λc' hc'=>?_,λk q' hk hkq=>?_,by rw [aj]; exact e7,sx.trans x7⟩
    . rcases aw.mp hc' with h | h
      . exact hFC c' h
      . rw [ak.mp h]; exact ar hc
    . by_cases ck:k<i
      . rw [aM (!2)];exact hFq k q' ck hkq
      . have:k=i:=by lia
        subst this;rw [hq] at hkq;have:qn=q':=ax hkq;subst this;rw [hc,aH (!2),hFl,dz];rfl
  rintro xs σ' J7 ⟨v,F,rfl,rfl,hFl,hFC,hFq,eO7,sx7⟩;have u7:Same J4 J7:=λb o e=>sx7 b o e (zb e hO2);rw [aa,aa] at hFl hFq;have u07:=(s05.trans u24).trans u7;have u27:=u24.trans u7;have h27:=u07 _ _ h2;exists KK eO7 h27 (λc hc=>(hW c (hFC c hc)).same u27) (λc hc=>(hA2 c hc).same u07) (La (C:=W) hFl qlen.symm λk q' hkq=>?_) ?_
  . obtain ⟨c,hc,hb'⟩:=atq k q' hkq;have hk:=(af.mp hkq).1;have hF:=hFq k q' hk hkq;rw [hc] at hF;have hkL:k<C2.length:=by lia
    rw [ag,ae hkL] at hb';exact ⟨c,C2[k],hF.symm,ae hkL,(ax hb').symm⟩
  exact q J7 u07
theorem K68(F:Fun K "_law_remade" "_law_remade" S64 f fd)(B:Bl mg)(o59x:O59x P w K mg base)(o57x:Own P w K mg base 6 "_law_deed" ["_law_d","_law_cell_here","_law_lying","_law_pool"] [] (P63 K))(o58x:O58x P w K mg base)(o44x:O44x P w K mg base)(o42x:O42x P w K mg base):FnOk P w K mg base CX0 7 f fd ["_law_d","_law_script","_law_heap_here","_law_pool","_law_first","_law_last"] (P68 K):=by
  refine F.okA C71 λcdv A outer s H vs Q E hr h=>?_;obtain @⟨d,D,a,l,qa,ns,L,P,ft,n6,M,K',rfl,hS,hb,hl,hA,hP,hR,l1,l20,ob,oP,zz,hn6,hK,hM,q⟩:=h;refine ⟨_,(za (uj (ze o59x hr rfl (pa1 (pv 2))) (xR (n:=2) rfl (zH (pg_n 6 C71.nd) (zH (pg_n 7 C71.nd) xb)))) (za (zV PassesOwn.never rfl (zG (xH u5 (pv 1) (wf (pv 4)) (wf (pv 5)))) (pg_n 8 C71.nd) (za (ps_s 9 C71.nd (ze o57x hr rfl (zr (pv 0) (zr (pv 8) (zr (pv 6) (zr (pv 3) yl)))))) (zc (uj (ze o58x hr rfl (pa3 (pv 6) (pv 7) (pv 9))) (xR (n:=2) rfl (zH (pg_n 6 C71.nd) (zH (pg_n 7 C71.nd) xb))))))) (za (tt (i:=10) C71.nd rfl rfl ["_law_name"] [6] rfl (zG (zm (wQ rfl) rfl B.sorted xu (pa1 (pv 6)))) (λ_ _ _ _ _=>(pg_n 0 (show List.Nodup (α:=Str) ["_law_name","_law_lying"] by decide +kernel))) (λ_ _ _ _ _=>zP) (λ_ _ _ _ _=>(yJ (yS hr) (pv 1) (pv 0) (λ_ _=>rfl)))) (za (ps_s 11 C71.nd (zh zM (ze o44x hr rfl (pa2 (ze o42x hr rfl (pa2 (pv 1) (pv 4))) zd)) (zm zt rfl B.len aV (pa1 (pv 10))))) (za (ps_s 10 C71.nd (zh B1 (xH u5 (pv 10) (wf (pv 11)) vP) (xH u5 (pv 10) vP (wf (pv 11))))) (za (vE (zv (zi z5 (zh zM (ze o44x hr rfl (pa2 (ze o42x hr rfl (pa2 (pv 1) (pv 4))) zd)) zd) zd (zk _)) (zc (zL (Cb aJ PySem.F.slot_list_reverse PySem.F.type_list_reverse CO (pv 10)))) zj)) (zc (zf (pv 10))))))))),?_⟩;walk_at "s";exists wW rfl hl hA (!2) λr0 A0 H1 s1 nA0 e1 ly1=>?_;have hS1:=s1.seq hS;have hP1:=hP.same s1;exists yU ?_;exists Hr (i:=ft) (j:=ft+n6) hS1 λps H2 nps s2 e2=>?_;rw [show ft+n6 - ft=n6 by lia] at e2;have cb:∀ x∈(ns.drop ft).take n6,Bd 1048576 x:=λx hx=>hb x (dE (bO hx));have cl:((ns.drop ft).take n6).length<=n6:=by rw [aK]; lia
  generalize (ns.drop ft).take n6=cz at *
  have hP2:=hP1.same s2;have ly2:=ly1.same s2;refine ⟨ps,rfl,⟨_,SqL.of e2⟩,z8 (K:=K) (a:=ps) (xs:=cz.map V.int) (λi σ H'=>E6 λ(v8 v9:Option V) (A:Addr) (f:Nat->Cell) (s:As) (D2:Int)=>A8 (σ=[vI d,vR a,vR l,vR qa,vI (ft:Int),vI ((ft+n6:Nat):Int),vR A,vI (s.k:Nat),v8,v9,none,none]) (Same H2 H') (Ly H' A s.ns f) ((∀ n,(f n).b=s.g n)) (As.Ok L.length s i) ((1<=D2/\D∣D2/\Bd (K'+6*i) D2)) ((∀ n∈s.ns,BoD d D2 (M+13*i) (s.g n))) (tbs (s.ns.map s.g)=tbs (L.map Cell.b))) ⟨_,_,A0,fL L,As.st L,D,rfl,Same.refl _,ly2,λn=>rfl,IT l1,⟨zz.d1,dy _,zz.bd⟩,λn hn=>?_,by rw [Jt]⟩ (λi σ H' _ z=>by obtain ⟨_,_,_,_,_,_,_,z,_⟩:=z; exact SqL.of (z _ _ e2)) ?_ ?_⟩
  . have hn:n<L.length:=bC.mp hn;show BoD d D M (fL L n).b;rw [FS (ae hn)];exact ob _ (bH hn)
  . rintro i x σ H' hi ⟨v8,v9,A,f,s,D2,rfl,s',ly,hfb,ok,⟨d1,dv,bd⟩,bo,tb⟩;have hi':=(af.mp hi).1;rw [aa] at hi';rw [ag] at hi;obtain ⟨c0,hc0,rfl⟩:=am.mp hi;have nl:=ok.nl;have kl:=ok.kl;have z2:Sz D2 (K'+6*i) (M+13*i):=⟨d1,bd,by lia,by lia⟩
    exists AV rfl (K:=K) (cb c0 (ar hc0)) ly ok.up (!2) ok.ne (λn hn=>by rw [hfb]; exact bo n hn) (hP2.same s') (λy hy=>?_) z2 hR λp e n m H3 s3 he gd nT=>?_
    . have o:=oP y hy;exact (So.low d1 o.1.z1 o.1.g o.1.up (aX o.2 dv) o.1.bx o.1.by' bd).mono (!2)
    have st:Stp d false s (e,n,m):=⟨⟨gd.nm,gd.hn,gd.hm,gd.ne,gd.eq⟩,gd.ok,by show e.Fit d (s.g n) (s.g m); rw [<-hfb,<-hfb]; exact gd.fit,λz=>by rw [nT] at z; cases z⟩
    exists vH rfl (ly.same s3) ok.lt (!2) he gd λr4 A4 N H4 s4 nA4 e4 hN ly4=>?_;rw [hfb,hfb] at hN;obtain ⟨k2,k21,bk2,nb⟩:=gd.new;rw [hfb,hfb] at nb;have hNl:N.length=(e.new (s.g n) (s.g m)).length:=by rw [<-hN,aa]
    exists ⟨some (.int c0),vR p,A4,fN f s.k N,s.next (e,n,m),D2*k2,?_,(s'.trans s3).trans s4,?_,λj=>?_,ok.next st.nms,⟨aZ (!2) (!2),aX dv (Int.dvd_mul_right _ _),(bd.mul bk2).mono (!2)⟩,FM ok.lt (λj hj=>?_) (λb hb'=>?_),?_⟩
    . rw [hNl];rfl
    . rw [hNl] at ly4;exact ly4
    . rw [fN_b,hN,show (λn=>(f n).b)=s.g from funext hfb];rfl
    . have:=bo j hj;exact ⟨(this.1.scale bk2).mono (!2),(this.2.scale bk2).mono (!2)⟩
    . have:=nb b hb';exact ⟨this.1.mono (!2),this.2.mono (!2)⟩
    . exact (Gk (D:=D2) (M:=M+13*i) st nT ok.up ok.lt bo).trans tb
  rintro σ H3 ⟨v8,v9,A,f,s,D2,rfl,s3,ly,hfb,ok,⟨d1,dv,bd⟩,bo,tb⟩;rw [aa] at ok bd bo;have nl:=ok.nl;exists yz ?_;exists Bi ly.l ok.up (!2) λp4 H4 n4 s4 e4=>?_;have hLy4:=ly.same s4;exists ⟨p4,rfl,⟨_,SqL.of e4⟩,λdu hO=>zT (K:=K) (a:=p4) (ys:=(s.ns.map λn:Nat=>(n:Int)).map V.int) (λi xs σ' H'=>E1 λ(v:Option V)=>A4 (σ'=[v,vR A]) (xs=((s.ns.take i).map f).map Cell.v) (H' du=some (.lst xs)) (SameX du H4 H')) ⟨none,rfl,rfl,zg,(λb o e n=>by rw [zl n]; exact e)⟩ (λi xs σ' H' _ z=>by obtain ⟨v,_,_,_,z⟩:=z; exact SqL.of (z _ _ e4 (zb e4 hO))) ?_ ?_⟩
  . rintro i x xs σ' H' hi ⟨v,rfl,rfl,eO,sx⟩;have hi':=(af.mp hi).1;rw [ag,ag] at hi;obtain ⟨z,hz,rfl⟩:=am.mp hi;obtain ⟨n,hn,rfl⟩:=am.mp hz;have s':Same H4 H':=λb o e=>sx b o e (zb e hO);have hL':=hLy4.same s';have hn':=ar hn;exists ⟨A,_,rfl,DGet.k (k:=.inl (n:Int)) hL'.l |> (λz=>by rw [zO hn'] at z; exact z),?_⟩;exists zp eO (by simp only [aa,aK] at hi' ⊢; lia) λH5 x5 e5=>?_;refine yv hi' ⟨_,rfl,rfl,?_,sx.trans x5⟩;rw [a8,hn,aj,aj];exact e5
  rintro xs σ' H5 ⟨v,rfl,rfl,edu,sx⟩;have s5:Same H4 H5:=λb o e=>sx b o e (zb e hO);rw [show s.ns.take ((s.ns.map λn:Nat=>(n:Int)).map V.int).length=s.ns by rw [aa,aa,aq]] at edu;have hA5:∀ c∈s.ns.map f,c.At H5:=λc hc=>by
    obtain ⟨n,hn,rfl⟩:=aY.mp hc;exact (hLy4.same s5).at' n hn
  have lF:(s.ns.map f).length=s.ns.length:=aa ..;have n1:1<=s.ns.length:=bu.mpr ok.ne;have bF:∀ c∈s.ns.map f,BoD d D2 (M+13*n6) c.b:=λc hc=>by
    obtain ⟨n,hn,rfl⟩:=aY.mp hc;rw [hfb];have:=bo n hn;exact ⟨this.1.mono (!2),this.2.mono (!2)⟩
  have tF:tbs ((s.ns.map f).map Cell.b)=tbs (L.map Cell.b):=by
    rw [fE,<-tb];congr 1;exact dM λn _=>hfb n
  have s05:=((s1.trans s2).trans s3).trans (s4.trans s5);have nO0:H du=none:=Same.nn (((s1.trans s2).trans s3).trans s4) hO;generalize s.ns.map f=F at *
  have hS5:=s05.seq hS;have F1:(0:Int)<(((F.map Cell.v).length:Nat):Int):=by rw [aa]; lia
  exists yA rfl hS5 (!2) hb λc1 hc1=>?_;exists yE rfl hc1 (!3) λg1 g10 g11=>?_;walk_at "r";have x0:=b8 g1 (show (((F.map Cell.v).length:Nat):Int)≠0 by lia);have x1:=cg g1 F1;obtain ⟨kk,hk⟩:∃ kk:Nat,g1 % (((F.map Cell.v).length:Nat):Int)=(kk:Int):=⟨(g1 % (((F.map Cell.v).length:Nat):Int)).toNat,by lia⟩
  rw [hk];refine B9 edu λpa Ha sa ea=>?_;have edua:=sa _ _ edu;exists KS edua λpb Hb sb eb=>?_;refine Gv (sb _ _ ea) eb (by simp only [cZ,aK,aa]; lia) λpc Hc npc sc ec=>?_;rw [<-gj,<-hU,<-aj] at ec;have t5c:=(sa.trans sb).trans sc;have s0c:=s05.trans t5c;have nc0:H pc=none:=Same.nn (s05.trans (sa.trans sb)) npc;have mrot:∀ c∈F.drop kk++F.take kk,c∈F:=λc hc=>by
    rcases aw.mp hc with h|h
    . exact dE h
    . exact bO h
  have prot:(F.drop kk++F.take kk).Perm F:=by
    conv=>rhs; rw [<-dn kk F]
    exact List.perm_append_comm
  have fin:∀ (O:List Cell) (H':Hp),O.Perm F->Same H H'->(∀ c∈O,c.At H')->H' pc=some (.lst (O.map Cell.v))->Q (.ref pc) H':=λO H' hp hs ha he=>q pc H' O D2 hs nc0 he ha dv d1 (bd.mono (!2)) (λc hc=>bF c (hp.mem_iff.mp hc)) (by rw [Ge (hp.map _)]; exact tF) (by rw [hp.length_eq]; lia) (by rw [hp.length_eq]; lia);exists AI (T:=λσ' H'=>E2 λ(v:Option V) (O:List Cell)=>A5 (σ'=[vI d,vR a,vR l,vR qa,vI (ft:Int),vI ((ft+n6:Nat):Int),vR A,vI (s.k:Nat),v8,v9,vR pc,v]) (O.Perm F) (Same H H') ((∀ c∈O,c.At H')) (H' pc=some (.lst (O.map Cell.v)))) ?_ ?_
  . exists yA rfl (t5c.seq hS5) (!2) hb λc2 hc2=>?_;exists yE rfl hc2 (!3) λg2 g20 g21=>?_;exists if_d (λcc=>?_) (λcc=>?_)
    . exists D4 ec λHd sxd ed=>?_;rw [<-List.map_reverse] at ed;exists ⟨_,_,rfl,(List.reverse_perm _).trans prot,λb o z=>sxd _ _ (s0c _ _ z) (zb z nc0),λc hc=>((hA5 c (mrot c (List.mem_reverse.mp hc))).same t5c).sameX sxd ec,ed⟩
    . walk_at "r";exact ⟨_,_,rfl,prot,s0c,λc hc=>(hA5 c (mrot c hc)).same t5c,ec⟩
  rintro σ' Hd ⟨v,O,rfl,hp,hs,ha,he⟩;walk_at "r";exact fin O Hd hp hs ha he
theorem K69(F:Fun K "back" "back" S31 f fd)(B:Bl mg)(o28x:Own P w K mg base 7 "yard_behind" ["d","heap","plan","turning"] [] (P66 cs))(o71x:OwnM P w K mg base CX0 cs.Yard 1 "boards" ["self"] [] (P20 cs))(o22x:O22x P w K mg base)(o30x:Own P w K mg base 1 "places_of" ["names"] [] P9)(o23x:O23x P w K mg base)(o29x:Own P w K mg base 2 "undoing" ["yard","deed","names"] [] (P27 cs)):FnOk P w K mg base CX0 8 f fd ["d","heap","plan"] (P69 cs):=by
  refine F.okA C72 λcdv A outer s H vs Q E hr h=>?_;obtain @⟨hp,pl,d,tn,L,ps,es,D0,K',M,rfl,hh,hA,l1,l6,hpl,plen,hR,hr',hw,z,ev,q⟩:=h;refine ⟨_,(za (ps_s 3 C72.nd (ze o28x hr rfl (zr (pv 0) (zr (pv 1) (zr (pv 2) (zr xq yl)))))) (za (ps_s 4 C72.nd (FR o71x tP hr (pv 3))) (za (ps_s 5 C72.nd uW) (za (zV PassesOwn.never rfl (tG rfl B.enumerate (pa1 (pv 4))) (xR (n:=2) rfl (zH (pg_n 6 C72.nd) (zH (pg_n 7 C72.nd) xb))) (zc (xV (yS hr) (pv 5) (pit 7) (pv 6) rfl))) (za (ps_s 8 C72.nd (zm zt rfl B.len aV (pa1 (pv 4)))) (za (ps_s 9 C72.nd (zh zF (zm zt rfl B.len aV (pa1 (pv 1))) (zm (Af rfl) rfl B.sum Gr (pa1 (ye ["deed"] [] rfl (zG (pv 2)) (λ_ _ _ _ _=>(pg_n 0 (show List.Nodup (α:=Str) ["deed"] by decide +kernel))) (λ_ _ _ _ _=>zP) (λ_ _ _ _ _=>(ze o23x hr rfl (pa1 (pv 0))))))))) (za (ps_s 10 C72.nd (zI yl)) (za (zV PassesOwn.never rfl (ID rfl B.reversed (pa1 (pv 2))) (pg_n 11 C72.nd) (za (ps_s 12 C72.nd (zh yV (pv 9) (ze o23x hr rfl (pa1 (pv 11))))) (za (zL (xO aJ aQ aR zE (pv 10) (pa1 (ze o29x hr rfl (pa3 (pv 3) (pv 11) (ye ["name"] [5] rfl (wt rfl B.range (pa2 (pv 12) (pv 9))) (λ_ _ _ _ _=>(pg_n 0 (show List.Nodup (α:=Str) ["name","renamed"] by decide +kernel))) (λ_ _ _ _ _=>zP) (λ_ _ _ _ _=>(yJ (yS hr) (pv 1) (pv 0) (λ_ _=>rfl))))))))) (za (zV PassesOwn.never rfl (zG (ze o22x hr rfl (pa1 (pv 11)))) (pg_n 13 C72.nd) (za (xV (yS hr) (pv 5) (pv 13) (pv 8) rfl) (zc (ps_s 8 C72.nd (zh zF (pv 8) zd))))) (zc (ps_s 9 C72.nd (pv 12))))))) (zc (zf (zo (pa2 (pv 10) (ze o30x hr rfl (pa1 (ye ["name"] [5] rfl (yh rfl B.range (pa1 (zm zt rfl B.len aV (pa1 (pv 1))))) (λ_ _ _ _ _=>(pg_n 0 (show List.Nodup (α:=Str) ["name","renamed"] by decide +kernel))) (λ_ _ _ _ _=>zP) (λ_ _ _ _ _=>(yJ (yS hr) (pv 1) (pv 0) (λ_ _=>rfl)))))))))))))))))),?_⟩;walk_at "s";have hel:es.length<=100:=by rw [<-hr'.1]; exact plen
  have dlo:=hR.lo;have hd64:Bd 64 d:=zR (B:=99) (!2) hR.hi (!3);have ok0:As.Ok 20 (As.st L) 0:=by rw [tJ]; exact vq (by rw [aa]; exact l1) (by rw [aa]; exact l6)
  have oks:=z6 ok0 hw;have okN:=oks es.length (ai _);rw [aq] at okN;have nlN:=okN.nl;have klN:=okN.kl;have ndN:=xG okN.up;exists uY rfl hh hA (!2) hpl (!2) hd64 hr' (DV hw) λy H1 s1 st=>?_;obtain ⟨cl,hyc,hk,hrel⟩:=st;exists ⟨_,_,_,rfl,hyc.o,rfl,?_⟩;exists uO rfl hyc λr2 H2 prs s2 nr2 e2 hprs=>?_;exists AU λD H3 nD s3 e3=>?_;have e23:=s3 _ _ e2;have r2D:r2≠D:=zb e2 nD;exists BV ?_;exists ⟨r2,_,rfl,SqL.of e23,vh (K:=K) (a:=r2) (xs:=prs.map V.ref) (λi σ H'=>E3 λv1 v2 kvs=>A5 (σ=[vI d,vR hp,vR pl,vR y.p,vR r2,vR D,v1,v2,none,none,none,none,none,none]) (H' D=some (.dK kvs)) (kvs.length<=i) (Rn kvs ((ends (As.st L) es).ns.take i) (rk (ends (As.st L) es).ns)) (∀ b o,H3 b=some o->b≠D->H' b=some o)) ⟨_,_,[],rfl,e3,ai _,λn hn=>by simp at hn,λb o e _=>e⟩ (λi σ H' _ z'=>by obtain ⟨_,_,_,_,_,_,_,z⟩:=z'; exact SqL.of (z _ _ e23 r2D)) ?_ ?_⟩
  . rintro i x T σ H' hi hT ⟨v1,v2,kvs,rfl,eD,hkl,hRn,fr⟩;have hi':=(af.mp hi).1;rw [aa,hprs.1] at hi';rw [ag] at hi;obtain ⟨p,hp',rfl⟩:=am.mp hi;obtain ⟨n,c,hn,hc,hpt⟩:=hprs.2 i p hp';have hpt3:=fr _ _ (s3 _ _ hpt) (ya (s3 _ _ hpt) e3 (λz=>nomatch z));have eD':(upd H' T (.tup [.int (i:Int),.ref p])) D=some (.dK kvs):=by rw [zl (zb eD hT)]; exact eD
    have eT:(upd H' T (.tup [.int (i:Int),.ref p])) T=some (.tup [.int (i:Int),.ref p]):=zg;have hpt4:(upd H' T (.tup [.int (i:Int),.ref p])) p=some (.tup [.int (n:Int),.ref c.p]):=by rw [zl (zb hpt3 hT)]; exact hpt3
    have frT:∀ b o,H3 b=some o->b≠D->(upd H' T (.tup [.int (i:Int),.ref p])) b=some o:=λb o e n=>by rw [zl (zb (fr b o e n) hT)]; exact fr b o e n
    generalize upd H' T (.tup [.int (i:Int),.ref p])=G at eT eD' frT hpt4 ⊢;exists ⟨D,_,rfl,DPut.k (k:=.inl (n:Int)) eD' (aE (show _<1000 by lia) (!3)),?_⟩;refine ⟨_,_,_,rfl,zg,bK (yO ..) (!2),λj hj=>?_,λb o e n=>by rw [zl n]; exact frT b o e n⟩;rw [wA];rw [a8,hn] at hj;by_cases c:j=n
    . subst c;rw [h8 rfl,FE ndN hn]
    . rw [h9 (BM c)];refine hRn j ?_;rcases aw.mp hj with h|h
      . exact h
      . exact absurd (by simpa using h) c
  rintro σ H4 ⟨w1,w2,kvs0,rfl,eD4,hkl4,hR4,fr4⟩;rw [aa,hprs.1] at hkl4 hR4;rw [aq] at hR4;have s4:Same H2 H4:=λb o e=>fr4 _ _ (s3 _ _ e) (zb e nD);have s04:=(s1.trans s2).trans s4;have e24:=s4 _ _ e2;have hh4:=s04 _ _ hh;exists yz ?_;walk_at "r";have hpl4:=s04 _ _ hpl;refine ⟨pl,rfl,⟨_,SqL.of hpl4⟩,λO hO=>zT (K:=K) (a:=pl) (ys:=ps.map V.ref) (λi xs σ' H'=>E1 λ(v:Option V)=>A4 (σ'=[v]) (xs=((es.take i).map λx=>((x.1.puts:Nat):Int)).map V.int) (H' O=some (.lst xs)) (SameX O H4 H')) ⟨none,rfl,rfl,zg,λb o e n=>by rw [zl n]; exact e⟩ (λi xs σ' H' _ z=>by obtain ⟨v,_,_,_,z⟩:=z; exact SqL.of (z _ _ hpl4 (zb hpl4 hO))) ?_ ?_⟩
  . rintro i x xs σ' H' hi ⟨v,rfl,rfl,eO,sx⟩;have hi':=(af.mp hi).1;rw [ag] at hi;obtain ⟨p,hp',rfl⟩:=am.mp hi;have hie:i<es.length:=by rw [<-hr'.1]; exact (af.mp hp').1
    have hx:=ae hie;have he:=((hr'.2 i p _ hp' hx).same s04).same (λb o e=>sx b o e (zb e hO));exists yk rfl he ?_;exists zp eO (by simp only [aa,aK]; lia) λH5 x5 e5=>?_;refine yv hi' ⟨_,rfl,rfl,?_,sx.trans x5⟩;rw [a8,hx,aj,aj];exact e5
  rintro xs σ' H5 ⟨v,rfl,rfl,eO5,sx5⟩;have s5:Same H4 H5:=λb o e=>sx5 b o e (zb e hO);rw [aa,hr'.1,aq] at eO5;exists Ku (SqL.of eO5) ?_;have hsum:((L.map Cell.v).length:Int)+(es.map λx=>((x.1.puts:Nat):Int)).sum=((ends (As.st L) es).k:Nat):=by
    rw [BC,xE,aa];show _=((L.length+_:Nat):Int)
    lia
  walk_at "r";rw [hsum];refine zy (!1) λa H6 na s6 e6=>?_;have s46:=s5.trans s6;have s06:=s04.trans s46;have eD6:=s46 _ _ eD4;have Da:D≠a:=zb (s5 _ _ eD4) na;have hy6:=((hyc.same s2).same s4).same s46;have hD0:H D=none:=Same.nn (s1.trans s2) nD;have ha0:H a=none:=Same.nn (s04.trans s5) na;have hpl6:=s06 _ _ hpl;have plD:pl≠D:=zb hpl hD0;have pla:pl≠a:=zb hpl ha0;exists Kq ?_;walk_at "r";have hplen2:(prs.map V.ref).length=(ends (As.st L) es).ns.length:=by rw [aa,hprs.1]
  rw [hplen2];refine ⟨pl,_,rfl,SqL.of hpl6,FG (K:=K) (a:=pl) (xs:=ps.map V.ref) (λj σ H'=>E9 λ(v1 v2 v3 v4 v5:Option V) (kvs:List (Key×V)) (r:Nat->Nat) (ps':List Addr) (es':DL)=>A5 (σ=[vI d,vR hp,vR pl,vR y.p,vR r2,vR D,v1,v2,vI ((ends (As.sb ((ends (As.st L) es).ns.map (ends (As.st L) es).g)) es').k:Nat),vI ((ends (As.st L) (es.take (es.length - j))).k:Nat),vR a,v3,v4,v5]) ((H' D=some (.dK kvs)/\kvs.length<=130+2*j/\Rn kvs (ends (As.st L) (es.take (es.length - j))).ns r)) ((H' a=some (.lst (ps'.map V.ref))/\Runs H' ps' es'/\ps'.length=j)) ((Walk d tn (As.sb ((ends (As.st L) es).ns.map (ends (As.st L) es).g)) es'/\es'.length=j/\Sim r (ends (As.st L) (es.take (es.length - j))) (ends (As.sb ((ends (As.st L) es).ns.map (ends (As.st L) es).g)) es')/\∀ i,i<=j->∀ n∈(ends (As.sb ((ends (As.st L) es).ns.map (ends (As.st L) es).g)) (es'.take i)).ns,BoD d D0 M ((ends (As.sb ((ends (As.st L) es).ns.map (ends (As.st L) es).g)) (es'.take i)).g n))) (∀ b o,H6 b=some o->b≠D->b≠a->H' b=some o)) ⟨w1,w2,none,none,none,kvs0,rk (ends (As.st L) es).ns,[],[],?_,⟨eD6,by lia,?_⟩,⟨e6,⟨rfl,λi p x h=>by simp at h⟩,rfl⟩,⟨λi x h=>by simp at h,rfl,?_,λi hi n hn=>?_⟩,λb o e _ _=>e⟩ (λj σ H' _ z=>by obtain ⟨_,_,_,_,_,_,_,_,_,_,_,_,_,z⟩:=z; exact SqL.of (z _ _ hpl6 plD pla)) ?_ ?_⟩
  . rw [gS,aq];show _=[vI d,vR hp,vR pl,vR y.p,vR r2,vR D,w1,w2,vI ((((ends (As.st L) es).ns.map (ends (As.st L) es).g).length:Nat):Int),vI ((ends (As.st L) es).k:Nat),vR a,none,none,none]
    rw [aa]
  . rw [gS,aq];exact hR4
  . rw [gS,aq];exact sim0 ndN
  . have hi:i=0:=by lia
    subst hi;obtain ⟨n0,h0,rfl⟩:=(sim0 ndN).on n hn;show BoD d D0 M ((As.sb ((ends (As.st L) es).ns.map (ends (As.st L) es).g)).g (rk (ends (As.st L) es).ns n0));rw [(sim0 ndN).g n0 h0];exact ev n0 (okN.lt n0 h0)
  . rintro j x σ H' hj hi ⟨v1,v2,v3,v4,v5,kvs,r,ps',es',rfl,⟨eD,hkl,hRn⟩,⟨ea,hrun,hpsl⟩,⟨hwk,hesl,sim,hbs⟩,fr⟩;rw [aa,hr'.1] at hj hi;rw [ag] at hi;obtain ⟨p,hp',rfl⟩:=am.mp hi;have hie:es.length - 1 - j<es.length:=by lia
    have hx:=ae hie;generalize es[es.length - 1 - j]=xd at hx;have st:=hw _ _ hx;have hen:=yj (s:=As.st L) hx;rw [GM hj,hen] at hRn sim;rw [GM hj,hen];have oki:=oks (es.length - 1 - j) (!2);have ev1:=tU ev (es.length - 1 - j+1);rw [hen] at ev1;have ev0:=tU ev (es.length - 1 - j);have gk:∀ n,n<(ends (As.st L) (es.take (es.length - 1 - j))).k->(ends (As.st L) es).g n=(ends (As.st L) (es.take (es.length - 1 - j))).g n:=λn hn=>by
      conv=>lhs; rw [vJ (es:=es) (i:=es.length - 1 - j)]
      exact uk hn
    have kN:(ends (As.st L) (es.take (es.length - 1 - j))).k<=(ends (As.st L) es).k:=AD;have e0:es.length - (j+1)=es.length - 1 - j:=by lia
    have t0ok:As.Ok 120 (As.sb ((ends (As.st L) es).ns.map (ends (As.st L) es).g)) 0:=vq (by
      rw [aa];have:=bu.mpr okN.ne
      lia) (by rw [aa]; lia)
    have okt:=z6 t0ok hwk j (!2);rw [show es'.take j=es' by rw [<-hesl,aq]] at okt;generalize hs:ends (As.st L) (es.take (es.length - 1 - j))=s at *
    generalize ht0:(As.sb ((ends (As.st L) es).ns.map (ends (As.st L) es).g))=t0 at *
    generalize ht:ends t0 es'=t at *
    have kls:=oki.kl;have so:∀ n∈s.ns,BoD d D0 M (s.g n):=λn hn=>ev0 n (oki.lt n hn);have sn:=FA ev1;have us:=F4 hR z st so sn sim;have um:=FQ z.d1 st so sn sim oki.lt okt.lt;have nk:=xr s xd;have pl2:=puts_le xd.1;have s0':Same H H':=λb o e=>fr _ _ (s06 _ _ e) (zb e hD0) (zb e ha0);have s6':∀ b o,H6 b=some o->(∀ kv,o≠.dK kv)->b≠a->H' b=some o:=λb o e h n=>fr _ _ e (λc=>by rw [c,eD6] at e; exact h _ (ax e).symm) n;have he:=(hr'.2 _ p _ hp' hx).same s0';have yka:y.k≠a:=zb ((s2.trans (s4.trans s5)) _ _ hyc.k) na;have yta:y.t≠a:=zb ((s2.trans (s4.trans s5)) _ _ hyc.t) na;have ypa:y.p≠a:=zb ((s2.trans (s4.trans s5)) _ _ hyc.o) na;have yla:y.l≠a:=zb ((s2.trans (s4.trans s5)) _ _ hyc.l) na;have ylD:y.l≠D:=zb (s2 _ _ hyc.l) nD;have hy':YdAt cs.Yard H' y d true cl (ends (As.st L) es).ns (ps.map V.ref):=hy6.mv λb o e h=>by
      rcases h with ⟨xs,rfl⟩|rfl|rfl|rfl|rfl
      . exact s6' _ _ e (λ_ z=>nomatch z) (ya e e6 (λz=>nomatch z))
      . rw [hy6.o] at e; exact s6' _ _ hy6.o (λ_ z=>nomatch z) ypa |>.trans e
      . rw [hy6.k] at e; exact s6' _ _ hy6.k (λ_ z=>nomatch z) yka |>.trans e
      . rw [hy6.l] at e; exact (fr _ _ hy6.l ylD yla).trans e
      . rw [hy6.t] at e; exact s6' _ _ hy6.t (λ_ z=>nomatch z) yta |>.trans e
    exists yk rfl he ?_;walk_at "r";rw [show (((s.next xd).k:Nat):Int) - (xd.1.puts:Nat)=(s.k:Int) by lia];rw [nk];exists Ce ?_;exists ⟨(s.k:Int),((s.k+xd.1.puts:Nat):Int),rfl,⟨by lia,by lia,by lia,by lia⟩,λO hO=>yM (lo:=(s.k:Int)) (n:=(((s.k+xd.1.puts:Nat):Int) - (s.k:Int)).toNat) (λi xs σ' Hc=>E1 λ(v:Option V)=>A4 (σ'=[v,vR D]) (xs=(((List.range i).map λq=>r (s.k+q)).map λn:Nat=>(n:Int)).map V.int) (Hc O=some (.lst xs)) (SameX O H' Hc)) ⟨none,rfl,rfl,zg,λb o e n=>by rw [zl n]; exact e⟩ ?_ ?_⟩
    . rintro i xs σ' H9 hi ⟨v,rfl,rfl,eO,sx⟩;have hi2:i<xd.1.puts:=by lia
      have hD9:=sx _ _ eD (zb eD hO);walk_at "r";rw [show (s.k:Int)+(i:Int)=((s.k+i:Nat):Int) by lia];refine ⟨D,_,rfl,DGet.k (k:=.inl ((s.k+i:Nat):Int)) hD9 |> (λz=>by rw [hRn (s.k+i) (mem_next.mpr (.inr ⟨by lia,by lia⟩))] at z; exact z),?_⟩;exists zp eO (by simp only [aa,bA]; lia) λG5 x5 e5=>?_;refine yv hi ⟨_,rfl,rfl,?_,sx.trans x5⟩;rw [dW,aj,aj,aj];exact e5
    rintro xs σ' G2 ⟨v,rfl,rfl,eO,sx⟩;have sO:Same H' G2:=λb o e=>sx b o e (zb e hO);rw [show (((s.k+xd.1.puts:Nat):Int) - (s.k:Int)).toNat=xd.1.puts by lia] at eO;have eO':G2 O=some (.lst (if xd.1.puts=2 then [.int ((r s.k:Nat):Int),.int ((r (s.k+1):Nat):Int)] else [.int ((r s.k:Nat):Int)])):=by
      rcases pl2 with h|h
      . rw [h,h9 ⋯]; rw [h] at eO; exact eO
      . rw [h,h8 rfl]; rw [h] at eO; exact eO
    obtain ⟨c,hc,hcb⟩:=hrel xd.2.1 (aE (oki.lt _ st.nms.hn) kN);rw [gk _ (oki.lt _ st.nms.hn)] at hcb;exists Ep rfl (hy'.same sO) (he.same sO) eO' st.nms.en hc λpr G3 s3' npr epr=>?_;rw [hcb] at epr;have sG3:=sO.trans s3';have ea3:=sG3 _ _ ea;exists zp ea3 (by rw [aa]; lia) λG4 x4 e4=>?_;have eD4':=x4 _ _ (sG3 _ _ eD) Da;have he4:DdAt G4 p xd.1:=(he.same sG3).sameX x4 ea3;exists yU ?_;exists xl rfl he4 λnl G5 s5' nnl enl=>?_;have eD5:=s5' _ _ eD4';have nlD:nl≠D:=bZ (zb eD4' nnl);have enn:((t.k:Nat):Int)=((t.k+0:Nat):Int):=rfl;have nml:=names_len st.nms;have hdl:=vb;refine ⟨nl,rfl,⟨_,SqL.of enl⟩,z8 (K:=K) (a:=nl) (xs:=xd.1.names.map V.int) (λi σ H'=>E1 λv=>A3 (σ=[vI d,vR hp,vR pl,vR y.p,vR r2,vR D,v1,v2,vI ((t.k+i:Nat):Int),vI ((s.k+xd.1.puts:Nat):Int),vR a,vR p,vI (s.k:Nat),v]) (H' D=some (.dK (deal kvs (xd.1.names.take i) t.k))) (∀ b o,G5 b=some o->b≠D->H' b=some o)) ⟨_,rfl,eD5,λb o e _=>e⟩ (λi σ H' _ z'=>by obtain ⟨_,_,_,z⟩:=z'; exact SqL.of (z _ _ enl nlD)) ?_ ?_⟩
    . rintro i x σ G6 hi6 ⟨v,rfl,eD6',fr6⟩;have hi7:=(af.mp hi6).1;rw [aa] at hi7;rw [ag] at hi6;obtain ⟨m,hm,rfl⟩:=am.mp hi6;have hn2:xd.1.names.length<=2:=xd.1.names_len;have hd1:=vb (xd.1.names.take i) kvs t.k;rw [aK] at hd1;exists ⟨D,_,rfl,DPut.k (k:=.inl m) eD6' (aE (show _<1000 by lia) (!3)),?_⟩;exists ⟨_,by rw [show ((t.k+i:Nat):Int)+1=((t.k+(i+1):Nat):Int) by lia],?_,λb o e n=>by rw [zl n]; exact fr6 b o e n⟩;rw [zg,a8,hm];show _=some (HO.dK (deal kvs (xd.1.names.take i++[m]) t.k));rw [Ap,aK,d5 (!2)]
    rintro σ G7 ⟨v,rfl,eD7,fr7⟩;rw [aa,aq] at eD7;have hd2:=vb xd.1.names kvs t.k;have tk7:TupK H' G7:=λb xs e=>fr7 _ _ (s5' _ _ (x4.tup (sG3 _ _ e) ea3)) (ya e eD (λz=>nomatch z));have tk3:TupK G3 G7:=λb xs e=>fr7 _ _ (s5' _ _ (x4.tup e ea3)) (ya e (sG3 _ _ eD) (λz=>nomatch z));walk_at "r";have eap:ends t0 (es'++[undo s xd r])=t.next (undo s xd r):=by rw [ve,ht]
    have kap:t.k+xd.1.names.length=(t.next (undo s xd r)).k:=by
      rw [xr,nml];congr 1;exact (Cg _ _ _ _).symm
    rw [e0,hs];refine ⟨v1,v2,vR p,vI (s.k:Nat),v,deal kvs xd.1.names t.k,ren r xd t.k,ps'++[pr],es'++[undo s xd r],?_,⟨eD7,?_,IG hRn st.nms⟩,⟨?_,xA (hrun.tk tk7) (epr.tk tk3),?_⟩,⟨?_,?_,?_,?_⟩,λb o e n1 n2=>?_⟩
    . rw [eap,<-kap];rw [aa]
    . have:xd.1.names.length<=2:=xd.1.names_len
      lia
    . rw [aj];exact fr7 _ _ (s5' _ _ e4) (bZ Da)
    . rw [ah,hpsl]; rfl
    . exact Dk hwk (by rw [ht]; exact us)
    . rw [ah,hesl]; rfl
    . rw [eap]; exact um
    . intro i hi n hn;by_cases ci:i<=j
      . rw [cB (!2)] at hn ⊢;exact hbs i ci n hn
      . have:i=j+1:=by lia
        subst this;rw [show (es'++[undo s xd r]).take (j+1)=es'++[undo s xd r] by rw [bJ]; rw [ah,hesl]; exact ai _,eap] at hn ⊢;obtain ⟨n0,h0,rfl⟩:=um.on n hn;rw [um.g n0 h0];exact so n0 h0
    . exact fr7 _ _ (s5' _ _ (x4 _ _ (sG3 _ _ (fr _ _ e n1 n2)) n2)) n1
  rintro σ H7 ⟨v1,v2,v3,v4,v5,kvs,r,ps',es',rfl,⟨eD,hkl,hRn⟩,⟨ea,hrun,hpsl⟩,⟨hwk,hesl,sim,hbs⟩,fr⟩;rw [aa,hr'.1] at hesl;rw [aa,hr'.1,dz] at hRn sim;have s07:Same H H7:=λb o e=>fr _ _ (s06 _ _ e) (zb e hD0) (zb e ha0);have hh7:=s07 _ _ hh;have t0ok:As.Ok 120 (As.sb ((ends (As.st L) es).ns.map (ends (As.st L) es).g)) 0:=vq (by
    rw [aa];have:=bu.mpr okN.ne
    lia) (by rw [aa]; lia)
  have okt:=z6 t0ok hwk es'.length (ai _);rw [aq] at okt;have tnl:=okt.nl;exists vd ?_;exists ⟨((L.length:Nat):Int),by rw [aa],by lia,by lia,λO hO=>yM (lo:=0) (n:=((L.length:Nat):Int).toNat) (λi xs σ' Hc=>E1 λ(v:Option V)=>A4 (σ'=[v,vR D]) (xs=(((List.range i).map λq=>r (0+q)).map λn:Nat=>(n:Int)).map V.int) (Hc O=some (.lst xs)) (SameX O H7 Hc)) ⟨none,rfl,rfl,zg,λb o e n=>by rw [zl n]; exact e⟩ ?_ ?_⟩
  . rintro i xs σ' H9 hi ⟨v,rfl,rfl,eO,sx⟩;have hi2:i<L.length:=by lia
    have hD9:=sx _ _ eD (zb eD hO);walk_at "r";rw [show (0:Int)+(i:Int)=((0+i:Nat):Int) by lia];refine ⟨D,_,rfl,DGet.k (k:=.inl ((0+i:Nat):Int)) hD9 |> (λz=>by rw [hRn (0+i) (bC.mpr (!2))] at z; exact z),?_⟩;exists zp eO (by simp only [aa,bA]; lia) λG5 x5 e5=>?_;refine yv hi ⟨_,rfl,rfl,?_,sx.trans x5⟩;rw [dW,aj,aj,aj];exact e5
  rintro xs σ' G2 ⟨v,rfl,rfl,eO,sx⟩;have sO:Same H7 G2:=λb o e=>sx b o e (zb e hO);rw [show ((L.length:Nat):Int).toNat=L.length by lia,show (λq=>r (0+q))=r from funext λq=>by rw [Nat.zero_add]] at eO;have sim:Sim r (As.sb (L.map Cell.b)) (ends (As.sb ((ends (As.st L) es).ns.map (ends (As.st L) es).g)) es'):=by rw [<-tJ]; exact sim
  have hpm:((List.range L.length).map r).Perm (ends (As.sb ((ends (As.st L) es).ns.map (ends (As.st L) es).g)) es').ns:=by
    have h:=Cf sim (gw (n:=(L.map Cell.b).length)) (xG okt.up);have e:(As.sb (L.map Cell.b)).ns=List.range L.length:=by
      show List.range _=_;rw [aa]
    rwa [e] at h
  exists AX rfl eO hpm okt.up (by rw [<-hpm.length_eq,aa,bA]; lia) λqa G3 s3' nqa eqa=>?_;exists zw (!1) λr9 G4 nr9 s4' e4=>?_;have s79:=(sO.trans s3').trans s4';have tof:=EA hwk (λi hi n hn=>hbs i (by have:=hrun.1; lia) n hn) sim (xG okt.up);rw [aa] at tof;have naq:a≠qa:=zb ((sO) _ _ ea) nqa;exact q r9 a qa ps' es' _ G4 (s07.trans s79) e4 ha0 (Same.nn s07 (Same.nn sO nqa)) naq (s79 _ _ ea) (s4' _ _ eqa) (hrun.same s79) hesl tof
theorem DS{N E:Int}{p pb:Addr}{s:B4}{Q:VK}{X:XK}(hl:H p=some (.lst (C.map Cell.v)))(hA:∀ c∈C,c.At H)(fb:BsAt H pb r1 r2 s N)(hN:1<=N)(hNb:Bd 900 N)(gb:GB d 900 s)(h60:C.length<=60)(hd:Bd 64 d)(hE:1<=E)(hC:∀ c∈C,BK d s N E M0 M c.b)(q:∀ (r:Addr) (ps:List Addr) (H':Hp),Same H H'->H r=none->H' r=some (.lst (ps.map V.ref))->Runs H' ps (npl (N*E) (s.a*E) (s.b*E) ((C.map Cell.b).map (bxD s N (N*E))))->Q (.ref r) H'):P57 ([.int d,.ref p,.ref pb]++[]) H Q X:=by
  have hl':((C.map Cell.b).map (bxD s N (N*E))).length=C.length:=by rw [aa,aa]
  refine uS rfl (D:=N*E) (px:=s.a*E) (py:=s.b*E) (hb:=(C.map Cell.b).map (bxD s N (N*E))) hl hA fb hN hNb gb hl'.symm (!2) hd (aZ (!2) (!2)) (JJ hN hE).1 (Kf hN gb.ba gb.bb hNb) (λk c b hc hb=>?_) q;rw [ag,ag,hc] at hb;have e:b=bxD s N (N*E) c.b:=(ax hb).symm;subst e;have bk:=hC c (ar hc);obtain ⟨X,Y,h1,h2,h3,h4,h5⟩:=bk.w;exact ⟨X,Y,h1,h2,h3,h4,h5,bk.ok.bi⟩
def lnOf(c:Cell):Ln:=⟨c.pw,c.b.w⟩
theorem Cn(h:∀ c∈C,BoD d D M c.b):Ever d D M (As.st C):=λn hn=>by
  have hn:n<C.length:=hn;show BoD d D M (fL C n).b;rw [FS (ae hn)];exact h _ (bH hn)
theorem K70(F:Fun K "like" "like" S41 f fd)(B:Bl mg)(o40x:Own P w K mg base 1 "first_unlike" ["one","other"] [] P11)(o16x:Own P w K mg base 5 "serving" ["d","lengths"] [] (P56 K))(o31x:Own P w K mg base 8 "back" ["d","heap","plan"] [] (P69 cs))(o34x:Own P w K mg base 3 "followed" ["many","plan","more"] [] P43)(o37x:Own P w K mg base 5 "table" ["heap"] [] (P58 K))(o18x:Own P w K mg base 5 "normal_plan" ["d","heap","base"] [] P57):FnOk P w K mg base CX0 9 f fd ["d","one","other"] (P70 cs):=by
  refine F.okA C73 λcdv A outer s H vs Q E hr h=>?_;obtain @⟨d,D,p1,p2,C1,C2,rfl,h1,h2,hA1,hA2,o1,o2,D1,bD,n1,n2,hR,qp,qa⟩:=h;refine ⟨_,(za (ps_s 3 C73.nd (ze o40x hr rfl (pa2 (ze o37x hr rfl (pa1 (pv 1))) (ze o37x hr rfl (pa1 (pv 2)))))) (za (zv (zi FN (pv 3) BH (zk _)) (zc (zf (zo (pa3 zx (pit 3) (pit 3))))) zj) (za (ps_s 4 C73.nd (ze o16x hr rfl (pa2 (pv 0) (ye ["each"] [] rfl (zG (zh B1 (pv 1) (pv 2))) (λ_ _ _ _ _=>(pg_n 0 (show List.Nodup (α:=Str) ["each"] by decide +kernel))) (λ_ _ _ _ _=>zP) (λ_ _ _ _ _=>(pe_i (r:=rIxT K) zW (pv 0) zd)))))) (za (ps_s 5 C73.nd (ze o31x hr rfl (pa3 (pv 0) (pv 2) (ze o18x hr rfl (pa3 (pv 0) (pv 2) (pv 4)))))) (za (ps_s 6 C73.nd (ze o34x hr rfl (pa3 (zm zt rfl B.len aV (pa1 (pv 1))) (ze o18x hr rfl (pa3 (pv 0) (pv 1) (pv 4))) (pit 5)))) (zc (zf (zo (pa3 zx (pv 6) (pit 5)))))))))),?_⟩;walk_at "s";obtain ⟨a1,a20⟩:=n1;obtain ⟨b1,b20⟩:=n2;have hd:Bd 64 d:=zR (B:=99) (by have:=hR.lo; lia) hR.hi (!3);exists DB rfl (K':=330) (n:=20) (d:=d) (D:=D) (M:=330) ⟨h1,hA1,o1,λz=>by rw [z] at a1; simp at a1,a20⟩ ⋯ ⟨D1,bD,by decide,by decide⟩ λt1 H1 s1 e1=>?_;exists DB rfl (K':=330) (n:=20) (d:=d) (D:=D) (M:=330) ⟨s1 _ _ h2,λc hc=>(hA2 c hc).same s1,o2,λz=>by rw [z] at b1; simp at b1,b20⟩ ⋯ ⟨D1,bD,by decide,by decide⟩ λt2 H2 s2 e2=>?_;have s12:=s1.trans s2;exists v0 rfl (e1.same s2) e2 (λeq=>?_) λr H3 i j s3 e3 fu=>?_;rotate_left
  . walk_at "r";rw [show decide (V.ref r=V.non)=false from h7 (λz=>nomatch z)];exists zC (!1) λr4 H4 s4 e4=>?_;exact qa r4 H4 i j ((s12.trans s3).trans s4) e4 fu
  have h1':=s12 _ _ h1;have h2':=s12 _ _ h2;walk_at "r";rw [show decide (V.non=V.non)=true from iw rfl];exists yz ?_;exists Ke h1' h2' (by simp only [aa]; lia) λpc Ha sa ea=>?_;rw [<-aj] at ea;have hL:∀ c∈C1++C2,c.At Ha/\BoD d D 330 c.b:=λc hc=>by
    rcases aw.mp hc with h|h
    . exact ⟨((hA1 c h).same s12).same sa,o1 c h⟩
    . exact ⟨((hA2 c h).same s12).same sa,o2 c h⟩
  have lL:(C1++C2).length<=40:=by rw [ah]; lia
  have m1:∀ c∈C1,c∈C1++C2:=λc hc=>cf _ hc;have m2:∀ c∈C2,c∈C1++C2:=λc hc=>aW _ hc;generalize C1++C2=L at *
  refine ⟨pc,rfl,⟨_,SqL.of ea⟩,λG hG=>zT (K:=K) (a:=pc) (ys:=L.map Cell.v) (λi xs σ' H'=>E1 λ(v:Option V)=>A4 (σ'=[v]) (xs=((L.take i).map lnOf).map Ln.v) (H' G=some (.lst xs)) (SameX G Ha H')) ⟨none,rfl,rfl,zg,λb o e n=>by rw [zl n]; exact e⟩ (λi xs σ' H' _ z=>by obtain ⟨v,_,_,_,z⟩:=z; exact SqL.of (z _ _ ea (zb ea hG))) ?_ ?_⟩
  . rintro i x xs σ' H' hi ⟨v,rfl,rfl,eG,sx⟩;have hi':=(af.mp hi).1;obtain ⟨c,rfl,hc,hic⟩:=uU hi;have ct:=sx _ _ (hL c hc).1.t (zb (hL c hc).1.t hG);exists zp eG (by rw [aa,aa,aK]; rw [aa] at hi'; lia) λHb sxb eb=>?_;refine yv hi' ⟨_,rfl,?_,eb,sx.trans sxb⟩;rw [f6,hic,aj,aj];rfl
  rintro xs σ' Hb ⟨v,rfl,rfl,eG,sx⟩;rw [aa,aq] at eG;have sb:Same Ha Hb:=λb o e=>sx b o e (zb e hG);have LS:LsB d 700 Hb G (L.map lnOf):=⟨eG,λc hc=>by
    obtain ⟨c',hc',rfl⟩:=aY.mp hc;exact sb _ _ (hL c' hc').1.w,λc hc=>by
    obtain ⟨c',hc',rfl⟩:=aY.mp hc;have o:=(hL c' hc').2.1;have k:=o.sk D1 bD;exact ⟨o.z1,o.g,o.up,k.bx.mono ⋯,k.by'.mono ⋯,k.bz.mono ⋯⟩⟩
  have bds:∀ u∈(L.map lnOf).map Ln.u,Bd 330 u.1/\Bd 330 u.2:=λu hu=>by
    obtain ⟨c,hc,rfl⟩:=aY.mp hu;obtain ⟨c',hc',rfl⟩:=aY.mp hc;have k:=(hL c' hc').2.1.sk D1 bD;exact ⟨k.bx,k.by'⟩
  have zs1:∀ z∈(L.map lnOf).map λc:Ln=>c.s.z,1<=z/\z∣D:=λz hz=>by
    obtain ⟨c,hc,rfl⟩:=aY.mp hz;obtain ⟨c',hc',rfl⟩:=aY.mp hc;exact ⟨(hL c' hc').2.1.z1,(hL c' hc').2.1.dvd D1⟩
  obtain ⟨N1,_,Nd⟩:=uK ((L.map lnOf).map λc:Ln=>c.s.z) 1 ⋯ λz hz=>(zs1 z hz).1;have ND:=Ej ((L.map lnOf).map λc:Ln=>c.s.z) 1 ⋯ ⟨D,by lia⟩ zs1;obtain ⟨ups,_⟩:=IE LS.ok;obtain ⟨M,hM⟩:=Gs hR ups;have gM:=Fst.gb hR ⋯ hM ups bds;have N1:1<=cbs ((L.map lnOf).map λc:Ln=>c.s.z):=N1;have ND:cbs ((L.map lnOf).map λc:Ln=>c.s.z)∣D:=ND;have Nd:∀ z∈(L.map lnOf).map λc:Ln=>c.s.z,z∣cbs ((L.map lnOf).map λc:Ln=>c.s.z):=Nd;have Nb:Bd 330 (cbs ((L.map lnOf).map λc:Ln=>c.s.z)):=Bd.dvd_le bD D1 ND;exists DI rfl LS hR (by rw [aa]; exact lL) hM (Nb.mono ⋯) λpb r1 r2 Hc sc fc=>?_;have Ndv:∀ c∈L,c.b.w.z∣cbs ((L.map lnOf).map λc:Ln=>c.s.z):=λc hc=>Nd _ (bI (f:=λc:Ln=>c.s.z) (bI (f:=lnOf) hc));have hsrv:∀ c∈L,(st d M).srv c.b.w.x c.b.w.y:=λc hc=>hM.1 _ (bI (f:=Ln.u) (bI (f:=lnOf) hc));generalize cbs ((L.map lnOf).map λc:Ln=>c.s.z)=N at *
  generalize st d M=sb' at *
  clear LS eG sx zs1 Nd hM ups bds;have bk:∀ c∈L,BK d sb' N D 1330 1400 c.b:=λc hc=>BK.so (k:=331) (Mw:=330) (Mh:=330) (kN:=330) (kE:=330) hR gM N1 D1 D1 (hL c hc).2.1 (Ndv c hc) ND (hL c hc).2.2 (hsrv c hc) Nb bD ⋯ ⋯ ⋯ ⋯ ⋯;have bk1:∀ c∈C1,BK d sb' N D 1330 1400 c.b:=λc hc=>bk c (m1 c hc);have bk2:∀ c∈C2,BK d sb' N D 1330 1400 c.b:=λc hc=>bk c (m2 c hc);have ND1:1<=N*D:=aZ (!2) (!2);have sz:Sz (N*D) 660 1400:=⟨ND1,Nb.mul bD,by decide,by decide⟩
  have bas:Bas d 1400 (sb'.a*D) (sb'.b*D) (sb'.c*D) (sb'.e*D):=HM hR gM D1 bD ⋯;have bN9:Bd 900 N:=Nb.mono ⋯;have g9:GB d 900 sb':=gM.mono ⋯;obtain ⟨w1,l1,en1,_⟩:=BR (C:=C1) false hR sz N1 D1 bas bk1 (!2) a1;obtain ⟨w2,l2,en2,_⟩:=BR (C:=C2) false hR sz N1 D1 bas bk2 (!2) b1;have same:nrmD sb' N D (C1.map Cell.b)=nrmD sb' N D (C2.map Cell.b):=CD gM N1 D1 (λb hb=>by
    obtain ⟨c,hc,rfl⟩:=aY.mp hb;exact bk1 c hc) (λb hb=>by
    obtain ⟨c,hc,rfl⟩:=aY.mp hb;exact bk2 c hc) eq
  have tc:=(sa.trans sb).trans sc;have h2c:=tc _ _ h2';have hA2c:∀ c∈C2,c.At Hc:=λc hc=>((hA2 c hc).same s12).same tc;have hA1c:∀ c∈C1,c.At Hc:=λc hc=>((hA1 c hc).same s12).same tc;have bo1:∀ c∈C1,BoD d (N*D) 1400 c.b:=λc hc=>(bk1 c hc).bod hR ND1 (o1 c hc).1.up;have bo2:∀ c∈C2,BoD d (N*D) 1400 c.b:=λc hc=>(bk2 c hc).bod hR ND1 (o2 c hc).1.up;exists DS h2c hA2c fc N1 bN9 g9 (!2) hd D1 bk2 λpl2 ps2 Hd sd nd ed hr2=>?_;have ev2:=ul (c:=0) w2 (Cn bo2) _ (ai _);rw [aq] at ev2;exists KY rfl (sd _ _ h2c) (λc hc=>(hA2c c hc).same sd) b1 b20 ed (by rw [hr2.1]; lia) hR hr2 w2.walk sz ev2 λrb ab bb ps' es' qs He se eb na nb nab ea' eb' hr' hl' T=>?_;rw [en2,<-same] at T;have hl'':es'.length<=100:=by rw [hl']; lia
  have t0e:=((s12.trans tc).trans sd).trans se;have h1e:=t0e _ _ h1;have hAe1:∀ c∈C1,c.At He:=λc hc=>((hA1c c hc).same sd).same se;exists DS h1e hAe1 ((fc.same sd).same se) N1 bN9 g9 (!2) hd D1 bk1 λpl1 ps1 Hf sf nf ef hr1=>?_;have ebf:=sf _ _ eb;have eaf:=sf _ _ ea';have ebf':=sf _ _ eb';have w1':=w1.walk;rw [tJ] at w1' en1;have h1f:=sf _ _ h1e;have hlen:(((C1.map Cell.v).length:Nat):Int)=(((C1.map Cell.b).length:Nat):Int):=by rw [aa,aa]
  walk_at "r";rw [hlen];refine Cu rfl (F:=nrmD sb' N D (C1.map Cell.b)) (by rw [aa]; lia) (by rw [aa]; lia) ef (by rw [hr1.1]; lia) hr1 w1' eaf (by rw [hr'.1]; lia) (hr'.same sf) en1 T.w λpf qs' Hg sg nf' eg hrg=>?_;have ebg:=sg _ _ ebf;exists zC (!1) λr Hh sh eh=>?_;have tgh:=sg.trans sh;have s0f:=t0e.trans sf;have nb0:H bb=none:=Same.nn ((s12.trans tc).trans sd) nb;have npf:H pf=none:=Same.nn s0f nf';have wat:=Ch w1 (IT a1) (λn hn=>Cn bo1 n (bC.mp hn));rw [tJ] at wat;refine qp eq r pf bb Hh _ _ qs (N*D) ((s0f.trans sg).trans sh) eh npf nb0 (λz=>?_) (sh _ _ eg) (hrg.same sh) ?_ (tgh _ _ ebf') sz (G9 (by rw [aa]; exact a1) (by rw [aa]; exact a20) w1' (λi hi=>(wat i hi).1) en1 T)
  . rw [z,ebf'] at nf';cases nf'
  . rw [hrg.1,ah,aa]
    lia
theorem Kg{D':Int}{j:Nat}{b:Bo}(h:BoD d D M b)(dv:D∣D')(h1:1<=D')(bd:Bd j D')(l:M+j<=330):BoD d D' 330 b:=by
  obtain ⟨k,rfl⟩:=dv;have bk:Bd j k:=Bd.dvd_le bd h1 (ca _ _);exact ⟨(h.1.scale bk).mono l,(h.2.scale bk).mono l⟩
theorem Iw(L:List Cell):(L.flatMap (λc=>[c.b.w,c.b.h])).length=2*L.length:=by
  induction L with
  | nil=>rfl
  | cons c L ih=>rw [List.flatMap_cons,ah,ih,au]; simp only [au,aP]; lia
theorem Hw{P:PL}{L:List Cell}(hP:P.length<=3)(l6:L.length<=6)(hPd:∀ x∈P,Dw d x.2)(hLd:∀ c∈L,Dw d c.b.w/\Dw d c.b.h):∃ D:Int,1<=D/\Bd 76 D/\(∀ c∈L,BoD d D 89 c.b)/\∀ x∈P,x.2.z∣D:=by
  obtain ⟨sides,hsides⟩:∃ l:List Sd,P.map (·.2)++L.flatMap (λc=>[c.b.w,c.b.h])=l:=⟨_,rfl⟩
  have hsd:∀ s∈sides,Dw d s:=λs hs=>by
    rw [<-hsides] at hs;rcases aw.mp hs with hs|hs
    . obtain ⟨x,hx,rfl⟩:=aY.mp hs;exact hPd x hx
    . obtain ⟨c,hc,hs⟩:=gz.mp hs;rcases aN.mp hs with rfl|hs
      . exact (hLd c hc).1
      . rw [ak.mp hs]; exact (hLd c hc).2
  have hfl:=Iw L;have hsl:sides.length<=15:=by rw [<-hsides,ah,aa,hfl]; lia
  have so0:∀ s∈sides,So d (pz sides) 89 s:=λs hs=>(Jh hsd s hs).mono (!2);refine ⟨pz sides,EX hsd,(Hv hsd).mono (!2),λc hc=>⟨so0 _ ?_,so0 _ ?_⟩,λx hx=>(so0 x.2 ?_).dvd (EX hsd)⟩
  . rw [<-hsides]; exact aW _ (gz.mpr ⟨c,hc,by simp⟩)
  . rw [<-hsides]; exact aW _ (gz.mpr ⟨c,hc,by simp⟩)
  . rw [<-hsides]; exact cf _ (bI hx)
theorem K71(F:Fun K "law" "law" S65 f fd)(B:Bl mg)(o52x:Own P w K mg base 2 "_law_root" ["_law_cell_here","_law_k"] [] P33)(o54x:Own P w K mg base 4 "_law_heap" ["_law_script","_law_d","_law_first"] [] (P54 K))(o64x:Own P w K mg base 7 "_law_remade" ["_law_d","_law_script","_law_heap_here","_law_pool","_law_first","_law_last"] [] (P68 K))(o41x:Own P w K mg base 9 "like" ["d","one","other"] [] (P70 cs))(o42x:O42x P w K mg base)(o63x:Own P w K mg base 7 "_law_is_plan" ["_law_d","_law_found","_law_one","_law_other"] [] P67):FnOk P w K mg base CX0 10 f fd ["_law_script"] (FX K):=by
  refine F.ok (k:=9) C74 (λvs H Q E h=>by obtain ⟨a,ns,rfl,hS,h63,hbd,q⟩:=h; rfl) (λcdv A outer s H vs Q E hr h=>?_);obtain ⟨a,ns,rfl,hS,h63,hbd,q⟩:=h;refine ⟨_,(za (ps_s 1 C74.nd (ze o52x hr rfl (pa2 (ze o42x hr rfl (pa2 (pv 0) zd)) zd))) (za (uj (ze o54x hr rfl (pa3 (pv 0) (pv 1) zd)) (xR (n:=2) rfl (zH (pg_n 2 C74.nd) (zH (pg_n 3 C74.nd) xb)))) (za (ps_s 4 C74.nd (ze o64x hr rfl (zr (pv 1) (zr (pv 0) (zr (pv 3) (zr (pv 2) (zr zd (zr zd yl)))))))) (za (ps_s 5 C74.nd (zI (pa2 (zQ wp rfl B.list xD (pa1 (pv 3))) (zQ wp rfl B.list xD (pa1 (pv 4)))))) (za (ps_s 6 C74.nd (ze o41x hr rfl (pa3 (pv 1) (pil 5) (pil 5)))) (za (zv (PW.pt (xi (yd (zU (ze o63x hr rfl (zr (pv 1) (zr (pv 6) (zr (pv 3) (zr (pv 4) yl))))))) (xt (zi (Gw hr.units) (pv 5) (zI (pa2 (pv 3) (pv 4))) (zk _))))) (zc (zf xq)) zj) (za (zL (Cb aJ gu gv Co (pit 6))) (za (zL (Cb aJ gu gv Co (pit 6))) (za (zv (yd (zU (ze o63x hr rfl (zr (pv 1) (zr (ze o41x hr rfl (pa3 (pv 1) (pv 3) (pv 4))) (zr (pv 3) (zr (pv 4) yl))))))) (zc (zf xq)) zj) (zc (zf (wv (ze o63x hr rfl (zr (pv 1) (zr (ze o41x hr rfl (pa3 (pv 1) (pv 4) (pv 3))) (zr (pv 4) (zr (pv 3) yl))))) (wX (ze o63x hr rfl (zr (pv 1) (zr (ze o41x hr rfl (pa3 (pv 1) (pv 3) (pv 3))) (zr (pv 3) (zr (pv 3) yl)))))))))))))))))),?_⟩;walk_at "s";exists yA rfl hS (!2) hbd λc0 hc0=>?_;exists AR rfl hc0 (!3) λd H1 hR s1=>?_;have hS1:=s1.seq hS;exists Bv rfl (ft:=1) ⋯ hS1 hbd hR λr2 qa l H2 P L s2 e2 hP hl hA hPd hLd l1 l6=>?_;have hS2:=s2.seq hS1;obtain ⟨D0,D01,D0b,oL0,dP⟩:=Hw (by rw [hP.n]; exact ai _) l6 hPd hLd;exists uV rfl (ft:=12) (n6:=10) (M:=89) (K':=76) hS2 hbd hl hA hP hR l1 (!2) oL0 (λx hx=>⟨hPd x hx,dP x hx⟩) ⟨D01,D0b,by decide,by decide⟩ ⋯ ⋯ ⋯ λp3 H3 O D s3 n3 e3 hO dv D1 Db oO0 tO o1 o16=>?_;have Db:Bd 136 D:=Db;have bD:Bd 330 D:=Db.mono ⋯;have oL:∀ c∈L,BoD d D 330 c.b:=λc hc=>Kg (oL0 c hc) dv D1 Db ⋯;have oO:∀ c∈O,BoD d D 330 c.b:=λc hc=>⟨(oO0 c hc).1.mono ⋯,(oO0 c hc).2.mono ⋯⟩
  have hl3:=s3 _ _ hl;have hA3:∀ c∈L,c.At H3:=λc hc=>(hA c hc).same s3;clear hS2 hS1 hPd hLd dP oL0 oO0 dv Db hP;exists tH hl3 λh0 H6 n6' s6 e6=>?_;exists tH (s6 _ _ e3) λh1 H7 n7 s7 e7=>?_;exists zy (!1) λhd H8 n8 s8 e8=>?_;have z38:=(s6.trans s7).trans s8;have e6:=s8 _ _ (s7 _ _ e6);have e7:=s8 _ _ e7;have hl8:=z38 _ _ hl3;have e38:=z38 _ _ e3;have hA8:∀ c∈L,c.At H8:=λc hc=>(hA3 c hc).same z38;have hO8:∀ c∈O,c.At H8:=λc hc=>(hO c hc).same z38;clear s6 s7 s8 n6' n7 n8 z38 hl3 hA3 hA hO hl e3 n3;repeat (first | walk_at "rd" | refine zu e8 (v:=.ref h0) (i:=0) rfl ?_ | refine zu e8 (v:=.ref h1) (i:=1) rfl ?_)
  refine BY rfl (D:=D) e6 e7 hA8 hO8 oL oO D1 bD ⟨l1,by lia⟩ ⟨o1,by lia⟩ hR (λeq r pl pp H9 ps es qs D' s9 e9 npl npp nab hpl hr' plen hpp sz T'=>?_) λr H9 i j s9 e9 fu=>absurd (by rw [tO]) fu.ne;have hl9:=s9 _ _ hl8;have e39:=s9 _ _ e38;exists yB rfl e9 hpl hpp hr' (!2) hl9 e39 (λc hc=>(hA8 c hc).same s9) (λc hc=>(hO8 c hc).same s9) ⟨l1,by lia⟩ ⟨o1,by lia⟩ sz T' hR λHa sa=>?_;have T8a:=s9.trans sa;clear hr' sz T';exists zy (!1) λhx Hb nb sb yb=>?_;have T8b:=T8a.trans sb;refine JV (T8b _ _ e8) yb (T8b _ _ e6) (T8b _ _ hl8) (T8b _ _ e7) (T8b _ _ e38) (λv hv=>by
    obtain ⟨c,_,e⟩:=aY.mp hv;exact ⟨c.p,e.symm⟩) (λv hv=>by
    obtain ⟨c,_,e⟩:=aY.mp hv;exact ⟨c.p,e.symm⟩) ?_
  have e9b:=sb _ _ (sa _ _ e9);have eplb:=sb _ _ (sa _ _ hpl);have eppb:=sb _ _ (sa _ _ hpp);exists DR eplb λHc xc=>?_;have e9c:=xc.tup e9b eplb;have eppc:=xc _ _ eppb (bZ nab);exists DR eppc λHd xd=>?_;have T:Same H8 Hd:=λb o e=>xd _ _ (xc _ _ (T8b _ _ e) (zb e npl)) (zb e npp);have hl8:=T _ _ hl8;have e38:=T _ _ e38;have hA8:∀ c∈L,c.At Hd:=λc hc=>(hA8 c hc).same T;have hO8:∀ c∈O,c.At Hd:=λc hc=>(hO8 c hc).same T;clear e9b eplb eppb e9c eppc xc xd T T8b T8a yb nb sb sa hl9 e39 s9 e9 npl npp nab hpl plen hpp e6 e7 e8;exists BY rfl (D:=D) hl8 e38 hA8 hO8 oL oO D1 bD ⟨l1,by lia⟩ ⟨o1,by lia⟩ hR (λeq r pl pp He ps es qs D' se ee npl npp nab hpl hr' plen hpp sz T'=>?_) λr H9 i j s9 e9 fu=>absurd (by rw [tO]) fu.ne;exists yB rfl ee hpl hpp hr' (!2) (se _ _ hl8) (se _ _ e38) (λc hc=>(hA8 c hc).same se) (λc hc=>(hO8 c hc).same se) ⟨l1,by lia⟩ ⟨o1,by lia⟩ sz T' hR λHf sf=>?_;have T:=se.trans sf;have hl8:=T _ _ hl8;have e38:=T _ _ e38;have hA8:∀ c∈L,c.At Hf:=λc hc=>(hA8 c hc).same T;have hO8:∀ c∈O,c.At Hf:=λc hc=>(hO8 c hc).same T;clear T se ee npl npp nab hpl hr' plen hpp sz T' sf;exists BY rfl (D:=D) e38 hl8 hO8 hA8 oO oL D1 bD ⟨o1,by lia⟩ ⟨l1,by lia⟩ hR (λeq r pl pp Hg ps es qs D' sg eg npl npp nab hpl hr' plen hpp sz T'=>?_) λr H9 i j s9 e9 fu=>absurd (by rw [tO]) fu.ne;exists yB rfl eg hpl hpp hr' (!2) (sg _ _ e38) (sg _ _ hl8) (λc hc=>(hO8 c hc).same sg) (λc hc=>(hA8 c hc).same sg) ⟨o1,by lia⟩ ⟨l1,by lia⟩ sz T' hR λHh sh=>?_;have T:=sg.trans sh;have hl8:=T _ _ hl8;have hA8:∀ c∈L,c.At Hh:=λc hc=>(hA8 c hc).same T;clear T sg eg npl npp nab hpl hr' plen hpp sz T' sh hO8 e38;exists BY rfl (D:=D) hl8 hl8 hA8 hA8 oL oL D1 bD ⟨l1,by lia⟩ ⟨l1,by lia⟩ hR (λeq r pl pp Hi ps es qs D' si ei npl npp nab hpl hr' plen hpp sz T'=>?_) λr H9 i j s9 e9 fu=>absurd rfl fu.ne;exists yB rfl ei hpl hpp hr' (!2) (si _ _ hl8) (si _ _ hl8) (λc hc=>(hA8 c hc).same si) (λc hc=>(hA8 c hc).same si) ⟨l1,by lia⟩ ⟨l1,by lia⟩ sz T' hR λHj sj=>?_;walk_at "r";exact q _
end
end Bk
open Bk
noncomputable section
variable {C:Addr}{vs:List L2.V}{its:List Value}{x:Str}{w:World}
namespace Hd
open PySem.W PySem.Calls
abbrev pm0:Value:=(.str "boardglue.lengths" 294)
abbrev pm1:Value:=(.str "boardglue.bases" 430)
abbrev pm2:Value:=(.str "boardglue.normal" 485)
abbrev pm3:Value:=(.str "boardglue.yard" 533)
abbrev pm4:Value:=(.str "boardglue.plans" 680)
abbrev pm5:Value:=(.str "boardglue.likes" 794)
abbrev pm6:Value:=(.str "law_boardglue_k56_plans_told" 812)
abbrev pm7:Value:=(.str "boardglue.tables" 736)
abbrev pm8:Value:=(.str "boardglue.boards" 525)
def cs:Cs:=⟨31,44,56,68,80,92,363⟩
abbrev TT(w:World)(mg:Str->Option Value)(x:Str)(st:Stmt):Prop:=L2.Top (K w.params) mg x st
theorem tI(a:Addr)(its:Array Value)(v:L2.Vals vs its.toList)(z:its.size<=sizeLine:=by decide)(l:(K w.params).lookup a=some (tu its):=by kernel_rfl):L2.TupIn (K w.params) a vs:=L2.tupIn_mk l rfl rfl z v
theorem u1{α:Type}{P:List α->Prop}(h:∀ a0,P [a0]):∀ us:List α,us.length=1->P us
  | [a0],_=>h a0
theorem u2{α:Type}{P:List α->Prop}(h:∀ a0 a1,P [a0,a1]):∀ us:List α,us.length=2->P us
  | [a0,a1],_=>h a0 a1
theorem u3{α:Type}{P:List α->Prop}(h:∀ a0 a1 a2,P [a0,a1,a2]):∀ us:List α,us.length=3->P us
  | [a0,a1,a2],_=>h a0 a1 a2
theorem u4{α:Type}{P:List α->Prop}(h:∀ a0 a1 a2 a3,P [a0,a1,a2,a3]):∀ us:List α,us.length=4->P us
  | [a0,a1,a2,a3],_=>h a0 a1 a2 a3
theorem u6{α:Type}{P:List α->Prop}(h:∀ a0 a1 a2 a3 a4 a5,P [a0,a1,a2,a3,a4,a5]):∀ us:List α,us.length=6->P us
  | [a0,a1,a2,a3,a4,a5],_=>h a0 a1 a2 a3 a4 a5
theorem ow{mg:Str->Option Value}{k:Nat}{st:Stmt}{ps:List Str}{sp:L2.Sp}(base:Heap)(T:L2.Top (K w.params) mg x st)(h:∀ f fd,L2.Fun (K w.params) x x st f fd->L2.FnOk p w (K w.params) mg base L2.CX0 k f fd ps sp)(hb:∀ (kV doc pm:Value) (an:Option Addr) (cdv ct:Value) (us:List Value),us.length=ps.length->bindArgs (fnOf x x (L2.defArgs st) (L2.defBody st) (L2.defScope st) .none kV doc pm an cdv ct) ⟨us,[]⟩=pure (ps.zip us)):L2.Own p w (K w.params) mg base k x ps [] sp:=T.own hb h
section
variable {w:World}{mg:Str->Option Value}{h:Heap}(KX:(K w.params).In h)(G:h.Ns mainGlobals mg)
include KX G
theorem tp{st:Stmt}(f cd:Addr)(pm:Value)(a:nsIn (K w.params) mainGlobals x=some (some (.ref f)):=by kernel_rfl)(l:(K w.params).lookup f=some ⟨.type "function",none,.func (fnOf x x (L2.defArgs st) (L2.defBody st) (L2.defScope st) .none .none .none pm none (.ref cd) .none),#[]⟩:=by kernel_rfl)(c:codeIn (K w.params) (.ref cd) x=true:=by kernel_rfl)(k:keepIn (K w.params) (.ref f)=true:=by kernel_rfl):L2.Top (K w.params) mg x st:=L2.top_mk KX G a l c k
theorem tm{m q:Str}{st:Stmt}(f cd:Addr)(pm:Value)(l:(K w.params).lookup f=some ⟨.type "function",none,.func (fnOf m q (L2.defArgs st) (L2.defBody st) (L2.defScope st) .none .none .none pm none (.ref cd) .none),#[]⟩:=by kernel_rfl)(c:codeIn (K w.params) (.ref cd) q=true:=by kernel_rfl)(k:keepIn (K w.params) (.ref f)=true:=by kernel_rfl)(a:findIn (K w.params) (.ref C) m=some (some (.ref f)):=by kernel_rfl)(n:isFn (K w.params) (.ref f)=true:=by kernel_rfl):L2.TopM (K w.params) C m q st:=L2.topM_mk l c k a n
theorem td{st:Stmt}(f T cd:Addr)(pm:Value)(a:nsIn (K w.params) mainGlobals x=some (some (.ref f)):=by kernel_rfl)(l:(K w.params).lookup f=some ⟨.type "function",none,.func (fnOf x x (L2.defArgs st) (L2.defBody st) (L2.defScope st) (.ref T) .none .none pm none (.ref cd) .none),#[]⟩:=by kernel_rfl)(c:codeIn (K w.params) (.ref cd) x=true:=by kernel_rfl)(k:keepIn (K w.params) (.ref f)=true:=by kernel_rfl)(t:(K w.params).lookup T=some (tu its.toArray):=by kernel_rfl):L2.TopD (K w.params) mg x st its:=L2.topD_mk KX G a l c k t rfl
theorem ti{q:Str}{st:Stmt}(f T cd:Addr)(pm:Value)(l:(K w.params).lookup f=some ⟨.type "function",none,.func (fnOf "__init__" q (L2.defArgs st) (L2.defBody st) (L2.defScope st) (.ref T) .none .none pm none (.ref cd) .none),#[]⟩:=by kernel_rfl)(c:codeIn (K w.params) (.ref cd) q=true:=by kernel_rfl)(k:keepIn (K w.params) (.ref f)=true:=by kernel_rfl)(t:(K w.params).lookup T=some (tu its.toArray):=by kernel_rfl)(m:makesIn (K w.params) C=true:=by kernel_rfl)(i:findIn (K w.params) (.ref C) "__init__"=some (some (.ref f)):=by kernel_rfl)(nf:isFn (K w.params) (.ref f)=true:=by kernel_rfl)(kc:keepIn (K w.params) (.ref C)=true:=by kernel_rfl)(a:nsIn (K w.params) mainGlobals x=some (some (.ref C)):=by kernel_rfl):L2.TopIn (K w.params) mg C x q st its:=L2.topIn_mk KX G l c k t rfl m i nf kc a
theorem gT(a:Addr)(its:Array Value)(v:L2.Vals vs its.toList)(z:its.size<=sizeLine:=by decide)(e:nsIn (K w.params) mainGlobals x=some (some (.ref a)):=by kernel_rfl)(l:(K w.params).lookup a=some (tu its):=by kernel_rfl):L2.TopT (K w.params) mg x vs:=L2.topT_mk KX G e l rfl rfl z v
theorem nn(e:nsIn (K w.params) mainGlobals x=some none:=by kernel_rfl):mg x=none:=mg_none_of KX G e
theorem bl :Bl mg:=⟨nn KX G,nn KX G,nn KX G,nn KX G,nn KX G,nn KX G,nn KX G,nn KX G,nn KX G,nn KX G,nn KX G,nn KX G,nn KX G,nn KX G,nn KX G,nn KX G,nn KX G⟩
theorem T2:TT w mg "is_whole" S0:=tp KX G 102 101 pm0
theorem T3:TT w mg "common_divisor" S1:=tp KX G 109 108 pm0
theorem T4:TT w mg "with_sign_of" S2:=tp KX G 130 129 pm0
theorem T5:TT w mg "is_above_nought" S9:=tp KX G 181 180 pm0
theorem T6:TT w mg "crossed" S13:=tp KX G 209 208 pm1
theorem T7:TT w mg "gathering" S19:=tp KX G 249 248 pm2
theorem T8:TT w mg "names_taken" S22:=tp KX G 271 270 pm3
theorem T9:TT w mg "count_put" S23:=tp KX G 278 277 pm3
theorem T10:TT w mg "turned" S24:=tp KX G 285 284 pm3
theorem T11:TT w mg "places_of" S30:=tp KX G 386 385 pm4
theorem T12:TT w mg "with_names" S33:=tp KX G 403 402 pm4
theorem T13:TT w mg "first_unlike" S40:=tp KX G 457 456 pm5
theorem T14:TT w mg "_law_cell" S42:=tp KX G 469 468 pm6
theorem T15:TT w mg "_law_whole" S43:=tp KX G 476 475 pm6
theorem T16:TT w mg "_law_great" S44:=tp KX G 483 482 pm6
theorem T17:TT w mg "_law_divisor" S46:=tp KX G 497 496 pm6
theorem T18:TT w mg "_law_sign" S48:=tp KX G 511 510 pm6
theorem T19:TT w mg "_law_begin" S59:=tp KX G 580 579 pm6
theorem T20:L2.TopIn (K w.params) mg 363 "Yard" "Yard.__init__" S66 [(.bool false)]:=ti KX G 319 314 318 pm3
theorem T21:L2.TopM (K w.params) 363 "board_ever" "Yard.board_ever" S70:=tm KX G 343 342 pm3
theorem T22:L2.TopM (K w.params) 363 "boards" "Yard.boards" S71:=tm KX G 348 347 pm3
theorem T23:L2.TopD (K w.params) mg "length" S3 [(.int (0) 352),(.int (1) 353)]:=td KX G 138 131 137 pm0
theorem T24:L2.TopD (K w.params) mg "fraction" S4 [(.int (1) 364)]:=td KX G 146 139 145 pm0
theorem T25:TT w mg "added" S6:=tp KX G 160 159 pm0
theorem T26:TT w mg "under" S10:=tp KX G 188 187 pm0
theorem T27:TT w mg "counts" S14:=tp KX G 216 215 pm1
theorem T28:TT w mg "common_bottom" S15:=tp KX G 223 222 pm1
theorem T29:TT w mg "undoing" S29:=tp KX G 381 380 pm4
theorem T30:TT w mg "names_behind" S32:=tp KX G 396 395 pm4
theorem T31:TT w mg "plus" S35:=tp KX G 422 421 pm7
theorem T32:TT w mg "times" S36:=tp KX G 429 428 pm7
theorem T33:TT w mg "_law_digits" S45:=tp KX G 490 489 pm6
theorem T34:TT w mg "_law_lowest" S47:=tp KX G 504 503 pm6
theorem T35:TT w mg "_law_root" S52:=tp KX G 537 536 pm6
theorem T36:TT w mg "_law_is_length" S60:=tp KX G 587 586 pm6
theorem T37:L2.TopM (K w.params) 363 "check_names" "Yard.check_names" S68:=tm KX G 331 330 pm3
theorem T38:TT w mg "parts" S5:=tp KX G 153 152 pm0
theorem T39:TT w mg "taken" S7:=tp KX G 167 166 pm0
theorem T40:TT w mg "timed" S8:=tp KX G 174 173 pm0
theorem T41:TT w mg "first_base" S11:=tp KX G 195 194 pm1
theorem T42:TT w mg "is_length" S20:=tp KX G 254 253 pm8
theorem T43:TT w mg "glued_beside" S26:=tp KX G 299 298 pm3
theorem T44:TT w mg "stacked" S27:=tp KX G 306 305 pm3
theorem T45:TT w mg "followed" S34:=tp KX G 408 407 pm4
theorem T46:TT w mg "together" S39:=tp KX G 450 449 pm7
theorem T47:TT w mg "_law_plus" S49:=tp KX G 518 517 pm6
theorem T48:TT w mg "_law_share" S50:=tp KX G 525 524 pm6
theorem T49:TT w mg "_law_side" S53:=tp KX G 544 543 pm6
theorem T50:TT w mg "next_base" S12:=tp KX G 202 201 pm1
theorem T51:TT w mg "times_over" S17:=tp KX G 235 234 pm2
theorem T52:TT w mg "is_deed" S21:=tp KX G 264 263 pm3
theorem T53:TT w mg "cut_across" S25:=tp KX G 292 291 pm3
theorem T54:TT w mg "board_table" S38:=tp KX G 443 442 pm7
theorem T55:TT w mg "_law_below" S51:=tp KX G 532 531 pm6
theorem T56:TT w mg "_law_heap" S54:=tp KX G 549 548 pm6
theorem T57:TT w mg "_law_new" S55:=tp KX G 556 555 pm6
theorem T58:TT w mg "serving" S16:=tp KX G 228 227 pm1
theorem T59:TT w mg "normal_plan" S18:=tp KX G 242 241 pm2
theorem T60:TT w mg "table" S37:=tp KX G 436 435 pm7
theorem T61:TT w mg "_law_at" S56:=tp KX G 563 562 pm6
theorem T62:TT w mg "_law_done" S58:=tp KX G 573 572 pm6
theorem T63:TT w mg "_law_fits" S61:=tp KX G 594 593 pm6
theorem T64:L2.TopM (K w.params) 363 "put_by" "Yard.put_by" S69:=tm KX G 336 335 pm3
theorem T65:TT w mg "_law_deed" S57:=tp KX G 568 567 pm6
theorem T66:TT w mg "_law_walked" S62:=tp KX G 599 598 pm6
theorem T67:L2.TopM (K w.params) 363 "do" "Yard.do" S67:=tm KX G 324 323 pm3
theorem T68:TT w mg "yard_behind" S28:=tp KX G 374 373 pm4
theorem T69:TT w mg "_law_is_plan" S63:=tp KX G 604 603 pm6
theorem T70:TT w mg "_law_remade" S64:=tp KX G 609 608 pm6
theorem T71:TT w mg "back" S31:=tp KX G 391 390 pm4
theorem T72:TT w mg "like" S41:=tp KX G 462 461 pm5
theorem T73:TT w mg "law" S65:=tp KX G 616 615 pm6
theorem g_NOUGHT :L2.TopT (K w.params) mg "NOUGHT" [.int 0,.int 0,.int 1]:=gT KX G 95 #[(.int (0) 296),(.int (0) 297),(.int (1) 298)] (.cons ⟨_,rfl⟩ (.cons ⟨_,rfl⟩ (.cons ⟨_,rfl⟩ .nil)))
theorem g_GREAT_BITS :L2.TopI mg "GREAT_BITS" (8192):=L2.topI_mk (t:=300) KX G (by kernel_rfl)
theorem g_CUTS :L2.TopT (K w.params) mg "CUTS" [.str "across",.str "along"]:=gT KX G 255 #[(.str "across" 535),(.str "along" 536)] (.cons ⟨_,rfl⟩ (.cons ⟨_,rfl⟩ .nil))
theorem g_GLUINGS :L2.TopT (K w.params) mg "GLUINGS" [.str "beside",.str "atop"]:=gT KX G 256 #[(.str "beside" 538),(.str "atop" 539)] (.cons ⟨_,rfl⟩ (.cons ⟨_,rfl⟩ .nil))
theorem g_SHIFTS :L2.TopT (K w.params) mg "SHIFTS" [.str "stack",.str "spread"]:=gT KX G 257 #[(.str "stack" 541),(.str "spread" 542)] (.cons ⟨_,rfl⟩ (.cons ⟨_,rfl⟩ .nil))
theorem g_TURN :L2.TopS mg "TURN" (Str.ofString "turn"):=L2.topS_mk (t:=544) KX G (by kernel_rfl)
theorem g_EMPTY :L2.TopE (K w.params) mg "EMPTY":=L2.topE_mk (a:=415) (r0:=411) (r1:=414) (f0:=409) (f1:=410) (f2:=412) (f3:=413) KX G (by kernel_rfl) (tI 415 #[(.ref 411),(.ref 414)] (.cons rfl (.cons rfl .nil))) (tI 411 #[(.ref 409),(.ref 410)] (.cons rfl (.cons rfl .nil))) (tI 414 #[(.ref 412),(.ref 413)] (.cons rfl (.cons rfl .nil))) (tI 409 #[(.int (0) 738),(.int (1) 739)] (.cons ⟨_,rfl⟩ (.cons ⟨_,rfl⟩ .nil))) (tI 410 #[(.int (0) 740),(.int (1) 741)] (.cons ⟨_,rfl⟩ (.cons ⟨_,rfl⟩ .nil))) (tI 412 #[(.int (0) 742),(.int (1) 743)] (.cons ⟨_,rfl⟩ (.cons ⟨_,rfl⟩ .nil))) (tI 413 #[(.int (0) 744),(.int (1) 745)] (.cons ⟨_,rfl⟩ (.cons ⟨_,rfl⟩ .nil)))
theorem xs :Xs (K w.params) mg cs:=⟨(mg_of KX G (by kernel_rfl)),(mg_of KX G (by kernel_rfl)),(mg_of KX G (by kernel_rfl)),(mg_of KX G (by kernel_rfl)),(mg_of KX G (by kernel_rfl)),(mg_of KX G (by kernel_rfl)),(mg_of KX G (by kernel_rfl)),⟨(by kernel_rfl),(by kernel_rfl),(by kernel_rfl),(by kernel_rfl)⟩,(by unfold L2.NoAttr; kernel_rfl),(by unfold L2.NoAttr; kernel_rfl),(by unfold L2.NoAttr; kernel_rfl),(by unfold L2.NoAttr; kernel_rfl),(by unfold L2.NoAttr; kernel_rfl)⟩
end
end Hd
end
def PySem.W.Fast.tw4084576729437315098:PySem.Program:=PySem.Challenge.pw_boardglue_k56_plans_told
theorem PySem.W.Fast.te4084576729437315098:PySem.Challenge.pw_boardglue_k56_plans_told=PySem.W.Fast.tw4084576729437315098:=rfl
open PySem.W
set_option maxRecDepth 100000 in
set_option maxHeartbeats 0 in
theorem PySem.Challenge.cw_boardglue_k56_plans_told_holds : PySem.Challenge.rw_boardglue_k56_plans_told.Holds := by
  w_on; o_law;rename_i said;refine holds_open (r:=PySem.Challenge.rw_boardglue_k56_plans_told.row) (q:=Hd.qv) (loose:=Hd.loose) (Xt:=Hd.Xt) (XP:=XL Hd.qv []) (Yf:=Hd.Yf) (Ya:=Hd.Ya) (YP:=InK Hd.K) (N:=8088) Hd.left (InK.of Hd.asK) InK.keeps (λs e=>xl_of s (Bool.and_eq_true_iff.mp e).1) XL.keeps (by rfl) (by rfl) (by rfl) (λs e=>recFacts_of (Bool.and_eq_true_iff.mp e).2) (by rfl) said (by decide +kernel) ⟨rfl,rfl,rfl,rfl,rfl,by decide +kernel⟩ ?hw ?hc
  case hw=>w_witness2
  refine L2.walk_B (l:=PySem.Challenge.rw_boardglue_k56_plans_told) (k:=10) (x:="_law_script") rfl rfl ⟨rfl,by decide,by decide⟩ (λw h Y=>Y) ?F
  case F =>
    intro w mg fa h KX G hmg;have B:Bl mg:=Hd.bl KX G;have T_Yard___init__:=Hd.T20 KX G;have T_Yard_board_ever:=Hd.T21 KX G;have T_Yard_boards:=Hd.T22 KX G;have T_length:=Hd.T23 KX G;have T_fraction:=Hd.T24 KX G;have T_Yard_check_names:=Hd.T37 KX G;have T_Yard_put_by:=Hd.T64 KX G;have T_Yard_do:=Hd.T67 KX G;have T_law:=Hd.T73 KX G;have g_NOUGHT:=Hd.g_NOUGHT KX G;have g_GREAT_BITS:=Hd.g_GREAT_BITS KX G;have g_CUTS:=Hd.g_CUTS KX G;have g_GLUINGS:=Hd.g_GLUINGS KX G;have g_SHIFTS:=Hd.g_SHIFTS KX G;have g_TURN:=Hd.g_TURN KX G;have g_EMPTY:=Hd.g_EMPTY KX G;have X:=Hd.xs KX G;refine L2.law_mk T_law hmg (λ_ _ _ _ _ _ _=>rfl) λbase f fd F=>?_;have o0x:=Hd.ow base (Hd.T2 KX G) (λf fd F=>K0 F B ) (λ_ _ _ _ _ _=>Hd.u1 λ_=>rfl);have o1x:=Hd.ow base (Hd.T3 KX G) (λf fd F=>K1 F B g_GREAT_BITS) (λ_ _ _ _ _ _=>Hd.u2 λ_ _=>rfl);have o2x:=Hd.ow base (Hd.T4 KX G) (λf fd F=>K2 F B ) (λ_ _ _ _ _ _=>Hd.u2 λ_ _=>rfl);have o9x:=Hd.ow base (Hd.T5 KX G) (λf fd F=>K3 F B ) (λ_ _ _ _ _ _=>Hd.u3 λ_ _ _=>rfl);have o13x:=Hd.ow base (Hd.T6 KX G) (λf fd F=>K4 F B ) (λ_ _ _ _ _ _=>Hd.u2 λ_ _=>rfl);have o19x:=Hd.ow base (Hd.T7 KX G) (λf fd F=>K5 F B ) (λ_ _ _ _ _ _=>Hd.u2 λ_ _=>rfl);have o22x:=Hd.ow base (Hd.T8 KX G) (λf fd F=>K6 F B g_GLUINGS) (λ_ _ _ _ _ _=>Hd.u1 λ_=>rfl);have o23x:=Hd.ow base (Hd.T9 KX G) (λf fd F=>K7 F B g_CUTS) (λ_ _ _ _ _ _=>Hd.u1 λ_=>rfl);have o24x:=Hd.ow base (Hd.T10 KX G) (λf fd F=>K8 F B ) (λ_ _ _ _ _ _=>Hd.u1 λ_=>rfl);have o30x:=Hd.ow base (Hd.T11 KX G) (λf fd F=>K9 F B ) (λ_ _ _ _ _ _=>Hd.u1 λ_=>rfl);have o33x:=Hd.ow base (Hd.T12 KX G) (λf fd F=>K10 F B g_GLUINGS) (λ_ _ _ _ _ _=>Hd.u2 λ_ _=>rfl);have o40x:=Hd.ow base (Hd.T13 KX G) (λf fd F=>K11 F B ) (λ_ _ _ _ _ _=>Hd.u2 λ_ _=>rfl);have o42x:=Hd.ow base (Hd.T14 KX G) (λf fd F=>K12 F B ) (λ_ _ _ _ _ _=>Hd.u2 λ_ _=>rfl);have o43x:=Hd.ow base (Hd.T15 KX G) (λf fd F=>K13 F B ) (λ_ _ _ _ _ _=>Hd.u1 λ_=>rfl);have o44x:=Hd.ow base (Hd.T16 KX G) (λf fd F=>K14 F B ) (λ_ _ _ _ _ _=>Hd.u2 λ_ _=>rfl);have o46x:=Hd.ow base (Hd.T17 KX G) (λf fd F=>K15 F B ) (λ_ _ _ _ _ _=>Hd.u2 λ_ _=>rfl);have o48x:=Hd.ow base (Hd.T18 KX G) (λf fd F=>K16 F B ) (λ_ _ _ _ _ _=>Hd.u3 λ_ _ _=>rfl);have o59x:=Hd.ow base (Hd.T19 KX G) (λf fd F=>K17 F B ) (λ_ _ _ _ _ _=>Hd.u1 λ_=>rfl);have o66x:L2.OwnI Hd.p w (Hd.K w.params) mg base L2.CX0 Hd.cs.Yard 1 "Yard" ["self","d","heap","turning"] [] (P18 Hd.cs):=T_Yard___init__.own (ds:=[]) (λT _ _ _ _ _ _ us hl=>by have hl':us.length=4:=(by simpa using hl); match us,hl' with | [_,_,_,_],_=>exact ⟨_,rfl,rfl⟩) .nil (λf fd F=>K18 F B X);have o70x:L2.OwnM Hd.p w (Hd.K w.params) mg base L2.CX0 Hd.cs.Yard 1 "board_ever" ["self","name"] [] (P19 Hd.cs):=T_Yard_board_ever.own X.c_Yard (λ_ _ _ _ _ _=>Hd.u2 λ_ _=>rfl) (λf fd F=>K19 F B X);have o71x:L2.OwnM Hd.p w (Hd.K w.params) mg base L2.CX0 Hd.cs.Yard 1 "boards" ["self"] [] (P20 Hd.cs):=T_Yard_boards.own X.c_Yard (λ_ _ _ _ _ _=>Hd.u1 λ_=>rfl) (λf fd F=>K20 F B X);have o3x:L2.Own Hd.p w (Hd.K w.params) mg base 2 "length" ["a","b","n"] [] P21:=T_length.own (ds:=[]) (λT _ _ _ _ _ _ us hl=>by have hl':us.length=3:=(by simpa using hl); match us,hl' with | [_,_,_],_=>exact ⟨_,rfl,rfl⟩) .nil (λf fd F=>K21 F B o2x o1x o0x);have o4x:L2.Own Hd.p w (Hd.K w.params) mg base 2 "fraction" ["top","bottom"] [] P22:=T_fraction.own (ds:=[]) (λT _ _ _ _ _ _ us hl=>by have hl':us.length=2:=(by simpa using hl); match us,hl' with | [_,_],_=>exact ⟨_,rfl,rfl⟩) .nil (λf fd F=>K22 F B o2x o1x);have o6x:=Hd.ow base (Hd.T25 KX G) (λf fd F=>K23 F B o1x) (λ_ _ _ _ _ _=>Hd.u2 λ_ _=>rfl);have o10x:=Hd.ow base (Hd.T26 KX G) (λf fd F=>K24 F B o9x) (λ_ _ _ _ _ _=>Hd.u3 λ_ _ _=>rfl);have o14x:=Hd.ow base (Hd.T27 KX G) (λf fd F=>K25 F B o13x) (λ_ _ _ _ _ _=>Hd.u3 λ_ _ _=>rfl);have o15x:=Hd.ow base (Hd.T28 KX G) (λf fd F=>K26 F B o1x) (λ_ _ _ _ _ _=>Hd.u1 λ_=>rfl);have o29x:=Hd.ow base (Hd.T29 KX G) (λf fd F=>K27 F B o70x) (λ_ _ _ _ _ _=>Hd.u3 λ_ _ _=>rfl);have o32x:=Hd.ow base (Hd.T30 KX G) (λf fd F=>K28 F B o22x o23x) (λ_ _ _ _ _ _=>Hd.u2 λ_ _=>rfl);have o35x:=Hd.ow base (Hd.T31 KX G) (λf fd F=>K29 F B o1x) (λ_ _ _ _ _ _=>Hd.u2 λ_ _=>rfl);have o36x:=Hd.ow base (Hd.T32 KX G) (λf fd F=>K30 F B o1x) (λ_ _ _ _ _ _=>Hd.u2 λ_ _=>rfl);have o45x:=Hd.ow base (Hd.T33 KX G) (λf fd F=>K31 F B o44x) (λ_ _ _ _ _ _=>Hd.u2 λ_ _=>rfl);have o47x:=Hd.ow base (Hd.T34 KX G) (λf fd F=>K32 F B o46x) (λ_ _ _ _ _ _=>Hd.u3 λ_ _ _=>rfl);have o52x:=Hd.ow base (Hd.T35 KX G) (λf fd F=>K33 F B o44x) (λ_ _ _ _ _ _=>Hd.u2 λ_ _=>rfl);have o60x:=Hd.ow base (Hd.T36 KX G) (λf fd F=>K34 F B o43x) (λ_ _ _ _ _ _=>Hd.u1 λ_=>rfl);have o68x:L2.OwnM Hd.p w (Hd.K w.params) mg base L2.CX0 Hd.cs.Yard 2 "check_names" ["self","names"] [] (P35 Hd.cs):=T_Yard_check_names.own X.c_Yard (λ_ _ _ _ _ _=>Hd.u2 λ_ _=>rfl) (λf fd F=>K35 F B X o0x);have o5x:=Hd.ow base (Hd.T38 KX G) (λf fd F=>K36 F B o4x) (λ_ _ _ _ _ _=>Hd.u1 λ_=>rfl);have o7x:=Hd.ow base (Hd.T39 KX G) (λf fd F=>K37 F B o6x) (λ_ _ _ _ _ _=>Hd.u2 λ_ _=>rfl);have o8x:=Hd.ow base (Hd.T40 KX G) (λf fd F=>K38 F B o3x) (λ_ _ _ _ _ _=>Hd.u3 λ_ _ _=>rfl);have o11x:=Hd.ow base (Hd.T41 KX G) (λf fd F=>K39 F B o3x) (λ_ _ _ _ _ _=>Hd.u2 λ_ _=>rfl);have o20x:=Hd.ow base (Hd.T42 KX G) (λf fd F=>K40 F B o3x o0x) (λ_ _ _ _ _ _=>Hd.u1 λ_=>rfl);have o26x:=Hd.ow base (Hd.T43 KX G) (λf fd F=>K41 F B o6x) (λ_ _ _ _ _ _=>Hd.u2 λ_ _=>rfl);have o27x:=Hd.ow base (Hd.T44 KX G) (λf fd F=>K42 F B o3x) (λ_ _ _ _ _ _=>Hd.u2 λ_ _=>rfl);have o34x:=Hd.ow base (Hd.T45 KX G) (λf fd F=>K43 F B o32x o33x o23x) (λ_ _ _ _ _ _=>Hd.u3 λ_ _ _=>rfl);have o39x:=Hd.ow base (Hd.T46 KX G) (λf fd F=>K44 F B o35x) (λ_ _ _ _ _ _=>Hd.u2 λ_ _=>rfl);have o49x:=Hd.ow base (Hd.T47 KX G) (λf fd F=>K45 F B o47x) (λ_ _ _ _ _ _=>Hd.u3 λ_ _ _=>rfl);have o50x:=Hd.ow base (Hd.T48 KX G) (λf fd F=>K46 F B o47x) (λ_ _ _ _ _ _=>Hd.u3 λ_ _ _=>rfl);have o53x:=Hd.ow base (Hd.T49 KX G) (λf fd F=>K47 F B o48x o47x o45x) (λ_ _ _ _ _ _=>Hd.u3 λ_ _ _=>rfl);have o12x:=Hd.ow base (Hd.T50 KX G) (λf fd F=>K48 F B o10x o7x) (λ_ _ _ _ _ _=>Hd.u2 λ_ _=>rfl);have o17x:=Hd.ow base (Hd.T51 KX G) (λf fd F=>K49 F B o8x) (λ_ _ _ _ _ _=>Hd.u3 λ_ _ _=>rfl);have o21x:=Hd.ow base (Hd.T52 KX G) (λf fd F=>K50 F B g_CUTS g_SHIFTS g_GLUINGS g_TURN o20x o0x) (λ_ _ _ _ _ _=>Hd.u1 λ_=>rfl);have o25x:=Hd.ow base (Hd.T53 KX G) (λf fd F=>K51 F B g_NOUGHT o10x o7x) (λ_ _ _ _ _ _=>Hd.u3 λ_ _ _=>rfl);have o38x:=Hd.ow base (Hd.T54 KX G) (λf fd F=>K52 F B o5x o36x) (λ_ _ _ _ _ _=>Hd.u1 λ_=>rfl);have o51x:=Hd.ow base (Hd.T55 KX G) (λf fd F=>K53 F B o49x o48x) (λ_ _ _ _ _ _=>Hd.u3 λ_ _ _=>rfl);have o54x:=Hd.ow base (Hd.T56 KX G) (λf fd F=>K54 F B o53x o42x o45x) (λ_ _ _ _ _ _=>Hd.u3 λ_ _ _=>rfl);have o55x:=Hd.ow base (Hd.T57 KX G) (λf fd F=>K55 F B o49x o50x) (λ_ _ _ _ _ _=>Hd.u2 λ_ _=>rfl);have o16x:=Hd.ow base (Hd.T58 KX G) (λf fd F=>K56 F B o11x o15x o12x o3x o14x) (λ_ _ _ _ _ _=>Hd.u2 λ_ _=>rfl);have o18x:=Hd.ow base (Hd.T59 KX G) (λf fd F=>K57 F B o19x o14x o17x) (λ_ _ _ _ _ _=>Hd.u3 λ_ _ _=>rfl);have o37x:=Hd.ow base (Hd.T60 KX G) (λf fd F=>K58 F B g_EMPTY o39x o38x) (λ_ _ _ _ _ _=>Hd.u1 λ_=>rfl);have o56x:=Hd.ow base (Hd.T61 KX G) (λf fd F=>K59 F B o50x o51x) (λ_ _ _ _ _ _=>Hd.u4 λ_ _ _ _=>rfl);have o58x:=Hd.ow base (Hd.T62 KX G) (λf fd F=>K60 F B o55x) (λ_ _ _ _ _ _=>Hd.u3 λ_ _ _=>rfl);have o61x:=Hd.ow base (Hd.T63 KX G) (λf fd F=>K61 F B o51x o43x o60x) (λ_ _ _ _ _ _=>Hd.u3 λ_ _ _=>rfl);have o69x:L2.OwnM Hd.p w (Hd.K w.params) mg base L2.CX0 Hd.cs.Yard 5 "put_by" ["self","deed","boards"] [] (P62 Hd.cs):=T_Yard_put_by.own X.c_Yard (λ_ _ _ _ _ _=>Hd.u3 λ_ _ _=>rfl) (λf fd F=>K62 F B X o25x o24x o26x o27x);have o57x:=Hd.ow base (Hd.T65 KX G) (λf fd F=>K63 F B o45x o56x) (λ_ _ _ _ _ _=>Hd.u4 λ_ _ _ _=>rfl);have o62x:=Hd.ow base (Hd.T66 KX G) (λf fd F=>K64 F B o59x o58x o61x) (λ_ _ _ _ _ _=>Hd.u3 λ_ _ _=>rfl);have o67x:L2.OwnM Hd.p w (Hd.K w.params) mg base L2.CX0 Hd.cs.Yard 6 "do" ["self","deed"] [] (P65 Hd.cs):=T_Yard_do.own X.c_Yard (λ_ _ _ _ _ _=>Hd.u2 λ_ _=>rfl) (λf fd F=>K65 F B X g_TURN o22x o68x o69x o21x);have o28x:=Hd.ow base (Hd.T68 KX G) (λf fd F=>K66 F B X o66x o67x) (λ_ _ _ _ _ _=>Hd.u4 λ_ _ _ _=>rfl);have o63x:=Hd.ow base (Hd.T69 KX G) (λf fd F=>K67 F B o62x o43x) (λ_ _ _ _ _ _=>Hd.u4 λ_ _ _ _=>rfl);have o64x:=Hd.ow base (Hd.T70 KX G) (λf fd F=>K68 F B o59x o57x o58x o44x o42x) (λ_ _ _ _ _ _=>Hd.u6 λ_ _ _ _ _ _=>rfl);have o31x:=Hd.ow base (Hd.T71 KX G) (λf fd F=>K69 F B o28x o71x o22x o30x o23x o29x) (λ_ _ _ _ _ _=>Hd.u3 λ_ _ _=>rfl);have o41x:=Hd.ow base (Hd.T72 KX G) (λf fd F=>K70 F B o40x o16x o31x o34x o37x o18x) (λ_ _ _ _ _ _=>Hd.u3 λ_ _ _=>rfl);exact K71 F B o52x o54x o64x o41x o42x o63x
