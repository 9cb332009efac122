import PyProof.Rows.All
import Wide.All
import OpenK.AllK
import Wide.FinOn
import Lean
import PyProof.EqAt
import PyProof.EqKinds
import PyProof.TupleCall
import PySem.Challenge.RW_boardglue_k58_whole_leading_on
abbrev aa:=@List.length_map
abbrev ae:=@List.getElem?_eq_getElem
abbrev af:=@List.getElem?_eq_some_iff
abbrev ag:=@List.getElem?_map
abbrev ah:=@List.length_append
abbrev ai:=@Nat.le_refl
abbrev aj:=@List.map_append
abbrev ak:=@List.mem_singleton
abbrev am:=@Int.mul_assoc
abbrev ao:=@Option.map_eq_some_iff
abbrev aq:=@List.mem_of_getElem?
abbrev ar:=@List.length_cons
abbrev au:=@List.take_length
abbrev av:=@Int.mul_comm
abbrev aw:=@Option.some.inj
abbrev ax:=@List.mem_append
abbrev ay:=@List.mem_cons_of_mem
abbrev az:=@Nat.ne_of_lt
abbrev aB:=@List.mem_cons_self
abbrev aC:=@Int.eq_of_mul_eq_mul_right
abbrev aE:=@Nat.lt_of_lt_of_le
abbrev aG:=@List.getElem?_append_right
abbrev aH:=@Int.mul_ne_zero
abbrev aI:=@List.size_toArray
abbrev aJ:=@List.length_take
abbrev aK:=@List.mem_cons
abbrev aM:=@List.getElem?_append_left
abbrev aN:=@PySem.F.plainAttrs_list
abbrev aP:=@List.length_nil
abbrev aQ:=@PySem.F.slot_list_append
abbrev aR:=@PySem.F.type_list_append
abbrev aT:=@Bool.false_ne_true
abbrev aU:=@List.map_cons
abbrev aV:=@List.mem_append_right
abbrev aW:=@Int.dvd_trans
abbrev aX:=@Int.mul_pos
abbrev aY:=@PySem.boot_len
abbrev aZ:=@List.mem_map
abbrev a8:=@List.take_succ
abbrev a9:=@Int.gcd_eq_natAbs_gcd_natAbs
abbrev bf:=@List.length_range
abbrev bn:=@Nat.le_of_lt
abbrev br:=@Nat.lt_of_le_of_lt
abbrev bu:=@Int.mul_left_comm
abbrev bA:=@List.length_pos_iff
abbrev bB:=@List.append_assoc
abbrev bC:=@List.mem_map_of_mem
abbrev bG:=@List.mem_range
abbrev bH:=@Int.gcd_dvd_left
abbrev bI:=@List.getElem_mem
abbrev bJ:=@List.take_of_length_le
abbrev bK:=@Nat.le_trans
abbrev bL:=@Int.mul_nonpos_of_nonneg_of_nonpos
abbrev bM:=@Int.gcd_dvd_right
abbrev bO:=@List.mem_of_mem_take
abbrev bP:=@PyProof.Rows.callWith_type1
abbrev bQ:=@Int.natAbs_dvd_natAbs
abbrev bR:=@List.getElem?_eq_none
abbrev bS:=@Int.ediv_mul_cancel
abbrev bT:=@Int.dvd_mul_left
abbrev bU:=@List.mem_append_left
abbrev bV:=@Int.zero_mul
abbrev bZ:=@Nat.zero_le
abbrev b8:=@List.pairwise_lt_range
abbrev b9:=@Int.natAbs_natCast
abbrev ca:=@Ne.symm
abbrev ce:=@Int.emod_nonneg
abbrev cf:=@Int.natAbs_mul
abbrev cg:=@Int.emod_lt_of_pos
abbrev cq:=@Int.add_zero
abbrev cr:=@Bool.eq_iff_iff
abbrev cu:=@PySem.W.kia_one
abbrev cv:=@List.lookup_cons
abbrev cB:=@List.take_append_of_le_length
abbrev cC:=@PySem.W.Fast.te14364793385576792824
abbrev cD:=@List.mem_range'_1
abbrev cG:=@Int.mul_ediv_cancel_left
abbrev cH:=@Int.gcd_pos_of_ne_zero_left
abbrev cI:=@List.filter_cons
abbrev cJ:=@Int.mul_one
abbrev cK:=@List.getElem?_range
abbrev cL:=@List.map_nil
abbrev cM:=@Int.mul_zero
abbrev cN:=@Int.neg_mul_neg
abbrev cR:=@Rat.divInt_eq_divInt_iff
abbrev cS:=@Int.mul_fdiv_cancel_left
abbrev cT:=@Bool.and_eq_true
abbrev cU:=@Nat.lt_irrefl
abbrev cV:=@Int.ofNat.inj
abbrev cW:=@List.filterMap_cons
abbrev cX:=@Array.length_toList
abbrev cY:=@PySem.mem_of_lookup
abbrev cZ:=@Option.map_some
abbrev c6:=@Int.mul_nonpos_of_nonpos_of_nonneg
abbrev c7:=@List.getD_eq_getElem?_getD
abbrev c8:=@List.length_drop
abbrev c9:=@List.getElem_map
abbrev db:=@Int.gcd_comm
abbrev dc:=@Int.mul_neg_of_pos_of_neg
abbrev de:=@List.getElem?_of_mem
abbrev df:=@List.nodup_cons
abbrev dg:=@List.getElem?_take_of_lt
abbrev dh:=@PyProof.Rows.slot_tuple_getitem
abbrev di:=@List.foldl_append
abbrev dj:=@Int.zero_add
abbrev dk:=@Nat.add_sub_cancel_left
abbrev dm:=@Nat.le_add_right
abbrev dn:=@List.drop_of_length_le
abbrev dq:=@List.length_range'
abbrev dr:=@List.find?_cons
abbrev dw:=@Int.neg_mul
abbrev dy:=@Int.dvd_refl
abbrev dz:=@Nat.sub_self
abbrev dA:=@List.idxOf_lt_length_of_mem
abbrev dB:=@List.take_append_drop
abbrev dC:=@PySem.W.mg_of
abbrev dD:=@Nat.lt_succ_of_lt
abbrev dE:=@Nat.le_succ_of_le
abbrev dF:=@List.getElem?_inj
abbrev dG:=@List.mem_of_mem_drop
abbrev dH:=@Nat.eq_of_mul_eq_mul_left
abbrev dI:=@Int.mul_pos_of_neg_of_neg
abbrev dJ:=@Int.eq_of_mul_eq_mul_left
abbrev dL:=@Nat.lt_succ_self
abbrev dM:=@List.all_eq_true
abbrev dN:=@Sum.inl.inj
abbrev dO:=@List.Perm.eq_of_pairwise
abbrev dQ:=@Int.mul_nonneg_of_nonpos_of_nonpos
abbrev dR:=@List.mem_filter
abbrev dS:=@List.append_nil
abbrev dU:=@List.any_cons
abbrev dW:=@Int.dvd_coe_gcd
abbrev d4:=@List.range_succ
abbrev d5:=@Int.add_sub_cancel
abbrev d6:=@Nat.min_eq_left
abbrev d7:=@Nat.le_mul_of_pos_right
abbrev d8:=@Nat.le_mul_of_pos_left
abbrev d9:=@Nat.le_succ
abbrev ee:=@Int.one_mul
abbrev em:=@List.pairwise_map
abbrev eB:=@List.ext_getElem?
abbrev eE:=@List.range_eq_nil
abbrev eI:=@List.length_filter_le
abbrev eJ:=@List.Nodup.length_le_of_subset
abbrev eK:=@Int.mul_le_mul_of_nonneg_left
abbrev eM:=@Int.lt_of_not_ge
abbrev eP:=@Int.gcd_mul_left
abbrev eQ:=@Nat.min_eq_right
abbrev eR:=@List.ext_getElem
abbrev eU:=@Int.not_lt
abbrev eV:=@PySem.W.plainGet_of
abbrev eW:=@Int.gcd_sub_mul_right_right
abbrev eZ:=@Int.fdiv_mul_cancel
abbrev fe:=@Nat.div_eq_iff_eq_mul_right
abbrev fh:=@Int.mul_sub
abbrev fi:=@List.map_congr_left
abbrev fj:=@List.getElem_range'
abbrev fk:=@Int.mul_eq_zero
abbrev fm:=@Int.fdiv_eq_ediv_of_nonneg
abbrev fq:=@List.perm_ext_iff_of_nodup
abbrev fw:=@Nat.ne_of_gt
abbrev fA:=@List.mem_filterMap
abbrev fC:=@PySem.W.callWith_K
abbrev fD:=@List.filterMap_map
abbrev fE:=@Nat.lt_trans
abbrev fF:=@Int.add_comm
abbrev fG:=@List.range'_concat
abbrev fH:=@Int.mul_le_mul
abbrev fI:=@Int.mul_nonneg
abbrev fJ:=@Int.lt_of_mul_lt_mul_left
abbrev fK:=@Int.gcd_add_mul_left_left
abbrev fM:=@Decidable.byContradiction
abbrev fQ:=@Classical.byContradiction
abbrev fR:=@List.pairwise_iff_getElem
abbrev fS:=@Option.isSome_iff_exists
abbrev fU:=@PySem.F.args_tuple_add_2
abbrev fV:=@Int.toNat_natCast
abbrev fW:=@PyProof.noPylong_of_log2
abbrev f6:=@Nat.lt_trichotomy
abbrev f7:=@List.take_add_one
abbrev f8:=@List.nodup_append
abbrev f9:=@List.getElem?_replicate
abbrev gc:=@PySem.F.entry_tuple_add
abbrev gf:=@Nat.mul_one
abbrev gh:=@Int.mul_neg
abbrev gi:=@Rat.add_assoc
abbrev gj:=@Nat.add_assoc
abbrev gq:=@List.map_drop
abbrev gr:=@List.length_eq_zero_iff
abbrev gs:=@List.pairwise_lt_range'
abbrev gu:=@List.pairwise_singleton
abbrev gv:=@List.nodup_range
abbrev gw:=@List.take_append
abbrev gx:=@List.mem_flatMap
abbrev gz:=@List.getElem?_set_self
abbrev gA:=@PySem.W.cellsFrom_some
abbrev gB:=@PySem.F.slot_tuple_add
abbrev gC:=@PySem.W.methodCall_KW
abbrev gD:=@List.of_mem_zip
abbrev gE:=@List.length_replicate
abbrev gF:=@PySem.F.slot_dict_pop
abbrev gG:=@Int.lt_or_le
abbrev gH:=@Bool.beq_eq_decide_eq
abbrev gI:=@Rat.add_comm
abbrev gJ:=@Rat.zero_add
abbrev gL:=@Nat.le_total
abbrev gO:=@Array.getElem?_toList
abbrev gP:=@Nat.two_pow_pos
abbrev gQ:=@List.map_map
abbrev gR:=@Nat.add_zero
abbrev gS:=@Nat.sub_zero
abbrev gT:=@Int.sub_mul
abbrev gU:=@Nat.log2_lt
abbrev gW:=@Int.neg_add
abbrev gY:=@Int.dvd_sub
abbrev gZ:=@Nat.le_of_dvd
abbrev g7:=@Int.le_of_dvd
abbrev g8:=@Nat.mul_assoc
abbrev hJ:=@List.map_take
abbrev hU:=@List.take_nil
abbrev hV:=@List.sum_cons
abbrev hZ:=@decide_eq_false
abbrev h7:=@if_pos
abbrev h8:=@if_neg
abbrev h9:=@PySem.wpAny_mono
abbrev ia:=@PySem.wpAny_truthy_bool
abbrev ib:=@PySem.wpAny_execs_nil
abbrev ie:=@PyProof.Rows.assignInOrder_cons
abbrev ig:=@PySem.wpAny_bind
abbrev ii:=@PySem.wpAny_pure
abbrev ij:=@PySem.wpAny_newObj_type
abbrev ik:=@PySem.wpAny_passesOwn
abbrev il:=@PySem.wpAny_pyIter_list
abbrev im:=@PySem.sizeLine_eq
abbrev io:=@PySem.codeAny_mono
abbrev ip:=@PySem.wpAny_Call_Name_kw
abbrev iq:=@PySem.wpAny_holding
abbrev ir:=@PySem.wpAny_typeOf
abbrev iu:=@decide_eq_true
abbrev iw:=@PySem.tupleKind_room_in1
abbrev ix:=@PySem.wpAny_pyIter_dict
abbrev iy:=@PySem.codeAny_builtin
abbrev iz:=@PySem.wpAny_updateSeq
abbrev iA:=@decide_eq_true_eq
abbrev iB:=PySem.W.Frag
set_option maxHeartbeats 4000000
set_option Elab.async false
set_option linter.all false
set_option maxRecDepth 100000
namespace L2
open PySem PySem.Spec PyProof.Rows
abbrev Key:=Sum Int Str
def Cj:Key->Value->Bool
  | .inl k,v=>Value.isInt k v
  | .inr x,v=>Value.isStrOf x v
def keyH(w:World):Key->Int
  | .inl k=>hashInt k
  | .inr x=>hashStr w x
theorem keyIs_shape:∀ {k:Key} {v:Value},Cj k v=true->(∃ i t,k=Sum.inl i/\v=Value.int i t)\/(∃ x t,k=Sum.inr x/\v=Value.str x t)
  | .inl i,v,h=>by
    obtain ⟨t,e⟩:=Value.isInt_shape (k:=i) (v:=v) h;exact .inl ⟨i,t,rfl,e⟩
  | .inr x,v,h=>by
    obtain ⟨t,e⟩:=Value.isStrOf_shape (x:=x) (v:=v) h;exact .inr ⟨x,t,rfl,e⟩
theorem CP(i:Int)(t:Tok):Cj (.inl i) (.int i t)=true:=by simp [Cj,Value.isInt]
theorem Dg(x:Str)(t:Tok):Cj (.inr x) (.str x t)=true:=by simp [Cj,Value.isStrOf]
theorem Jg(a b:Int):decide ((Sum.inl a:Key)=Sum.inl b)=(a==b):=by
  by_cases e:a=b
  . subst e; simp
  . have h:¬ (Sum.inl a:Key)=Sum.inl b:=λq=>e (dN q);rw [hZ h];exact (beq_eq_false_iff_ne.mpr e).symm
theorem Jd(a b:Str):decide ((Sum.inr a:Key)=Sum.inr b)=decide (a=b):=by
  by_cases e:a=b
  . subst e; simp
  . have h:¬ (Sum.inr a:Key)=Sum.inr b:=λq=>e (Sum.inr.inj q);rw [hZ h,hZ e]
theorem JF(a:Int)(b:Str):decide ((Sum.inl a:Key)=Sum.inr b)=false:=hZ (λq=>nomatch q)
theorem J2(a:Str)(b:Int):decide ((Sum.inr a:Key)=Sum.inl b)=false:=hZ (λq=>nomatch q)
def zR(prog:Program)(w:World):PySem.KeyKind prog w Key where
  is:=Cj
  hash:=keyH w
  inj:=λv a b ha hb=>by
    rcases keyIs_shape ha with ⟨i,t,rfl,rfl⟩|⟨x,t,rfl,rfl⟩
    . rcases keyIs_shape hb with ⟨j,u,rfl,e⟩ | ⟨y,u,rfl,e⟩
      . injection e with e1 _; rw [e1]
      . exact nomatch e
    . rcases keyIs_shape hb with ⟨j,u,rfl,e⟩ | ⟨y,u,rfl,e⟩
      . exact nomatch e
      . injection e with e1 _; rw [e1]
  byValue:=λk v h=>by
    rcases keyIs_shape h with ⟨i,t,rfl,rfl⟩|⟨x,t,rfl,rfl⟩ <;> rfl
  pyHash:=λhv h=>by
    rcases keyIs_shape hv with ⟨i,t,rfl,rfl⟩|⟨x,t,rfl,rfl⟩
    . exact wpAny_pyHash_int h
    . exact wpAny_pyHash_str h
  eqBool:=λhu hv h=>by
    rcases keyIs_shape hu with ⟨i,t,rfl,rfl⟩|⟨x,t,rfl,rfl⟩
    . rcases keyIs_shape hv with ⟨j,u,rfl,rfl⟩ | ⟨y,u,rfl,rfl⟩
      . rw [Jg] at h; exact wpAny_eqBool_int h
      . rw [JF] at h; exact SeqAt.EqAt.int_str i t y u _ _ _ _ h
    . rcases keyIs_shape hv with ⟨j,u,rfl,rfl⟩ | ⟨y,u,rfl,rfl⟩
      . rw [J2] at h; exact SeqAt.EqAt.str_int x t j u _ _ _ _ h
      . rw [Jd] at h; exact wpAny_eqBool_str h
  «strs»:=λk x t v h=>by
    rcases keyIs_shape h with ⟨i,u,rfl,e⟩|⟨y,u,rfl,e⟩
    . exact nomatch e
    . injection e with e1 _;subst e1;cases v <;> rfl
theorem AA(prog:Program)(w:World)(i:Int)(t:Tok):(zR prog w).is (.inl i) (.int i t)=true:=CP i t
theorem AE(prog:Program)(w:World)(x:Str)(t:Tok):(zR prog w).is (.inr x) (.str x t)=true:=Dg x t
inductive V where
  | non | bl (b:Bool) | int (i:Int) | str (x:Str) | byt (b:Array UInt8) | flt (b:UInt64) | ref (a:Addr) | ty (n:String)
  deriving DecidableEq
def RelV:V->Value->Prop
  | .non,u=>u=Value.none
  | .bl b,u=>u=Value.bool b
  | .int i,u=>∃ t,u=Value.int i t
  | .str x,u=>∃ t,u=Value.str x t
  | .byt b,u=>∃ t,u=Value.bytes b t
  | .flt b,u=>∃ t,u=Value.float b t
  | .ref a,u=>u=Value.ref a
  | .ty n,u=>u=Value.type n
abbrev Vals:List V->List Value->Prop:=Paired RelV
theorem Vals.length{xs:List V}{us:List Value}(r:Vals xs us):xs.length=us.length:=Paired.length r
theorem Vals.get:∀ {xs:List V} {us:List Value} {i:Nat} {x:V},Vals xs us->xs[i]?=some x->∃ u,us[i]?=some u/\RelV x u
  | _,_,_,_,.nil,e=>by simp at e
  | _,_,0,_,.cons r _,e=>by simp at e; subst e; exact ⟨_,rfl,r⟩
  | _,_,i+1,x,.cons _ t,e=>by
    obtain ⟨u,h1,h2⟩:=Vals.get (i:=i) (x:=x) t (by simpa using e);exact ⟨u,by simpa using h1,h2⟩
theorem Vals.append:∀ {xs ys:List V} {us ws:List Value},Vals xs us->Vals ys ws->Vals (xs++ys) (us++ws)
  | _,_,_,_,.nil,s=>s
  | _,_,_,_,.cons r t,s=>.cons r (Vals.append t s)
theorem Vals.take:∀ {xs:List V} {us:List Value} (n:Nat),Vals xs us->Vals (xs.take n) (us.take n)
  | _,_,0,_=>.nil
  | _,_,_+1,.nil=>.nil
  | _,_,n+1,.cons r t=>.cons r (Vals.take n t)
theorem Vals.drop:∀ {xs:List V} {us:List Value} (n:Nat),Vals xs us->Vals (xs.drop n) (us.drop n)
  | _,_,0,r=>r
  | _,_,_+1,.nil=>.nil
  | _,_,n+1,.cons _ t=>Vals.drop n t
def RelO:Option V->Option Value->Prop
  | some v,some u=>RelV v u
  | none,none=>True
  | _,_=>False
def KV{κ:Type}:List (κ×V)->List (κ×Value)->Prop:=Paired λ(p:κ×V) (q:κ×Value)=>p.1=q.1/\RelV p.2 q.2
def kV:Key->V
  | .inl i=>.int i
  | .inr x=>.str x
inductive HO where
  | lst (xs:List V)
  | tup (xs:List V)
  | dK (kvs:List (Key×V)) | dT (kvs:List (List Key×V))
  | set (S:Int->Bool) (n:Nat)
  | ins (C dx:Addr) (fs:List (Str×V))
  | own (x:Addr)
  | xd (fs:List (Str×V))
  | met (f x:Addr)
  | rng (lo hi:Int)
  | frz (o:Obj) (u:HO)
  | tbl (ps:Array Value)
  | ext (φ:Heap->Prop)
abbrev Hp:=Addr->Option HO
def upd(H:Hp)(a:Addr)(o:HO):Hp:=λb=>if b=a then some o else H b
theorem zf{H:Hp}{a:Addr}{o:HO}:upd H a o a=some o:=by unfold upd; rw [h7 rfl]
theorem zj{H:Hp}{a b:Addr}{o:HO}(h:b≠a):upd H a o b=H b:=by unfold upd; rw [h8 h]
theorem zX{H:Hp}{a b:Addr}{o u:HO}(h:H a=some o)(h':H b=some u)(d:o≠u):a≠b:=by
  intro e; subst e; rw [h] at h'; exact d (aw h')
theorem zb{H:Hp}{a b:Addr}{o:HO}(h:H a=some o)(h':H b=none):a≠b:=by
  intro e; subst e; rw [h] at h'; cases h'
section
variable (P:Program)(w:World)
def ObjOk(H:Hp)(h:Heap)(a:Addr):HO->Prop
  | .lst xs=>xs.length<=sizeLine/\∃ (its:List Value) (n:Nat),Vals xs its/\h.get? a=some { cls:=.type "list",data:=.seq its.toArray n }
  | .tup xs=>xs.length<=sizeLine/\∃ its:List Value,Vals xs its/\IsTup h a its.toArray
  | .dK kvs=>kvs.length<=sizeLine/\(a==sysModules)=false/\∃ vs,KV kvs vs/\h.DictOf (zR P w) a vs
  | .dT kvs=>kvs.length<=sizeLine/\(a==sysModules)=false/\∃ xs:List (List Key×Addr×Value),
      Paired (λ(p:List Key×V) (q:List Key×Addr×Value)=>p.1=q.1/\H q.2.1=some (.tup (p.1.map kV))/\RelV p.2 q.2.2) kvs xs /\
      ∃ o es ep,h.get? a=some o/\o.ExactDict/\o.data=.dict es ep/\es.toList=xs.map (entryOfKey (tupleKind (zR P w)))/\(xs.map (·.1)).Nodup
  | .set S n=>h.SetOf (intKind P w) a S n
  | .ins C dx fs=>H dx=some (.own a)/\fs.length<=1000/\dx≠a/\h.get? a=some (W.instObj C dx) /\
      ∃ mA,h.Ns1 dx mA/\(∀ f,RelO (fs.lookup f) (mA f))/\PySem.Within mA (fs.map (·.1))
  | .own _=>∃ o,h.get? a=some o
  | .xd fs=>∃ mA,h.Ns1 a mA/\∀ f,RelO (fs.lookup f) (mA f)
  | .rng lo hi=>∃ t u v,h.get? a=some { cls:=.type "range",data:=.fields #[.int lo t,.int hi u,.int 1 v] }
  | .frz o u=>h.get? a=some o/\ObjOk H h a u
  | .tbl ps=>h.get? a=some { cls:=.none,data:=.fields ps }
  | .met f x=>h.get? a=some (W.methodObj (.ref f) (.ref x))
  | .ext φ=>φ h/\(∃ o,h.get? a=some o)/\∀ h1 h2:Heap,φ h1->(∀ o,h1.get? a=some o->h2.get? a=some o)->φ h2
def HOk(H:Hp)(h:Heap):Prop:=∀ a o,H a=some o->ObjOk P w H h a o
end
variable {P:Program}{w:World}{H H':Hp}{h h':Heap}{a:Addr}{o:HO}
theorem ObjOk.lt(x:ObjOk P w H h a o):a<h.objs.size:=by
  cases o with
  | lst xs=>obtain ⟨_,_,_,_,e⟩:=x; exact Heap.lt_size e
  | tup xs=>obtain ⟨_,_,_,p⟩:=x; exact p.lt
  | dK kvs=>obtain ⟨_,_,_,_,o,_,_,e,_⟩:=x; exact Heap.lt_size e
  | dT kvs=>obtain ⟨_,_,_,_,o,_,_,e,_⟩:=x; exact Heap.lt_size e
  | set S n=>obtain ⟨o,_,_,_,e,_⟩:=x; exact Heap.lt_size e
  | ins C dx fs=>obtain ⟨_,_,_,e,_⟩:=x; exact Heap.lt_size e
  | own y=>obtain ⟨_,e⟩:=x; exact Heap.lt_size e
  | xd fs=>obtain ⟨_,⟨_,_,_,e,_⟩,_⟩:=x; exact Heap.lt_size e
  | rng lo hi=>obtain ⟨_,_,_,e⟩:=x; exact Heap.lt_size e
  | frz ob u=>obtain ⟨e,_⟩:=x; exact Heap.lt_size e
  | tbl ps=>exact Heap.lt_size (show h.get? a=some _ from x)
  | met f y=>exact Heap.lt_size (show h.get? a=some _ from x)
  | ext φ=>obtain ⟨_,⟨_,e⟩,_⟩:=x; exact Heap.lt_size e
theorem Paired.mapP{α β:Type}{F G:α->β->Prop}:∀ {l₁:List α} {l₂:List β},Paired F l₁ l₂->(∀ a b,F a b->G a b)->Paired G l₁ l₂
  | _,_,.nil,_=>.nil
  | _,_,.cons r t,f=>.cons (f _ _ r) (Paired.mapP t f)
theorem ObjOk.stay(x:ObjOk P w H h a o)(k:∀ b u,(b=a\/H b=some (.own a))->h.get? b=some u->h'.get? b=some u)(ho:∀ b,H b=some (.own a)->H' b=some (.own a))(ht:∀ b xs,H b=some (.tup xs)->H' b=some (.tup xs)):ObjOk P w H' h' a o:=by
  induction o with
  | lst xs=>obtain ⟨z,its,n,r,e⟩:=x; exact ⟨z,its,n,r,k _ _ (.inl rfl) e⟩
  | tup xs=>obtain ⟨z,its,r,ob,e,c⟩:=x; exact ⟨z,its,r,ob,k _ _ (.inl rfl) e,c⟩
  | dK kvs=>obtain ⟨z,y,vs,r,ob,es,ep,e,c⟩:=x; exact ⟨z,y,vs,r,ob,es,ep,k _ _ (.inl rfl) e,c⟩
  | dT kvs =>
    obtain ⟨z,y,xs,r,ob,es,ep,e,c⟩:=x;exact ⟨z,y,xs,Paired.mapP r λp q z=>⟨z.1,ht _ _ z.2.1,z.2.2⟩,ob,es,ep,k _ _ (.inl rfl) e,c⟩
  | set S n=>obtain ⟨ob,es,ep,t,e,c⟩:=x; exact ⟨ob,es,ep,t,k _ _ (.inl rfl) e,c⟩
  | ins C dx fs =>
    obtain ⟨d,z,ne,e,mA,⟨od,es,ep,e2,c⟩,r⟩:=x;exact ⟨ho _ d,z,ne,k _ _ (.inl rfl) e,mA,⟨od,es,ep,k _ _ (.inr d) e2,c⟩,r⟩
  | own y=>obtain ⟨ob,e⟩:=x; exact ⟨ob,k _ _ (.inl rfl) e⟩
  | xd fs=>obtain ⟨mA,⟨od,es,ep,e,c⟩,r⟩:=x; exact ⟨mA,⟨od,es,ep,k _ _ (.inl rfl) e,c⟩,r⟩
  | rng lo hi=>obtain ⟨t,u,v,e⟩:=x; exact ⟨t,u,v,k _ _ (.inl rfl) e⟩
  | frz ob u ih=>obtain ⟨e,q⟩:=x; exact ⟨k _ _ (.inl rfl) e,ih q⟩
  | tbl ps =>
    have e:h.get? a=some { cls:=.none,data:=.fields ps }:=x;show h'.get? a=some { cls:=.none,data:=.fields ps };exact k a _ (.inl rfl) e
  | met f y =>
    have e:h.get? a=some (W.methodObj (.ref f) (.ref y)):=x;show h'.get? a=some (W.methodObj (.ref f) (.ref y));exact k a _ (.inl rfl) e
  | ext φ=>obtain ⟨p,⟨o,e⟩,st⟩:=x; exact ⟨st _ _ p λo q=>k _ _ (.inl rfl) q,⟨o,k _ _ (.inl rfl) e⟩,st⟩
theorem HOk.lt(x:HOk P w H h)(e:H a=some o):a<h.objs.size:=(x a o e).lt
theorem HOk.fresh(x:HOk P w H h)(e:h.objs.size<=a):H a=none:=by
  cases q:H a with
  | none=>rfl
  | some u=>exact absurd (aE (x.lt q) e) (cU _)
theorem HOk.kept(x:HOk P w H h)(k:∀ b u,h.get? b=some u->h'.get? b=some u):HOk P w H h':=λa o e =>
  (x a o e).stay (λb u _ q=>k b u q) (λ_ q=>q) λ_ _ q=>q
theorem HOk.laid(x:HOk P w H h)(k:∀ b u,h.get? b=some u->h'.get? b=some u)(hp:h.objs.size<=a)(new:ObjOk P w (upd H a o) h' a o):HOk P w (upd H a o) h':=λb u e=>by
  have hn:=x.fresh hp;by_cases hb:b=a
  . subst hb; rw [zf] at e; cases e; exact new
  . rw [zj hb] at e;exact (x b u e).stay (λc v _ q=>k c v q) (λc q=>by rw [zj (zb q hn)]; exact q) λc xs q=>by rw [zj (zb q hn)]; exact q
def Rd(H:Hp)(a:Addr)(u:HO):Prop:=H a=some u\/∃ o,H a=some (.frz o u)
theorem Rd.ok{u:HO}(r:Rd H a u)(x:HOk P w H h):ObjOk P w H h a u:=by
  rcases r with r|⟨o,r⟩
  . exact x a u r
  . obtain ⟨_,q⟩:=x a _ r;exact q
def Mut:Option HO->Prop
  | some (.lst _)=>True
  | some (.dK _)=>True
  | some (.dT _)=>True
  | some (.set _ _)=>True
  | some (.ins _ _ _)=>True
  | some (.ext _)=>True
  | _=>False
variable {x e:Addr}{o':HO}
theorem HOk.write(ok:HOk P w H h)(mu:Mut (H x))(he:e=x\/H e=some (.own x))(k:∀ b u,b≠e->h.get? b=some u->h'.get? b=some u)(heo:∃ u,h'.get? e=some u)(new:ObjOk P w (upd H x o') h' x o'):HOk P w (upd H x o') h':=λb u q=>by
  have nown:∀ c y,H c=some (.own y)->c≠x:=λc y r z=>by subst z; rw [r] at mu; exact mu
  have ntup:∀ c xs,H c=some (.tup xs)->c≠x:=λc xs r z=>by subst z; rw [r] at mu; exact mu
  by_cases hb:b=x
  . subst hb; rw [zf] at q; cases q; exact new
  . rw [zj hb] at q;by_cases hbe:b=e
    . have q':H b=some (.own x):=by
        rcases he with z|z
        . exact absurd (hbe.trans z) hb
        . rw [hbe]; exact z
      rw [q] at q'; cases q';obtain ⟨v,hv⟩:=heo;exact ⟨v,by rw [hbe]; exact hv⟩
    . refine (ok b u q).stay (λc v hc r=>k c v ?_ r) (λc r=>by rw [zj (nown c b r)]; exact r) λc xs r=>by rw [zj (ntup c xs r)]; exact r
      rcases hc with rfl|hc
      . exact hbe
      . rintro rfl;rcases he with z|z
        . exact nown c b hc z
        . rw [hc] at z; cases z; exact hb rfl
structure Un(fs ex:List Addr)(H H':Hp)(h h':Heap):Prop where
  keep:∀ b o,h.get? b=some o->H b=none->b∉fs->b∉ex->h'.get? b=some o
  slot:∀ b o,h.get? b=some o->H b=none->b∈fs->b∉ex->∃ sl,h'.get? b=some { o with slots:=sl }
  free:∀ b o,h.get? b=some o->H b=none->b∉ex->H' b=none
  there:∀ b o,h.get? b=some o->b∉ex->∃ o',h'.get? b=some o'
  tups:∀ b xs,H b=some (.tup xs)->H' b=some (.tup xs)
  frzs:∀ b o u,H b=some (.frz o u)->H' b=some (.frz o u)
  tbls:∀ b ps,H b=some (.tbl ps)->∃ more,H' b=some (.tbl (ps++more))
section
variable {fs fs' ex ex':List Addr}{H1 H2:Hp}{h1 h2:Heap}
theorem Un.any(u:Un fs ex H H1 h h1){b:Addr}{ob:Obj}(q:h.get? b=some ob)(n:H b=none)(hx:b∉ex):∃ sl,h1.get? b=some { ob with slots:=sl }:=by
  by_cases hb:b∈fs
  . exact u.slot b ob q n hb hx
  . exact ⟨ob.slots,u.keep b ob q n hb hx⟩
theorem Un.kept(k:∀ b u,h.get? b=some u->h'.get? b=some u):Un fs ex H H h h' :=
  ⟨λb ob q _ _ _=>k b ob q,λb ob q _ _ _=>⟨ob.slots,k b ob q⟩,λ_ _ _ n _=>n,λb ob q _=>⟨ob,k b ob q⟩,λ_ _ q=>q,λ_ _ _ q=>q,λ_ ps q=>⟨#[],by rw [q]; simp⟩⟩
theorem Un.refl:Un fs ex H H h h:=Un.kept λ_ _ q=>q
theorem Un.laid(k:∀ b u,h.get? b=some u->h'.get? b=some u)(hp:h.objs.size<=a)(hn:H a=none):Un fs ex H (upd H a o) h h' where
  keep:=λb u q _ _ _=>k b u q
  slot:=λb u q _ _ _=>⟨u.slots,k b u q⟩
  free:=λb u q n _=>by rw [zj (az (aE (Heap.lt_size q) hp))]; exact n
  there:=λb u q _=>⟨u,k b u q⟩
  tups:=λb xs q=>by rw [zj (zb q hn)]; exact q
  frzs:=λb u xs q=>by rw [zj (zb q hn)]; exact q
  tbls:=λb ps q=>⟨#[],by rw [zj (zb q hn),q]; simp⟩
theorem Un.write(mu:Mut (H x))(he:e=x\/H e=some (.own x))(k:∀ b u,b≠e->h.get? b=some u->h'.get? b=some u)(heo:∃ u,h'.get? e=some u):Un fs ex H (upd H x o) h h':=by
  have hx:∀ b,H b=none->b≠x:=λb n z=>by subst z; rw [n] at mu; exact mu
  have hb:∀ b,H b=none->b≠e:=λb n z=>by
    subst z;rcases he with r|r
    . exact hx b n r
    . rw [n] at r; cases r
  have hm:∀ b u,H b=some u->¬ Mut (some u)->b≠x:=λb u q nm z=>by subst z; rw [q] at mu; exact nm mu
  refine ⟨λb u q n _ _=>k b u (hb b n) q,λb u q n _ _=>⟨u.slots,k b u (hb b n) q⟩,λb u q n _=>by rw [zj (hx b n)]; exact n,λb u q _=>?_,
    λb xs q=>by rw [zj (hm b _ q λz=>z)]; exact q,λb u xs q=>by rw [zj (hm b _ q λz=>z)]; exact q,λb ps q=>⟨#[],by rw [zj (hm b _ q λz=>z),q]; simp⟩⟩
  by_cases hbe:b=e
  . subst hbe; exact heo
  . exact ⟨u,k b u hbe q⟩
end
def trk(h:Heap)(H:Hp):List Addr:=(List.range h.objs.size).filter λa=>(H a).isSome
def hidT(h:Heap)(H:Hp):Heap:=W.hideAll h (trk h H)
theorem EX(h:Heap)(H:Hp):(hidT h H).objs.size=h.objs.size:=W.hideAll_size _ _
theorem Gc{b:Addr}{o:Obj}(e:h.get? b=some o)(n:H b=none):(hidT h H).get? b=some o :=
  W.hideAll_get _ e λhm=>by
    have q:(H b).isSome=true:=(dR.mp hm).2;rw [n] at q; simp at q
theorem Ih{b:Addr}{o:Obj}(e:(hidT h H).get? b=some o):h.get? b=some o/\H b=none:=by
  have e':h.get? b=some o:=W.of_hideAll (trk h H) e;refine ⟨e',?_⟩;cases q:H b with
  | none=>rfl
  | some x =>
    have hm:b∈trk h H:=dR.mpr ⟨bG.mpr (Heap.lt_size e'),by simp [q]⟩;have z:(hidT h H).get? b=none:=W.hideAll_none (trk h H) hm;rw [z] at e; cases e
def HV(g h:Heap)(L:Addr):List (Addr×Obj):=(List.range h.objs.size).filterMap λa=>if a=L\/(g.get? a).isSome=true then none else (h.get? a).map λo=>(a,o)
def rest(g h:Heap)(L d:Addr):List (Addr×Obj):=(HV g h L).filter λp=>decide (p.1≠d)
structure Mod(K:iB)(mg:Str->Option Value)(base:Heap):Prop where
  kin:K.In base
  glob:base.Ns mainGlobals mg
  blt:∃ mb,base.Ns builtinsNs mb/\∀ x:Str,x≠"__name__"->mb x=bootBuiltins x
  nolimit:base.NoLimit
structure Cx where
  prog:Program
  w:World
  K:iB
  mg:Str->Option Value
  base:Heap
  A:Around
  N:List Str
  s₀:Shared
  H₀:Hp
  env:Env
  outer:List Env
  stack:List Env
  ex:List Addr
  fn:Str->Bool
  calm:Bool
  pn:List (Addr×Obj)
  xe:Value->Shared->Prop
def frs(l:List Env):List Addr:=l.filterMap (·.frame)
abbrev Cx.fs(X:Cx):List Addr:=frs X.outer
def Vis(sc:Scope)(x:Str):Prop:=sc.names.lookup x=some .local\/sc.names.lookup x=some .cell\/sc.names.lookup x=some .free
def Loc(sc:Scope)(x:Str):Prop:=sc.names.lookup x=some .local\/sc.names.lookup x=some .cell
def Look(env:Env)(h:Heap)(m:Str->Option Value)(x:Str)(u:Value):Prop :=
  (env.kindOf x=some .local/\m x=some u)\/((env.kindOf x=some .cell\/env.kindOf x=some .free)/\∃ c,env.cells.lookup x=some c/\h.IsCell c (some u))
structure Cx.Ok(X:Cx):Prop where
  mod:Mod X.K X.mg X.base
  kind:X.env.scope.kind=.function
  glob:X.env.globals=mainGlobals
  blt:X.env.builtins=builtinsNs
  above:X.s₀.heap.objs.size<=X.env.locals
  inj:∀ x y c,X.env.cells.lookup x=some c->X.env.cells.lookup y=some c->x=y
  has:∀ x,(X.env.kindOf x=some .cell\/X.env.kindOf x=some .free)->∃ c,X.env.cells.lookup x=some c
  cab:∀ x c,X.fn x=true->X.env.cells.lookup x=some c->X.s₀.heap.objs.size<=c
  hd:X.calm=true->X.A.handled=none
  frames:X.A.frames=some X.stack
  stk:X.stack=X.outer\/(X.stack=X.env::X.outer/\X.env.frame=some X.env.locals)
  exf:∀ b∈X.ex,b≠X.env.locals/\∀ x c,X.env.cells.lookup x=some c->c≠b
  bs:∀ b o,X.base.get? b=some o->X.s₀.heap.get? b=some o/\X.H₀ b=none
  bsz:X.base.objs.size<=X.s₀.heap.objs.size
  noex:∀ b o,X.base.get? b=some o->b∉X.ex
  exfs:∀ b∈X.ex,b∉X.fs
  funs:X.s₀.heap.FunFrames X.base X.outer
  frf:∀ b∈X.fs,X.H₀ b=none
structure Inv(X:Cx)(pins:List (Addr×Obj))(σ:List (Option V))(H:Hp)(s:Shared):Prop where
  ok:X.Ok
  os:s.os=X.s₀.os
  bare:AllBare s.gens
  base:Un X.fs X.ex X.H₀ H X.s₀.heap s.heap
  loc:∃ m,s.heap.Ns X.env.locals m/\∀ (i:Nat) (x:Str) (v:V),X.N[i]?=some x->σ[i]?=some (some v)->Vis X.env.scope x->∃ u,RelV v u/\Look X.env s.heap m x u
  cell:∀ x c,X.env.cells.lookup x=some c->∃ v,s.heap.IsCell c v
  free:H X.env.locals=none
  freeC:∀ x c,X.env.cells.lookup x=some c->H c=none
  pin:∀ p∈X.pn++pins,s.heap.get? p.1=some p.2/\H p.1=none/\p.1≠X.env.locals/\p.1∉X.fs/\∀ v,p.2.data≠.cell v
  hok:HOk X.prog X.w H s.heap
  len:σ.length=X.N.length
variable {it:Addr}{g':Array GenState}{d':Drawn}{ch:List Addr}{M:Model}{t':Nat}{E:Value->Shared->Prop}
section
variable {X:Cx}{pins:List (Addr×Obj)}{σ:List (Option V)}{s:Shared}
theorem Cx.Ok.nofr(ok:X.Ok){b:Addr}{o:Obj}(e:X.base.get? b=some o):b∉X.fs:=λhb=>by
  have:=(ok.funs.mem hb).1;rw [e] at this; cases this
theorem Inv.bs(I:Inv X pins σ H s):∀ b o,X.base.get? b=some o->s.heap.get? b=some o/\H b=none:=λb o e =>
  ⟨I.base.keep b o (I.ok.bs b o e).1 (I.ok.bs b o e).2 (I.ok.nofr e) (I.ok.noex b o e),I.base.free b o (I.ok.bs b o e).1 (I.ok.bs b o e).2 (I.ok.noex b o e)⟩
theorem Inv.bk(I:Inv X pins σ H s):∀ b o,X.base.get? b=some o->s.heap.get? b=some o:=λb o e=>(I.bs b o e).1
theorem Inv.mod(I:Inv X pins σ H s):Mod X.K X.mg X.base:=I.ok.mod
theorem Inv.kIn(I:Inv X pins σ H s):X.K.In s.heap:=I.ok.mod.kin.keeps I.bk
theorem Inv.lt(I:Inv X pins σ H s):X.env.locals<s.heap.objs.size:=let ⟨_,hn,_⟩:=I.loc; hn.lt
theorem Inv.sz(I:Inv X pins σ H s):X.s₀.heap.objs.size<=s.heap.objs.size:=bK I.ok.above (bn I.lt)
theorem Inv.nofs(I:Inv X pins σ H s)(h:s.heap.objs.size<=a):a∉X.fs:=λhb=>by
  obtain ⟨_,o,ho,_⟩:=I.ok.funs.mem hb;exact absurd (aE (Heap.lt_size ho) (bK I.sz h)) (cU _)
theorem Inv.cne(I:Inv X pins σ H s):∀ x c,X.env.cells.lookup x=some c->c≠X.env.locals:=λx c e z=>by
  obtain ⟨v,o,ho,hd⟩:=I.cell x c e;obtain ⟨m,⟨o',es,ep,ho',hd',_⟩,_⟩:=I.loc;rw [z,ho'] at ho; cases ho; rw [hd'] at hd; cases hd
theorem Inv.funs(I:Inv X pins σ H s):s.heap.FunFrames X.base X.outer:=by
  have all:∀ (l:List Env),(∀ b∈frs l,b∈X.fs)->X.s₀.heap.FunFrames X.base l->s.heap.FunFrames X.base l:=by
    intro l;induction l with
    | nil=>intro _ _; trivial
    | cons env r ih =>
      intro hs hl;obtain ⟨hk,⟨L,o,hf,hn,ho,hd⟩,hr⟩:=hl;have hL:L∈X.fs:=hs L (by unfold frs; rw [cW,hf]; exact aB);obtain ⟨sl,e⟩:=I.base.slot L o ho (I.ok.frf L hL) hL λz=>I.ok.exfs L z hL;exact ⟨hk,⟨L,_,hf,hn,e,hd⟩,ih (λb hb=>hs b (by unfold frs; rw [cW,hf]; exact ay _ hb)) hr⟩
  exact all X.outer (λ_ hb=>hb) I.ok.funs
theorem Inv.stack(I:Inv X pins σ H s):s.heap.FunFrames X.base X.stack:=by
  rcases I.ok.stk with e|⟨e,hf⟩
  . rw [e]; exact I.funs
  . rw [e];obtain ⟨m,hn,_⟩:=I.loc;refine .cons (by rw [I.ok.kind]; decide) hf hn ?_ I.funs;exact Heap.get?_none_of_le (bK I.ok.bsz I.ok.above)
theorem Inv.stkSub(I:Inv X pins σ H s):∀ b∈frs X.stack,b∈X.env.locals::X.fs:=λb hb=>by
  rcases I.ok.stk with e|⟨e,hf⟩
  . rw [e] at hb; exact ay _ hb
  . rw [e] at hb;unfold frs at hb;rw [cW,hf] at hb;exact hb
theorem Inv.stkFree(I:Inv X pins σ H s):∀ b∈frs X.stack,H b=none:=λb hb=>by
  rcases aK.mp (I.stkSub b hb) with e|hb
  . rw [e]; exact I.free
  . obtain ⟨_,o,ho,_⟩:=I.ok.funs.mem hb;exact I.base.free b o ho (I.ok.frf b hb) λz=>I.ok.exfs b z hb
theorem Inv.step(I:Inv X pins σ H s)(hch:∀ b∈ch,(b∈X.ex\/X.s₀.heap.objs.size<=b)/\b≠X.env.locals/\(∀ x c,X.env.cells.lookup x=some c->c≠b)/\∀ p∈X.pn++pins,p.1≠b)(keep:∀ b o,b≠X.env.locals->b∉X.fs->b∉ch->s.heap.get? b=some o->H b=none->h'.get? b=some o)(slot:∀ b o,b≠X.env.locals->b∈X.fs->b∉ch->s.heap.get? b=some o->H b=none->∃ sl,h'.get? b=some { o with slots:=sl })(free:∀ b o,b∉ch->s.heap.get? b=some o->H b=none->H' b=none)(there:∀ b o,b∉ch->s.heap.get? b=some o->∃ o',h'.get? b=some o')(tups:∀ b xs,H b=some (.tup xs)->H' b=some (.tup xs))(frzs:∀ b o u,H b=some (.frz o u)->H' b=some (.frz o u))(tbls:∀ b ps,H b=some (.tbl ps)->∃ more,H' b=some (.tbl (ps++more)))(ns:∀ m,s.heap.Ns X.env.locals m->h'.Ns X.env.locals m)(hok:HOk X.prog X.w H' h')(hg:AllBare g') :
    Inv X pins σ H' { s with heap:=h',gens:=g',drawn:=d',toks:=t' }:=by
  have neL:∀ b o,X.s₀.heap.get? b=some o->b≠X.env.locals:=λb o e=>az (aE (Heap.lt_size e) I.ok.above);have neC:∀ b o,X.s₀.heap.get? b=some o->b∉X.ex->b∉ch:=λb o e hx hb=>by
    rcases (hch b hb).1 with z|z
    . exact hx z
    . exact absurd (aE (Heap.lt_size e) z) (cU _)
  have cellK:∀ x c,X.env.cells.lookup x=some c->∀ v,s.heap.IsCell c v->h'.IsCell c v:=λx c e v ⟨o,ho,hd⟩=>by
    have nch:c∉ch:=λz=>(hch c z).2.2.1 x c e rfl;by_cases hc:c∈X.fs
    . obtain ⟨sl,q⟩:=slot c o (I.cne x c e) hc nch ho (I.freeC x c e);exact ⟨_,q,hd⟩
    . exact ⟨o,keep c o (I.cne x c e) hc nch ho (I.freeC x c e),hd⟩
  refine ⟨I.ok,I.os,hg,⟨λb o e n hb hx=>?_,λb o e n hb hx=>?_,λb o e n hx=>?_,λb o e hx=>?_,λb xs e=>tups b xs (I.base.tups b xs e),λb o xs e=>frzs b o xs (I.base.frzs b o xs e),λb ps e=>?_⟩,?_,λx c e=>?_,?_,λx c e=>?_,λp hp=>?_,hok,I.len⟩
  . exact keep b o (neL b o e) hb (neC b o e hx) (I.base.keep b o e n hb hx) (I.base.free b o e n hx)
  . obtain ⟨sl,e1⟩:=I.base.slot b o e n hb hx;obtain ⟨sl',e2⟩:=slot b _ (neL b o e) hb (neC b o e hx) e1 (I.base.free b o e n hx);exact ⟨sl',e2⟩
  . obtain ⟨o',e1⟩:=I.base.there b o e hx;exact free b o' (neC b o e hx) e1 (I.base.free b o e n hx)
  . obtain ⟨o',e1⟩:=I.base.there b o e hx;exact there b o' (neC b o e hx) e1
  . obtain ⟨m1,e1⟩:=I.base.tbls b ps e;obtain ⟨m2,e2⟩:=tbls b _ e1;exact ⟨m1++m2,by rw [e2,Array.append_assoc]⟩
  . obtain ⟨m,hn,hl⟩:=I.loc;refine ⟨m,ns m hn,λi x v e1 e2 e3=>?_⟩;obtain ⟨u,r,l⟩:=hl i x v e1 e2 e3;refine ⟨u,r,?_⟩;rcases l with l|⟨k,c,e,z⟩
    . exact .inl l
    . exact .inr ⟨k,c,e,cellK x c e _ z⟩
  . obtain ⟨v,z⟩:=I.cell x c e;exact ⟨v,cellK x c e v z⟩
  . obtain ⟨m,⟨o,_,_,ho,_⟩,_⟩:=I.loc;exact free _ o (λz=>(hch _ z).2.1 rfl) ho I.free
  . obtain ⟨v,o,ho,hd⟩:=I.cell x c e;exact free c o (λz=>(hch c z).2.2.1 x c e rfl) ho (I.freeC x c e)
  . obtain ⟨e,n,ne,nf,d⟩:=I.pin p hp;have nch:p.1∉ch:=λz=>(hch p.1 z).2.2.2 p hp rfl;exact ⟨keep p.1 p.2 ne nf nch e n,free p.1 p.2 nch e n,ne,nf,d⟩
theorem Inv.un(I:Inv X pins σ H s)(u:Un X.fs [] H H' s.heap h')(hok:HOk X.prog X.w H' h'):Inv X pins σ H' { s with heap:=h',toks:=t' }:=by
  obtain ⟨m,⟨o,es,ep,ho,r⟩,_⟩:=id I.loc;obtain ⟨sl,hL⟩:=u.any ho I.free (by simp);exact I.step (g':=s.gens) (d':=s.drawn) (ch:=[]) (λ_ z=>nomatch z) (λb o _ hb _ e n=>u.keep b o e n hb (by simp)) (λb o _ hb _ e n=>u.slot b o e n hb (by simp)) (λb o _ e n=>u.free b o e n (by simp)) (λb o _ e=>u.there b o e (by simp)) u.tups u.frzs u.tbls (λm' hm=>by
    obtain ⟨o',es',ep',ho',r'⟩:=hm;rw [ho] at ho'; cases ho';exact ⟨_,es',ep',hL,r'⟩) hok I.bare
theorem Inv.call(I:Inv X pins σ H s)(u:Un (frs X.stack) ch H H' s.heap h')(hok:HOk X.prog X.w H' h')(hg:AllBare g')(hch:∀ b∈ch,(b∈X.ex\/X.s₀.heap.objs.size<=b)/\b≠X.env.locals/\(∀ x c,X.env.cells.lookup x=some c->c≠b)/\∀ p∈X.pn++pins,p.1≠b) : Inv X pins σ H' { s with heap:=h',gens:=g',drawn:=d',toks:=t' }:=by
  obtain ⟨m,⟨o,es,ep,ho,r⟩,_⟩:=id I.loc;obtain ⟨sl,hL⟩:=u.any ho I.free λz=>(hch _ z).2.1 rfl;exact I.step (ch:=ch) hch (λb o hL hb hc e n=>u.keep b o e n (λz=>(aK.mp (I.stkSub b z)).elim hL hb) hc) (λb o _ _ hc e n=>u.any e n hc) (λb o hc e n=>u.free b o e n hc) (λb o hc e=>u.there b o e hc) u.tups u.frzs u.tbls (λm' hm=>by
    obtain ⟨o',es',ep',ho',r'⟩:=hm;rw [ho] at ho'; cases ho';exact ⟨_,es',ep',hL,r'⟩) hok hg
theorem Inv.turned(I:Inv X pins σ H s)(k:∀ b o,b≠it->s.heap.get? b=some o->h'.get? b=some o)(hn:H it=none)(hL:it≠X.env.locals)(h1:it∈X.ex\/X.s₀.heap.objs.size<=it)(h2:∀ x c,X.env.cells.lookup x=some c->c≠it)(h3:∀ p∈X.pn++pins,p.1≠it):Inv X pins σ H { s with heap:=h',toks:=t' }:=by
  have nit:∀ b u,H b=some u->b≠it:=λb u e z=>by rw [z,hn] at e; cases e
  refine I.step (g':=s.gens) (d':=s.drawn) (ch:=[it]) (λb hb=>?_) (λb o _ _ hc e _=>k b o (λz=>hc (by simp [z])) e) (λb o _ _ hc e _=>⟨o.slots,k b o (λz=>hc (by simp [z])) e⟩) (λ_ _ _ _ n=>n)
    (λb o hc e=>⟨o,k b o (λz=>hc (by simp [z])) e⟩) (λ_ _ e=>e) (λ_ _ _ e=>e) (λb ps e=>⟨#[],by rw [e]; simp⟩) (λm hm=>?_) (λb u e=>?_) I.bare
  . have e:b=it:=by simpa using hb
    subst e;exact ⟨h1,hL,h2,h3⟩
  . obtain ⟨o,es,ep,ho,r⟩:=hm;exact ⟨o,es,ep,k _ o (ca hL) ho,r⟩
  . refine (I.hok b u e).stay (λc v hc q=>k c v ?_ q) (λ_ q=>q) λ_ _ q=>q;rcases hc with z|z
    . rw [z]; exact nit b u e
    . exact nit c _ z
theorem Inv.tok(I:Inv X pins σ H s)(t:Nat):Inv X pins σ H { s with toks:=t }:=I.un (h':=s.heap) (t':=t) Un.refl I.hok
theorem Inv.kept{t':Nat}(I:Inv X pins σ H s)(k:∀ b u,s.heap.get? b=some u->h'.get? b=some u):Inv X pins σ H { s with heap:=h',toks:=t' }:=I.un (Un.kept k) (I.hok.kept k)
theorem Inv.laid{a:Addr}{o:HO}{t':Nat}(I:Inv X pins σ H s)(k:∀ b u,s.heap.get? b=some u->h'.get? b=some u)(hp:s.heap.objs.size<=a)(new:ObjOk X.prog X.w (upd H a o) h' a o) : Inv X pins σ (upd H a o) { s with heap:=h',toks:=t' }:=I.un (Un.laid k hp (I.hok.fresh hp)) (I.hok.laid k hp new)
theorem Inv.write{x e:Addr}{o:HO}{t':Nat}(I:Inv X pins σ H s)(mu:Mut (H x))(he:e=x\/H e=some (.own x))(k:∀ b u,b≠e->s.heap.get? b=some u->h'.get? b=some u)(heo:∃ u,h'.get? e=some u) (new:ObjOk X.prog X.w (upd H x o) h' x o):Inv X pins σ (upd H x o) { s with heap:=h',toks:=t' }:=I.un (Un.write mu he k heo) (I.hok.write mu he k heo new)
theorem Inv.pins_of{pins':List (Addr×Obj)}(I:Inv X pins σ H s)(h:∀ p∈pins',s.heap.get? p.1=some p.2/\H p.1=none/\p.1≠X.env.locals/\p.1∉X.fs/\∀ v,p.2.data≠.cell v):Inv X pins' σ H s :=
  ⟨I.ok,I.os,I.bare,I.base,I.loc,I.cell,I.free,I.freeC,λp hp=>(ax.mp hp).elim (λz=>I.pin p (bU _ z)) (h p),I.hok,I.len⟩
variable {x:Str}
theorem Cc{N:List Str}(hN:N.Nodup){i j:Nat}(a:N[i]?=some x)(b:N[j]?=some x):i=j:=by
  obtain ⟨h1,e1⟩:=af.mp a;obtain ⟨h2,e2⟩:=af.mp b;exact (List.getElem_inj hN).mp (e1.trans e2.symm)
theorem uY{A:Around}{i:Nat}{v:V}{u:Value}{Q:Unit->Shared->Prop}(I:Inv X pins σ H s)(hN:X.N.Nodup)(hi:X.N[i]?=some x)(hx:Loc X.env.scope x)(r:RelV v u)(h:∀ s',Inv X pins (σ.set i (some v)) H s'->(∃ a,Heap.SameBut a s.heap s'.heap/\(a=X.env.locals\/X.env.cells.lookup x=some a))->Q () s')(hf:X.fn x=true\/X.env.scope.names.lookup x=some .local:=by first | exact .inl rfl | exact .inr rfl | assumption):wpAny M A (storeName X.env x u) Q E s:=by
  obtain ⟨m,hn,hl⟩:=id I.loc;have hcls:(X.env.scope.kind==.class || (X.env.scope.kind==.module && X.env.locals != X.env.globals))=false:=by rw [I.ok.kind]; rfl
  have hiσ:i<σ.length:=by rw [I.len]; exact (af.mp hi).1
  have cne:=I.cne;have tracked:∀ {a:Addr} {h':Heap},(∃ o,s.heap.get? a=some o/\H a=none)->Heap.SameBut a s.heap h'->HOk X.prog X.w H h':=λ{a h'} ha hs b ob e=>by
    obtain ⟨_,_,hfree⟩:=ha;refine (I.hok b ob e).stay (λc w' hc q=>(hs.2 c ?_).trans q) (λ_ q=>q) λ_ _ q=>q;rintro rfl;rcases hc with rfl|hc
    . rw [hfree] at e; cases e
    . rw [hfree] at hc; cases hc
  rcases hx with hk|hk
  . refine wpAny_storeName_local hk hn (λh' hn' hs=>?_) hcls;obtain ⟨oL,_,_,hoL,_⟩:=id hn;refine h _ ⟨I.ok,I.os,I.bare,⟨λb o e n hb hx=>?_,λb o e n hb hx=>?_,I.base.free,λb o e hx=>?_,I.base.tups,I.base.frzs,I.base.tbls⟩,⟨_,hn',λj y v' e1 e2 e3=>?_⟩,λy c e=>?_,I.free,I.freeC,λp hp=>?_,tracked ⟨oL,hoL,I.free⟩ hs,by simpa using I.len⟩ ⟨_,hs,.inl rfl⟩
    . exact (hs.2 b (az (aE (Heap.lt_size e) I.ok.above))).trans (I.base.keep b o e n hb hx)
    . obtain ⟨sl,e1⟩:=I.base.slot b o e n hb hx;exact ⟨sl,(hs.2 b (az (aE (Heap.lt_size e) I.ok.above))).trans e1⟩
    . obtain ⟨o',e1⟩:=I.base.there b o e hx;exact ⟨o',(hs.2 b (az (aE (Heap.lt_size e) I.ok.above))).trans e1⟩
    . by_cases hj:j=i
      . subst hj;rw [hi] at e1; cases e1;rw [gz hiσ] at e2;cases e2
        exact ⟨u,r,.inl ⟨hk,by simp⟩⟩
      . rw [List.getElem?_set_ne (ca hj)] at e2;obtain ⟨u',r',q⟩:=hl j y v' e1 e2 e3;refine ⟨u',r',?_⟩;rcases q with ⟨k,e⟩|⟨k,c,e,z⟩
        . refine .inl ⟨k,?_⟩;have:y≠x:=λe=>hj (Cc hN e1 (e ▸ hi));simp [this,e]
        . exact .inr ⟨k,c,e,z.sameBut hs (cne y c e)⟩
    . obtain ⟨w',z⟩:=I.cell y c e;exact ⟨w',z.sameBut hs (cne y c e)⟩
    . obtain ⟨e,n,ne,nf,d⟩:=I.pin p hp;exact ⟨(hs.2 p.1 ne).trans e,n,ne,nf,d⟩
  . have hfn:X.fn x=true:=by
      rcases hf with z|z
      . exact z
      . rw [z] at hk; cases hk
    obtain ⟨c,hc⟩:=I.ok.has x (.inl hk);obtain ⟨w',z⟩:=I.cell x c hc;refine wpAny_storeName_cell I.ok.kind hk hc z (λh' hc' hs=>?_);obtain ⟨oc,hoc,hocd⟩:=id z;refine h { s with heap:=h' } ⟨I.ok,I.os,I.bare,⟨λb o e n hb hx=>?_,λb o e n hb hx=>?_,I.base.free,λb o e hx=>?_,I.base.tups,I.base.frzs,I.base.tbls⟩,⟨m,hn.sameBut hs (ca (cne x c hc)),λj y v' e1 e2 e3=>?_⟩,λy c' e=>?_,I.free,I.freeC,λp hp=>?_,tracked ⟨oc,hoc,I.freeC x c hc⟩ hs,by simpa using I.len⟩ ⟨c,hs,.inr hc⟩
    . exact (hs.2 b (az (aE (Heap.lt_size e) (I.ok.cab x c hfn hc)))).trans (I.base.keep b o e n hb hx)
    . obtain ⟨sl,e1⟩:=I.base.slot b o e n hb hx;exact ⟨sl,(hs.2 b (az (aE (Heap.lt_size e) (I.ok.cab x c hfn hc)))).trans e1⟩
    . obtain ⟨o',e1⟩:=I.base.there b o e hx;exact ⟨o',(hs.2 b (az (aE (Heap.lt_size e) (I.ok.cab x c hfn hc)))).trans e1⟩
    . by_cases hj:j=i
      . subst hj;rw [hi] at e1; cases e1;rw [gz hiσ] at e2;cases e2
        exact ⟨u,r,.inr ⟨.inl hk,c,hc,hc'⟩⟩
      . rw [List.getElem?_set_ne (ca hj)] at e2;obtain ⟨u',r',q⟩:=hl j y v' e1 e2 e3;refine ⟨u',r',?_⟩;rcases q with q|⟨k,c',e,z'⟩
        . exact .inl q
        . refine .inr ⟨k,c',e,z'.sameBut hs ?_⟩;rintro rfl;exact hj (Cc hN e1 (I.ok.inj _ _ _ e hc ▸ hi))
    . by_cases hcc:c'=c
      . subst hcc; exact ⟨_,hc'⟩
      . obtain ⟨w2,z2⟩:=I.cell y c' e;exact ⟨w2,z2.sameBut hs hcc⟩
    . obtain ⟨e,n,ne,nf,d⟩:=I.pin p hp;refine ⟨(hs.2 p.1 ?_).trans e,n,ne,nf,d⟩;intro q;rw [q,hoc] at e;have q':oc=p.2:=aw e;exact d w' (by rw [<-q']; exact hocd)
theorem wQ{A:Around}{i:Nat}{v:V}{u:Value}{Q:Unit->Shared->Prop}(I:Inv X pins σ H s)(hN:X.N.Nodup)(hi:X.N[i]?=some x)(hx:Loc X.env.scope x)(r:RelV v u)(h:∀ s',Inv X pins (σ.set i (some v)) H s'->Q () s')(hf:X.fn x=true\/X.env.scope.names.lookup x=some .local:=by first | exact .inl rfl | exact .inr rfl | assumption):wpAny M A (storeName X.env x u) Q E s :=
  uY I hN hi hx r (λs' I' _=>h s' I') hf
theorem Inv.call'{s':Shared}(I:Inv X pins σ H s)(ho:s'.os=s.os)(u:Un (frs X.stack) ch H H' s.heap s'.heap)(hok:HOk X.prog X.w H' s'.heap)(hg:AllBare s'.gens)(hch:∀ b∈ch,(b∈X.ex\/X.s₀.heap.objs.size<=b)/\b≠X.env.locals/\(∀ x c,X.env.cells.lookup x=some c->c≠b)/\∀ p∈X.pn++pins,p.1≠b):Inv X pins σ H' s':=by
  obtain ⟨h',g',d',t',o'⟩:=s';have e:o'=s.os:=ho;subst e;exact I.call (g':=g') (t':=t') (d':=d') u hok hg hch
end
abbrev XK:=Value->Option Addr->Hp->Prop
abbrev St:=List (Option V)
abbrev VK:=V->Hp->Prop
abbrev TE:=St->Hp->VK->Prop
abbrev TT:=St->Hp->(Bool->Hp->Prop)->Prop
abbrev TA:=St->Hp->(List V->Hp->Prop)->Prop
structure Ends where
  nx:St->Hp->Prop
  rt:VK
  bk:St->Hp->Prop:=λ_ _=>False
  ct:St->Hp->Prop:=λ_ _=>False
abbrev TS:=Ends->St->Hp->Prop
def EP(X:Cx)(pins:List (Addr×Obj))(σ:St)(Q:VK)(u:Value)(s':Shared):Prop:=∃ v H',Inv X pins σ H' s'/\RelV v u/\Q v H'
def TP(X:Cx)(pins:List (Addr×Obj))(σ:St)(Q:Bool->Hp->Prop)(b:Bool)(s':Shared):Prop:=∃ H',Inv X pins σ H' s'/\Q b H'
def AP(X:Cx)(pins:List (Addr×Obj))(σ:St)(Q:List V->Hp->Prop)(us:List Value)(s':Shared):Prop:=∃ vs H',Inv X pins σ H' s'/\Vals vs us/\Q vs H'
def SP(X:Cx)(pins:List (Addr×Obj))(D:Ends)(f:Flow)(s':Shared):Prop :=
  match f with
  | .next=>∃ σ' H',Inv X pins σ' H' s'/\D.nx σ' H'
  | .brk=>∃ σ' H',Inv X pins σ' H' s'/\D.bk σ' H'
  | .cont=>∃ σ' H',Inv X pins σ' H' s'/\D.ct σ' H'
  | .ret u=>∃ v σ' H',Inv X pins σ' H' s'/\RelV v u/\D.rt v H'
def PE(X:Cx)(e:Expr)(t:TE):Prop :=
  ∀ (pins:List (Addr×Obj)) (s:Shared) (σ:St) (H:Hp) (Q:VK),Inv X pins σ H s->t σ H Q->wpAny (model X.prog X.w) X.A (eval e X.env) (EP X pins σ Q) X.xe s
def PT(X:Cx)(e:Expr)(t:TT):Prop :=
  ∀ (pins:List (Addr×Obj)) (s:Shared) (σ:St) (H:Hp) (Q:Bool->Hp->Prop),Inv X pins σ H s->t σ H Q->wpAny (model X.prog X.w) X.A (isTrue e X.env (eval e X.env)) (TP X pins σ Q) X.xe s
def PW(X:Cx)(e:Expr)(t:TT):Prop :=
  ∀ (whole:Sem Value) (pins:List (Addr×Obj)) (s:Shared) (σ:St) (H:Hp) (Q:Bool->Hp->Prop),Inv X pins σ H s->t σ H Q->wpAny (model X.prog X.w) X.A (isTrue e X.env whole) (TP X pins σ Q) X.xe s
theorem PW.pt{X:Cx}{e:Expr}{t:TT}(h:PW X e t):PT X e t:=h _
def PA(X:Cx)(es:List Expr)(t:TA):Prop :=
  ∀ (pos:Pos) (pins:List (Addr×Obj)) (s:Shared) (σ:St) (H:Hp) (Q:List V->Hp->Prop),Inv X pins σ H s->t σ H Q->wpAny (model X.prog X.w) X.A (spliced (backTo pos (starEach es X.env))) (AP X pins σ Q) X.xe s
def PS(X:Cx)(st:Stmt)(t:TS):Prop :=
  ∀ (pins:List (Addr×Obj)) (s:Shared) (σ:St) (H:Hp) (D:Ends),Inv X pins σ H s->t D σ H->wpAny (model X.prog X.w) X.A (exec st X.env) (SP X pins D) X.xe s
def PSs(X:Cx)(st:List Stmt)(t:TS):Prop :=
  ∀ (pins:List (Addr×Obj)) (s:Shared) (σ:St) (H:Hp) (D:Ends),Inv X pins σ H s->t D σ H->wpAny (model X.prog X.w) X.A (execs st X.env) (SP X pins D) X.xe s
theorem thn{α:Type}{t:Sem α}{Q Q':α->Shared->Prop}{A:Around}{s:Shared}(h:wpAny M A t Q E s)(hQ:∀ a s,Q a s->Q' a s):wpAny M A t Q' E s:=h9 h hQ λ_ _ x=>x
variable {op:CmpOp}{c:Expr}{pins:List (Addr×Obj)}{Q:Value->Shared->Prop}
section
variable {X:Cx}
def tVar(i:Nat):TE:=λσ H Q=>∃ v,σ[i]?=some (some v)/\Q v H
def tC(v:V):TE:=λ_ H Q=>Q v H
variable {x:Str}
theorem Ks{i:Nat}{pos:Pos}(hN:X.N[i]?=some x)(hv:Vis X.env.scope x)(hd:(x==("__debug__":Str))=false:=by decide)(hcd:(x==("__classdict__":Str))=false:=by decide):PE X (.Name x pos) (tVar i):=by
  intro pins s σ H Q I h;obtain ⟨v,e,h⟩:=h;obtain ⟨m,hn,hl⟩:=I.loc;obtain ⟨u,r,l⟩:=hl i x v hN e hv;have fin:EP X pins σ Q u s:=⟨v,H,I,r,h⟩
  rcases l with ⟨hk,hm⟩|⟨hk,c,hc,hcell⟩
  . exact wpAny_Name (wpAny_loadName_local I.ok.kind hk hn hm fin) hd
  . rcases hk with hk | hk
    . exact wpAny_Name (wpAny_loadName_cell I.ok.kind hk hc hcell fin) hd
    . exact wpAny_Name (wpAny_loadName_free I.ok.kind hk hc hcell fin hcd) hd
theorem zd{i j pos}:PE X (.Constant (.int i) j pos) (tC (.int i)):=λ_ _ _ H _ I h=>wpAny_Constant_int ⟨.int i,H,I.tok _,⟨_,rfl⟩,h⟩
theorem wO{b j pos}:PE X (.Constant (.bool b) j pos) (tC (.bl b)):=λ_ _ _ H _ I h=>Constant_bool ⟨.bl b,H,I,rfl,h⟩
theorem xE{j pos}:PE X (.Constant .none j pos) (tC .non):=λ_ _ _ H _ I h=>Constant_none ⟨.non,H,I,rfl,h⟩
theorem zy{x j pos}:PE X (.Constant (.str x) j pos) (tC (.str x)):=λ_ _ _ H _ I h=>Calls.Constant_str ⟨.str x,H,I.tok _,⟨_,rfl⟩,h⟩
def Gl(X:Cx)(x:Str):Prop:=X.env.kindOf x=some .globalImplicit
theorem AZ{s:Shared}{σ:St}{u:Value}{pos:Pos}(I:Inv X pins σ H s)(hg:Gl X x)(hm:X.mg x=some u)(h:Q u s)(hd:(x==("__debug__":Str))=false:=by decide):wpAny (model X.prog X.w) X.A (eval (.Name x pos) X.env) Q E s :=
  Calls.Name_function_global I.ok.kind hg (Calls.loadGlobal_global (by rw [I.ok.glob]; exact I.mod.glob.keeps I.bk) hm h) hd
theorem xZ{s:Shared}{σ:St}{u:Value}{pos:Pos}(I:Inv X pins σ H s)(hg:Gl X x)(hm:X.mg x=none)(hv:bootBuiltins x=some u)(h:Q u s)(hn:x≠"__name__":=by decide)(hd:(x==("__debug__":Str))=false:=by decide):wpAny (model X.prog X.w) X.A (eval (.Name x pos) X.env) Q E s:=by
  obtain ⟨mb,h1,h2⟩:=I.mod.blt;exact Calls.Name_function_global I.ok.kind hg (Calls.loadGlobal_builtin (by rw [I.ok.glob]; exact I.mod.glob.keeps I.bk) hm (by rw [I.ok.blt]; exact h1.keeps I.bk) ((h2 x hn).trans hv) h) hd
theorem yI{v:V}{u:Value}{pos:Pos}(hg:Gl X x)(hm:X.mg x=some u)(r:RelV v u)(hd:(x==("__debug__":Str))=false:=by decide):PE X (.Name x pos) (tC v) :=
  λ_ _ _ H _ I h=>AZ I hg hm ⟨v,H,I,r,h⟩ hd
theorem vk{v:V}{u:Value}{pos:Pos}(hg:Gl X x)(hm:X.mg x=none)(hv:bootBuiltins x=some u)(r:RelV v u)(hn:x≠"__name__":=by decide)(hd:(x==("__debug__":Str))=false:=by decide):PE X (.Name x pos) (tC v) :=
  λ_ _ _ H _ I h=>xZ I hg hm hv ⟨v,H,I,r,h⟩ hn hd
variable {a b:Expr}{ta tb:TE}{pos:Pos}
def PC(X:Cx)(op:CmpOp)(a b:Expr)(t:TE):Prop :=
  ∀ (pins:List (Addr×Obj)) (s:Shared) (σ:St) (H:Hp) (Q:VK),Inv X pins σ H s->t σ H Q ->
    wpAny (model X.prog X.w) X.A (eval a X.env) (λv s₁=>wpAny (model X.prog X.w) X.A (eval b X.env) (λu s₂=>wpAny (model X.prog X.w) X.A (compareOp op v u) (EP X pins σ Q) X.xe s₂) X.xe s₁) X.xe s
def tB(t:TE):TT:=λσ H Q=>t σ H λx H1=>∃ c,x=.bl c/\Q c H1
variable {t:TE}
theorem IX(h:PC X op a b t)(h1:behindInMarks op b=false:=by first | exact nobehind _ (by decide) (by decide) | rfl):PT X (.Compare a [op] [b] pos) (tB t):=by
  intro pins s σ H Q I hw;refine wpAny_isTrue_Compare1 (thn (h pins s σ H _ I hw) λv s1 h1=>thn h1 λu s2 h2=>thn h2 λc s3 ⟨x,H1,I1,r1,q1⟩=>?_) h1;obtain ⟨d,rfl,q⟩:=q1;cases r1
  exact ia ⟨H1,I1,q⟩
theorem yM{e:Expr}(h:PE X e t)(he:∀ whole,isTrue e X.env whole=(do let v <-whole; standAt e.pos; holding [v] (truthy v)):=by intro _; rfl):PT X e (tB t):=by
  intro pins s σ H Q I hw;refine isTrue_plain (thn (h pins s σ H _ I hw) λv s1 ⟨x,H1,I1,r1,q1⟩=>?_) (he _);obtain ⟨d,rfl,q⟩:=q1;cases r1
  exact ia ⟨H1,I1,q⟩
variable {tA tB':TT}{rest:List Expr}
def tAnd(t u:TT):TT:=λσ H Q=>t σ H λc H1=>if c=true then u σ H1 Q else Q false H1
def tOr(t u:TT):TT:=λσ H Q=>t σ H λc H1=>if c=true then Q true H1 else u σ H1 Q
def tNot(t:TT):TT:=λσ H Q=>t σ H λc H1=>Q (!c) H1
theorem yB(ha:PT X a tA):PW X (.BoolOp .And [a] pos) tA:=by
  intro wh pins s σ H Q I h;refine isTrue_and (thn (ha pins s σ H Q I h) λc s1 e=>?_);cases c with
  | true=>exact isTrue_and_nil e
  | false=>exact e
theorem vR(ha:PT X a tA):PW X (.BoolOp .Or [a] pos) tA:=by
  intro wh pins s σ H Q I h;refine isTrue_or (thn (ha pins s σ H Q I h) λc s1 e=>?_);cases c with
  | false=>exact isTrue_or_nil e
  | true=>exact e
theorem xa(ha:PT X a tA)(hb:PW X (.BoolOp .And (b::rest) pos) tB'):PW X (.BoolOp .And (a::b::rest) pos) (tAnd tA tB'):=by
  intro wh pins s σ H Q I h;refine isTrue_and (thn (ha pins s σ H _ I h) λc s1 ⟨H1,I1,q1⟩=>?_);cases c with
  | true=>exact hb wh pins s1 σ H1 Q I1 q1
  | false=>exact ⟨H1,I1,q1⟩
theorem tK(ha:PT X a tA)(hb:PW X (.BoolOp .Or (b::rest) pos) tB'):PW X (.BoolOp .Or (a::b::rest) pos) (tOr tA tB'):=by
  intro wh pins s σ H Q I h;refine isTrue_or (thn (ha pins s σ H _ I h) λc s1 ⟨H1,I1,q1⟩=>?_);cases c with
  | true=>exact ⟨H1,I1,q1⟩
  | false=>exact hb wh pins s1 σ H1 Q I1 q1
theorem wn(ha:PT X a tA):PT X (.UnaryOp .Not a pos) (tNot tA):=by
  intro pins s σ H Q I h;exact isTrue_not (ha pins s σ H (λc H1=>Q (!c) H1) I h)
def Kx(ta tb:TE):TE:=λσ H Q=>ta σ H λx H1=>∃ c,x=.bl c/\if c=true then tb σ H1 Q else Q (.bl false) H1
def tOrV(ta tb:TE):TE:=λσ H Q=>ta σ H λx H1=>∃ c,x=.bl c/\if c=true then Q (.bl true) H1 else tb σ H1 Q
def IG(ta:TE):TE:=λσ H Q=>ta σ H λx H1=>∃ c,x=.bl c/\Q (.bl (!c)) H1
theorem vX{op}(h:PE X a t):PE X (.BoolOp op [a] pos) t:=λpins s σ H Q I hw=>BoolOp_one (h pins s σ H Q I hw)
theorem u9(ha:PE X a ta)(hb:PE X (.BoolOp .And (b::rest) pos) tb):PE X (.BoolOp .And (a::b::rest) pos) (Kx ta tb):=by
  intro pins s σ H Q I h;refine BoolOp_and (thn (ha pins s σ H _ I h) λv s1 ⟨x,H1,I1,r1,q1⟩=>?_);obtain ⟨c,rfl,q1⟩:=q1;cases r1
  refine ia ?_;cases c with
  | true=>exact hb pins s1 σ H1 Q I1 q1
  | false=>exact ⟨.bl false,H1,I1,rfl,q1⟩
theorem Lp(ha:PE X a ta)(hb:PE X (.BoolOp .Or (b::rest) pos) tb):PE X (.BoolOp .Or (a::b::rest) pos) (tOrV ta tb):=by
  intro pins s σ H Q I h;refine BoolOp_or (thn (ha pins s σ H _ I h) λv s1 ⟨x,H1,I1,r1,q1⟩=>?_);obtain ⟨c,rfl,q1⟩:=q1;cases r1
  refine ia ?_;cases c with
  | false=>exact hb pins s1 σ H1 Q I1 q1
  | true=>exact ⟨.bl true,H1,I1,rfl,q1⟩
theorem IU(ha:PE X a ta):PE X (.UnaryOp .Not a pos) (IG ta):=by
  intro pins s σ H Q I h;refine UnaryOp_ (thn (ha pins s σ H _ I h) λv s1 ⟨x,H1,I1,r1,q1⟩=>?_);obtain ⟨c,rfl,q1⟩:=q1;cases r1
  exact not_of (ia ⟨.bl (!c),H1,I1,rfl,q1⟩)
def tIf(t:TT)(ta tb:TE):TE:=λσ H Q=>t σ H λc H1=>if c=true then ta σ H1 Q else tb σ H1 Q
theorem uR(hc:PT X c tA)(ha:PE X a ta)(hb:PE X b tb):PE X (.IfExp c a b pos) (tIf tA ta tb):=by
  intro pins s σ H Q I h;refine wpAny_IfExp (thn (hc pins s σ H _ I h) λd s1 ⟨H1,I1,q1⟩=>?_);cases d with
  | true=>exact ha pins s1 σ H1 Q I1 q1
  | false=>exact hb pins s1 σ H1 Q I1 q1
end
def SqL(K:iB)(H:Hp)(a:Addr)(xs:List V):Prop :=
  Rd H a (.lst xs) \/
    ∃ (o:Obj) (its:Array Value) (n:Nat),K.lookup a=some o/\o.cls=.type "list"/\o.dict=none/\o.data=.seq its n/\its.size<=sizeLine/\Vals xs its.toList
def SqT(K:iB)(H:Hp)(a:Addr)(xs:List V):Prop :=
  Rd H a (.tup xs) \/
    ∃ (o:Obj) (its:Array Value) (n:Nat),K.lookup a=some o/\o.cls=.type "tuple"/\o.data=.seq its n/\its.size<=sizeLine/\Vals xs its.toList
def absV:Value->Option V
  | .none=>some .non
  | .bool b=>some (.bl b)
  | .int i _=>some (.int i)
  | .str x _=>some (.str x)
  | .bytes b _=>some (.byt b)
  | .float b _=>some (.flt b)
  | .ref a=>some (.ref a)
  | .type n=>some (.ty n)
  | _=>none
theorem RelV.abs{x:V}{u:Value}(r:RelV x u):absV u=some x:=by
  cases x with
  | non=>cases r; rfl
  | bl _=>cases r; rfl
  | int _=>obtain ⟨t,rfl⟩:=r; rfl
  | str _=>obtain ⟨t,rfl⟩:=r; rfl
  | byt _=>obtain ⟨t,rfl⟩:=r; rfl
  | flt _=>obtain ⟨t,rfl⟩:=r; rfl
  | ref _=>cases r; rfl
  | ty _=>cases r; rfl
theorem RelV.inj{x y:V}{u:Value}(r:RelV x u)(q:RelV y u):x=y:=aw (r.abs.symm.trans q.abs)
theorem Vals.inj:∀ {xs ys:List V} {us:List Value},Vals xs us->Vals ys us->xs=ys
  | _,_,_,.nil,.nil=>rfl
  | _,_,_,.cons r t,.cons r' t'=>by rw [r.inj r',Vals.inj t t']
section
variable {X:Cx}{pins:List (Addr×Obj)}{σ:St}{s:Shared}{xs ys:List V}
theorem SqL.of{K:iB}(h:H a=some (.lst xs)):SqL K H a xs:=.inl (.inl h)
theorem SqT.of{K:iB}(h:H a=some (.tup xs)):SqT K H a xs:=.inl (.inl h)
theorem Inv.list(I:Inv X pins σ H s)(h:SqL X.K H a xs):∃ its:List Value,Vals xs its/\PlainL s.heap a its.toArray/\xs.length<=sizeLine:=by
  rcases h with h|⟨o,its,n,hk,hc,hd,hs,hz,r⟩
  . obtain ⟨z,its,n,r,e⟩:=h.ok I.hok;exact ⟨its,r,⟨_,n,e,rfl,rfl,rfl⟩,z⟩
  . refine ⟨its.toList,r,⟨o,n,I.kIn a o hk,hc,hd,by simpa using hs⟩,?_⟩;have e:=r.length;simp only [cX] at e;omega
theorem Inv.tuple(I:Inv X pins σ H s)(h:SqT X.K H a xs):∃ its:List Value,Vals xs its/\IsTup s.heap a its.toArray/\xs.length<=sizeLine:=by
  rcases h with h|⟨o,its,n,hk,hc,hs,hz,r⟩
  . obtain ⟨z,its,r,p⟩:=h.ok I.hok;exact ⟨its,r,p,z⟩
  . refine ⟨its.toList,r,⟨o,I.kIn a o hk,hc,n,by simpa using hs⟩,?_⟩;have e:=r.length;simp only [cX] at e;omega
theorem Inv.list_inj(I:Inv X pins σ H s)(h:SqL X.K H a xs)(h':SqL X.K H a ys):xs=ys:=by
  obtain ⟨its,r,⟨o,n,e,_,_,d⟩,_⟩:=I.list h;obtain ⟨its',r',⟨o',n',e',_,_,d'⟩,_⟩:=I.list h';rw [e] at e'; cases e';rw [d] at d';injection d' with d1 _;have:its=its':=by simpa using congrArg Array.toList d1
  subst this;exact r.inj r'
theorem Inv.tuple_inj(I:Inv X pins σ H s)(h:SqT X.K H a xs)(h':SqT X.K H a ys):xs=ys:=by
  obtain ⟨its,r,⟨o,e,_,n,d⟩,_⟩:=I.tuple h;obtain ⟨its',r',⟨o',e',_,n',d'⟩,_⟩:=I.tuple h';rw [e] at e'; cases e';rw [d] at d';injection d' with d1 _;have:its=its':=by simpa using congrArg Array.toList d1
  subst this;exact r.inj r'
end
abbrev Cx.wish(X:Cx)(E:Value->Shared->Prop):Cx:={ X with xe:=E }
abbrev Cx.nox(X:Cx):Cx:=X.wish λ_ _=>False
theorem Cx.Ok.wish{X:Cx}(ok:X.Ok)(E:Value->Shared->Prop):(X.wish E).Ok :=
  ⟨ok.mod,ok.kind,ok.glob,ok.blt,ok.above,ok.inj,ok.has,ok.cab,ok.hd,ok.frames,ok.stk,ok.exf,ok.bs,ok.bsz,ok.noex,ok.exfs,ok.funs,ok.frf⟩
theorem Cx.Ok.unwish{X:Cx}(ok:(X.wish E).Ok):X.Ok :=
  ⟨ok.mod,ok.kind,ok.glob,ok.blt,ok.above,ok.inj,ok.has,ok.cab,ok.hd,ok.frames,ok.stk,ok.exf,ok.bs,ok.bsz,ok.noex,ok.exfs,ok.funs,ok.frf⟩
section
variable {X:Cx}{pins:List (Addr×Obj)}{σ:St}{s:Shared}{E:Value->Shared->Prop}
theorem Inv.wish(I:Inv X pins σ H s)(E:Value->Shared->Prop):Inv (X.wish E) pins σ H s:=⟨I.ok.wish E,I.os,I.bare,I.base,I.loc,I.cell,I.free,I.freeC,I.pin,I.hok,I.len⟩
theorem Inv.unwish(I:Inv (X.wish E) pins σ H s):Inv X pins σ H s:=⟨I.ok.unwish,I.os,I.bare,I.base,I.loc,I.cell,I.free,I.freeC,I.pin,I.hok,I.len⟩
theorem SP.unwish{D:Ends}{f:Flow}{s':Shared}(h:SP (X.wish E) pins D f s'):SP X pins D f s':=by
  cases f with
  | next=>obtain ⟨σ',H',I,q⟩:=h; exact ⟨σ',H',I.unwish,q⟩
  | brk=>obtain ⟨σ',H',I,q⟩:=h; exact ⟨σ',H',I.unwish,q⟩
  | cont=>obtain ⟨σ',H',I,q⟩:=h; exact ⟨σ',H',I.unwish,q⟩
  | ret u=>obtain ⟨v,σ',H',I,r,q⟩:=h; exact ⟨v,σ',H',I.unwish,r,q⟩
theorem PSs.nox{st:List Stmt}{t:TS}(h:PSs X.nox st t):PSs X st t:=λpins s σ H D I hw =>
  h9 (h pins s σ H D (I.wish _) hw) (λ_ _ q=>q.unwish) λ_ _ z=>False.elim z
end
variable {tc:TT}
section
variable {X:Cx}{st:Stmt}{rest:List Stmt}{t u:TS}{e:Expr}{te:TE}{pos:Pos}
def JI:TS:=λD σ H=>D.nx σ H
def tSeq(t u:TS):TS:=λD σ H=>t { D with nx:=u D } σ H
theorem zl:PSs X [] JI:=λ_ _ σ H _ I h=>ib ⟨σ,H,I,h⟩
theorem za(h1:PS X st t)(h2:PSs X rest u):PSs X (st::rest) (tSeq t u):=by
  intro pins s σ H D I h;refine wpAny_execs_cons (thn (h1 pins s σ H { D with nx:=u D } I h) λf s1 q=>?_);cases f with
  | next =>
    obtain ⟨σ',H',I',q⟩:=q;exact h2 pins s1 σ' H' D I' q
  | ret v=>exact q
  | brk=>exact q
  | cont=>exact q
theorem zc(h1:PS X st t):PSs X [st] t:=by
  intro pins s σ H D I h;refine wpAny_execs_cons (thn (h1 pins s σ H D I h) λf s1 q=>?_);cases f with
  | next=>exact ib q
  | ret v=>exact q
  | brk=>exact q
  | cont=>exact q
theorem Inv.quiet{σ:St}{s:Shared}(I:Inv X pins σ H s):interactive X.env=false:=by simp [interactive,I.ok.kind]
def JC(te:TE):TS:=λD σ H=>te σ H λ_ H1=>D.nx σ H1
theorem zK(he:PE X e te)(hs:swapsWith e none pos.line X.env=pure false:=by rfl):PS X (.Expr e pos) (JC te):=by
  intro pins s σ H D I h;exact wpAny_Expr_any (thn (he pins s σ H _ I h) λv s1 ⟨x,H1,I1,r1,q1⟩=>⟨σ,H1,I1,q1⟩) I.quiet hs
def tRet(te:TE):TS:=λD σ H=>te σ H D.rt
theorem zh(he:PE X e te):PS X (.Return (some e) pos) (tRet te):=by
  intro pins s σ H D I h;exact wpAny_Return_some (thn (he pins s σ H _ I h) λv s1 ⟨x,H1,I1,r1,q1⟩=>⟨x,σ,H1,I1,r1,q1⟩)
def tIfS(c:TT)(t u:TS):TS:=λD σ H=>c σ H λb H1=>if b=true then t D σ H1 else u D σ H1
theorem zx{a b:List Stmt}(hc:PT X c tc)(ha:PSs X a t)(hb:PSs X b u):PS X (.If c a b pos) (tIfS tc t u):=by
  intro pins s σ H D I h;refine wpAny_If (thn (hc pins s σ H _ I h) λd s1 ⟨H1,I1,q1⟩=>?_);cases d with
  | true=>exact ha pins s1 σ H1 D I1 q1
  | false=>exact hb pins s1 σ H1 D I1 q1
def Go:TS:=λ_ _ _=>False
theorem yN:PS X st Go:=λ_ _ _ _ _ _ h=>h.elim
theorem CV{sts:List Stmt}:PSs X sts Go:=λ_ _ _ _ _ _ h=>h.elim
end
abbrev TG:=V->St->Hp->(St->Hp->Prop)->Prop
abbrev TGs:=List V->St->Hp->(St->Hp->Prop)->Prop
def PG(X:Cx)(target:Expr)(t:TG):Prop :=
  ∀ (pins:List (Addr×Obj)) (s:Shared) (σ:St) (H:Hp) (v:V) (u:Value) (Q:St->Hp->Prop),Inv X pins σ H s->RelV v u->t v σ H Q ->
    wpAny (model X.prog X.w) X.A (assign target X.env u) (λ_ s'=>∃ σ' H',Inv X pins σ' H' s'/\Q σ' H') X.xe s
def PGs(X:Cx)(ts:List Expr)(t:TGs):Prop :=
  ∀ (pins:List (Addr×Obj)) (s:Shared) (σ:St) (H:Hp) (vs:List V) (us:List Value) (Q:St->Hp->Prop),Inv X pins σ H s->Vals vs us->t vs σ H Q ->
    wpAny (model X.prog X.w) X.A (assignInOrder ((assignEach ts X.env).map (·.2)) us) (λ_ s'=>∃ σ' H',Inv X pins σ' H' s'/\Q σ' H') X.xe s
variable {X:Cx}{pos:Pos}
def Cw(i:Nat):TG:=λv σ H Q=>Q (σ.set i (some v)) H
theorem HH{i:Nat}{x:Str}(hN:X.N.Nodup)(hi:X.N[i]?=some x)(hx:Loc X.env.scope x)(hf:X.fn x=true\/X.env.scope.names.lookup x=some .local:=by first | exact .inl rfl | exact .inr rfl | assumption):PG X (.Name x pos) (Cw i):=by
  intro pins s σ H v u Q I r h;exact wpAny_assign_Name (wQ I hN hi hx r (λs' I'=>⟨_,H,I',h⟩) hf)
def gNil:TGs:=λvs σ H Q=>vs=[]/\Q σ H
def Km(t:TG)(u:TGs):TGs:=λvs σ H Q=>∃ v r,vs=v::r/\t v σ H λσ' H'=>u r σ' H' Q
theorem xj:PGs X [] gNil:=by
  intro pins s σ H vs us Q I r h;obtain ⟨e,h⟩:=h;subst e;cases r
  exact assignInOrder_nil ⟨σ,H,I,h⟩
theorem zO{e:Expr}{es:List Expr}{t:TG}{u:TGs}(h1:PG X e t)(h2:PGs X es u)(hs:(assignEach (e::es) X.env).map (·.2)=assign e X.env::(assignEach es X.env).map (·.2):=by rfl):PGs X (e::es) (Km t u):=by
  intro pins s σ H vs us Q I r h;obtain ⟨v,vr,e1,h⟩:=h;subst e1;cases r with
  | cons r rr =>
    rw [hs];refine ie (thn (h1 pins s σ H _ _ _ I r h) λ_ s1 ⟨σ1,H1,I1,q1⟩=>?_);exact h2 pins s1 σ1 H1 _ _ Q I1 rr q1
def gTup(K:iB)(n:Nat)(t:TGs):TG:=λv σ H Q=>∃ a xs,v=.ref a/\SqT K H a xs/\xs.length=n/\t xs σ H Q
theorem wF{es:List Expr}{k:Nat}{t:TGs}{n:Nat}(hc:X.calm=true)(h:PGs X es t)(hn:(assignEach es X.env).length=n:=by rfl)(hst:(assignEach es X.env).findIdx? (·.1)=none:=by rfl):PG X (.Tuple es k pos) (gTup X.K n t):=by
  intro pins s σ H v u Q I r hw;obtain ⟨a,xs,e1,hq,hl,hw⟩:=hw;subst e1;cases r
  obtain ⟨its,rv,ht,hz⟩:=I.tuple hq;refine assign_Tuple_tuple (I.ok.hd hc) ht (by simp [hn,<-hl,rv.length]) hst λh' hx=>?_;have I1:Inv X pins σ H { s with heap:=h' }:=I.kept (t':=s.toks) λb o e=>hx b o (az (Heap.lt_size e)) e;exact h pins _ σ H xs _ Q I1 (by simpa using rv) hw
def tAsg(te:TE)(g:TG):TS:=λD σ H=>te σ H λx H1=>g x σ H1 D.nx
variable {g:TG}
theorem BN{tg e:Expr}{te:TE}(he:PE X e te)(hg:PG X tg g)(hs:swapsWithSole [tg] e pos.line X.env=pure false:=by rfl)(hw:swappedStores [tg] e X.env=pure none:=by rfl)(h1:(assignEach [tg] X.env).map (·.2)=[assign tg X.env]:=by rfl):PS X (.Assign [tg] e pos) (tAsg te g):=by
  intro pins s σ H D I h;refine wpAny_Assign_stores (thn (he pins s σ H _ I h) λv s1 ⟨x,H1,I1,r1,q1⟩=>?_) hs hw;rw [h1];exact thn (hg pins s1 σ H1 x v _ I1 r1 q1) λ_ s2 q=>q
theorem JE{i:Nat}{x:Str}{e:Expr}{te:TE}{pos':Pos}(hN:X.N.Nodup)(hi:X.N[i]?=some x)(hx:Loc X.env.scope x)(he:PE X e te)(hs:swapsWith e (some (.Name x pos')) pos.line X.env=pure false:=by rfl)(hf:X.fn x=true\/X.env.scope.names.lookup x=some .local:=by first | exact .inl rfl | exact .inr rfl | assumption) :
    PS X (.Assign [.Name x pos'] e pos) (tAsg te (Cw i)):=by
  intro pins s σ H D I h;refine wpAny_Assign_Name (thn (he pins s σ H _ I h) λv s1 ⟨y,H1,I1,r1,q1⟩=>?_) hs;exact wQ I1 hN hi hx r1 (λs2 I2=>⟨_,H1,I2,q1⟩) hf
def tPar(i j:Nat)(ta:TA):TS:=λD σ H=>ta σ H λvs H1=>∃ v w,vs=[v,w]/\D.nx ((σ.set i (some v)).set j (some w)) H1
theorem IT{i j:Nat}{x y:Str}{a b:Expr}{ta:TA}{px py pt:Pos}{kt k2 pt2}(hc:X.calm=true)(hN:X.N.Nodup)(hi:X.N[i]?=some x)(hj:X.N[j]?=some y)(hij:i≠j)(hx:X.env.scope.names.lookup x=some .local)(hy:X.env.scope.names.lookup y=some .local)(ha:PA X [a,b] ta)(hw:swappedStores [.Tuple [.Name x px,.Name y py] kt pt] (.Tuple [a,b] k2 pt2) X.env=pure (some [x,y]))(hs:swapsWithSole [.Tuple [.Name x px,.Name y py] kt pt] (.Tuple [a,b] k2 pt2) pos.line X.env=pure false:=by rfl) :
    PS X (.Assign [.Tuple [.Name x px,.Name y py] kt pt] (.Tuple [a,b] k2 pt2) pos) (tPar i j ta):=by
  intro pins s σ H D I h;rw [exec_Assign_arm];refine ig (wpAny_standAt ?_);rw [hs];refine ig (ii ?_);rw [h8 (by decide)];refine ig (Tuple_ (thn (ha _ pins s σ H _ I h) λus s1 ⟨vs,H1,I1,r1,q1⟩=>?_));obtain ⟨v,w,e1,q1⟩:=q1;subst e1;obtain ⟨u1,u2,rfl,rv,rw'⟩:∃ u1 u2,us=[u1,u2]/\RelV v u1/\RelV w u2:=by
    cases r1 with
    | cons p q =>
      cases q with
      | cons p' q' =>
        cases q'
        exact ⟨_,_,rfl,p,p'⟩
  refine ij ?_ (by show 2<=sizeLine; decide);have I2:Inv X pins σ H1 { s1 with heap:=s1.heap.push { cls:=.type "tuple",data:=.seq [u1,u2].toArray } }:=I1.kept (t':=s1.toks) λb o e=>Heap.get?_push_of_some _ e;rw [hw];refine ig (ii ?_);show wpAny (model X.prog X.w) X.A (do rule "assign.swapped-stores"; let items <-unpackItems (.ref s1.heap.objs.size) 2 none; assignInOrder [λv=>bindName X.env y v,λv=>bindName X.env x v] items.reverse; pure Flow.next) _ _ _;refine ig (wpAny_rule (ig (unpackItems_tuple (items:=#[u1,u2]) (I.ok.hd hc) (IsTup.new s1.heap _) λh' hx'=>?_)));have I3:=I2.kept (h':=h') (t':=s1.toks) λb o e=>hx' b o (az (Heap.lt_size e)) e;show wpAny _ _ (assignInOrder [λv=>bindName X.env y v,λv=>bindName X.env x v] [u2,u1] >>= λ_=>pure Flow.next) _ _ _;refine ig (ie (wpAny_bindName (wQ I3 hN hj (.inl hy) rw' (λs2 I4=>?_) (.inr hy))));refine ie (wpAny_bindName (wQ I4 hN hi (.inl hx) rv (λs3 I5=>assignInOrder_nil (ii ?_)) (.inr hx)));rw [List.set_comm _ _ (ca hij)] at I5;exact ⟨_,H1,I5,q1⟩
def DY(c:TT)(tb:TS):TS:=λD σ H=>∃ W:Nat->St->Hp->Prop,(∃ m,W m σ H)/\∀ m σ H,W m σ H ->
  c σ H λb H1=>if b=true then ∃ N:St->Hp->Prop,(∀ σ' H',N σ' H'->∃ m',m'<m/\W m' σ' H')/\tb { D with nx:=N,ct:=N,bk:=D.nx } σ H1 else D.nx σ H1
variable {body:List Stmt}
theorem uL{tb:TS}(hp:PassesOwn (model X.prog X.w) X.A X.env X.xe)(hc:PT X c tc)(hb:PSs X body tb):PS X (.While c body [] pos) (DY tc tb):=by
  intro pins s σ H D I h;obtain ⟨W,⟨m0,w0⟩,turn⟩:=h;refine wpAny_While (codeAny_whileLoop (λn s'=>∃ σ' H',Inv X pins σ' H' s'/\W n σ' H') ?_ m0 ⟨σ,H,I,w0⟩);rintro n s1 ⟨σ1,H1,I1,w1⟩;refine ik hp (thn (hc pins s1 σ1 H1 _ I1 (turn n σ1 H1 w1)) λb s2 ⟨H2,I2,q2⟩=>?_);cases b with
  | true =>
    obtain ⟨N,hN,q2⟩:=q2;rw [h7 rfl];refine ik hp (thn (hb pins s2 σ1 H2 _ I2 q2) λf s3 q3=>?_);cases f with
    | next =>
      obtain ⟨σ3,H3,I3,n3⟩:=q3;obtain ⟨m',hm,w3⟩:=hN σ3 H3 n3;exact ⟨m',hm,σ3,H3,I3,w3⟩
    | cont =>
      obtain ⟨σ3,H3,I3,n3⟩:=q3;obtain ⟨m',hm,w3⟩:=hN σ3 H3 n3;exact ⟨m',hm,σ3,H3,I3,w3⟩
    | brk=>exact q3
    | ret v=>exact q3
  | false =>
    rw [h8 aT];exact ib ⟨σ1,H2,I2,q2⟩
structure It where
  go:Nat->Hp->Prop
  yld:Nat->Hp->V->Hp->Prop
  stop:Nat->Hp->Prop
def FpOk(X:Cx)(pins:List (Addr×Obj))(H:Hp)(b:Addr):Prop :=
  H b=none/\b≠X.env.locals/\b∉X.fs/\(b∈X.ex\/X.s₀.heap.objs.size<=b)/\(∀ x c,X.env.cells.lookup x=some c->c≠b)/\∀ p∈X.pn++pins,p.1≠b
theorem Inv.fpOk{σ:St}{s:Shared}{b:Addr}(I:Inv X pins σ H s)(hb:s.heap.objs.size<=b)(hn:H' b=none):FpOk X pins H' b:=by
  refine ⟨hn,fw (aE I.lt hb),I.nofs hb,.inr (bK I.sz hb),λx c e z=>?_,λp hp z=>?_⟩
  . obtain ⟨v,q⟩:=I.cell x c e;exact absurd (aE q.lt (by rw [z]; exact hb)) (cU _)
  . exact absurd (aE (Heap.lt_size (I.pin p hp).1) (by rw [z]; exact hb)) (cU _)
structure Turn(P:Program)(w:World)(K:iB)(tg:Expr)(J:It)(fp:List Addr)(it:Addr)(tn:Nat->Heap->Prop):Prop where
  mem:it∈fp
  obj:∀ i h,tn i h->∀ b∈fp,∃ o,h.get? b=some o/\∀ v,o.data≠.cell v
  keep:∀ i h h',tn i h->(∀ b∈fp,∀ o,h.get? b=some o->h'.get? b=some o)->tn i h'
  item:∀ (X:Cx),X.prog=P->X.w=w->X.K=K->X.calm=true->∀ (i:Nat) (pins:List (Addr×Obj)) (s:Shared) (σ:St) (H:Hp) (E:Value->Shared->Prop),Inv X pins σ H s->(∀ b∈fp,FpOk X pins H b)->tn i s.heap->J.go i H ->
    wpAny (model P w) X.A (pyNext (.ref it)) (λr s1=>∃ u,r=some u /\
      wpAny (model P w) X.A (letOwnedTupleGo tg (.ref it) u) (λ_ s2=>∃ x H',Inv X pins σ H' s2/\RelV x u/\J.yld i H x H'/\tn (i+1) s2.heap/\∀ b∈fp,H' b=none) E s1) E s
  done:∀ (X:Cx),X.prog=P->X.w=w->X.K=K->X.calm=true->∀ (i:Nat) (pins:List (Addr×Obj)) (s:Shared) (σ:St) (H:Hp) (E:Value->Shared->Prop),Inv X pins σ H s->(∀ b∈fp,FpOk X pins H b)->tn i s.heap->J.stop i H ->
    wpAny (model P w) X.A (pyNext (.ref it)) (λr s1=>r=none/\Inv X pins σ H s1) E s
  self:∀ (A:Around) (i:Nat) (s:Shared) (Q:Value->Shared->Prop) (E:Value->Shared->Prop),tn i s.heap->Q (.ref it) s->wpAny (model P w) A (pyIter (.ref it)) Q E s
abbrev TI:=St->Hp->(It->Hp->Prop)->Prop
def PIE(X:Cx)(pins:List (Addr×Obj))(σ:St)(tg:Expr)(R:It->Hp->Prop)(itv:Value)(s2:Shared):Prop :=
  ∃ (it:Addr) (fp:List Addr) (tn:Nat->Heap->Prop) (J:It) (H':Hp),itv=.ref it/\Inv X pins σ H' s2/\Turn X.prog X.w X.K tg J fp it tn/\tn 0 s2.heap/\(∀ b∈fp,FpOk X pins H' b)/\R J H'
def PI(X:Cx)(tg iter:Expr)(wi:TI):Prop :=
  ∀ (pins:List (Addr×Obj)) (s:Shared) (σ:St) (H:Hp) (R:It->Hp->Prop),Inv X pins σ H s->wi σ H R ->
    wpAny (model X.prog X.w) X.A (eval iter X.env) (λv s1=>wpAny (model X.prog X.w) X.A (pyIter v) (PIE X pins σ tg R) X.xe s1) X.xe s
theorem DW{A:Around}{s:Shared}{tg:Expr}{u:Value}{o:Obj}{n:String}{vs:Array Value}{Q:Unit->Shared->Prop}(ho:s.heap.get? it=some o)(hc:o.cls=.type n)(hd:o.data=.fields vs)(hn:["enumerate","zip","dict_itemiterator","dict_reverseitemiterator","odict_iterator","itertools.zip_longest","itertools.pairwise"].contains n=false)(hQ:Q () s):wpAny M A (letOwnedTupleGo tg (.ref it) u) Q E s:=by
  unfold letOwnedTupleGo;cases tg <;> first
    | exact ii hQ
    | (cases u <;> first
        | exact ii hQ
        | (refine ig (wpAny_load ho ?_)
           rw [hc,hd];show wpAny M A (if (["enumerate","zip","dict_itemiterator","dict_reverseitemiterator","odict_iterator","itertools.zip_longest","itertools.pairwise"].contains n && vs[0]?==some (rawInt _))=true then _ else _) Q E s;rw [h8 (by intro h; rw [hn,Bool.false_and] at h; cases h)];exact ii hQ))
def Itl(K:iB)(a:Addr):It :=
  ⟨λi H=>∃ xs x,SqL K H a xs/\xs[i]?=some x,λi H x H'=>H'=H/\∀ xs,SqL K H a xs->xs[i]?=some x,λi H=>∃ xs,SqL K H a xs/\xs.length<=i⟩
def Itt(K:iB)(a:Addr):It :=
  ⟨λi H=>∃ xs x,SqT K H a xs/\xs[i]?=some x,λi H x H'=>H'=H/\∀ xs,SqT K H a xs->xs[i]?=some x,λi H=>∃ xs,SqT K H a xs/\xs.length<=i⟩
def Itr(lo:Int)(n:Nat):It:=⟨λi _=>i<n,λi H x H'=>H'=H/\x=.int (lo+i),λi _=>n<=i⟩
theorem Dn{K:iB}{tg:Expr}(a it:Addr):Turn P w K tg (Itl K a) [it] it (λi h=>h.IsListIter it a i) where
  mem:=by simp
  obj:=λi h st b hb=>by
    have e:b=it:=by simpa using hb
    subst e;obtain ⟨o,e,c,d⟩:=st;exact ⟨o,e,λv z=>by rw [d] at z; cases z⟩
  keep:=λi h h' st k=>st.at λo e=>k it (by simp) o e
  item:=by
    intro X hP hw hK hc i pins s σ H E I hf st hg;subst hP hw hK;obtain ⟨xs,x,hq,hx⟩:=hg;obtain ⟨its,rv,p,hz⟩:=I.list hq;obtain ⟨u,hu,ru⟩:=rv.get hx;obtain ⟨f0,f1,f2,f3,f4,f5⟩:=hf it (by simp);refine wpAny_pyNext_list_item st p.isList (x:=u) (by simpa using hu) λh' st' sb=>?_;have I1:Inv X pins σ H { s with heap:=h' }:=I.turned (t':=s.toks) (λb o hb e=>(sb.2 b hb).trans e) f0 f1 f3 f4 f5;obtain ⟨o,e,c,d⟩:=id st';exact ⟨u,rfl,DW (s:={ s with heap:=h' }) e c d (by decide) ⟨x,H,I1,ru,⟨rfl,λys hy=>by rw [I.list_inj hy hq]; exact hx⟩,st',λb hb=>(hf b hb).1⟩⟩
  done:=by
    intro X hP hw hK hc i pins s σ H E I hf st hg;subst hP hw hK;obtain ⟨xs,hq,hx⟩:=hg;obtain ⟨its,rv,p,hz⟩:=I.list hq;obtain ⟨f0,f1,f2,f3,f4,f5⟩:=hf it (by simp);have hl:=rv.length;exact wpAny_pyNext_list_end (I.ok.hd hc) st p.isList (by simp; omega) λh' eb=>⟨rfl,I.turned (t':=s.toks) (λb o hb e=>eb b o hb e) f0 f1 f3 f4 f5⟩
  self:=λ_ _ _ _ _ st h=>wpAny_pyIter_listiter st h
theorem Cn{K:iB}{tg:Expr}(a it:Addr):Turn P w K tg (Itt K a) [it] it (λi h=>h.IsTupleIter it a i) where
  mem:=by simp
  obj:=λi h st b hb=>by
    have e:b=it:=by simpa using hb
    subst e;obtain ⟨o,e,c,d⟩:=st;exact ⟨o,e,λv z=>by rw [d] at z; cases z⟩
  keep:=λi h h' st k=>st.at λo e=>k it (by simp) o e
  item:=by
    intro X hP hw hK hc i pins s σ H E I hf st hg;subst hP hw hK;obtain ⟨xs,x,hq,hx⟩:=hg;obtain ⟨its,rv,p,hz⟩:=I.tuple hq;obtain ⟨u,hu,ru⟩:=rv.get hx;obtain ⟨f0,f1,f2,f3,f4,f5⟩:=hf it (by simp);refine wpAny_pyNext_tuple_item st (show s.heap.IsTuple a its.toArray from p) (x:=u) (by simpa using hu) λh' st' sb=>?_;have I1:Inv X pins σ H { s with heap:=h' }:=I.turned (t':=s.toks) (λb o hb e=>(sb.2 b hb).trans e) f0 f1 f3 f4 f5;obtain ⟨o,e,c,d⟩:=id st';exact ⟨u,rfl,DW (s:={ s with heap:=h' }) e c d (by decide) ⟨x,H,I1,ru,⟨rfl,λys hy=>by rw [I.tuple_inj hy hq]; exact hx⟩,st',λb hb=>(hf b hb).1⟩⟩
  done:=by
    intro X hP hw hK hc i pins s σ H E I hf st hg;subst hP hw hK;obtain ⟨xs,hq,hx⟩:=hg;obtain ⟨its,rv,p,hz⟩:=I.tuple hq;obtain ⟨f0,f1,f2,f3,f4,f5⟩:=hf it (by simp);have hl:=rv.length;exact wpAny_pyNext_tuple_end (I.ok.hd hc) st (show s.heap.IsTuple a its.toArray from p) (by simp; omega) λh' eb=>⟨rfl,I.turned (t':=s.toks) (λb o hb e=>eb b o hb e) f0 f1 f3 f4 f5⟩
  self:=λ_ _ _ _ _ st h=>wpAny_pyIter_tupleiter st h
theorem Cq{K:iB}{tg:Expr}(it:Addr)(lo:Int)(n:Nat):Turn P w K tg (Itr lo n) [it] it (λi h=>IsRangeIter h it (lo+(i:Nat)*1) ((n:Int) - (i:Nat)) 1) where
  mem:=by simp
  obj:=λi h st b hb=>by
    have e:b=it:=by simpa using hb
    subst e;exact ⟨_,st,λv z=>by
      have z':Data.fields _=Data.cell v:=z;cases z'⟩
  keep:=λi h h' st k=>k it (by simp) _ st
  item:=by
    intro X hP hw hK hc i pins s σ H E I hf st hg;subst hP hw hK;obtain ⟨f0,f1,f2,f3,f4,f5⟩:=hf it (by simp);have W:=Walks.range (prog:=X.prog) (w:=X.w) (I.ok.hd hc) it lo 1 n;refine W.item i s _ _ hg st λv h' tk hv st' kk=>?_;obtain ⟨t,rfl⟩:=hv;have I1:Inv X pins σ H { s with heap:=h',toks:=tk }:=I.turned (λb o hb e=>kk b o (by simpa using hb) e) f0 f1 f3 f4 f5;refine ⟨_,rfl,DW (s:={ s with heap:=h',toks:=tk }) (n:="range_iterator") st' rfl rfl (by decide) ⟨.int (lo+i),H,I1,⟨t,?_⟩,⟨rfl,rfl⟩,st',λb hb=>(hf b hb).1⟩⟩;rw [cJ]
  done:=by
    intro X hP hw hK hc i pins s σ H E I hf st hg;subst hP hw hK;obtain ⟨f0,f1,f2,f3,f4,f5⟩:=hf it (by simp);exact wpAny_pyNext_range_end (I.ok.hd hc) st (by have:n<=i:=hg; omega) λh' eb=>⟨rfl,I.turned (t':=s.toks) (λb o hb e=>eb b o hb e) f0 f1 f3 f4 f5⟩
  self:=λ_ _ _ _ _ st h=>wpAny_pyIter_rangeiter st h
variable {tg:Expr}
def GX(K:iB)(tl:TE):TI:=λσ H R=>tl σ H λx H1=>∃ a,x=.ref a/\(∃ xs,SqL K H1 a xs)/\R (Itl K a) H1
def iTup(K:iB)(tl:TE):TI:=λσ H R=>tl σ H λx H1=>∃ a,x=.ref a/\(∃ xs,SqT K H1 a xs)/\R (Itt K a) H1
variable {l:Expr}{tl:TE}
theorem zI(hl:PE X l tl):PI X tg l (GX X.K tl):=by
  intro pins s σ H R I h;refine thn (hl pins s σ H _ I h) λv s1 ⟨x,H1,I1,r1,q1⟩=>?_;obtain ⟨a,e,⟨xs,hq⟩,q⟩:=q1;subst e;cases r1
  obtain ⟨its,rv,p,hz⟩:=I1.list hq;refine il p.isList ?_;refine ⟨s1.heap.objs.size,[s1.heap.objs.size],_,_,H1,rfl,I1.kept (t':=s1.toks) λb o e=>Heap.get?_push_of_some _ e,Dn a _,⟨_,Heap.get?_push_size _ rfl,rfl,rfl⟩,λb hb=>?_,q⟩;have e:b=s1.heap.objs.size:=by simpa using hb
  subst e;exact I1.fpOk (ai _) (I1.hok.fresh (ai _))
theorem GE(hl:PE X l tl):PI X tg l (iTup X.K tl):=by
  intro pins s σ H R I h;refine thn (hl pins s σ H _ I h) λv s1 ⟨x,H1,I1,r1,q1⟩=>?_;obtain ⟨a,e,⟨xs,hq⟩,q⟩:=q1;subst e;cases r1
  obtain ⟨its,rv,p,hz⟩:=I1.tuple hq;refine wpAny_pyIter_tuple (show s1.heap.IsTuple a its.toArray from p) ?_;refine ⟨s1.heap.objs.size,[s1.heap.objs.size],_,_,H1,rfl,I1.kept (t':=s1.toks) λb o e=>Heap.get?_push_of_some _ e,Cn a _,⟨_,Heap.get?_push_size _ rfl,rfl,rfl⟩,λb hb=>?_,q⟩;have e:b=s1.heap.objs.size:=by simpa using hb
  subst e;exact I1.fpOk (ai _) (I1.hok.fresh (ai _))
variable {lo:Int}
theorem BO{σ:St}{s:Shared}{R:It->Hp->Prop}{hi:Int}{t u v:Tok}{tk:Nat}(I:Inv X pins σ H s)(h1:-(2 ^ 62)<=lo)(h2:lo<2 ^ 62)(h3:-(2 ^ 62)<=hi)(h4:hi<2 ^ 62)(q:R (Itr lo (hi - lo).toNat) H):wpAny (model X.prog X.w) X.A (pyIter (.ref s.heap.objs.size)) (PIE X pins σ tg R) E { s with heap:=s.heap.push { cls:=.type "range",data:=.fields #[.int lo t,.int hi u,.int 1 v] },toks:=tk }:=by
  refine wpAny_pyIter_range (IsRange.new ..) (small_one h1 h2 h3 h4) ?_;have I1:Inv X pins σ H { s with heap:=s.heap.push { cls:=.type "range",data:=.fields #[.int lo t,.int hi u,.int 1 v] },toks:=tk }:=I.kept λb o e=>Heap.get?_push_of_some _ e;refine ⟨(s.heap.push { cls:=.type "range",data:=.fields #[.int lo t,.int hi u,.int 1 v] }).objs.size,[(s.heap.push { cls:=.type "range",data:=.fields #[.int lo t,.int hi u,.int 1 v] }).objs.size],_,_,H,rfl,
    I1.kept (t':=tk) λb o e=>Heap.get?_push_of_some _ e,Cq _ lo (hi - lo).toNat,?_,λb hb=>?_,q⟩
  . have e1:lo+((0:Nat):Int)*1=lo:=by simp
    have e2:(((hi - lo).toNat:Nat):Int) - ((0:Nat):Int)=Builtin.Range.rangeSize lo hi 1:=by rw [rangeSize_one]; split <;> omega
    show IsRangeIter _ _ (lo+((0:Nat):Int)*1) ((((hi - lo).toNat:Nat):Int) - ((0:Nat):Int)) 1;rw [e1,e2];exact Heap.get?_push_size _ rfl
  . have e:b=(s.heap.push { cls:=.type "range",data:=.fields #[.int lo t,.int hi u,.int 1 v] }).objs.size:=by simpa using hb
    subst e;exact I1.fpOk (ai _) (I1.hok.fresh (ai _))
def Hq(ta:TA):TI:=λσ H R=>ta σ H λvs H1=>∃ j:Int,vs=[.int j]/\-(2 ^ 62)<=j/\j<2 ^ 62/\R (Itr 0 j.toNat) H1
def HM(ta:TA):TI:=λσ H R=>ta σ H λvs H1=>∃ i j:Int,vs=[.int i,.int j]/\(-(2 ^ 62)<=i/\i<2 ^ 62/\-(2 ^ 62)<=j/\j<2 ^ 62)/\R (Itr i (j - i).toNat) H1
theorem ya{a:Expr}{ta:TA}{p:Pos}(hg:Gl X "range")(hm:X.mg "range"=none)(ha:PA X [a] ta)(hs:starEach [a] X.env=[(false,eval a X.env)]:=by rfl):PI X tg (.Call (.Name "range" p) [a] [] pos) (Hq ta):=by
  intro pins s σ H R I h;refine Call_ (xZ I hg hm boot_range (bP (thn (ha pos pins s σ H _ I h) λus s1 ⟨vs,H1,I1,r1,q1⟩=>?_) hs rfl));obtain ⟨j,e,q1,q2,q⟩:=q1;subst e;cases r1 with
  | cons r rr =>
    cases rr
    obtain ⟨t,rfl⟩:=r;exact call_range_1 (BO I1 (by omega) (by omega) q1 q2 (by simpa using q))
theorem wp{a b:Expr}{ta:TA}{p:Pos}(hg:Gl X "range")(hm:X.mg "range"=none)(ha:PA X [a,b] ta)(hs:starEach [a,b] X.env=[(false,eval a X.env),(false,eval b X.env)]:=by rfl)(hs2:starEach [b] X.env=[(false,eval b X.env)]:=by rfl) :
    PI X tg (.Call (.Name "range" p) [a,b] [] pos) (HM ta):=by
  intro pins s σ H R I h;refine Call_ (xZ I hg hm boot_range (bP (thn (ha pos pins s σ H _ I h) λus s1 ⟨vs,H1,I1,r1,q1⟩=>?_) (by rw [hs,hs2]) (by rw [hs2]; rfl)));obtain ⟨i,j,e,⟨q1,q2,q3,q4⟩,q⟩:=q1;subst e;cases r1 with
  | cons r rr =>
    cases rr with
    | cons r' rr =>
      cases rr
      obtain ⟨t,rfl⟩:=r;obtain ⟨t',rfl⟩:=r';exact call_range_2 (BO I1 q1 q2 q3 q4 q)
def tFor(wi:TI)(g:TG)(tb:TS):TS:=λD σ H=>wi σ H λJ H1=>∃ W:Nat->Nat->St->Hp->Prop,(∃ m,W 0 m σ H1)/\∀ i m σ H,W i m σ H ->
  (J.stop i H/\D.nx σ H)\/(J.go i H/\∃ N:St->Hp->Prop,(∀ σ' H',N σ' H'->∃ m',m'<m/\W (i+1) m' σ' H')/\∀ x H',J.yld i H x H'->g x σ H' λσ2 H2=>tb { D with nx:=N,ct:=N,bk:=D.nx } σ2 H2)
def Ae(fp:List Addr)(h:Heap):List (Addr×Obj):=fp.filterMap λb=>(h.get? b).map λo=>(b,o)
variable {fp:List Addr}
theorem xy{b:Addr}{o:Obj}(hb:b∈fp)(e:h.get? b=some o):(b,o)∈Ae fp h:=fA.mpr ⟨b,hb,by rw [e]; rfl⟩
theorem EL{p:Addr×Obj}(hp:p∈Ae fp h):p.1∈fp/\h.get? p.1=some p.2:=by
  obtain ⟨b,hb,e⟩:=fA.mp hp;cases q:h.get? b with
  | none=>rw [q] at e; cases e
  | some o =>
    rw [q] at e;have e':(b,o)=p:=aw e;subst e';exact ⟨hb,q⟩
theorem Inv.pinned{σ:St}{s:Shared}(I:Inv X pins σ H s)(hf:∀ b∈fp,FpOk X pins H b)(ho:∀ b∈fp,∃ o,s.heap.get? b=some o/\∀ v,o.data≠.cell v):Inv X (pins++Ae fp s.heap) σ H s :=
  I.pins_of λp hp=>(ax.mp hp).elim (λz=>I.pin p (aV _ z)) λz=>by
    obtain ⟨hb,e⟩:=EL z;obtain ⟨f0,f1,f2,_⟩:=hf p.1 hb;obtain ⟨o,e',d⟩:=ho p.1 hb;rw [e] at e'; cases e';exact ⟨e,f0,f1,f2,d⟩
theorem Inv.unpinned{pl:List (Addr×Obj)}{σ:St}{s:Shared}(I:Inv X (pins++pl) σ H s):Inv X pins σ H s:=I.pins_of λp hp=>I.pin p (aV _ (bU _ hp))
theorem zP{iter:Expr}{wi:TI}{tb:TS}(hp:PassesOwn (model X.prog X.w) X.A X.env X.xe)(hc:X.calm=true)(hi:PI X tg iter wi)(hg:PG X tg g)(hb:PSs X body tb)(hs:∀ x,foldedSetIterable iter X.env x=pure x:=by intro _; rfl):PS X (.For tg iter body [] pos) (tFor wi g tb):=by
  intro pins s σ H D I h;refine wpAny_For (thn (hi pins s σ H _ I h) λv s1 h1=>thn h1 λitv s2 h2=>?_) hs;obtain ⟨it,fp,tn,J,H2,e,I2,T,st2,f2,W,⟨m0,w0⟩,turn⟩:=h2;subst e;have stat:∀ {H':Hp},(∀ b∈fp,H' b=none)->∀ b∈fp,FpOk X pins H' b:=λhn b hb=>⟨hn b hb,(f2 b hb).2⟩
  refine codeAny_forLoop_any (λn s'=>∃ i σ' H',Inv X pins σ' H' s'/\tn i s'.heap/\(∀ b∈fp,H' b=none)/\W i n σ' H') ?_ m0 ⟨0,σ,H2,I2,st2,λb hb=>(f2 b hb).1,w0⟩;rintro n s3 ⟨i,σ3,H3,I3,st3,fr3,w3⟩;rcases turn i n σ3 H3 w3 with ⟨stop,qn⟩|⟨go,N,hN,step⟩
  . refine ik hp (thn (T.done X rfl rfl rfl hc i pins s3 σ3 H3 X.xe I3 (stat fr3) st3 stop) λr s4 ⟨hr,I4⟩=>?_);subst hr;exact ib ⟨σ3,H3,I4,qn⟩
  . refine ik hp (thn (T.item X rfl rfl rfl hc i pins s3 σ3 H3 X.xe I3 (stat fr3) st3 go) λr s4 ⟨u,hr,h4⟩=>?_);subst hr;refine ik hp (thn h4 λ_ s5 ⟨x,H5,I5,r5,y5,st5,fr5⟩=>?_);have I5':=I5.pinned (stat fr5) (T.obj _ _ st5);refine ik hp (thn (hg _ s5 σ3 H5 x u _ I5' r5 (step x H5 y5)) λ_ s6 ⟨σ6,H6,I6,q6⟩=>?_);refine ik hp (thn (hb _ s6 σ6 H6 _ I6 q6) λf s7 q7=>?_);have again:∀ {σ7:St} {H7:Hp},Inv X (pins++Ae fp s5.heap) σ7 H7 s7->N σ7 H7->∃ m,m<n/\∃ i σ' H',Inv X pins σ' H' s7/\tn i s7.heap/\(∀ b∈fp,H' b=none)/\W i m σ' H':=λ{σ7 H7} I7 n7=>by
      obtain ⟨m',hm,w7⟩:=hN σ7 H7 n7;refine ⟨m',hm,i+1,σ7,H7,I7.unpinned,T.keep _ _ _ st5 λb hb o e=>(I7.pin (b,o) (aV _ (aV _ (xy hb e)))).1,λb hb=>?_,w7⟩;obtain ⟨o,e,d⟩:=T.obj _ _ st5 b hb;exact (I7.pin (b,o) (aV _ (aV _ (xy hb e)))).2.1
    cases f with
    | next=>obtain ⟨σ7,H7,I7,n7⟩:=q7; exact again I7 n7
    | cont=>obtain ⟨σ7,H7,I7,n7⟩:=q7; exact again I7 n7
    | brk=>obtain ⟨σ7,H7,I7,q7⟩:=q7; exact ⟨σ7,H7,I7.unpinned,q7⟩
    | ret v=>obtain ⟨x7,σ7,H7,I7,r7,q7⟩:=q7; exact ⟨x7,σ7,H7,I7.unpinned,r7,q7⟩
variable {D:Ends}
theorem z6{K:iB}{xs:List V}{tb:TS}{σ:St}(Pv:Nat->St->Hp->Prop)(h0:Pv 0 σ H)(hl:∀ i σ H,i<=xs.length->Pv i σ H->SqL K H a xs)(hs:∀ i x σ H,xs[i]?=some x->Pv i σ H->g x σ H λσ2 H2=>tb { D with nx:=Pv (i+1),ct:=Pv (i+1),bk:=D.nx } σ2 H2)(hd:∀ σ H,Pv xs.length σ H->D.nx σ H) :
    ∃ W:Nat->Nat->St->Hp->Prop,(∃ m,W 0 m σ H)/\∀ i m σ H,W i m σ H ->
      ((Itl K a).stop i H/\D.nx σ H)\/((Itl K a).go i H/\∃ N:St->Hp->Prop,(∀ σ' H',N σ' H'->∃ m',m'<m/\W (i+1) m' σ' H')/\∀ x H',(Itl K a).yld i H x H'->g x σ H' λσ2 H2=>tb { D with nx:=N,ct:=N,bk:=D.nx } σ2 H2):=by
  refine ⟨λi m σ H=>m=xs.length - i/\i<=xs.length/\Pv i σ H,⟨xs.length,by simp,bZ _,h0⟩,?_⟩;rintro i m σ H ⟨rfl,hi,p⟩;have q:=hl i σ H hi p;by_cases hlt:i<xs.length
  . refine .inr ⟨⟨xs,xs[i],q,by simp [hlt]⟩,Pv (i+1),λσ' H' p'=>⟨xs.length - (i+1),by omega,rfl,hlt,p'⟩,λx H' y=>?_⟩;obtain ⟨e,y⟩:=y;subst e;exact hs i x σ _ (y xs q) p
  . have e:i=xs.length:=by omega
    subst e;exact .inl ⟨⟨xs,q,ai _⟩,hd σ H p⟩
theorem yw{n:Nat}{tb:TS}{σ:St}(Pv:Nat->St->Hp->Prop)(h0:Pv 0 σ H)(hs:∀ i σ H,i<n->Pv i σ H->g (.int (lo+i)) σ H λσ2 H2=>tb { D with nx:=Pv (i+1),ct:=Pv (i+1),bk:=D.nx } σ2 H2)(hd:∀ σ H,Pv n σ H->D.nx σ H) :
    ∃ W:Nat->Nat->St->Hp->Prop,(∃ m,W 0 m σ H)/\∀ i m σ H,W i m σ H ->
      ((Itr lo n).stop i H/\D.nx σ H)\/((Itr lo n).go i H/\∃ N:St->Hp->Prop,(∀ σ' H',N σ' H'->∃ m',m'<m/\W (i+1) m' σ' H')/\∀ x H',(Itr lo n).yld i H x H'->g x σ H' λσ2 H2=>tb { D with nx:=N,ct:=N,bk:=D.nx } σ2 H2):=by
  refine ⟨λi m σ H=>m=n - i/\i<=n/\Pv i σ H,⟨n,by simp,bZ _,h0⟩,?_⟩;rintro i m σ H ⟨rfl,hi,p⟩;by_cases hlt:i<n
  . refine .inr ⟨hlt,Pv (i+1),λσ' H' p'=>⟨n - (i+1),by omega,rfl,hlt,p'⟩,λx H' y=>?_⟩;obtain ⟨e,y⟩:=y;subst e y;exact hs i σ _ hlt p
  . have e:i=n:=by omega
    subst e;exact .inl ⟨ai _,hd σ H p⟩
theorem B8{c:TT}{tb:TS}{σ:St}(Pv:St->Hp->Prop)(μ:St->Hp->Nat)(h0:Pv σ H)(hs:∀ σ H,Pv σ H->c σ H λb H1=>if b=true then tb { D with nx:=λσ' H'=>Pv σ' H'/\μ σ' H'<μ σ H,ct:=λσ' H'=>Pv σ' H'/\μ σ' H'<μ σ H,bk:=D.nx } σ H1 else D.nx σ H1)(mono:∀ σ H Q Q',(∀ b H1,Q b H1->Q' b H1)->c σ H Q->c σ H Q'):DY c tb D σ H:=by
  refine ⟨λm σ H=>m=μ σ H/\Pv σ H,⟨_,rfl,h0⟩,?_⟩;rintro m σ H ⟨rfl,p⟩;refine mono σ H _ _ (λb H1 q=>?_) (hs σ H p);cases b with
  | true=>exact ⟨_,λσ' H' ⟨p',l⟩=>⟨_,l,rfl,p'⟩,q⟩
  | false=>exact q
abbrev R2:=V->V->Hp->VK->Prop
def OpR(X:Cx)(f:Value->Value->Sem Value)(r:R2):Prop :=
  ∀ (pins:List (Addr×Obj)) (s:Shared) (σ:St) (H:Hp) (x y:V) (v u:Value) (Q:VK),Inv X pins σ H s->RelV x v->RelV y u->r x y H Q ->
    wpAny (model X.prog X.w) X.A (f v u) (EP X pins σ Q) X.xe s
def UnR(X:Cx)(f:Value->Sem Value)(r:V->Hp->VK->Prop):Prop :=
  ∀ (pins:List (Addr×Obj)) (s:Shared) (σ:St) (H:Hp) (x:V) (v:Value) (Q:VK),Inv X pins σ H s->RelV x v->r x H Q ->
    wpAny (model X.prog X.w) X.A (f v) (EP X pins σ Q) X.xe s
def yS(X:Cx)(f:Value)(r:List V->Hp->VK->Prop):Prop :=
  ∀ (pins:List (Addr×Obj)) (s:Shared) (σ:St) (H:Hp) (xs:List V) (us:List Value) (Q:VK),Inv X pins σ H s->Vals xs us->r xs H Q ->
    wpAny (model X.prog X.w) X.A (call f us) (EP X pins σ Q) X.xe s
def tOp(r:R2)(ta tb:TE):TE:=λσ H Q=>ta σ H λx H1=>tb σ H1 λy H2=>r x y H2 Q
def tUn(r:V->Hp->VK->Prop)(ta:TE):TE:=λσ H Q=>ta σ H λx H1=>r x H1 Q
def rI(C:Int->Int->Prop)(g:Int->Int->V):R2:=λx y H Q=>∃ i j,x=.int i/\y=.int j/\C i j/\Q (g i j) H
def rI0(g:Int->Int->V):R2:=λx y H Q=>∃ i j,x=.int i/\y=.int j/\Q (g i j) H
def rU(g:Int->V):V->Hp->VK->Prop:=λx H Q=>∃ i,x=.int i/\Q (g i) H
variable {r:R2}
section
variable {a b c:Expr}{ta tb tc:TE}
variable {f:Value->Value->Sem Value}
theorem binT(ha:PE X a ta)(hb:PE X b tb){s:Shared}{σ:St}{R:V->V->Hp->Prop}(I:Inv X pins σ H s)(h:ta σ H λx H1=>tb σ H1 λy H2=>R x y H2)(hf:∀ v u s2 x y H2,Inv X pins σ H2 s2->RelV x v->RelV y u->R x y H2->wpAny (model X.prog X.w) X.A (f v u) Q X.xe s2) : wpAny (model X.prog X.w) X.A (eval a X.env) (λv s₁=>wpAny (model X.prog X.w) X.A (eval b X.env) (λu s₂=>wpAny (model X.prog X.w) X.A (f v u) Q X.xe s₂) X.xe s₁) X.xe s:=by
  refine thn (ha pins s σ H _ I h) λv s1 ⟨x,H1,I1,r1,q1⟩=>?_;refine thn (hb pins s1 σ H1 _ I1 q1) λu s2 ⟨y,H2,I2,r2,q2⟩=>?_;exact hf v u s2 x y H2 I2 r1 r2 q2
theorem zg{op:Operator}(ho:OpR X (binaryOp op) r)(ha:PE X a ta)(hb:PE X b tb):PE X (.BinOp a op b pos) (tOp r ta tb):=by
  intro pins s σ H Q I h;exact wpAny_BinOp (binT ha hb I h λv u s2 x y H2 I2 rx ry q=>ho pins s2 σ H2 x y v u Q I2 rx ry q)
theorem uN{op:UnaryOp}{r:V->Hp->VK->Prop}(ho:UnR X (unaryOp op) r)(ha:PE X a ta):PE X (.UnaryOp op a pos) (tUn r ta):=by
  intro pins s σ H Q I h;exact UnaryOp_ (thn (ha pins s σ H _ I h) λv s1 ⟨x,H1,I1,r1,q1⟩=>ho pins s1 σ H1 x v Q I1 r1 q1)
theorem opI{C:Int->Int->Prop}{g:Int->Int->Int}(rule:∀ (i j:Int) (t u:Tok) (s:Shared) (Q:Value->Shared->Prop) (E:Value->Shared->Prop),C i j->Q (.int (g i j) s.toks) { s with toks:=s.toks+1 }->wpAny (model X.prog X.w) X.A (f (.int i t) (.int j u)) Q E s) :
    OpR X f (rI C λi j=>.int (g i j)):=by
  intro pins s σ H x y v u Q I rx ry h;obtain ⟨i,j,rfl,rfl,hc,q⟩:=h;obtain ⟨t,rfl⟩:=rx;obtain ⟨t',rfl⟩:=ry;exact rule i j t t' s _ _ hc ⟨.int (g i j),H,I.tok _,⟨_,rfl⟩,q⟩
theorem opI0{g:Int->Int->Int}(rule:∀ (i j:Int) (t u:Tok) (s:Shared) (Q:Value->Shared->Prop) (E:Value->Shared->Prop),Q (.int (g i j) s.toks) { s with toks:=s.toks+1 }->wpAny (model X.prog X.w) X.A (f (.int i t) (.int j u)) Q E s) :
    OpR X f (rI0 λi j=>.int (g i j)):=by
  intro pins s σ H x y v u Q I rx ry h;obtain ⟨i,j,rfl,rfl,q⟩:=h;obtain ⟨t,rfl⟩:=rx;obtain ⟨t',rfl⟩:=ry;exact rule i j t t' s _ _ ⟨.int (g i j),H,I.tok _,⟨_,rfl⟩,q⟩
theorem opB0{g:Int->Int->Bool}(rule:∀ (i j:Int) (t u:Tok) (s:Shared) (Q:Value->Shared->Prop) (E:Value->Shared->Prop),Q (.bool (g i j)) s->wpAny (model X.prog X.w) X.A (f (.int i t) (.int j u)) Q E s) : OpR X f (rI0 λi j=>.bl (g i j)):=by
  intro pins s σ H x y v u Q I rx ry h;obtain ⟨i,j,rfl,rfl,q⟩:=h;obtain ⟨t,rfl⟩:=rx;obtain ⟨t',rfl⟩:=ry;exact rule i j t t' s _ _ ⟨.bl (g i j),H,I,rfl,q⟩
theorem zD:OpR X (binaryOp .Add) (rI0 λi j=>.int (i+j)):=opI0 λ_ _ _ _ _ _ _ q=>add_int q
theorem yP:OpR X (binaryOp .Sub) (rI0 λi j=>.int (i - j)):=opI0 λ_ _ _ _ _ _ _ q=>sub_int q
theorem zG:OpR X (binaryOp .Mod) (rI (λ_ j=>0<j) λi j=>.int (i % j)):=opI λi j _ _ _ _ _ hc q=>by
  have h1:(0:Int)<j:=hc;exact mod_int' (by omega) (by rw [Int.fmod_eq_emod_of_nonneg i (by omega)]; exact q)
theorem Hx:OpR X (binaryOp .Mod) (rI (λ_ j=>j≠0) λi j=>.int (i.fmod j)):=opI λ_ _ _ _ _ _ _ hc q=>mod_int' hc q
theorem unI{f:Value->Sem Value}{g:Int->Int}(rule:∀ (i:Int) (t:Tok) (s:Shared) (Q:Value->Shared->Prop) (E:Value->Shared->Prop),Q (.int (g i) s.toks) { s with toks:=s.toks+1 }->wpAny (model X.prog X.w) X.A (f (.int i t)) Q E s) :
    UnR X f (rU λi=>.int (g i)):=by
  intro pins s σ H x v Q I rx h;obtain ⟨i,rfl,q⟩:=h;obtain ⟨t,rfl⟩:=rx;exact rule i t s _ _ ⟨.int (g i),H,I.tok _,⟨_,rfl⟩,q⟩
theorem wa:UnR X (unaryOp .USub) (rU λi=>.int (-i)):=unI λ_ _ _ _ _ q=>neg_int q
end
def scal:V->V->Bool
  | .non,.non=>true | .non,.int _=>true | .int _,.non=>true | .non,.bl _=>true | .bl _,.non=>true | .non,.str _=>true | .str _,.non=>true
  | .int _,.int _=>true | .bl _,.bl _=>true | .str _,.str _=>true | .byt _,.byt _=>true
  | .int _,.str _=>true | .str _,.int _=>true | .bl _,.str _=>true | .str _,.bl _=>true
  | _,_=>false
def rEq:R2:=λx y H Q=>scal x y=true/\Q (.bl (decide (x=y))) H
def rNe:R2:=λx y H Q=>scal x y=true/\Q (.bl (!decide (x=y))) H
theorem ui{i j:Int}:decide (V.int i=V.int j)=(i==j):=by
  rw [cr];simp
theorem dec_bl{i j:Bool}:decide (V.bl i=V.bl j)=(i==j):=by
  rw [cr];simp
theorem EZ{i j:Str}:decide (V.str i=V.str j)=(i==j):=by
  rw [cr];simp
theorem Ex{i j:Array UInt8}:decide (V.byt i=V.byt j)=(i.toList==j.toList):=by
  rw [cr];cases i
  cases j
  simp
variable {us:List Value}{y:V}
section
variable {a b c:Expr}{ta tb tc:TE}
theorem fin_bl{σ:St}{s:Shared}{Q:VK}{k k':Bool}(I:Inv X pins σ H s)(q:Q (.bl k) H)(e:k=k'):EP X pins σ Q (.bool k') s:=by
  subst e;exact ⟨.bl k,H,I,rfl,q⟩
theorem zU:OpR X (compareOp .Eq) rEq:=by
  intro pins s σ H x y v u Q I rx ry h;obtain ⟨hs,q⟩:=h;cases x with
  | non =>
    cases rx
    cases y with
    | non=>cases ry; exact PySem.EqNone.eq_none_none (fin_bl I q (by simp))
    | bl j=>cases ry; exact PySem.EqNone.eq_none_bool (fin_bl I q (by simp))
    | int j=>obtain ⟨t',rfl⟩:=ry; exact PySem.EqNone.eq_none_int (fin_bl I q (by simp))
    | str j=>obtain ⟨t',rfl⟩:=ry; exact PySem.EqNone.eq_none_str (fin_bl I q (by simp))
    | _=>exact absurd (show false=true from hs) aT
  | bl i =>
    cases rx
    cases y with
    | non=>cases ry; exact PySem.EqNone.eq_bool_none (fin_bl I q (by simp))
    | bl j=>cases ry; exact eq_bool (fin_bl I q dec_bl)
    | str j=>obtain ⟨t',rfl⟩:=ry; exact PySem.EqMixed.eq_bool_str (fin_bl I q (by simp))
    | _=>exact absurd (show false=true from hs) aT
  | int i =>
    obtain ⟨t,rfl⟩:=rx;cases y with
    | non=>cases ry; exact PySem.EqNone.eq_int_none (fin_bl I q (by simp))
    | int j=>obtain ⟨t',rfl⟩:=ry; exact eq_int (fin_bl I q ui)
    | str j=>obtain ⟨t',rfl⟩:=ry; exact PySem.EqMixed.eq_int_str (fin_bl I q (by simp))
    | _=>exact absurd (show false=true from hs) aT
  | str i =>
    obtain ⟨t,rfl⟩:=rx;cases y with
    | non=>cases ry; exact PySem.EqNone.eq_str_none (fin_bl I q (by simp))
    | bl j=>cases ry; exact PySem.EqMixed.eq_str_bool (fin_bl I q (by simp))
    | int j=>obtain ⟨t',rfl⟩:=ry; exact PySem.EqMixed.eq_str_int (fin_bl I q (by simp))
    | str j=>obtain ⟨t',rfl⟩:=ry; exact eq_str (fin_bl I q EZ)
    | _=>exact absurd (show false=true from hs) aT
  | byt i =>
    obtain ⟨t,rfl⟩:=rx;cases y with
    | byt j=>obtain ⟨t',rfl⟩:=ry; exact W.eq_bytes (fin_bl I q Ex)
    | _=>exact absurd (show false=true from hs) aT
  | _=>cases y <;> exact absurd (show false=true from hs) aT
theorem Ay:OpR X (compareOp .NotEq) rNe:=by
  intro pins s σ H x y v u Q I rx ry h;obtain ⟨hs,q⟩:=h;cases x with
  | non =>
    cases rx
    cases y with
    | non=>cases ry; exact PySem.EqNone.ne_none_none (fin_bl I q (by simp))
    | bl j=>cases ry; exact PySem.EqNone.ne_none_bool (fin_bl I q (by simp))
    | int j=>obtain ⟨t',rfl⟩:=ry; exact PySem.EqNone.ne_none_int (fin_bl I q (by simp))
    | str j=>obtain ⟨t',rfl⟩:=ry; exact PySem.EqNone.ne_none_str (fin_bl I q (by simp))
    | _=>exact absurd (show false=true from hs) aT
  | bl i =>
    cases rx
    cases y with
    | non=>cases ry; exact PySem.EqNone.ne_bool_none (fin_bl I q (by simp))
    | bl j=>cases ry; exact ne_bool (fin_bl I q (congrArg not dec_bl))
    | str j=>obtain ⟨t',rfl⟩:=ry; exact PySem.EqMixed.ne_bool_str (fin_bl I q (by simp))
    | _=>exact absurd (show false=true from hs) aT
  | int i =>
    obtain ⟨t,rfl⟩:=rx;cases y with
    | non=>cases ry; exact PySem.EqNone.ne_int_none (fin_bl I q (by simp))
    | int j=>obtain ⟨t',rfl⟩:=ry; exact ne_int (fin_bl I q (congrArg not ui))
    | str j=>obtain ⟨t',rfl⟩:=ry; exact PySem.EqMixed.ne_int_str (fin_bl I q (by simp))
    | _=>exact absurd (show false=true from hs) aT
  | str i =>
    obtain ⟨t,rfl⟩:=rx;cases y with
    | non=>cases ry; exact PySem.EqNone.ne_str_none (fin_bl I q (by simp))
    | bl j=>cases ry; exact PySem.EqMixed.ne_str_bool (fin_bl I q (by simp))
    | int j=>obtain ⟨t',rfl⟩:=ry; exact PySem.EqMixed.ne_str_int (fin_bl I q (by simp))
    | str j=>obtain ⟨t',rfl⟩:=ry; exact ne_str (fin_bl I q (congrArg not EZ))
    | _=>exact absurd (show false=true from hs) aT
  | byt i =>
    obtain ⟨t,rfl⟩:=rx;cases y with
    | byt j=>obtain ⟨t',rfl⟩:=ry; exact W.ne_bytes (fin_bl I q (congrArg not Ex))
    | _=>exact absurd (show false=true from hs) aT
  | _=>cases y <;> exact absurd (show false=true from hs) aT
theorem uu:OpR X (compareOp .Lt) (rI0 λi j=>.bl (decide (i<j))):=opB0 λ_ _ _ _ _ _ _ q=>lt_int q
theorem FW:OpR X (compareOp .LtE) (rI0 λi j=>.bl (decide (i<=j))):=opB0 λ_ _ _ _ _ _ _ q=>le_int q
theorem wy:OpR X (compareOp .Gt) (rI0 λi j=>.bl (decide (j<i))):=opB0 λ_ _ _ _ _ _ _ q=>gt_int q
theorem DN:OpR X (compareOp .GtE) (rI0 λi j=>.bl (decide (j<=i))):=opB0 λ_ _ _ _ _ _ _ q=>ge_int q
theorem Kc:OpR X (compareOp .Is) (λx y H Q=>y=.non/\Q (.bl (decide (x=.non))) H):=by
  intro pins s σ H x y v u Q I rx ry h;obtain ⟨rfl,q⟩:=h;cases ry
  refine is_none_gen (fin_bl I q ?_);cases x <;> first
    | (cases rx; rfl)
    | (obtain ⟨t,rfl⟩:=rx; rfl)
theorem HK:OpR X (compareOp .IsNot) (λx y H Q=>y=.non/\Q (.bl (!decide (x=.non))) H):=by
  intro pins s σ H x y v u Q I rx ry h;obtain ⟨rfl,q⟩:=h;cases ry
  refine isnot_none_gen (fin_bl I q ?_);cases x <;> first
    | (cases rx; rfl)
    | (obtain ⟨t,rfl⟩:=rx; rfl)
theorem zk(b:Expr)(h:op≠.In:=by decide)(h2:op≠.NotIn:=by decide):behindInMarks op b=false:=by
  have e1:(op==CmpOp.In)=false:=by cases op <;> first | rfl | exact absurd rfl h
  have e2:(op==CmpOp.NotIn)=false:=by cases op <;> first | rfl | exact absurd rfl h2
  cases b <;> simp [behindInMarks,e1,e2]
theorem zW(ho:OpR X (compareOp op) r)(ha:PE X a ta)(hb:PE X b tb)(hm:behindInMarks op b=false):PE X (.Compare a [op] [b] pos) (tOp r ta tb):=by
  intro pins s σ H Q I h;exact wpAny_Compare1 (binT ha hb I h λv u s2 x y H2 I2 rx ry q=>ho pins s2 σ H2 x y v u Q I2 rx ry q) hm
def Kb(t:TE):TT:=λσ H Q=>t σ H λx H'=>∃ k,x=.bl k/\Q k H'
theorem zi(ho:OpR X (compareOp op) r)(ha:PE X a ta)(hb:PE X b tb)(hm:behindInMarks op b=false):PT X (.Compare a [op] [b] pos) (Kb (tOp r ta tb)):=by
  intro pins s σ H Q I h;refine wpAny_isTrue_Compare1 (thn (ha pins s σ H _ I h) λv s1 ⟨x,H1,I1,r1,q1⟩=>thn (hb pins s1 σ H1 _ I1 q1) λu s2 ⟨y,H2,I2,r2,q2⟩ =>
    thn (ho pins s2 σ H2 x y v u _ I2 r1 r2 q2) λc s3 ⟨z,H3,I3,r3,k,e,q3⟩=>?_) hm
  subst e;cases r3
  exact ia ⟨H3,I3,q3⟩
theorem Dx:(sizeLine:Nat)<2 ^ 63:=by rw [im]; decide
variable {x:V}
theorem Cz(r:Vals [x] us):∃ u,us=[u]/\RelV x u:=by
  cases r with
  | cons r1 r2=>cases r2; exact ⟨_,rfl,r1⟩
theorem KY(r:Vals [x,y] us):∃ u w',us=[u,w']/\RelV x u/\RelV y w':=by
  cases r with
  | cons r1 r2 =>
    cases r2 with
    | cons r3 r4=>cases r4; exact ⟨_,_,rfl,r1,r3⟩
theorem F7:yS X (.builtin "abs") (λxs H Q=>∃ i,xs=[.int i]/\Q (.int (if i<0 then -i else i)) H):=by
  intro pins s σ H xs us Q I r h;obtain ⟨i,rfl,q⟩:=h;obtain ⟨u,rfl,t,rfl⟩:=Cz r;exact call_abs_int λu tk=>⟨.int (if i<0 then -i else i),H,I.tok _,⟨_,rfl⟩,q⟩
theorem D6:yS X (.type "int") (λxs H Q=>(∃ i,xs=[.int i]/\Q (.int i) H)\/∃ k,xs=[.bl k]/\Q (.int (if k then 1 else 0)) H):=by
  intro pins s σ H xs us Q I r h;rcases h with ⟨i,rfl,q⟩|⟨k,rfl,q⟩
  . obtain ⟨u,rfl,t,rfl⟩:=Cz r;exact call_int_int ⟨.int i,H,I,⟨_,rfl⟩,q⟩
  . obtain ⟨u,rfl,r1⟩:=Cz r;cases r1
    exact call_int_bool ⟨.int (if k then 1 else 0),H,I.tok _,⟨_,rfl⟩,q⟩
end
structure ObjM(h:Heap)(x dx C:Addr)(mA:Str->Option Value):Prop where
  obj:h.get? x=some (W.instObj C dx)
  ns:h.Ns1 dx mA
  ne:dx≠x
variable {dx:Addr}{mA:Str->Option Value}
theorem EA(n:h.Ns1 dx mA):∃ od,h.get? dx=some od/\∀ name,W.lookIn name od=some (mA name):=by
  obtain ⟨o,es,ep,ho,hd,hk,_,hm⟩:=n;refine ⟨o,ho,λname=>?_⟩;have e:=hm name;unfold nsFind findBy at e;rw [<-Array.find?_toList] at e;unfold W.lookIn;rw [hd];dsimp only;split
  . rename_i y q;rw [q] at e;exact congrArg some e
  . rename_i q;rw [q] at e;have a:es.toList.any (·.refKey)=false:=by
      rw [List.any_eq_false];intro y hy;obtain ⟨z,t,hkey⟩:=hk y (Array.mem_toList_iff.mp hy);simp [DictEntry.refKey,hkey]
    have a':¬ es.toList.any (·.refKey)=true:=by rw [a]; exact aT
    rw [h8 a'];exact congrArg some e
variable {C:Addr}
theorem ObjM.look(I:ObjM h x dx C mA):∃ od,PySem.W.InstAt h x (W.instObj C dx) C (some od)/\∀ name,W.lookIn name od=some (mA name) :=
  let ⟨od,ho,hl⟩:=EA I.ns
  ⟨od,⟨I.obj,rfl,rfl,ho⟩,hl⟩
variable {kw:List (Str×Value)}{pl:Sem Bool}
section
variable {prog:Program}{A:Around}{E:Value->Shared->Prop}{s:Shared}{K:iB}{dx C f:Addr}{mA:Str->Option Value}{name:Str}{v:Value}
theorem Ig{expr:Bool}(X:K.In s.heap)(I:ObjM s.heap x dx C mA)(hg:W.plainGet K C name=true)(hh:W.hasDictIn K C=true)(ha:W.findIn K (.ref C) name=some none)(hv:mA name=some v)(hv':W.handedIn v=true)(h:Q v { s with toks:=s.toks+1 }) :
    wpAny (model prog w) A (getAttr (.ref x) name expr) Q E s:=by
  obtain ⟨od,J,hl⟩:=I.look;exact W.get_value X J (eV hg).1 (W.findObj_own hh ha rfl (by rw [hl,hv])) hv' h
theorem FB{Q:Value×List Value->Shared->Prop}(X:K.In s.heap)(I:ObjM s.heap x dx C mA)(hg:W.plainGet K C name=true)(hf:W.findIn K (.ref C) name=some (some (.ref f)))(ht:W.isFn K (.ref f)=true)(hv:mA name=none)(h:Q (.ref f,[.ref x]) s) : wpAny (model prog w) A (getMethod (.ref x) name pl) Q E s:=by
  obtain ⟨od,J,hl⟩:=I.look;exact W.method_fn X J (eV hg).1 (eV hg).2 hf (beq_iff_eq.mp ht) (by show (W.lookIn name od).map (·.isSome)=some false; rw [hl,hv]; rfl) h
theorem Ix{ns:List Str}{Q:Unit->Shared->Prop}(X:K.In s.heap)(I:ObjM s.heap x dx C mA)(hs:W.findIn K (.ref C) "__setattr__"=some (some (.builtin "object.__setattr__")))(hp:W.plainOver K C=true)(ht:W.takerIn K C name=some none)(hh:W.hasDictIn K C=true)(hw:PySem.Within mA ns)(hsz:ns.length<=sizeLine)(h:∀ h',ObjM h' x dx C (λy=>if y=name then some v else mA y)->Heap.SameBut dx s.heap h'->Q () { s with heap:=h',toks:=s.toks+2 }) :
    wpAny (model prog w) A (setAttr (.ref x) name v) Q E s:=by
  obtain ⟨od,J,hl⟩:=I.look;refine W.set_plain X J hs (W.osa_open (s:={ s with toks:=s.toks+1 }) (r:=none) X J hp ht λb=>?_);obtain ⟨cd,hc,hd'⟩:=W.any_some hh;have hx:s.heap.get? x=some ⟨.ref C,some dx,.plain,#[]⟩:=I.obj;refine ig (ii (ig (ig (wpAny_loadPart hx (ig (PySem.W.Looks.here (s:={ s with toks:=s.toks+1 }) (W.looks_clsIn X hc) ?_))))));rw [hd'];refine ii (a:=some dx) (ig (ii (ig ?_)));refine wpAny_nsSet1 (s:={ s with toks:=s.toks+1 }) I.ns λh' hn2 hs2=>?_;obtain ⟨oD,esD,epD,hoD,hdD,hcD⟩:=hn2.count (PySem.Within.cons name v hw);refine ig (wpAny_lookBehind hoD (by rw [hdD]; exact pastItsLine_dict (bK hcD (by rw [ar]; omega))) ?_);exact ii (h _ ⟨(hs2.2 _ (ca I.ne)).trans I.obj,hn2,I.ne⟩ hs2)
theorem Gd{R:Result->Shared->Prop}{vs:List Value}(X:K.In s.heap)(hm:W.makesIn K C=true)(hi:W.findIn K (.ref C) "__init__"=some (some (.ref f)))(hf:W.typeIn K (.ref f)=some (.type "function"))(h:codeAny (model prog w) (A.under (.builtin "type.__call__" ⟨.ref C::vs,kw⟩)) (.call (.ref f) ⟨.ref (s.heap.objs.size+1)::vs,kw⟩) (PySem.W.InitBack (s.heap.objs.size+1) R)
      { s with heap:=(s.heap.push W.emptyDict).push (W.instObj C s.heap.objs.size) }) :
    codeAny (model prog w) A (.call (.ref C) ⟨vs,kw⟩) R s:=by
  obtain ⟨hh,g,d,t,os⟩:=s;exact W.make_core (W.makes_of X hm) (W.looks_findIn X hi) (λself=>W.bind_fn X self hf) (.inl rfl) h
end
def putF(f:Str)(v:V):List (Str×V)->List (Str×V)
  | []=>[(f,v)]
  | (g,x)::r=>if g=f then (g,v)::r else (g,x)::putF f v r
theorem vc(f g:Str)(v:V):∀ fs:List (Str×V),(putF f v fs).lookup g=if g=f then some v else fs.lookup g
  | []=>by
    show List.lookup g [(f,v)]=_;by_cases h:g=f
    . have hb:(g==f)=true:=beq_iff_eq.mpr h;simp only [List.lookup,hb,h7 h]
    . have hb:(g==f)=false:=beq_eq_false_iff_ne.mpr h;simp only [List.lookup,hb,h8 h]
  | (k,x)::r=>by
    have ih:=vc f g v r;rw [show putF f v ((k,x)::r)=(if k=f then (k,v)::r else (k,x)::putF f v r) from rfl];by_cases hk:k=f
    . rw [h7 hk];by_cases h:g=k
      . have hb:(g==k)=true:=beq_iff_eq.mpr h;simp only [List.lookup,hb,h7 (h.trans hk)]
      . have hb:(g==k)=false:=beq_eq_false_iff_ne.mpr h;simp only [List.lookup,hb,h8 (λe:g=f=>h (e.trans hk.symm))]
    . rw [h8 hk];by_cases h:g=k
      . have hb:(g==k)=true:=beq_iff_eq.mpr h;simp only [List.lookup,hb,h8 (λe:g=f=>hk (h.symm.trans e))]
      . have hb:(g==k)=false:=beq_eq_false_iff_ne.mpr h;simp only [List.lookup,hb];exact ih
theorem vj(f:Str)(v:V):∀ fs:List (Str×V),f∈(putF f v fs).map (·.1)/\∀ g,g∈fs.map (·.1)->g∈(putF f v fs).map (·.1)
  | []=>⟨by simp [putF],λg h=>by simp at h⟩
  | (k,x)::r=>by
    obtain ⟨i1,i2⟩:=vj f v r;rw [show putF f v ((k,x)::r)=(if k=f then (k,v)::r else (k,x)::putF f v r) from rfl];by_cases hk:k=f
    . rw [h7 hk];subst hk;exact ⟨by simp,λg h=>by simpa using h⟩
    . rw [h8 hk];refine ⟨?_,λg h=>?_⟩
      . rw [aU];exact ay _ i1
      . rw [aU] at h ⊢;rcases aK.mp h with e|e
        . exact aK.mpr (.inl e)
        . exact ay _ (i2 g e)
theorem xO(f:Str)(v:V):∀ fs:List (Str×V),(putF f v fs).length<=fs.length+1
  | []=>by simp [putF]
  | (k,x)::r=>by
    have ih:=xO f v r;rw [show putF f v ((k,x)::r)=(if k=f then (k,v)::r else (k,x)::putF f v r) from rfl];by_cases hk:k=f
    . rw [h7 hk,ar,ar]; omega
    . rw [h8 hk,ar,ar]; omega
theorem RelO.some_of{v:V}{o:Option Value}(r:RelO (some v) o):∃ u,o=some u/\RelV v u:=by
  cases o with
  | none=>exact (show False from r).elim
  | some u=>exact ⟨u,rfl,r⟩
theorem RelO.none_of{o:Option Value}(r:RelO none o):o=none:=by
  cases o with
  | none=>rfl
  | some u=>exact (show False from r).elim
theorem EG{v:V}{u:Value}(r:RelV v u):W.handedIn u=true:=by
  cases v with
  | non=>cases (show u=Value.none from r); rfl
  | bl b=>cases (show u=Value.bool b from r); rfl
  | int i=>obtain ⟨t,e⟩:=(show ∃ t,u=Value.int i t from r); cases e; rfl
  | str x=>obtain ⟨t,e⟩:=(show ∃ t,u=Value.str x t from r); cases e; rfl
  | byt b=>obtain ⟨t,e⟩:=(show ∃ t,u=Value.bytes b t from r); cases e; rfl
  | flt b=>obtain ⟨t,e⟩:=(show ∃ t,u=Value.float b t from r); cases e; rfl
  | ref a=>cases (show u=Value.ref a from r); rfl
  | ty n=>cases (show u=Value.type n from r); rfl
section
variable {C dx:Addr}{fs fs':List (Str×V)}
theorem uB(hok:HOk P w H h)(e:H a=some (.ins C dx fs)):∃ mA,ObjM h a dx C mA/\(∀ f,RelO (fs.lookup f) (mA f))/\PySem.Within mA (fs.map (·.1))/\fs.length<=1000/\H dx=some (.own a):=by
  obtain ⟨d,z,ne,ob,mA,n,r,q⟩:=(show ObjOk P w H h a (.ins C dx fs) from hok a _ e)
  exact ⟨mA,⟨ob,n,ne⟩,r,q,z,d⟩
end
structure Cls(K:iB)(C:Addr):Prop where
  pg:W.plainGet K C Str.empty=true
  hd:W.hasDictIn K C=true
  po:W.plainOver K C=true
  sa:W.findIn K (.ref C) "__setattr__"=some (some (.builtin "object.__setattr__"))
theorem Cls.get{K:iB}(c:Cls K C)(f:Str):W.plainGet K C f=true:=c.pg
def NoAttr(K:iB)(C:Addr)(f:Str):Prop:=W.findIn K (.ref C) f=some none
theorem NoAttr.taker{K:iB}{f:Str}(n:NoAttr K C f):W.takerIn K C f=some none:=by
  unfold W.takerIn;rw [show W.findIn K (.ref C) f=some none from n];rfl
structure Meth(K:iB)(C:Addr)(m:Str)(f:Addr):Prop where
  at_:W.findIn K (.ref C) m=some (some (.ref f))
  fn:W.isFn K (.ref f)=true
  kp:W.keepIn K (.ref f)=true
section
variable {pins:List (Addr×Obj)}{σ:St}{s:Shared}{C dx:Addr}{fs:List (Str×V)}{f:Str}{v:V}{A:Around}{E:Value->Shared->Prop}
theorem CL{b:Bool}(I:Inv X pins σ H s)(e:H a=some (.ins C dx fs))(c:Cls X.K C)(n:NoAttr X.K C f)(l:fs.lookup f=some v)(h:∀ u s',Inv X pins σ H s'->RelV v u->Q u s'):wpAny (model X.prog X.w) A (getAttr (.ref a) f b) Q E s:=by
  obtain ⟨mA,O,r,_,_,_⟩:=uB I.hok e;obtain ⟨u,hu,ru⟩:=RelO.some_of (v:=v) (o:=mA f) (by rw [<-l]; exact r f);exact Ig I.kIn O (c.get f) c.hd n hu (EG ru) (h u _ (I.tok _) ru)
theorem vT{m:Str}{g:Addr}{Q:Value×List Value->Shared->Prop}(I:Inv X pins σ H s)(e:H a=some (.ins C dx fs))(c:Cls X.K C)(k:Meth X.K C m g)(l:fs.lookup m=none)(h:Q (.ref g,[.ref a]) s):wpAny (model X.prog X.w) A (getMethod (.ref a) m pl) Q E s:=by
  obtain ⟨mA,O,r,_,_,_⟩:=uB I.hok e;have hn:mA m=none:=RelO.none_of (by rw [<-l]; exact r m);exact FB I.kIn O (c.get m) k.at_ k.fn hn h
theorem CD{u:Value}{Q:Unit->Shared->Prop}(I:Inv X pins σ H s)(e:H a=some (.ins C dx fs))(c:Cls X.K C)(n:NoAttr X.K C f)(hl:fs.length<1000)(ry:RelV y u)(h:∀ s',Inv X pins σ (upd H a (.ins C dx (putF f y fs))) s'->Q () s'):wpAny (model X.prog X.w) A (setAttr (.ref a) f u) Q E s:=by
  obtain ⟨mA,O,r,wi,_,ho⟩:=uB I.hok e;have hz:(fs.map (·.1)).length<=sizeLine:=by rw [aa,im]; omega
  refine Ix I.kIn O c.sa c.po n.taker c.hd wi hz λh' O' sb=>h _ ?_;have hd:∃ o,h'.get? dx=some o:=let ⟨o,_,_,e',_⟩:=O'.ns; ⟨o,e'⟩
  refine I.write (x:=a) (e:=dx) (by rw [e]; exact True.intro) (.inr ho) (λb q hb z=>(sb.2 b hb).trans z) hd ?_;refine ⟨by rw [zj O.ne]; exact ho,?_,O.ne,O'.obj,_,O'.ns,λg=>?_,λg hg=>?_⟩
  . have:=xO f y fs; omega
  . show RelO ((putF f y fs).lookup g) (if g=f then some u else mA g);rw [vc];by_cases q:g=f
    . rw [h7 q,h7 q]; exact ry
    . rw [h8 q,h8 q]; exact r g
  . by_cases q:g=f
    . rw [q]; exact (vj f y fs).1
    . refine (vj f y fs).2 g (wi g λz=>hg ?_);show (if g=f then some u else mA g)=none;rw [h8 q]; exact z
theorem Inv.made(I:Inv X pins σ H s):Inv X pins σ (upd (upd H s.heap.objs.size (.own (s.heap.objs.size+1))) (s.heap.objs.size+1) (.ins C s.heap.objs.size [])) { s with heap:=(s.heap.push W.emptyDict).push (W.instObj C s.heap.objs.size) }:=by
  have e1:(s.heap.push W.emptyDict).get? s.heap.objs.size=some W.emptyDict:=Heap.get?_push_size s.heap rfl;have e2:((s.heap.push W.emptyDict).push (W.instObj C s.heap.objs.size)).get? (s.heap.objs.size+1)=some (W.instObj C s.heap.objs.size):=by
    have:=Heap.get?_push_size (s.heap.push W.emptyDict) (o:=W.instObj C s.heap.objs.size) rfl
    rwa [Heap.size_push] at this
  have e3:(s.heap.push W.emptyDict).Ns s.heap.objs.size (λ_=>none):=⟨W.emptyDict,#[],_,e1,rfl,(λe he=>absurd he (by simp)),λ_=>rfl⟩
  have I1:=I.laid (a:=s.heap.objs.size) (o:=.own (s.heap.objs.size+1)) (h':=s.heap.push W.emptyDict) (t':=s.toks) (λb u q=>Heap.get?_push_of_some _ q) (ai _) ⟨_,e1⟩;refine I1.laid (a:=s.heap.objs.size+1) (o:=.ins C s.heap.objs.size []) (t':=s.toks) (λb u q=>Heap.get?_push_of_some _ q) (Nat.le_of_eq (Heap.size_push _ _)) ?_;have ne:s.heap.objs.size≠s.heap.objs.size+1:=az (dL _);refine ⟨by rw [zj ne,zf],bZ _,ne,e2,λ_=>none,(Heap.Ns1.of_empty e3).at λo q=>Heap.get?_push_of_some _ q,λ_=>True.intro,λy hy=>absurd rfl hy⟩
theorem Hm{prog:Program}{env:Env}{e:Expr}{s:Shared}(hb:attributeBase e f env (eval e env)=eval e env)(h:wpAny (model prog w) A (eval e env) (λo s₁=>wpAny (model prog w) A (getAttr o f true) Q E s₁) E s):wpAny (model prog w) A (eval (.Attribute e f pos) env) Q E s :=
  Attribute_any_ h (by rw [arm_eval_Attribute,hb])
end
def tFld(K:iB)(ta:TE)(f:Str):TE:=λσ H Q=>ta σ H λx H1=>∃ a C dx fs v,x=.ref a/\H1 a=some (.ins C dx fs)/\Cls K C/\NoAttr K C f/\fs.lookup f=some v/\Q v H1
def sFld(K:iB)(ta tv:TE)(f:Str):TS:=λD σ H=>tv σ H λy H1=>ta σ H1 λx H2=>∃ a C dx fs,x=.ref a/\H2 a=some (.ins C dx fs)/\Cls K C/\NoAttr K C f/\fs.length<1000 /\
  D.nx σ (upd H2 a (.ins C dx (putF f y fs)))
variable {o e value:Expr}{f:Str}{pos' tpos:Pos}{ta tv:TE}
theorem J6(he:PE X e ta)(hb:attributeBase e f X.env (eval e X.env)=eval e X.env):PE X (.Attribute e f pos) (tFld X.K ta f):=by
  intro pins s σ H Q I h;refine Hm hb (thn (he pins s σ H _ I h) λu s1 ⟨x,H1,I1,rx,a,C,dx,fs,v,ex,ea,c,n,l,q⟩=>?_);subst ex;obtain rfl:u=Value.ref a:=rx;exact CL I1 ea c n l λu' s2 I2 ru=>⟨v,H1,I2,ru,q⟩
theorem Af(ha:PE X o ta)(hv:PE X value tv)(hs:swapsWith value (some (.Attribute o f pos')) pos.line X.env=pure false):PS X (.Assign [.Attribute o f pos'] value pos) (sFld X.K ta tv f):=by
  intro pins s σ H D I h;refine plainObj_wpAny_Assign_Attribute (thn (hv pins s σ H _ I h) λu s1 ⟨y,H1,I1,ry,q⟩=>thn (ha pins s1 σ H1 _ I1 q) λov s2 ⟨x,H2,I2,rx,a,C,dx,fs,ex,ea,c,n,l,q2⟩=>?_) hs;subst ex;obtain rfl:ov=Value.ref a:=rx;exact CD I2 ea c n l ry λs3 I3=>⟨σ,_,I3,q2⟩
section
variable {pins:List (Addr×Obj)}{σ:St}{s:Shared}{A:Around}{E:Value->Shared->Prop}{Q:Value->Shared->Prop}{c:Value}{b:Bool}
inductive TyOf(K:iB)(H:Hp):V->Value->Prop where
  | non:TyOf K H .non (.type "NoneType")
  | bl (x:Bool):TyOf K H (.bl x) (.type "bool")
  | int (i:Int):TyOf K H (.int i) (.type "int")
  | str (x:Str):TyOf K H (.str x) (.type "str")
  | flt (x:UInt64):TyOf K H (.flt x) (.type "float")
  | lst {a:Addr} {xs:List V} (e:H a=some (.lst xs)):TyOf K H (.ref a) (.type "list")
  | frz {a:Addr} {o:Obj} {xs:List V} (e:H a=some (.frz o (.lst xs))):TyOf K H (.ref a) (.type "list")
  | tup {a:Addr} {xs:List V} (e:H a=some (.tup xs)):TyOf K H (.ref a) (.type "tuple")
  | dK {a:Addr} {kvs:List (Key×V)} (e:H a=some (.dK kvs)):TyOf K H (.ref a) (.type "dict")
  | dT {a:Addr} {kvs:List (List Key×V)} (e:H a=some (.dT kvs)):TyOf K H (.ref a) (.type "dict")
  | ins {a C dx:Addr} {fs:List (Str×V)} (e:H a=some (.ins C dx fs)) (cl:Cls K C) (ha:W.findIn K (.ref C) "__class__"=some (some (.builtin "object.__class__")))
      (hn:W.specialIn K (.builtin "object.__class__") "__get__"=some (some (.builtin "getset_descriptor.__get__"))) (htk:W.takesIn K (.builtin "object.__class__")=some true)
      (hm:W.mroIn K C (.type "object")=some true):TyOf K H (.ref a) (.ref C)
theorem DS{x:V}{u t:Value}(I:Inv X pins σ H s)(rx:RelV x u)(ty:TyOf X.K H x t)(e:W.kitOne X.K t c=some b)(h:∀ tk,Q (.bool b) { s with toks:=tk }) :
    wpAny (model X.prog X.w) A (call (.builtin "isinstance") [u,c]) Q E s:=by
  cases ty with
  | non=>cases (show u=Value.none from rx); exact cu W.kitx_none I.kIn True.intro e (λz=>nomatch z) h
  | bl y=>cases (show u=Value.bool y from rx); exact cu W.kitx_bool I.kIn True.intro e (λz=>nomatch z) h
  | int i=>obtain ⟨t,q⟩:=(show ∃ t,u=Value.int i t from rx); cases q; exact cu W.kitx_int I.kIn True.intro e (λz=>nomatch z) h
  | str y=>obtain ⟨t,q⟩:=(show ∃ t,u=Value.str y t from rx); cases q; exact cu W.kitx_str I.kIn True.intro e (λz=>nomatch z) h
  | flt y=>obtain ⟨t,q⟩:=(show ∃ t,u=Value.float y t from rx); cases q; exact cu W.kitx_float I.kIn True.intro e (λz=>nomatch z) h
  | @lst a xs ea =>
    cases (show u=Value.ref a from rx)
    obtain ⟨_,_,n,_,h1⟩:=(show ObjOk X.prog X.w H s.heap a (.lst xs) from I.hok a _ ea)
    exact cu W.kitx_list I.kIn ⟨_,h1,rfl⟩ e (λz=>nomatch z) h
  | @frz a ob xs ea =>
    cases (show u=Value.ref a from rx)
    obtain ⟨_,_,_,n,_,h1⟩:=(show ObjOk X.prog X.w H s.heap a (.frz ob (.lst xs)) from I.hok a _ ea)
    exact cu W.kitx_list I.kIn ⟨_,h1,rfl⟩ e (λz=>nomatch z) h
  | @tup a xs ea =>
    cases (show u=Value.ref a from rx)
    obtain ⟨_,_,_,p⟩:=(show ObjOk X.prog X.w H s.heap a (.tup xs) from I.hok a _ ea)
    obtain ⟨o,h1,h2,_⟩:=p;exact cu W.kitx_tuple I.kIn ⟨o,h1,h2⟩ e (λz=>nomatch z) h
  | @dK a kvs ea =>
    cases (show u=Value.ref a from rx)
    obtain ⟨_,_,vs,_,p⟩:=(show ObjOk X.prog X.w H s.heap a (.dK kvs) from I.hok a _ ea)
    obtain ⟨o,es,ep,h1,h2,_⟩:=p;exact cu W.kitx_dict I.kIn ⟨o,h1,h2.1⟩ e (λz=>nomatch z) h
  | @dT a kvs ea =>
    cases (show u=Value.ref a from rx)
    obtain ⟨_,_,xs,_,o,es,ep,h1,h2,_⟩:=(show ObjOk X.prog X.w H s.heap a (.dT kvs) from I.hok a _ ea)
    exact cu W.kitx_dict I.kIn ⟨o,h1,h2.1⟩ e (λz=>nomatch z) h
  | @ins a C dx fs ea cl ha hn htk hm =>
    cases (show u=Value.ref a from rx)
    obtain ⟨mA,O,_⟩:=uB I.hok ea;obtain ⟨od,J,_⟩:=O.look;exact cu (W.kitx_own (cl.get _) cl.hd ha hn htk hm) I.kIn J e (λz=>nomatch z) h
end
structure Room(k:Nat)(A:Around):Prop where
  hd:A.handled=none
  dp:A.depth+3*k+5<recursionLimit
  un:A.units+16*k+200<cLine
theorem Room.mono{j k:Nat}{A:Around}(r:Room k A)(h:j<=k):Room j A:=⟨r.hd,by have:=r.dp; omega,by have:=r.un; omega⟩
theorem Room.deeper{k:Nat}{A:Around}(r:Room (k+1) A)(env:Env):Room k (A.deeper env) :=
  ⟨r.hd,by have:=r.dp; show A.depth+1+3*k+5<_; omega,by have:=r.un; show A.units+3+16*k+200<_; omega⟩
theorem Cu{A:Around}:(A.under (.builtin "type.__call__" ⟨.ref C::us,kw⟩)).depth=A.depth+1:=by
  first | rfl | simp [Around.under,Code.weight,Code.isCreation,Code.isGuard,Code.isCaller,Code.frames,Code.isFrame,guardIds]
theorem CG{A:Around}:(A.under (.builtin "type.__call__" ⟨.ref C::us,kw⟩)).units=A.units+1:=by
  first | rfl | simp [Around.under,Code.cUnits,Code.frames,Code.isFrame]
theorem Room.make{k:Nat}{A:Around}(r:Room (k+1) A)(C:Addr)(us:List Value)(kw:List (Str×Value)):Room k (A.under (.builtin "type.__call__" ⟨.ref C::us,kw⟩)) :=
  ⟨r.hd,by have:=r.dp; rw [Cu]; omega,by have:=r.un; rw [CG]; omega⟩
theorem Room.depth{k:Nat}{A:Around}(r:Room k A):A.depth<recursionLimit:=by have:=r.dp; omega
theorem Room.units{k:Nat}{A:Around}(r:Room k A):A.units+64<cLine:=by have:=r.un; omega
def tNil:TA:=λ_ H Q=>Q [] H
def ti(ta:TE)(tr:TA):TA:=λσ H Q=>ta σ H λx H1=>tr σ H1 λxs H2=>Q (x::xs) H2
variable {es:List Expr}{te:TE}{t:TA}
theorem yz:PA X [] tNil:=λ_ _ _ _ H Q I h=>Calls.spliced_nil ⟨[],H,I,.nil,h⟩
theorem zu(ha:PE X e te)(hr:PA X es t)(hs:starEach (e::es) X.env=(false,eval e X.env)::starEach es X.env:=by rfl):PA X (e::es) (ti te t):=by
  intro pos pins s σ H Q I h;rw [hs];show wpAny _ _ (spliced ((false,eval e X.env)::backTo pos (starEach es X.env))) _ _ s;refine Calls.spliced_cons (thn (ha pins s σ H _ I h) λu s1 ⟨x,H1,I1,r1,q1⟩=>?_);exact thn (hr pos pins s1 σ H1 _ I1 q1) λus s2 ⟨xs,H2,I2,r2,q2⟩=>⟨x::xs,H2,I2,.cons r1 r2,q2⟩
def tTup(t:TA):TE:=λσ H Q=>t σ H λxs H1=>xs.length<=sizeLine/\∀ p,H1 p=none->Q (.ref p) (upd H1 p (.tup xs))
def tLst(t:TA):TE:=λσ H Q=>t σ H λxs H1=>xs.length<=sizeLine/\∀ p,H1 p=none->Q (.ref p) (upd H1 p (.lst xs))
theorem zo{x1}(h:PA X es t):PE X (.Tuple es x1 pos) (tTup t):=by
  intro pins s σ H Q I hq;refine wpAny_Tuple_spliced (thn (h pos pins s σ H _ I hq) λus s1 ⟨xs,H1,I1,r,z,q⟩=>⟨by rw [<-r.length]; exact z,?_⟩);have hf:H1 s1.heap.objs.size=none:=I1.hok.fresh (ai _);refine ⟨.ref s1.heap.objs.size,upd H1 s1.heap.objs.size (.tup xs),I1.laid (t':=s1.toks) (λb u e=>Heap.get?_push_of_some _ e) (ai _) ?_,rfl,q _ hf⟩;exact ⟨z,us,r,⟨_,Heap.get?_push_size _ rfl,rfl,_,rfl⟩⟩
theorem zH(h:PA X es t):PE X (.List es pos) (tLst t):=by
  intro pins s σ H Q I hq;refine wpAny_List_spliced (thn (h pos pins s σ H _ I hq) λus s1 ⟨xs,H1,I1,r,z,q⟩=>⟨by rw [<-r.length]; exact z,?_⟩);have hf:H1 s1.heap.objs.size=none:=I1.hok.fresh (ai _);refine ⟨.ref s1.heap.objs.size,upd H1 s1.heap.objs.size (.lst xs),I1.laid (t':=s1.toks) (λb u e=>Heap.get?_push_of_some _ e) (ai _) ?_,rfl,q _ hf⟩;exact ⟨z,us,0,r,Heap.get?_push_size _ rfl⟩
abbrev Sp:=List V->Hp->VK->XK->Prop
abbrev CXT:=List Env->Hp->Shared->XK->Value->Shared->Prop
structure Env0(P:Program)(w:World)(K:iB)(mg:Str->Option Value)(base:Heap)(A:Around)(outer:List Env)(s:Shared)(H:Hp):Prop where
  frames:A.frames=some outer
  mod:Mod K mg base
  bs:∀ b o,base.get? b=some o->s.heap.get? b=some o/\H b=none
  bsz:base.objs.size<=s.heap.objs.size
  funs:s.heap.FunFrames base outer
  frf:∀ b∈frs outer,H b=none
  hok:HOk P w H s.heap
  bare:AllBare s.gens
def CE(outer:List Env)(P:Program)(w:World)(H:Hp)(s:Shared)(Q:VK)(u:Value)(s':Shared):Prop :=
  ∃ v H',s'.os=s.os/\AllBare s'.gens/\Un (frs outer) [] H H' s.heap s'.heap/\HOk P w H' s'.heap/\RelV v u/\Q v H'
def CR(CX:CXT)(outer:List Env)(P:Program)(w:World)(H:Hp)(s:Shared)(Q:VK)(E:XK)(r:Result)(s':Shared):Prop :=
  match r with
  | .ok (.ret u)=>CE outer P w H s Q u s'
  | .ok _=>False
  | .error e=>CX outer H s E e s'
structure FnOk(P:Program)(w:World)(K:iB)(mg:Str->Option Value)(base:Heap)(CX:CXT)(k:Nat)(f:Addr)(fd:FuncData)(ps:List Str)(sp:Sp):Prop where
  len:∀ vs H Q E,sp vs H Q E->vs.length=ps.length
  run:∀ (A:Around) (outer:List Env) (s:Shared) (H:Hp) (args:Args) (us:List Value) (vs:List V) (Q:VK) (E:XK),Room k A->Env0 P w K mg base A outer s H->BindsTo s fd args (ps.zip us)->Vals vs us->sp vs H Q E ->
    codeAny (model P w) A (.call (.ref f) args) (CR CX outer P w H s Q E) s
variable {base:Heap}{outer:List Env}{mg:Str->Option Value}
theorem Env0.make{K:iB}{A:Around}{s:Shared}(e:Env0 P w K mg base A outer s H)(C:Addr)(us:List Value)(kw:List (Str×Value)) : Env0 P w K mg base (A.under (.builtin "type.__call__" ⟨.ref C::us,kw⟩)) outer s H:=⟨by first | exact e.frames | (simpa [Around.under,Code.envs,Code.isFrame,pushEnvs] using e.frames),e.mod,e.bs,e.bsz,e.funs,e.frf,e.hok,e.bare⟩
section
variable {pins:List (Addr×Obj)}{σ:St}{s s':Shared}
theorem Inv.env0(I:Inv X pins σ H s):Env0 X.prog X.w X.K X.mg X.base X.A X.stack s H :=
  ⟨I.ok.frames,I.ok.mod,I.bs,bK I.ok.bsz I.sz,I.stack,I.stkFree,I.hok,I.bare⟩
theorem Inv.after{Q:VK}{u:Value}(I:Inv X pins σ H s)(h:CE X.stack X.prog X.w H s Q u s'):EP X pins σ Q u s':=by
  obtain ⟨v,H',os,bare,un,hok,r,q⟩:=h;obtain ⟨hh,g,d,t,os'⟩:=s';obtain rfl:os'=s.os:=os;exact ⟨v,H',I.call (h':=hh) (g':=g) (d':=d) (t':=t) (ch:=[]) un hok bare (λb z=>absurd z (by simp)),r,q⟩
end
def HU(sp:Sp)(dvs:List V)(E:XK)(t:TA):TE:=λσ H Q=>t σ H λvs H1=>sp (vs++dvs) H1 Q E
def DQ(C:Addr)(m:Str)(sp:Sp)(dvs:List V)(E:XK)(ta:TE)(t:TA):TE:=λσ H Q=>ta σ H λx H1=>∃ a dx fs,x=.ref a/\H1 a=some (.ins C dx fs)/\fs.lookup m=none /\
  t σ H1 λvs H2=>sp (x::(vs++dvs)) H2 Q E
def Ie(C:Addr)(sp:Sp)(dvs:List V)(E:XK)(t:TA):TE:=λσ H Q=>t σ H λvs H1=>∀ x dx,H1 x=none->H1 dx=none->dx≠x ->
  sp (.ref x::(vs++dvs)) (upd (upd H1 dx (.own x)) x (.ins C dx [])) (λv H2=>v=.non/\Q (.ref x) H2) E
def Binds(K:iB)(fd:FuncData)(ps:List Str)(ds:List Value):Prop :=
  ∀ (s:Shared) (us:List Value),K.In s.heap->(us++ds).length=ps.length->BindsTo s fd ⟨us,[]⟩ (ps.zip (us++ds))
variable {ps:List Str}
theorem Binds.all{K:iB}{fd:FuncData}(h:∀ us:List Value,us.length=ps.length->bindArgs fd ⟨us,[]⟩=pure (ps.zip us)):Binds K fd ps []:=λs us _ hl=>by
  rw [dS] at hl ⊢;exact .of_eq (h us hl)
def xG(CX:CXT)(X:Cx)(E:XK):Prop:=∀ (pins:List (Addr×Obj)) (σ:St) (H:Hp) (s:Shared) (e:Value) (s':Shared),Inv X pins σ H s->CX X.stack H s E e s'->X.xe e s'
variable {vs:List V}
section
variable {CX:CXT}{k:Nat}{f C:Addr}{fd:FuncData}{ps:List Str}{sp:Sp}{dvs:List V}{ds:List Value}{E:XK}{x m:Str}{p apos:Pos}
theorem ER{σ:St}{s:Shared}{Q:VK}(F:FnOk X.prog X.w X.K X.mg X.base CX k f fd ps sp)(hr:Room k X.A)(hb:Binds X.K fd ps ds)(hd:Vals dvs ds)(hx:xG CX X E)(I:Inv X pins σ H s)(r:Vals vs us)(h:sp (vs++dvs) H Q E):wpAny (model X.prog X.w) X.A (call (.ref f) us) (EP X pins σ Q) X.xe s:=by
  have r2:Vals (vs++dvs) (us++ds):=r.append hd;have hl:(us++ds).length=ps.length:=by rw [<-r2.length]; exact F.len _ _ _ _ h
  refine wpAny_call (io (F.run X.A X.stack s H ⟨us,[]⟩ (us++ds) (vs++dvs) Q E hr I.env0 (hb s us I.kIn hl) r2 h) λr s' hq=>?_);cases r with
  | error e=>exact hx pins σ H s e s' I hq
  | ok fl =>
    cases fl with
    | ret u=>exact I.after hq
    | next=>exact False.elim hq
    | brk=>exact False.elim hq
    | cont=>exact False.elim hq
theorem HJ(F:FnOk X.prog X.w X.K X.mg X.base CX k f fd ps sp)(hr:Room k X.A)(hg:Gl X x)(hm:X.mg x=some (.ref f))(hk:W.keepIn X.K (.ref f)=true)(hb:Binds X.K fd ps ds)(hd:Vals dvs ds)(hx:xG CX X E)(ha:PA X (e::es) t)(hdb:(x==("__debug__":Str))=false:=by decide)(he:starEach (e::es) X.env=(false,eval e X.env)::starEach es X.env:=by rfl)(hpl:(backTo pos (starEach es X.env)).any (·.1)=false:=by rfl) :
    PE X (.Call (.Name x p) (e::es) [] pos) (HU sp dvs E t):=by
  intro pins s σ H Q I h;refine ip (AZ I hg hm ?_ hdb);refine fC (h₀:=X.base) I.ok.mod.kin hk (thn (ha pos pins s σ H _ I h) λus s1 ⟨vs,H1,I1,r,q⟩=>⟨I1.kIn,?_⟩) he hpl;exact ER F hr hb hd hx I1 r q
theorem Hl(he:PE X o ta)(c:Cls X.K C)(hm:Meth X.K C m f)(F:FnOk X.prog X.w X.K X.mg X.base CX k f fd ps sp)(hr:Room k X.A)(hb:Binds X.K fd ps ds)(hd:Vals dvs ds)(hx:xG CX X E)(ha:PA X (e::es) t)(hst:starEach (e::es) X.env=(false,eval e X.env)::starEach es X.env:=by rfl)(hpl:(backTo pos (starEach es X.env)).any (·.1)=false:=by rfl)(ht:eval (.Call (.Attribute o m apos) (e::es) [] pos) X.env=(do
      let ov <-eval o X.env
      standAt apos.atName
      let (f,first) <-holding [ov] (getMethod ov m pl)
      callWith pos f first (backTo pos (starEach (e::es) X.env)) (backToKw pos (keywordEach [] X.env))):=by rfl) :
    PE X (.Call (.Attribute o m apos) (e::es) [] pos) (DQ C m sp dvs E ta t):=by
  intro pins s σ H Q I h;refine gC (pl:=pl) (thn (he pins s σ H _ I h) λu s1 ⟨x,H1,I1,rx,a,dx,fs,ex,ea,l,q⟩=>?_) ht;subst ex;obtain rfl:u=Value.ref a:=rx;refine vT I1 ea c hm l ?_;refine fC (first:=[.ref a]) (h₀:=X.base) I.ok.mod.kin hm.kp (thn (ha pos pins s1 σ H1 _ I1 q) λus s2 ⟨vs,H2,I2,r,q2⟩=>⟨I2.kIn,?_⟩) hst hpl;exact ER (us:=.ref a::us) (vs:=.ref a::vs) F hr hb hd hx I2 (.cons rfl r) q2
theorem F3(he:PE X o ta)(c:Cls X.K C)(hm:Meth X.K C m f)(F:FnOk X.prog X.w X.K X.mg X.base CX k f fd ps sp)(hr:Room k X.A)(hb:Binds X.K fd ps ds)(hd:Vals dvs ds)(hx:xG CX X E)(ht:eval (.Call (.Attribute o m apos) [] [] pos) X.env=(do
      let ov <-eval o X.env
      standAt apos.atName
      let (f,first) <-holding [ov] (getMethod ov m pl)
      callWith pos f first (backTo pos (starEach [] X.env)) (backToKw pos (keywordEach [] X.env))):=by rfl) :
    PE X (.Call (.Attribute o m apos) [] [] pos) (DQ C m sp dvs E ta tNil):=by
  intro pins s σ H Q I h;refine gC (pl:=pl) (thn (he pins s σ H _ I h) λu s1 ⟨x,H1,I1,rx,a,dx,fs,ex,ea,l,q⟩=>?_) ht;subst ex;obtain rfl:u=Value.ref a:=rx;refine vT I1 ea c hm l ?_;exact W.callWith_K0 (first:=[.ref a]) I1.kIn hm.kp (ER (us:=[.ref a]) (vs:=[.ref a]) F hr hb hd hx I1 (.cons rfl .nil) q)
structure Mk(K:iB)(C f:Addr):Prop where
  makes:W.makesIn K C=true
  init:W.findIn K (.ref C) "__init__"=some (some (.ref f))
  fn:W.isFn K (.ref f)=true
  kp:W.keepIn K (.ref C)=true
theorem F2{σ:St}{s:Shared}{Q:VK}(M:Mk X.K C f)(F:FnOk X.prog X.w X.K X.mg X.base CX k f fd ps sp)(hr:Room (k+1) X.A)(hb:Binds X.K fd ps ds)(hd:Vals dvs ds)(hx:xG CX X E)(I:Inv X pins σ H s)(r:Vals vs us)(h:∀ x dx,H x=none->H dx=none->dx≠x->sp (.ref x::(vs++dvs)) (upd (upd H dx (.own x)) x (.ins C dx [])) (λv H2=>v=.non/\Q (.ref x) H2) E) : wpAny (model X.prog X.w) X.A (call (.ref C) us) (EP X pins σ Q) X.xe s:=by
  have hq:=h (s.heap.objs.size+1) s.heap.objs.size (I.hok.fresh (d9 _)) (I.hok.fresh (ai _)) (az (dL _));have I2:=Inv.made (C:=C) I;have r2:Vals (V.ref (s.heap.objs.size+1)::(vs++dvs)) (Value.ref (s.heap.objs.size+1)::(us++ds)):=.cons rfl (r.append hd);have hl:(Value.ref (s.heap.objs.size+1)::us++ds).length=ps.length:=by
    have e:=r2.length;rw [F.len _ _ _ _ hq] at e;exact e.symm
  refine wpAny_call (Gd (f:=f) I.kIn M.makes M.init (beq_iff_eq.mp M.fn) (io (F.run _ X.stack _ _ ⟨Value.ref (s.heap.objs.size+1)::us,[]⟩ (Value.ref (s.heap.objs.size+1)::(us++ds)) _ _ E (hr.make C us [])
    (I2.env0.make C us []) (hb _ (Value.ref (s.heap.objs.size+1)::us) I2.kIn hl) r2 hq) λr s' hq'=>?_))
  cases r with
  | error e=>exact hx pins σ _ _ e s' I2 hq'
  | ok fl =>
    cases fl with
    | ret u =>
      obtain ⟨v,H',I3,rv,ev,q3⟩:=I2.after hq';subst ev;exact ⟨rv,⟨V.ref (s.heap.objs.size+1),H',I3,rfl,q3⟩⟩
    | next=>exact False.elim hq'
    | brk=>exact False.elim hq'
    | cont=>exact False.elim hq'
theorem GY(M:Mk X.K C f)(F:FnOk X.prog X.w X.K X.mg X.base CX k f fd ps sp)(hr:Room (k+1) X.A)(hg:Gl X x)(hm:X.mg x=some (.ref C))(hb:Binds X.K fd ps ds)(hd:Vals dvs ds)(hx:xG CX X E)(ha:PA X (e::es) t)(hdb:(x==("__debug__":Str))=false:=by decide)(he:starEach (e::es) X.env=(false,eval e X.env)::starEach es X.env:=by rfl)(hpl:(backTo pos (starEach es X.env)).any (·.1)=false:=by rfl) :
    PE X (.Call (.Name x p) (e::es) [] pos) (Ie C sp dvs E t):=by
  intro pins s σ H Q I h;refine ip (AZ I hg hm ?_ hdb);refine fC (h₀:=X.base) I.ok.mod.kin M.kp (thn (ha pos pins s σ H _ I h) λus s1 ⟨vs,H1,I1,r,q⟩=>⟨I1.kIn,?_⟩) he hpl;exact F2 M F hr hb hd hx I1 r q
end
section
variable {CX:CXT}{k:Nat}{f C:Addr}{fd:FuncData}{ps ks:List Str}{sp:Sp}{E:XK}{x m:Str}{p apos kpos:Pos}{kws:List Keyword}{tk:TA}{nm:Option Str}
variable {g:List Value->List Value->List Value}{gV:List V->List V->List V}
end
structure FnScope(N P:List Str)(sc:Scope):Prop where
  kind:sc.kind=.function
  co:sc.isCoroutine=false
  gen:sc.isGenerator=false
  nd:N.Nodup
  pre:N.take P.length=P
  par:∀ x∈P,sc.names.lookup x=some .local\/sc.names.lookup x=some .cell
  nofree:∀ y∈sc.names,y.2≠.free
theorem uZ{kindOf:Str->Option NameKind}{x:Str}:∀ {binds:List (Str×Value)} {m:Str->Option Value},(∀ v,(x,v)∉binds)->bindL kindOf binds m x=m x
  | [],_,_=>rfl
  | (n,v)::r,m,h=>by
    unfold bindL;rw [uZ λw hw=>h w (ay _ hw)];split
    . have:x≠n:=by rintro rfl; exact h v aB
      simp [this]
    . rfl
theorem tX{kindOf:Str->Option NameKind}{x:Str}:∀ {binds:List (Str×Value)} {m:Str->Option Value},(∀ v,(x,v)∉binds)->bindC kindOf binds m x=m x
  | [],_,_=>rfl
  | (n,v)::r,m,h=>by
    unfold bindC;rw [tX λw hw=>h w (ay _ hw)];split
    . rfl
    . have:x≠n:=by rintro rfl; exact h v aB
      simp [this]
theorem t6{kindOf:Str->Option NameKind}{x:Str}{v:Value}:∀ {P:List Str} {vs:List Value} {i:Nat} {m:Str->Option Value},P.Nodup->P[i]?=some x->vs[i]?=some v->kindOf x=some .local -> bindL kindOf (P.zip vs) m x=some v
  | [],_,_,_,_,h,_,_=>by simp at h
  | _::_,[],_,_,_,_,h,_=>by simp at h
  | p::P,w::vs,0,m,nd,h1,h2,hk=>by
    simp at h1 h2; subst h1; subst h2;show bindL kindOf ((p,w)::P.zip vs) m p=_;unfold bindL;rw [uZ λv hv=>(df.mp nd).1 (gD hv).1,h7 hk];simp
  | p::P,w::vs,i+1,m,nd,h1,h2,hk=>by
    show bindL kindOf ((p,w)::P.zip vs) m x=_;unfold bindL;exact t6 (i:=i) (df.mp nd).2 (by simpa using h1) (by simpa using h2) hk
theorem tZ{kindOf:Str->Option NameKind}{x:Str}{v:Value}:∀ {P:List Str} {vs:List Value} {i:Nat} {m:Str->Option Value},P.Nodup->P[i]?=some x->vs[i]?=some v->kindOf x≠some .local -> bindC kindOf (P.zip vs) m x=some v
  | [],_,_,_,_,h,_,_=>by simp at h
  | _::_,[],_,_,_,_,h,_=>by simp at h
  | p::P,w::vs,0,m,nd,h1,h2,hk=>by
    simp at h1 h2; subst h1; subst h2;show bindC kindOf ((p,w)::P.zip vs) m p=_;unfold bindC;rw [tX λv hv=>(df.mp nd).1 (gD hv).1,h8 hk];simp
  | p::P,w::vs,i+1,m,nd,h1,h2,hk=>by
    show bindC kindOf ((p,w)::P.zip vs) m x=_;unfold bindC;exact tZ (i:=i) (df.mp nd).2 (by simpa using h1) (by simpa using h2) hk
def start(N:List Str)(vs:List V):St:=vs.map some++List.replicate (N.length - vs.length) none
def cxOf(CX:CXT)(P:Program)(w:World)(K:iB)(mg:Str->Option Value)(base:Heap)(N:List Str)(qual:Str)(scope:Scope)(f:Addr)(cd:Value)(A:Around)(outer:List Env)(s:Shared)(H:Hp)(E:XK):Cx where
  prog:=P
  w:=w
  K:=K
  mg:=mg
  base:=base
  A:=A.deeper (envOfC qual scope s.heap.objs.size f cd)
  N:=N
  s₀:=s
  H₀:=H
  env:=envOfC qual scope s.heap.objs.size f cd
  outer:=outer
  stack:=envOfC qual scope s.heap.objs.size f cd::outer
  ex:=[]
  calm:=true
  fn:=λ_=>true
  pn:=[]
  xe:=λe s'=>wpAny (model P w) (A.deeper (envOfC qual scope s.heap.objs.size f cd)) (leaving (envOfC qual scope s.heap.objs.size f cd) e) (λ_ s''=>CX outer H s E e s'') (λe' s''=>CX outer H s E e' s'') s'
theorem BL{sc:Scope}{n:Nat}{x:Str}(h:sc.names.lookup x=some .cell):∃ c,(cellsFrom n sc.names []).lookup x=some c:=by
  have q:=gA sc.names n [] (.inl h);exact fS.mp q
variable {CX:CXT}{scope:Scope}{qual:Str}
theorem CQ{K:iB}{N:List Str}{f:Addr}{cd:Value}{A:Around}{s s1:Shared}{E:XK}(S:FnScope N ps scope)(hd:A.handled=none)(e0:Env0 P w K mg base A outer s H)(hl:vs.length=ps.length)(r:Vals vs us)(x:InCallC s s.heap.objs.size (bindL (envOfC qual scope s.heap.objs.size f cd).kindOf (ps.zip us) λ_=>none) (cellsFrom (s.heap.objs.size+1) scope.names []) (bindC (envOfC qual scope s.heap.objs.size f cd).kindOf (ps.zip us) λ_=>none) s1) : Inv (cxOf CX P w K mg base N qual scope f cd A outer s H E) [] (start N vs) H s1:=by
  have hpl:ps.length<=N.length:=by have:=congrArg List.length S.pre; rw [aJ] at this; omega
  obtain ⟨h1,tk,rfl,hk⟩:=x.done;have noA:∀ b:Addr,b∉(cxOf CX P w K mg base N qual scope f cd A outer s H E).ex:=λb z=>absurd (show b∈([]:List Addr) from z) (by simp);refine ⟨⟨e0.mod,S.kind,rfl,rfl,ai _,λy z c h1 h2=>?_,λy hy=>?_,λy c _ h=>?_,λ_=>hd,Around.frames_deeper e0.frames,.inr ⟨rfl,rfl⟩,λb z=>absurd z (noA b),e0.bs,e0.bsz,λb _ _=>noA b,λb z=>absurd z (noA b),e0.funs,e0.frf⟩,
    rfl,e0.bare,Un.kept hk,⟨_,x.toInCall.ns,λi y v h1 h2 h3=>?_⟩,λy c h=>⟨_,x.cell y c h⟩,e0.hok.fresh (ai _),λy c h=>?_,λp hp=>absurd (show p∈([]:List (Addr×Obj)) from hp) (by simp),e0.hok.kept hk,?_⟩
  . exact name_of_addr x.apart (cY h1) (cY h2)
  . have hy:scope.names.lookup y=some .cell\/scope.names.lookup y=some .free:=hy;rcases hy with hy|hy
    . exact BL hy
    . exact absurd rfl (S.nofree _ (cY hy))
  . exact bn (x.above y c (cY h))
  . have hi:i<vs.length:=by
      unfold start at h2;by_cases hi:i<vs.length
      . exact hi
      . rw [aG (by simpa using hi)] at h2;rw [f9] at h2;split at h2 <;> cases h2
    have ha:vs[i]?=some v:=by
      unfold start at h2;rw [aM (by simpa using hi),ag] at h2;cases e:vs[i]? with
      | none=>rw [e] at h2; cases h2
      | some a=>rw [e] at h2; cases h2; rfl
    obtain ⟨u,hu,rv⟩:=r.get ha;have hp:ps[i]?=some y:=by
      rw [<-S.pre,dg (by omega)]; exact h1
    have ndP:ps.Nodup:=by rw [<-S.pre]; exact S.nd.sublist (List.take_sublist _ _)
    refine ⟨u,rv,?_⟩;rcases S.par y (aq hp) with k|k
    . exact .inl ⟨k,t6 ndP hp hu k⟩
    . obtain ⟨c,e⟩:=BL (n:=s.heap.objs.size+1) k;refine .inr ⟨.inl k,c,e,?_⟩;have q:=x.cell y c e;rw [tZ ndP hp hu (by show scope.names.lookup y≠_; rw [k]; decide)] at q;exact q
  . exact e0.hok.fresh (bn (x.above y c (cY h)))
  . unfold start;show _=N.length;rw [ah,aa,gE];omega
theorem IF{K:iB}{k:Nat}{f:Addr}{name:Str}{params:Arguments}{dV kV doc pm cdv ct oc:Value}{an od:Option Addr}{osl:Array (Option Value)}{N:List Str}{sp:Sp}(lk:K.lookup f=some ⟨oc,od,.func (W.fnOf name qual params body scope dV kV doc pm an cdv ct),osl⟩)(hcd:W.codeIn K cdv qual=true)(S:FnScope N ps scope)(len:∀ vs H Q E,sp vs H Q E->vs.length=ps.length)(hbody:∀ (A:Around) (outer:List Env) (s:Shared) (H:Hp) (vs:List V) (Q:VK) (E:XK),Room k (A.deeper (envOfC qual scope s.heap.objs.size f cdv))->sp vs H Q E ->
      ∃ t,PSs (cxOf CX P w K mg base N qual scope f cdv A outer s H E) body t/\t { nx:=λ_ H'=>Q .non H',rt:=Q } (start N vs) H) :
    FnOk P w K mg base CX (k+1) f (W.fnOf name qual params body scope dV kV doc pm an cdv ct) ps sp:=by
  refine ⟨len,λA outer s H args us vs Q E hr e0 hb r hsp=>?_⟩;have hl:=len _ _ _ _ hsp;have KX:K.In s.heap:=e0.mod.kin.keeps λb o e=>(e0.bs b o e).1;have lim:s.heap.NoLimit:=e0.mod.nolimit.keeps λb o e=>(e0.bs b o e).1;have hkind:∀ y∈ps.zip us,scope.names.lookup y.1=some .local\/(scope.names.lookup y.1=some .cell/\((cellsFrom (s.heap.objs.size+1) scope.names []).lookup y.1).isSome=true):=λ⟨n,v⟩ hy=>by
    rcases S.par n (gD hy).1 with q|q
    . exact .inl q
    . exact .inr ⟨q,gA _ _ _ (.inl q)⟩
  refine codeAny_call_function hr.depth (KX _ _ lk) rfl S.co S.gen rfl (W.codeRec_of KX hcd) (hb _ _ _ _ ?_);refine wpAny_newFunctionEnv_cells S.kind hkind λenv he s1 x=>?_;subst he;refine ⟨lim.keeps x.toInCall.keep,codeAny_func ?_⟩;obtain ⟨t,ht,hq⟩:=hbody A outer s H vs Q E (hr.deeper _) hsp;have I:Inv (cxOf CX P w K mg base N qual scope f cdv A outer s H E) [] (start N vs) H s1:=CQ S hr.hd e0 hl r x;refine h9 (ht [] s1 (start N vs) H _ I hq) (λfl s' hs=>?_) λe s' hs=>hs;have fin:∀ {σ':St} {H':Hp} {v:V} {u:Value},Inv (cxOf CX P w K mg base N qual scope f cdv A outer s H E) [] σ' H' s'->RelV v u->Q v H'->CE outer P w H s Q u s' :=
    λ{σ' H' v u} J rv q=>⟨v,H',J.os,J.bare,J.base,J.hok,rv,q⟩
  cases fl with
  | ret u =>
    obtain ⟨v,σ',H',J,rv,q⟩:=hs;exact fin J rv q
  | next =>
    obtain ⟨σ',H',J,q⟩:=hs;exact fin (v:=V.non) (u:=Value.none) J rfl q
  | brk =>
    obtain ⟨_,_,_,q⟩:=hs;exact False.elim q
  | cont =>
    obtain ⟨_,_,_,q⟩:=hs;exact False.elim q
section
variable {x:Str}{p:Pos}{id T:String}{r:List V->Hp->VK->Prop}
def tCB(r:List V->Hp->VK->Prop)(t:TA):TE:=λσ H Q=>t σ H λvs H1=>r vs H1 Q
theorem zn(hc:yS X (.builtin id) r)(hg:Gl X x)(hm:X.mg x=none)(hv:bootBuiltins x=some (.builtin id))(ha:PA X (e::es) t)(hn:x≠"__name__":=by decide)(hdb:(x==("__debug__":Str))=false:=by decide)(he:starEach (e::es) X.env=(false,eval e X.env)::starEach es X.env:=by rfl)(hpl:(backTo pos (starEach es X.env)).any (·.1)=false:=by rfl):PE X (.Call (.Name x p) (e::es) [] pos) (tCB r t):=by
  intro pins s σ H Q I h;refine ip (xZ I hg hm hv ?_ hn hdb);exact PyProof.Rows.callWith_builtin1 (thn (ha pos pins s σ H _ I h) λus s1 ⟨vs,H1,I1,r1,q1⟩=>hc pins s1 σ H1 vs us Q I1 r1 q1) he hpl
theorem z9(hc:yS X (.type T) r)(hg:Gl X x)(hm:X.mg x=none)(hv:bootBuiltins x=some (.type T))(ha:PA X (e::es) t)(hn:x≠"__name__":=by decide)(hdb:(x==("__debug__":Str))=false:=by decide)(he:starEach (e::es) X.env=(false,eval e X.env)::starEach es X.env:=by rfl)(hpl:(backTo pos (starEach es X.env)).any (·.1)=false:=by rfl):PE X (.Call (.Name x p) (e::es) [] pos) (tCB r t):=by
  intro pins s σ H Q I h;refine ip (xZ I hg hm hv ?_ hn hdb);exact bP (thn (ha pos pins s σ H _ I h) λus s1 ⟨vs,H1,I1,r1,q1⟩=>hc pins s1 σ H1 vs us Q I1 r1 q1) he hpl
end
end L2
namespace HT
open PySem PyProof.Rows
open PySem.SeqAt
open PySem.AutoSeq1 (wpAny_loadPart')
open PySem.MeetsSeq PySem.MeetsSeq2 PySem.MeetsSeq3
variable {sl t:Addr}{hi lo:Option Int}{vl vu:Value}{Q:Value->Shared->Prop}
section
variable {prog:Program}{w:World}{A:Around}{E:Value->Shared->Prop}{s:Shared}
theorem cat_tup{b:Addr}{vs ws:List Value}(ht:IsTup s.heap t vs.toArray)(hb:IsTup s.heap b ws.toArray)(hv:vs≠[])(h1:ws=[]->Q (.ref t) s)(h2:ws≠[]->Q (.ref s.heap.objs.size) { s with heap:=s.heap.push { cls:=.type "tuple",data:=.seq (vs++ws).toArray } })(hsz:vs.length+ws.length<=sizeLine):wpAny (model prog w) A (binaryOp .Add (.ref t) (.ref b)) Q E s:=by
  obtain ⟨⟨cls,dd,data,sl⟩,ho,hc,n,hd⟩:=id ht;obtain ⟨⟨cls2,dd2,data2,sl2⟩,ho2,hc2,n2,hd2⟩:=id hb;simp only at hc hd hc2 hd2;subst hc hd hc2 hd2;have e:vs.toArray++ws.toArray=(vs++ws).toArray:=by simp
  by_cases hw:ws=[]
  . exact concat_meets ⟨_,ho,rfl⟩ ⟨_,ho2,rfl⟩ noFill_tuple_add seq_tuple_add gB gc (fU _ _)
      (tuple_addW1 t b vs.toArray ws.toArray n n2 dd dd2 sl sl2 (by simpa using hv) (by simp [hw])) ⟨ho,ho2,h1 hw⟩
  . refine concat_meets ⟨_,ho,rfl⟩ ⟨_,ho2,rfl⟩ noFill_tuple_add seq_tuple_add gB gc (fU _ _)
      (tuple_addW2 t b vs.toArray ws.toArray n n2 dd dd2 sl sl2 (by simpa using hv) (by simpa using hw) (by rw [aI,aI]; exact hsz)) ⟨ho,ho2,?_⟩
    rw [e];exact h2 hw
def sIx(n d:Nat):Option Int->Nat
  | none=>d
  | some v=>if v<0 then (v+(n:Int)).toNat else min v.toNat n
theorem sIx_none(n d:Nat):sIx n d none=d:=rfl
theorem sIx_nat(n d k:Nat):sIx n d (some (k:Int))=min k n:=by
  show (if (k:Int)<0 then ((k:Int)+(n:Int)).toNat else min (k:Int).toNat n)=min k n;rw [h8 (by omega),fV]
theorem Jx(n d:Nat)(hd:d<=n)(o:Option Int):sIx n d o<=n:=by
  cases o with
  | none=>exact hd
  | some v =>
    show (if v<0 then (v+(n:Int)).toNat else min v.toNat n)<=n;by_cases hv:v<0
    . rw [h7 hv]; omega
    . rw [h8 hv]; exact Nat.min_le_right _ _
theorem CS(v:Int)(n d:Nat):(if v<0 then max (v+(n:Int)) 0 else min v (n:Int))=((sIx n d (some v):Nat):Int):=by
  show (if v<0 then max (v+(n:Int)) 0 else min v (n:Int))=(((if v<0 then (v+(n:Int)).toNat else min v.toNat n):Nat):Int)
  by_cases hv:v<0
  . simp only [h7 hv]; omega
  . simp only [h8 hv]; omega
theorem CK(lo hi:Option Int)(n:Nat):Builtin.Slice.sliceAdjust lo hi 1 (n:Int)=(((sIx n 0 lo:Nat):Int),((sIx n n hi:Nat):Int)):=by
  have h1:¬ ((1:Int)<0):=by omega
  unfold Builtin.Slice.sliceAdjust;simp only [h1,if_false];refine Prod.ext ?_ ?_
  . cases lo with
    | none=>rfl
    | some v=>exact CS v n 0
  . cases hi with
    | none=>rfl
    | some v=>exact CS v n n
theorem CA(i j:Nat):Builtin.Slice.slicePlaces (i:Int) (j:Int) 1=j - i:=by
  unfold Builtin.Slice.slicePlaces;have h1:(1:Int) > 0:=by omega
  simp only [h1,if_true,Int.ediv_one];split <;> omega
theorem vS{v:Value}{o:Option Int}{Q:Option Int->Shared->Prop}(p:IsPart v o)(h:Q o s):wpAny (model prog w) A (Builtin.Slice.slicePartIndex v) Q E s:=by
  cases p with
  | none=>exact slicePart_none h
  | int i t=>exact slicePart_int h
theorem wN{n:Nat}{Q:Int×Int×Nat->Shared->Prop}(hs:s.heap.IsSliceOf sl vl vu .none)(pl:IsPart vl lo)(pu:IsPart vu hi)(h:Q (((sIx n 0 lo:Nat):Int),1,sIx n n hi - sIx n 0 lo) s):wpAny (model prog w) A (Builtin.Slice.sliceApplied (.ref sl) (pure (n:Int))) Q E s:=by
  obtain ⟨os,hos,hcs,hds⟩:=id hs;unfold Builtin.Slice.sliceApplied Builtin.Slice.sliceFields;refine ig (ig (wpAny_field hos hds (x:=vl) rfl (ig (wpAny_field hos hds (x:=vu) rfl (ig (wpAny_field hos hds (x:=.none) rfl (ii ?_)))))));refine ig (slicePart_none ?_);show wpAny _ _ (if ((1:Int)==0)=true then _ else _) _ _ s;rw [h8 (by decide)];refine ig (vS pl (ig (vS pu (ig (ii ?_)))));show wpAny _ _ (match Builtin.Slice.sliceAdjust lo hi 1 (n:Int) with | (lo,hi)=>pure (lo,(1:Int),Builtin.Slice.slicePlaces lo hi 1)) _ _ s;rw [CK lo hi n];show wpAny _ _ (pure (((sIx n 0 lo:Nat):Int),(1:Int),Builtin.Slice.slicePlaces ((sIx n 0 lo:Nat):Int) ((sIx n n hi:Nat):Int) 1)) _ _ s;rw [CA];exact ii h
theorem FG(xs:Array Value)(i k:Nat):((List.range k).filterMap λ(m:Nat)=>xs[((i:Int)+(m:Int)*1).toNat]?).toArray=((xs.toList.drop i).take k).toArray:=by
  have e:(λ(m:Nat)=>xs[((i:Int)+(m:Int)*1).toNat]?)=λm=>xs[i+m]?:=by
    funext m;have:((i:Int)+(m:Int)*1).toNat=i+m:=by omega
    rw [this]
  rw [e];have:=pick_run xs i k;rw [fD] at this;have e2:((λx=>xs[x]?) ∘ λx=>i+x)=λm=>xs[i+m]?:=rfl;rw [e2] at this;rw [this]
theorem getItem_tuple_cut{items:Array Value}(ht:IsTup s.heap t items)(hs:s.heap.IsSliceOf sl vl vu .none)(pl:IsPart vl lo)(pu:IsPart vu hi)(hw:¬ (sIx items.size 0 lo=0/\sIx items.size items.size hi=items.size))(h:Q (.ref s.heap.objs.size) { s with heap:=s.heap.push { cls:=.type "tuple",data:=.seq ((items.toList.drop (sIx items.size 0 lo)).take (sIx items.size items.size hi - sIx items.size 0 lo)).toArray } })(hsz:items.size<=sizeLine):wpAny (model prog w) A (getItem (.ref t) (.ref sl)) Q E s:=by
  have htake:sizeOk (.seq ((items.toList.drop (sIx items.size 0 lo)).take (sIx items.size items.size hi - sIx items.size 0 lo)).toArray):=by
    show ((items.toList.drop (sIx items.size 0 lo)).take (sIx items.size items.size hi - sIx items.size 0 lo)).toArray.size<=sizeLine;rw [aI,aJ,c8,cX];omega
  have hj:sIx items.size items.size hi<=items.size:=Jx _ _ (ai _) hi;obtain ⟨os,hos,hcs,hds⟩:=id hs;have hTs:s.TypeIs (.ref sl) "slice":=⟨os,hos,hcs⟩
  unfold getItem;try with_reducible refine iq ?_
  first | refine ig (ii ?_) | skip
  refine ig (wpAny_sequenceKey ht.typeIs (by decide) ?_);refine ig (wpAny_callSpecial?_slot (name:=Str.ofString "__getitem__") ht.typeIs dh
    (wpAny_call_entry dh ht.typeIs entry_tuple_getitem ?_ (args_tuple_getitem _ _)))
  show wpAny _ _ (Builtin.Tuple.tupleItemsOf (.ref t) >>= _) _ _ s;refine ig (tupleItemsOf_ ht ?_);refine ig (ir hTs ?_);rw [h7 (by decide)];refine ig (wN hs pl pu ?_);have hno:¬ ((((sIx items.size 0 lo:Nat):Int)==0 && (1:Int)==1 && (sIx items.size items.size hi - sIx items.size 0 lo)==items.size)=true):=by
    intro q;rw [cT,cT] at q;have q1:((sIx items.size 0 lo:Nat):Int)=0:=eq_of_beq q.1.1;have q2:sIx items.size items.size hi - sIx items.size 0 lo=items.size:=eq_of_beq q.2;exact hw ⟨by omega,by omega⟩
  show wpAny _ _ (if (((sIx items.size 0 lo:Nat):Int)==0 && (1:Int)==1 && (sIx items.size items.size hi - sIx items.size 0 lo)==items.size)=true then _ else _) _ _ s;rw [h8 hno,FG];first
    | exact ig (m:=Builtin.Tuple.tupleExact _) (ij (ii ⟨_,rfl,ii h⟩) htake)
    | exact ig (m:=Builtin.Tuple.tupleExact _) (ij (ig (ii (ii ⟨_,rfl,ii h⟩))) htake)
    | exact ig (ig (m:=Builtin.Tuple.tupleExact _) (ij (ii (ii ⟨_,rfl,ii h⟩)) htake))
    | exact ig (ig (m:=Builtin.Tuple.tupleExact _) (ij (ii ⟨_,rfl,ii h⟩) htake))
end
end HT
namespace L2
open PySem PySem.Spec PyProof.Rows
abbrev TO:=St->Hp->(Option Int->Hp->Prop)->Prop
def PO(X:Cx)(e:Option Expr)(t:TO):Prop :=
  ∀ (pins:List (Addr×Obj)) (s:Shared) (σ:St) (H:Hp) (Q:Option Int->Hp->Prop),Inv X pins σ H s->t σ H Q ->
    wpAny (model X.prog X.w) X.A (evalPart e X.env) (λu s'=>∃ o H',Inv X pins σ H' s'/\IsPart u o/\Q o H') X.xe s
def EK:TO:=λ_ H Q=>Q none H
def Kw(t:TE):TO:=λσ H Q=>t σ H λx H1=>∃ i,x=.int i/\Q (some i) H1
variable {X:Cx}{e:Expr}{te:TE}{lo hi:Option Expr}{tl th:TO}{pos p2:Pos}
theorem va:PO X none EK:=by
  intro pins s σ H Q I h;rw [evalPart_none];exact ii ⟨none,H,I,.none,h⟩
theorem xJ(h:PE X e te):PO X (some e) (Kw te):=by
  intro pins s σ H Q I hw;rw [evalPart_some];refine thn (h pins s σ H _ I hw) λu s1 ⟨x,H1,I1,r1,q1⟩=>?_;obtain ⟨i,rfl,q⟩:=q1;obtain ⟨t,rfl⟩:=r1;exact ⟨some i,H1,I1,.int i t,q⟩
def SlR(X:Cx)(r:V->Option Int->Option Int->Hp->VK->Prop):Prop :=
  ∀ (pins:List (Addr×Obj)) (s:Shared) (σ:St) (H:Hp) (x:V) (v vl vu:Value) (lo hi:Option Int) (sl:Addr) (Q:VK),Inv X pins σ H s->RelV x v->s.heap.IsSliceOf sl vl vu .none->IsPart vl lo->IsPart vu hi->r x lo hi H Q ->
    ∃ T id,typeLookup (.type T) "__getitem__"=pure (some (.builtin id))/\s.TypeIs v T/\wpAny (model X.prog X.w) X.A (getItem v (.ref sl)) (EP X pins σ Q) X.xe s
def tSl(r:V->Option Int->Option Int->Hp->VK->Prop)(te:TE)(tl th:TO):TE:=λσ H Q=>te σ H λx H1=>tl σ H1 λl H2=>th σ H2 λu H3=>r x l u H3 Q
theorem xt{r:V->Option Int->Option Int->Hp->VK->Prop}(hr:SlR X r)(he:PE X e te)(hl:PO X lo tl)(hu:PO X hi th):PE X (.Subscript e (.Slice lo hi none p2) pos) (tSl r te tl th):=by
  intro pins s σ H Q I h;refine Subscript_ (thn (he pins s σ H _ I h) λv s1 ⟨x,H1,I1,r1,q1⟩=>?_);refine wpAny_Slice (thn (hl pins s1 σ H1 _ I1 q1) λvl s2 ⟨l,H2,I2,pl,q2⟩=>thn (hu pins s2 σ H2 _ I2 q2) λvu s3 ⟨u,H3,I3,pu,q3⟩=>?_);rw [evalPart_none];refine ii ?_;have I4:Inv X pins σ H3 { s3 with heap:=s3.heap.push { cls:=.type "slice",data:=.fields #[vl,vu,.none] } }:=I3.kept (t':=s3.toks) λb ob q=>Heap.get?_push_of_some _ q;obtain ⟨T,id,hT,ht,hg⟩:=hr pins { s3 with heap:=s3.heap.push { cls:=.type "slice",data:=.fields #[vl,vu,.none] } } σ H3 x v vl vu l u s3.heap.objs.size Q I4 r1 (Heap.IsSliceOf.new ..) pl pu q3;show wpAny (model X.prog X.w) X.A (subscriptTail e (.Slice lo hi none p2) v (.ref s3.heap.objs.size)) (EP X pins σ Q) X.xe { s3 with heap:=s3.heap.push { cls:=.type "slice",data:=.fields #[vl,vu,.none] } };exact tail_any (ops:=[.ref s3.heap.objs.size,v]) ht hT hg (by with_unfolding_all rfl)
def cutV(xs:List V)(lo hi:Option Int):List V:=(xs.drop (HT.sIx xs.length 0 lo)).take (HT.sIx xs.length xs.length hi - HT.sIx xs.length 0 lo)
theorem vi(xs:List V)(lo hi:Option Int):(cutV xs lo hi).length<=xs.length:=by
  unfold cutV;rw [aJ,c8];omega
def rSlT(K:iB):V->Option Int->Option Int->Hp->VK->Prop:=λx lo hi H Q=>∃ a xs,x=.ref a/\SqT K H a xs /\
  ¬ (HT.sIx xs.length 0 lo=0/\HT.sIx xs.length xs.length hi=xs.length)/\∀ p,H p=none->Q (.ref p) (upd H p (.tup (cutV xs lo hi)))
theorem Gn:SlR X (rSlT X.K):=by
  intro pins s σ H x v vl vu lo hi sl Q I rx hs pl pu h;obtain ⟨a,xs,rfl,hx,hw,q⟩:=h;cases rx
  obtain ⟨its,r,ht,hz⟩:=I.tuple hx;have hlen:its.toArray.size=xs.length:=by rw [aI]; exact r.length.symm
  refine ⟨"tuple",_,dh.lookup,ht.typeIs,?_⟩;refine HT.getItem_tuple_cut ht hs pl pu (by rw [hlen]; exact hw) ?_ (by rw [hlen]; exact hz);rw [hlen];refine ⟨.ref s.heap.objs.size,_,I.laid (t':=s.toks) (o:=.tup (cutV xs lo hi)) (λb ob q=>Heap.get?_push_of_some _ q) (ai _) ?_,rfl,q _ (I.hok.fresh (ai _))⟩;exact ⟨bK (vi xs lo hi) hz,_,(r.drop (HT.sIx xs.length 0 lo)).take (HT.sIx xs.length xs.length hi - HT.sIx xs.length 0 lo),IsTup.new _ _⟩
def KC(K:iB):R2:=λx y H Q=>∃ a b xs ys,x=.ref a/\y=.ref b/\SqT K H a xs/\SqT K H b ys/\xs≠[]/\xs.length+ys.length<=sizeLine /\
  (ys=[]->Q (.ref a) H)/\(ys≠[]->∀ p,H p=none->Q (.ref p) (upd H p (.tup (xs++ys))))
theorem Vals.nil_iff{xs:List V}{us:List Value}(r:Vals xs us):us=[]↔xs=[]:=by
  cases r with
  | nil=>simp
  | cons _ _=>simp
theorem Hn:OpR X (binaryOp .Add) (KC X.K):=by
  intro pins s σ H x y v u Q I rx ry h;obtain ⟨a,b,xs,ys,rfl,rfl,ha,hb,hx,hz,q1,q2⟩:=h;cases rx
  cases ry
  obtain ⟨its,r1,p1,_⟩:=I.tuple ha;obtain ⟨its2,r2,p2,_⟩:=I.tuple hb;refine HT.cat_tup p1 p2 (λz=>hx (r1.nil_iff.mp z)) (λz=>⟨.ref a,H,I,rfl,q1 (r2.nil_iff.mp z)⟩) (λz=>?_) (by rw [<-r1.length,<-r2.length]; exact hz);refine ⟨.ref s.heap.objs.size,_,I.laid (t':=s.toks) (o:=.tup (xs++ys)) (λb ob q=>Heap.get?_push_of_some _ q) (ai _) ?_,rfl,q2 (λw=>z (r2.nil_iff.mpr w)) _ (I.hok.fresh (ai _))⟩;exact ⟨by rw [ah]; exact hz,_,r1.append r2,IsTup.new _ _⟩
def ixN(n:Nat)(i:Int):Option Nat:=if 0<=i then (if i<n then some i.toNat else none) else if -(n:Int)<=i then some (i+n).toNat else none
def atI{α:Type}(xs:List α)(i:Int):Option α:=(ixN xs.length i).bind λj=>xs[j]?
theorem HR{n:Nat}{i:Int}{j:Nat}(h:ixN n i=some j):seqIndex? i n=some j/\j<n/\-(n:Int)<=i/\i<n:=by
  unfold ixN at h;by_cases h0:0<=i
  . rw [h7 h0] at h;by_cases h1:i<n
    . rw [h7 h1] at h;have e:i.toNat=j:=aw h;exact ⟨by rw [seqIndex_of h0 h1,e],by omega,by omega,h1⟩
    . rw [h8 h1] at h; cases h
  . rw [h8 h0] at h;by_cases h1:-(n:Int)<=i
    . rw [h7 h1] at h;have e:(i+n).toNat=j:=aw h;exact ⟨by rw [seqIndex_neg (by omega) h1,e],by omega,h1,by omega⟩
    . rw [h8 h1] at h; cases h
theorem DJ{α:Type}{xs:List α}{i:Int}{v:α}(h:atI xs i=some v):∃ j,seqIndex? i xs.length=some j/\xs[j]?=some v/\j<xs.length/\-(xs.length:Int)<=i/\i<xs.length:=by
  unfold atI at h;cases e:ixN xs.length i with
  | none=>rw [e] at h; cases h
  | some j =>
    rw [e] at h;obtain ⟨h1,h2,h3,h4⟩:=HR e;exact ⟨j,h1,h,h2,h3,h4⟩
theorem zF{α:Type}{xs:List α}{j:Nat}{v:α}(h:xs[j]?=some v):atI xs (j:Int)=some v:=by
  have hj:j<xs.length:=(af.mp h).1;have e:ixN xs.length (j:Int)=some j:=by
    unfold ixN;rw [h7 (by omega),h7 (by omega)]; simp
  unfold atI; rw [e]; exact h
def uJ(b:Expr):Prop:=∀ o i,subscripted b false o i=operate [o,i] (getItem o i)
def IxR(X:Cx)(r:R2):Prop :=
  ∀ (value slice:Expr) (pins:List (Addr×Obj)) (s:Shared) (σ:St) (H:Hp) (x y:V) (v u:Value) (Q:VK),Inv X pins σ H s->RelV x v->RelV y u->r x y H Q ->
    subscripted slice false v u=operate [v,u] (getItem v u)->wpAny (model X.prog X.w) X.A (subscriptTail value slice v u) (EP X pins σ Q) X.xe s
def MtR(X:Cx)(id:String)(r:V->List V->Hp->VK->Prop):Prop :=
  ∀ (pins:List (Addr×Obj)) (s:Shared) (σ:St) (H:Hp) (x:V) (xs:List V) (v:Value) (us:List Value) (Q:VK),Inv X pins σ H s->RelV x v->Vals xs us->r x xs H Q ->
    wpAny (model X.prog X.w) X.A (call (.builtin id) (v::us)) (EP X pins σ Q) X.xe s
variable {x y:V}
section
variable {a b:Expr}{ta tb:TE}
theorem Ic{r:R2}(hr:IxR X r)(ha:PE X a ta)(hb:PE X b tb)(hs:uJ b):PE X (.Subscript a b pos) (tOp r ta tb):=by
  intro pins s σ H Q I h;exact Subscript_ (binT ha hb I h λv u s2 x y H2 I2 rx ry q=>hr a b pins s2 σ H2 x y v u Q I2 rx ry q (hs _ _))
def rIxL(K:iB):R2:=λx y H Q=>∃ p xs i v,x=.ref p/\y=.int i/\SqL K H p xs/\atI xs i=some v/\Q v H
def rIxT(K:iB):R2:=λx y H Q=>∃ p xs i v,x=.ref p/\y=.int i/\SqT K H p xs/\atI xs i=some v/\Q v H
theorem zE:IxR X (rIxL X.K):=by
  intro value slice pins s σ H x y v u Q I rx ry h hs;obtain ⟨p,xs,i,z,rfl,rfl,hq,he,q⟩:=h;cases rx
  obtain ⟨t,rfl⟩:=ry;obtain ⟨its,r,pl,hz⟩:=I.list hq;obtain ⟨j,h1,h2,h3,h4,h5⟩:=DJ he;obtain ⟨w,ew,rw'⟩:=r.get h2;have hl:=r.length;have hn:=Dx;have fin:EP X pins σ Q w s:=⟨z,H,I,rw',q⟩
  by_cases h0:0<=i
  . have hj:i.toNat=j:=by
      rw [seqIndex_of h0 h5] at h1;exact aw h1
    exact item_listR pl.isList h0 (by omega) (by rw [hj]; simpa using ew) fin hs
  . have hj:(i+(its.toArray.size:Int)).toNat=j:=by
      rw [seqIndex_neg (by omega) h4] at h1;rw [aI,<-hl];exact aw h1
    exact subscriptTail_builtinR (x:=w) pl.isList.typeIs slot_list_getitem.lookup
      (wpAny_getItem_list_neg (Q:=λr s'=>r=w/\EP X pins σ Q r s') pl.isList (by omega) (by rw [aI] <;> omega) (by omega) (by rw [hj]; simpa using ew) ⟨rfl,fin⟩) hs
theorem zT:IxR X (rIxT X.K):=by
  intro value slice pins s σ H x y v u Q I rx ry h hs;obtain ⟨p,xs,i,z,rfl,rfl,hq,he,q⟩:=h;cases rx
  obtain ⟨t,rfl⟩:=ry;obtain ⟨its,r,pl,hz⟩:=I.tuple hq;obtain ⟨j,h1,h2,h3,h4,h5⟩:=DJ he;obtain ⟨w,ew,rw'⟩:=r.get h2;have hl:=r.length;have hn:=Dx;have fin:EP X pins σ Q w s:=⟨z,H,I,rw',q⟩
  exact subscriptTail_builtinR (x:=w) pl.typeIs slot_tuple_getitem.lookup
    (getItem_tuple (j:=j) (Q:=λr s'=>r=w/\EP X pins σ Q r s') pl (by omega) (by omega) (by rw [aI,<-hl]; exact h1) (by simpa using ew) ⟨rfl,fin⟩) hs
theorem An(lo hi:Option Int)(n:Nat):(sliceBounds lo hi none n).1=((HT.sIx n 0 lo:Nat):Int)/\(sliceBounds lo hi none n).2.1=((HT.sIx n n hi:Nat):Int)/\(sliceBounds lo hi none n).2.2=1:=by
  refine ⟨?_,?_,rfl⟩
  . cases lo with
    | none=>simp [sliceBounds,HT.sIx]
    | some i =>
      simp only [sliceBounds,HT.sIx,Option.getD_none,show (1:Int) > 0 by decide,if_true];by_cases h:i<0
      . simp only [h,if_true] <;> omega
      . simp only [h,if_false] <;> omega
  . cases hi with
    | none=>simp [sliceBounds,HT.sIx]
    | some i =>
      simp only [sliceBounds,HT.sIx,Option.getD_none,show (1:Int) > 0 by decide,if_true];by_cases h:i<0
      . simp only [h,if_true] <;> omega
      . simp only [h,if_false] <;> omega
theorem ur(its:List Value)(lo hi:Option Int):slicePick its.toArray lo hi none=((its.drop (HT.sIx its.length 0 lo)).take (HT.sIx its.length its.length hi - HT.sIx its.length 0 lo)).toArray:=by
  obtain ⟨h1,h2,h3⟩:=An lo hi its.toArray.size;unfold slicePick;rw [h1,h2,h3];simp only [sliceRange_one,pick_run,aI] <;> rfl
def rSlL(K:iB):V->Option Int->Option Int->Hp->VK->Prop:=λx lo hi H Q=>∃ a xs,x=.ref a/\SqL K H a xs/\∀ p,H p=none->Q (.ref p) (upd H p (.lst (cutV xs lo hi)))
theorem uh:SlR X (rSlL X.K):=by
  intro pins s σ H x v vl vu lo hi sl Q I rx hs pl pu h;obtain ⟨a,xs,rfl,hx,q⟩:=h;cases rx
  obtain ⟨its,r,ht,hz⟩:=I.list hx;have hlen:=r.length;refine ⟨"list",_,slot_list_getitem.lookup,ht.isList.typeIs,?_⟩;refine wpAny_getItem_list_slice ht.isList hs pl pu .none (by simp) ?_ (by rw [aI] <;> omega);rw [ur,<-hlen];refine ⟨.ref s.heap.objs.size,_,I.laid (t':=s.toks) (o:=.lst (cutV xs lo hi)) (λb ob q=>Heap.get?_push_of_some _ q) (ai _) ?_,rfl,q _ (I.hok.fresh (ai _))⟩;exact ⟨bK (vi xs lo hi) hz,_,0,(r.drop (HT.sIx xs.length 0 lo)).take (HT.sIx xs.length xs.length hi - HT.sIx xs.length 0 lo),Heap.get?_push_size _ rfl⟩
def wf:V->Bool
  | .non=>true
  | .bl _=>true
  | .int _=>true
  | .str _=>true
  | _=>false
def eqV:V->V->Bool
  | .non,.non=>true
  | .bl a,.bl b=>a==b
  | .bl a,.int b=>(if a then 1 else 0)==b
  | .int a,.bl b=>a==(if b then 1 else 0)
  | .int a,.int b=>a==b
  | .str a,.str b=>a==b
  | _,_=>false
theorem GG{A:Around}{s:Shared}{u v:Value}(ry:RelV y u)(rx:RelV x v)(fy:wf y=true)(fx:wf x=true):SeqAt.EqAt A s u v (eqV y x):=by
  cases y with
  | non =>
    cases ry
    cases x with
    | non=>cases rx; exact SeqAt.EqAt.same _
    | bl b=>cases rx; exact SeqAt.EqAt.none_bool b
    | int b=>obtain ⟨t,rfl⟩:=rx; exact SeqAt.EqAt.none_int b t
    | str b=>obtain ⟨t,rfl⟩:=rx; exact SeqAt.EqAt.none_str b t
    | _=>exact absurd (show false=true from fx) aT
  | bl a =>
    cases ry
    cases x with
    | non=>cases rx; exact SeqAt.EqAt.bool_none a
    | bl b=>cases rx; exact SeqAt.EqAt.bool_bool a b
    | int b=>obtain ⟨t,rfl⟩:=rx; exact SeqAt.EqAt.bool_int a b t
    | str b=>obtain ⟨t,rfl⟩:=rx; exact SeqAt.EqAt.bool_str a b t
    | _=>exact absurd (show false=true from fx) aT
  | int a =>
    obtain ⟨t',rfl⟩:=ry;cases x with
    | non=>cases rx; exact SeqAt.EqAt.int_none a t'
    | bl b=>cases rx; exact SeqAt.EqAt.int_bool a t' b
    | int b=>obtain ⟨t,rfl⟩:=rx; exact SeqAt.EqAt.int_int a t' b t
    | str b=>obtain ⟨t,rfl⟩:=rx; exact SeqAt.EqAt.int_str a t' b t
    | _=>exact absurd (show false=true from fx) aT
  | str a =>
    obtain ⟨t',rfl⟩:=ry;cases x with
    | non=>cases rx; exact SeqAt.EqAt.str_none a t'
    | bl b=>cases rx; exact SeqAt.EqAt.str_bool a t' b
    | int b=>obtain ⟨t,rfl⟩:=rx; exact SeqAt.EqAt.str_int a t' b t
    | str b=>obtain ⟨t,rfl⟩:=rx; exact SeqAt.EqAt.str_str a t' b t
    | _=>exact absurd (show false=true from fx) aT
  | _=>exact absurd (show false=true from fy) aT
def eqU(x:V)(u:Value):Bool:=match u with
  | .none=>eqV .non x
  | .bool b=>eqV (.bl b) x
  | .int i _=>eqV (.int i) x
  | .str z _=>eqV (.str z) x
  | _=>false
theorem Gp{u:Value}(r:RelV y u)(f:wf y=true):eqU x u=eqV y x:=by
  cases y with
  | non=>cases r; rfl
  | bl b=>cases r; rfl
  | int i=>obtain ⟨t,rfl⟩:=r; rfl
  | str z=>obtain ⟨t,rfl⟩:=r; rfl
  | _=>exact absurd (show false=true from f) aT
theorem vC{x:V}:∀ {xs:List V} {us:List Value},Vals xs us->xs.all wf=true->us.any (eqU x)=xs.any λy=>eqV y x
  | _,_,.nil,_=>rfl
  | y::xs,u::us,.cons r t,f=>by
    rw [List.all_cons,cT] at f;rw [dU,dU,Gp r f.1,vC t f.2]
theorem we{A:Around}{s:Shared}{x:V}{v:Value}(rx:RelV x v)(fx:wf x=true):∀ {xs:List V} {us:List Value},Vals xs us->xs.all wf=true->∀ u∈us,SeqAt.EqAt A s u v (eqU x u)
  | _,_,.nil,_=>λu hu=>by cases hu
  | y::xs,u::us,.cons r t,f=>λu' hu=>by
    rw [List.all_cons,cT] at f;rcases aK.mp hu with rfl|hu
    . rw [Gp r f.1]; exact GG r rx f.1 fx
    . exact we rx fx t f.2 u' hu
def inV(x:V)(xs:List V):Bool:=xs.any λy=>eqV y x
def rIn(K:iB)(neg:Bool):R2:=λx y H Q=>∃ p xs,y=.ref p/\(SqL K H p xs\/SqT K H p xs)/\wf x=true/\xs.all wf=true/\Q (.bl (if neg then !inV x xs else inV x xs)) H
theorem yF:OpR X (compareOp .In) (rIn X.K false):=by
  intro pins s σ H x y v u Q I rx ry h;obtain ⟨p,xs,rfl,hq,fx,fs,q⟩:=h;cases ry
  rcases hq with hq|hq
  . obtain ⟨its,r,pl,hz⟩:=I.list hq;refine SeqAt.in_listAt (eqU x) pl.isList (λw hw=>we rx fx r fs w (by simpa using hw)) ⟨.bl _,H,I,rfl,?_⟩;rw [show its.toArray.any (eqU x)=its.any (eqU x) by simp,vC r fs];exact q
  . obtain ⟨its,r,pl,hz⟩:=I.tuple hq;refine SeqAt.in_tupleAt (eqU x) pl (λw hw=>we rx fx r fs w (by simpa using hw)) ⟨.bl _,H,I,rfl,?_⟩;rw [show its.toArray.any (eqU x)=its.any (eqU x) by simp,vC r fs];exact q
theorem tD:OpR X (compareOp .NotIn) (rIn X.K true):=by
  intro pins s σ H x y v u Q I rx ry h;obtain ⟨p,xs,rfl,hq,fx,fs,q⟩:=h;cases ry
  rcases hq with hq|hq
  . obtain ⟨its,r,pl,hz⟩:=I.list hq;refine SeqAt.notIn_listAt (eqU x) pl.isList (λw hw=>we rx fx r fs w (by simpa using hw)) ⟨.bl _,H,I,rfl,?_⟩;rw [show its.toArray.any (eqU x)=its.any (eqU x) by simp,vC r fs];exact q
  . obtain ⟨its,r,pl,hz⟩:=I.tuple hq;refine SeqAt.notIn_tupleAt (eqU x) pl (λw hw=>we rx fx r fs w (by simpa using hw)) ⟨.bl _,H,I,rfl,?_⟩;rw [show its.toArray.any (eqU x)=its.any (eqU x) by simp,vC r fs];exact q
theorem Ao:yS X (.builtin "len") (λxs H Q=>∃ p ys,xs=[.ref p]/\(SqL X.K H p ys\/SqT X.K H p ys)/\Q (.int ys.length) H):=by
  intro pins s σ H xs us Q I r h;obtain ⟨p,ys,rfl,hq,q⟩:=h;obtain ⟨u,rfl,rx⟩:=Cz r;cases rx
  have hn:=Dx;rcases hq with hq|hq
  . obtain ⟨its,r',pl,hz⟩:=I.list hq;have hlen:=r'.length;exact Calls.call_len_list pl.isList (by simp only [aI] <;> omega) ⟨.int ys.length,H,I.tok _,⟨s.toks+1,by rw [aI,hlen]⟩,q⟩
  . obtain ⟨its,r',pl,hz⟩:=I.tuple hq;have hlen:=r'.length;exact len_tuple pl (by simp only [aI] <;> omega) ⟨.int ys.length,H,I.tok _,⟨s.toks+1,by rw [aI,hlen]⟩,q⟩
theorem Aa:yS X (.type "list") (λxs H Q=>∃ p ys,xs=[.ref p]/\(SqL X.K H p ys\/SqT X.K H p ys)/\∀ l,H l=none->Q (.ref l) (upd H l (.lst ys))):=by
  intro pins s σ H xs us Q I r h;obtain ⟨p,ys,rfl,hq,q⟩:=h;obtain ⟨u,rfl,rx⟩:=Cz r;cases rx
  have fin:∀ (its:List Value),Vals ys its->ys.length<=sizeLine->∀ (h':Heap) (c':Nat),(∀ b o',s.heap.get? b=some o'->h'.get? b=some o') ->
      h'.get? s.heap.objs.size=some { cls:=.type "list",dict:=none,data:=.seq its.toArray c',slots:=#[] }->EP X pins σ Q (.ref s.heap.objs.size) { s with heap:=h' }:=λits r' hz h' c' kp e =>
    ⟨.ref s.heap.objs.size,_,I.laid (t':=s.toks) kp (ai _) (show ObjOk X.prog X.w _ h' _ (.lst ys) from ⟨hz,its,c',r',e⟩),rfl,q _ (I.hok.fresh (ai _))⟩
  rcases hq with hq|hq
  . obtain ⟨its,r',pl,hz⟩:=I.list hq;have hlen:=r'.length;obtain ⟨o,ho,hc,n,hd⟩:=pl.isList;exact call_list_seq p (.inl rfl) ho hc hd (λh' c' kp e=>fin its r' hz h' c' kp e) (by simp only [aI] <;> omega)
  . obtain ⟨its,r',pl,hz⟩:=I.tuple hq;have hlen:=r'.length;obtain ⟨o,ho,hc,n,hd⟩:=pl;exact call_list_seq p (.inr rfl) ho hc hd (λh' c' kp e=>fin its r' hz h' c' kp e) (by simp only [aI] <;> omega)
theorem uI:yS X (.type "tuple") (λxs H Q=>∃ p ys,xs=[.ref p]/\((SqL X.K H p ys/\∀ l,H l=none->Q (.ref l) (upd H l (.tup ys)))\/(SqT X.K H p ys/\Q (.ref p) H))):=by
  intro pins s σ H xs us Q I r h;obtain ⟨p,ys,rfl,h⟩:=h;obtain ⟨u,rfl,rx⟩:=Cz r;cases rx
  rcases h with ⟨hq,q⟩|⟨hq,q⟩
  . obtain ⟨its,r',pl,hz⟩:=I.list hq;have hlen:=r'.length;refine call_tuple_list pl.isList (λh' kp=>?_) (by simp only [aI] <;> omega);have I1:Inv X pins σ H { s with heap:=h' }:=I.kept (t':=s.toks) kp;have I2:Inv X pins σ (upd H h'.objs.size (.tup ys)) { s with heap:=h'.push { cls:=.type "tuple",data:=.seq its.toArray } } :=
      I1.laid (t':=s.toks) (λb o e=>Heap.get?_push_of_some _ e) (ai _) (show ObjOk X.prog X.w _ _ _ (.tup ys) from ⟨hz,its,r',IsTup.new _ _⟩)
    exact ⟨.ref h'.objs.size,_,I2,rfl,q _ (I1.hok.fresh (ai _))⟩
  . obtain ⟨its,r',pl,hz⟩:=I.tuple hq;exact call_tuple_same pl ⟨.ref p,H,I,rfl,q⟩
def tyV(K:iB)(T:String)(x:V)(H:Hp):Prop:=match x with
  | .str _=>T="str"
  | .int _=>T="int"
  | .ref p=>(T="list"/\∃ xs,SqL K H p xs)\/(T="tuple"/\∃ o,K.lookup p=some o/\o.cls=.type "tuple"/\o.dict=none) \/
      (T="dict"/\((∃ kvs,H p=some (.dK kvs))\/∃ kvs,H p=some (.dT kvs)))\/(T="set"/\∃ S n,H p=some (.set S n))
  | _=>False
theorem GM{pins:List (Addr×Obj)}{σ:St}{H:Hp}{s:Shared}{T:String}{v:Value}(I:Inv X pins σ H s)(r:RelV x v)(ty:tyV X.K T x H) : s.TypeIs v T/\∀ a,v=.ref a->∃ ob,s.heap.get? a=some ob/\ob.dict=none:=by
  cases x with
  | str z =>
    obtain ⟨t,rfl⟩:=r;cases (show T="str" from ty)
    exact ⟨typeIs_str s z t,λ_ e=>nomatch e⟩
  | int i =>
    obtain ⟨t,rfl⟩:=r;cases (show T="int" from ty)
    exact ⟨typeIs_int s i t,λ_ e=>nomatch e⟩
  | ref p =>
    cases r
    rcases ty with ⟨rfl,xs,hq⟩|⟨rfl,o,hk,hc,hd⟩|⟨rfl,hk⟩|⟨rfl,S,n,hk⟩
    . obtain ⟨its,_,pl,_⟩:=I.list hq;refine ⟨pl.isList.typeIs,λa e=>?_⟩;cases e
      obtain ⟨o,n,e,c,hd,_⟩:=pl;exact ⟨o,e,hd⟩
    . refine ⟨⟨o,I.kIn p o hk,hc⟩,λa e=>?_⟩;cases e
      exact ⟨o,I.kIn _ o hk,hd⟩
    . have z:∃ o,s.heap.get? p=some o/\o.ExactDict:=by
        rcases hk with ⟨kvs,hk⟩|⟨kvs,hk⟩
        . obtain ⟨_,_,_,_,o,_,_,e,ex,_⟩:=I.hok p _ hk;exact ⟨o,e,ex⟩
        . obtain ⟨_,_,_,_,o,_,_,e,ex,_⟩:=I.hok p _ hk;exact ⟨o,e,ex⟩
      obtain ⟨o,e,ex⟩:=z;refine ⟨⟨o,e,ex.1⟩,λa e2=>?_⟩;cases e2
      exact ⟨o,e,ex.2.1⟩
    . obtain ⟨o,_,_,_,e,ex,_⟩:=I.hok p _ hk;refine ⟨⟨o,e,ex.1⟩,λa e2=>?_⟩;cases e2
      exact ⟨o,e,ex.2.1⟩
  | _=>exact False.elim ty
def tBM0(K:iB)(T:String)(r:V->List V->Hp->VK->Prop)(to:TE):TE:=λσ H Q=>to σ H λx H1=>tyV K T x H1/\r x [] H1 Q
def tBM(K:iB)(T:String)(r:V->List V->Hp->VK->Prop)(to:TE)(t:TA):TE:=λσ H Q=>to σ H λx H1=>tyV K T x H1/\t σ H1 λxs H2=>r x xs H2 Q
variable {o:Expr}{es:List Expr}{to:TE}{t:TA}{name:Str}{apos cpos:Pos}{T id:String}{r:V->List V->Hp->VK->Prop}
theorem GO(pa:PlainAttrs T)(slot:Slot T name id)(hty:typeOf (.builtin id)=pure (.type "method_descriptor"))(hm:MtR X id r)(ho:PE X o to)(hbase:attributeBase o name X.env (eval o X.env)=eval o X.env:=by rfl)(hline:(apos.endLine==cpos.line)=true:=by rfl):PE X (.Call (.Attribute o name apos) [] [] cpos) (tBM0 X.K T r to):=by
  intro pins s σ H Q I h;refine wpAny_Call_method0_late hbase hline (thn (ho pins s σ H _ I h) λv s1 ⟨x,H1,I1,r1,ty,q1⟩=>?_);obtain ⟨h1,h2⟩:=GM I1 r1 ty;exact ⟨T,id,pa,slot,hty,h1,h2,Calls.callWith_builtin rfl (PySem.evalArgs_none (hm pins s1 σ H1 x [] v [] Q I1 r1 .nil q1))⟩
theorem xC(pa:PlainAttrs T)(slot:Slot T name id)(hty:typeOf (.builtin id)=pure (.type "method_descriptor"))(hm:MtR X id r)(ho:PE X o to)(ha:PA X (e::es) t)(hbase:attributeBase o name X.env (eval o X.env)=eval o X.env:=by rfl)(hfew:((backTo cpos (starEach (e::es) X.env)).all (λx=>!x.1) && (backToKw cpos (keywordEach [] X.env)).all (λx=>x.1.isSome)
      && decide ((e::es).length+([]:List Keyword).length+(if ([]:List Keyword).isEmpty then 0 else 1)<30))=true:=by rfl)(hline:(apos.endLine==cpos.line)=true:=by rfl)(hs:starEach (e::es) X.env=(false,eval e X.env)::starEach es X.env:=by rfl)(hplain:(backTo cpos (starEach es X.env)).any (·.1)=false:=by rfl) :
    PE X (.Call (.Attribute o name apos) (e::es) [] cpos) (tBM X.K T r to t):=by
  intro pins s σ H Q I h;refine wpAny_Call_method_late hbase hfew hline rfl (thn (ho pins s σ H _ I h) λv s1 ⟨x,H1,I1,r1,ty,q1⟩=>?_);obtain ⟨h1,h2⟩:=GM I1 r1 ty;refine ⟨T,id,pa,slot,hty,h1,h2,?_⟩;have hA:=ha cpos pins s1 σ H1 _ I1 q1;rw [hs] at hA ⊢;refine Calls.callWith_builtin (by show (false || (backTo cpos (starEach es X.env)).any (·.1))=false; rw [hplain] <;> rfl) (Calls.evalArgs_plain ?_);exact thn hA λus s2 ⟨vs,H2,I2,r2,q2⟩=>hm pins s2 σ H2 x vs v us Q I2 r1 r2 q2
end
def MtM(X:Cx)(id:String)(r:V->List V->Hp->VK->Prop):Prop :=
  ∀ (pins:List (Addr×Obj)) (s:Shared) (σ:St) (H:Hp) (x:V) (xs:List V) (v:Value) (us:List Value) (Q:VK),Inv X pins σ H s->RelV x v->Vals xs us->r x xs H Q ->
    wpAny (model X.prog X.w) X.A (call (.builtin id) (v::us)) (EP X pins σ Q) X.xe s
theorem Vals.one:∀ {x:V} {us:List Value},Vals [x] us->∃ u,us=[u]/\RelV x u
  | _,_,.cons r .nil=>⟨_,rfl,r⟩
theorem Vals.two:∀ {x y:V} {us:List Value},Vals [x,y] us->∃ u v,us=[u,v]/\RelV x u/\RelV y v
  | _,_,_,.cons r (.cons q .nil)=>⟨_,_,rfl,r,q⟩
theorem Vals.zero:∀ {us:List Value},Vals [] us->us=[]
  | _,.nil=>rfl
theorem Vals.reverse{xs:List V}{us:List Value}(h:Vals xs us):Vals xs.reverse us.reverse:=by
  induction h with
  | nil=>exact .nil
  | cons r t ih=>rw [List.reverse_cons,List.reverse_cons]; exact Vals.append ih (.cons r .nil)
variable {its:List Value}{t':Nat}
section
variable {pins:List (Addr×Obj)}{σ:St}{H:Hp}{s:Shared}{l b:Addr}{xs ys zs:List V}
theorem Inv.lset{its':List Value}{n:Nat}{f:Array Value->Array Value}(I:Inv X pins σ H s)(hH:H l=some (.lst xs))(e:s.heap.get? l=some { cls:=.type "list",data:=.seq its.toArray n })(hf:f its.toArray=its'.toArray)(hv:Vals ys its')(hz:ys.length<=sizeLine) :
    Inv X pins σ (upd H l (.lst ys)) { s with heap:=s.heap.update l (Obj.mapSeq f),toks:=t' }:=by
  have q:=PySem.IsL.update e f;rw [hf] at q;refine I.write (x:=l) (e:=l) (by rw [hH]; exact trivial) (.inl rfl) (λb' u hb hu=>(Heap.get?_update_other s.heap (Obj.mapSeq f) (ca hb)).trans hu) ⟨_,q⟩ ?_;exact ⟨hz,its',_,hv,q⟩
theorem Inv.lnew(I:Inv X pins σ H s)(hv:Vals ys its)(hz:ys.length<=sizeLine) : Inv X pins σ (upd H s.heap.objs.size (.lst ys)) { s with heap:=s.heap.push { cls:=.type "list",data:=.seq its.toArray },toks:=t' } :=
  I.laid (λ_ _ q=>Heap.get?_push_of_some _ q) (ai _) ⟨hz,its,0,hv,Heap.get?_push_size _ rfl⟩
theorem Inv.fresh(I:Inv X pins σ H s):H s.heap.objs.size=none:=I.hok.fresh (ai _)
theorem Inv.lstM(I:Inv X pins σ H s)(hH:H l=some (.lst xs)):xs.length<=sizeLine/\∃ (its:List Value) (n:Nat),Vals xs its/\xs.length=its.length/\s.heap.get? l=some { cls:=.type "list",data:=.seq its.toArray n }:=by
  obtain ⟨z,its,n,r,e⟩:=I.hok l _ hH;exact ⟨z,its,n,r,r.length,e⟩
end
def z7:V->List V->Hp->VK->Prop:=λx vs H Q=>∃ l xs y,x=.ref l/\vs=[y]/\H l=some (.lst xs)/\xs.length<sizeLine/\Q .non (upd H l (.lst (xs++[y])))
theorem zB:MtM X "list.append" z7:=by
  intro pins s σ H x vs v us Q I rx rv h;obtain ⟨l,xs,y,rfl,rfl,hH,hz,q⟩:=h;cases rx
  obtain ⟨u,rfl,ru⟩:=rv.one;obtain ⟨z,its,n,r,hl,e⟩:=I.lstM hH;refine call_meets F.slot_list_append ⟨_,e,rfl⟩ F.entry_list_append (F.args_list_append_2 _ _) (PySem.list_append l its.toArray n u (by rw [aI]; omega)) ⟨e,?_⟩;refine ⟨.non,_,I.lset (its':=its++[u]) hH e (by simp) (r.append (.cons ru .nil)) ?_,rfl,q⟩;rw [ah,List.length_singleton];omega
def BW:V->List V->Hp->VK->Prop:=λx vs H Q=>∃ l xs,x=.ref l/\vs=[]/\H l=some (.lst xs)/\Q .non (upd H l (.lst xs.reverse))
theorem CH:MtM X "list.reverse" BW:=by
  intro pins s σ H x vs v us Q I rx rv h;obtain ⟨l,xs,rfl,rfl,hH,q⟩:=h;cases rx
  have hus:=rv.zero;subst hus;obtain ⟨z,its,n,r,hl,e⟩:=I.lstM hH;refine call_meets F.slot_list_reverse ⟨_,e,rfl⟩ F.entry_list_reverse (F.args_list_reverse_1 _) (AutoSeq1.list_reverse_list_0 l its.toArray n (by rw [aI]; omega)) ⟨e,?_⟩;refine ⟨.non,_,I.lset (its':=its.reverse) hH e (by simp) r.reverse ?_,rfl,q⟩;rw [List.length_reverse];omega
def rCat:R2:=λx y H Q=>∃ l b xs zs,x=.ref l/\y=.ref b/\H l=some (.lst xs)/\H b=some (.lst zs)/\xs.length+zs.length<=sizeLine/\∀ p,H p=none->Q (.ref p) (upd H p (.lst (xs++zs)))
theorem Cg:OpR X (binaryOp .Add) rCat:=by
  intro pins s σ H x y v u Q I rx ry h;obtain ⟨l,b,xs,zs,rfl,rfl,hH,hB,hz,q⟩:=h;cases rx
  cases ry
  obtain ⟨z,its,n,r,hl,e⟩:=I.lstM hH;obtain ⟨z2,its2,n2,r2,hl2,e2⟩:=I.lstM hB;refine PySem.P.add_list e e2 ?_ (by rw [aI,aI]; omega);have ea:its.toArray++its2.toArray=(its++its2).toArray:=by simp
  rw [ea];exact ⟨.ref _,_,I.lnew (t':=s.toks) (r.append r2) (by rw [ah]; omega),rfl,q _ I.fresh⟩
section
variable {prog:Program}{w:World}{A:Around}{E:Value->Shared->Prop}{s:Shared}
end
end L2
namespace Att
open PySem PySem.W PySem.Calls PyProof.Rows
variable {h:Heap}{P:Params}
theorem w8:∀ (ns:List Int) (vs:List Value),WellAll P h vs (ns.map WData.int)->IntsAre vs ns:=by
  intro ns;induction ns with
  | nil =>
    intro vs w;rw [cL] at w;cases w
    exact .nil
  | cons n ns ih =>
    intro vs w;rw [aU] at w;cases w with
    | cons a b =>
      cases a
      exact .cons _ _ (ih _ b)
theorem Ep{l:OpenLaw}{n:Nat}(hn:l.most=some n){args:List WData}{vals:List Value}(hpre:l.row.toRowW.claim.pre args=true)(hwl:WellAll P h vals args) : ∃ a vs ns,vals=[Value.ref a]/\args=[WData.list (ns.map WData.int)]/\h.get? a=some { cls:=.type "list",data:=.seq vs.toArray }/\IntsAre vs ns/\ns.length<=n:=by
  have hsh:WShape.hasAll [] args [.list .int]=true:=(pre_splitW hpre).1;have hc:l.pre.holds [] { args:=args }=true:=(pre_splitW hpre).2;obtain ⟨d,r,rfl,h1,h2⟩:=hasAllW_cons hsh;obtain rfl:=hasAllW_nil h2;obtain ⟨xs,rfl,h3⟩:=hasW_list h1;obtain ⟨ns,rfl⟩:=items_int h3;have hlen:ns.length<=n:=by
    unfold OpenLaw.pre at hc;have h4:(WTm.not (.lt (.lit (.int (n:Int))) (.len (.arg 0)))).holds [] { args:=[.list (ns.map .int)] }=true:=by
      have h4:=(holds_andW hc).1;rw [hn] at h4;exact h4
    have h5:=condW_of h4 (w_not (w_lt w_lit (w_len_list (w_arg rfl))));rw [aa] at h5;refine Nat.le_of_not_lt λq=>?_;have q':(n:Int)<((ns.length:Nat):Int):=by omega
    first
      | (rw [iu q'] at h5; exact absurd h5 (by decide))
      | (simp at h5; omega)
  cases hwl with
  | cons w1 w2 =>
    cases w2
    cases w1 with
    | list ho hall=>exact ⟨_,_,ns,rfl,rfl,ho,w8 ns _ hall,hlen⟩
theorem DU(l:OpenLaw)(args:List WData):l.row.toRowW.claim.post args (.bool true) args=true :=
  postW_of (r:=l.row.toRowW) (X:=(true==true))
    (show WShape.has [] (.bool true) .bool=true by first | rfl | decide | simp [WShape.has,WShape.arms,WShape.armsAll])
    (show (WTm.eq .res (.lit (.bool true))).value [] { args:=args,res:=some (.bool true),after:=args }=some (.bool (true==true)) from w_eq_bool (w_res rfl) w_lit) rfl
section
variable {prog:Program}{w:World}{A:Around}{E:Value->Shared->Prop}{s:Shared}{K:Frag}
end
end Att
namespace L2
open PySem PySem.Spec PyProof.Rows
theorem tV:∀ {vs:List Value} {ns:List Int},IntsAre vs ns->Vals (ns.map V.int) vs
  | _,_,.nil=>.nil
  | _,_,.cons n t h=>.cons ⟨t,rfl⟩ (tV h)
def Only(H:Hp):Prop:=∀ b,H b=none\/∃ o xs,H b=some (.frz o (.lst xs))
variable {a:Addr}{fd:FuncData}{sp:Sp}{x:Str}
theorem FK{P:Program}{w:World}{K:iB}{mg mb:Str->Option Value}{CX:CXT}{k:Nat}{fa:Addr}{s₁:Shared}{vs:List Value}{ns:List Int}(KX:K.In s₁.heap)(hns:s₁.heap.Ns mainGlobals mg)(hb:s₁.heap.Ns builtinsNs mb)(hbb:∀ x:Str,x≠"__name__"->mb x=bootBuiltins x)(hlim:s₁.heap.NoLimit)(hg:s₁.gens=#[])(ha:s₁.heap.get? a=some { cls:=.type "list",data:=.seq vs.toArray })(hi:IntsAre vs ns)(hl:ns.length<=sizeLine)(hr:Room k callerA)(F:∀ base:Heap,K.In base->base.Ns mainGlobals mg->FnOk P w K mg base CX k fa fd [x] sp)(hbind:∀ (s:Shared) (u:Value),BindsTo s fd ⟨[u],[]⟩ [(x,u)])(hsp:∀ H:Hp,Only H->SqL K H a (ns.map V.int)->sp [.ref a] H (λv _=>v=.bl true) λ_ _ _=>False)(hCX:∀ H e s',CX [] H s₁ (λ_ _ _=>False) e s'->False) :
    codeAny (model P w) callerA (.call (.ref fa) ⟨[.ref a],[]⟩) (λr s'=>r=.ok (.ret (.bool true))/\OldK s₁.heap s'.heap/\s'.os=s₁.os/\AllBare s'.gens) s₁:=by
  have rv:=tV hi;have lenV:=hi.length;have core:∀ H:Hp,Only H->SqL K H a (ns.map V.int)->HOk P w H s₁.heap->(∀ b,H b≠none->b=a)->(H a≠none->K.lookup a=none) ->
      codeAny (model P w) callerA (.call (.ref fa) ⟨[.ref a],[]⟩) (λr s'=>r=.ok (.ret (.bool true))/\OldK s₁.heap s'.heap/\s'.os=s₁.os/\AllBare s'.gens) s₁:=by
    intro H hO hS hok hA hK;have base_of:∀ {b:Addr} {o:Obj},s₁.heap.get? b=some o->H b=none->(hidT s₁.heap H).get? b=some o:=λe n=>Gc e n;have noA:∀ {b:Addr} {o:Obj} {es:Array DictEntry} {ep:Nat},s₁.heap.get? b=some o->o.data=.dict es ep->H b=none:=λ{b o es ep} e d=>by
      cases q:H b with
      | none=>rfl
      | some u =>
        have e':b=a:=hA b (by rw [q]; simp);subst e';rw [ha] at e; cases e;have d':Data.seq vs.toArray _=Data.dict es ep:=d;cases d'
    have nsK:∀ {b:Addr} {m:Str->Option Value},s₁.heap.Ns b m->(hidT s₁.heap H).Ns b m:=λ{b m} ⟨o,es,ep,e,d,r⟩=>⟨o,es,ep,base_of e (noA e d),d,r⟩
    have hKb:K.In (hidT s₁.heap H):=λb o e=>base_of (KX b o e) (by
      cases q:H b with
      | none=>rfl
      | some u =>
        have e':b=a:=hA b (by rw [q]; simp);subst e';rw [hK (by rw [q]; simp)] at e; cases e)
    have hM:Mod K mg (hidT s₁.heap H):=⟨hKb,nsK hns,⟨mb,nsK hb,hbb⟩,let ⟨mc,h1,h2⟩:=hlim; ⟨mc,nsK h1,h2⟩⟩
    have e0:Env0 P w K mg (hidT s₁.heap H) callerA [] s₁ H:=⟨rfl,hM,λb o e=>Ih e,Nat.le_of_eq (EX _ _),trivial,λb hb=>absurd (show b∈([]:List Addr) from hb) (by simp),hok,.of_eq hg⟩
    refine io ((F _ hKb (nsK hns)).run callerA [] s₁ H ⟨[.ref a],[]⟩ [.ref a] [.ref a] _ _ hr e0 (hbind s₁ (.ref a)) (.cons rfl .nil) (hsp H hO hS)) λr s' h=>?_;cases r with
    | error e=>exact (hCX H e s' h).elim
    | ok fl =>
      cases fl with
      | next=>exact False.elim h
      | brk=>exact False.elim h
      | cont=>exact False.elim h
      | ret u =>
        obtain ⟨v,H',os,bare,un,hok',r',q⟩:=h;have q':v=.bl true:=q;subst q';obtain rfl:u=Value.bool true:=r';refine ⟨rfl,OldK.of_keep λb o e=>?_,os,bare⟩;cases q:H b with
        | none=>exact un.keep b o e q (by intro z; exact absurd (show b∈([]:List Addr) from z) (by simp)) (by simp)
        | some u =>
          rcases hO b with z|⟨ob,xs,z⟩
          . rw [q] at z; cases z
          . have z2:=un.frzs b ob _ z;obtain ⟨e1,_⟩:=hok b _ z;obtain ⟨e2,_⟩:=hok' b _ z2;rw [e] at e1; cases e1;exact e2
  cases hk:K.lookup a with
  | some o =>
    have e:=KX a o hk;rw [ha] at e;cases e
    refine core (λ_=>none) (λ_=>.inl rfl) (.inr ⟨_,vs.toArray,_,hk,rfl,rfl,rfl,by rw [aI,lenV]; exact hl,by simpa using rv⟩) (λb u z=>by have z':(none:Option HO)=some u:=z; cases z') (λb z=>absurd rfl z) λz=>absurd rfl z
  | none =>
    refine core (λb=>if b=a then some (.frz { cls:=.type "list",data:=.seq vs.toArray } (.lst (ns.map V.int))) else none) (λb=>?_) (.inl (.inr ⟨{ cls:=.type "list",data:=.seq vs.toArray },h7 rfl⟩)) (λb u z=>?_) (λb z=>?_) λ_=>hk
    . by_cases hb:b=a
      . exact .inr ⟨_,_,h7 hb⟩
      . exact .inl (h8 hb)
    . by_cases hb:b=a
      . have z':=(h7 hb).symm.trans z;cases z'
        subst hb;exact ⟨ha,by rw [aa]; exact hl,vs,_,rv,ha⟩
      . have z':=(h8 hb).symm.trans z;cases z'
    . by_cases hb:b=a
      . exact hb
      . exact absurd (h8 hb) z
def xR(s:Stmt)(j:Nat):Stmt:=match s with
  | .ClassDef _ _ _ body _ _ _ _ _ _ _=>body.getD j (.Pass ⟨0,0,0,0⟩)
  | _=>.Pass ⟨0,0,0,0⟩
def defArgs(s:Stmt):Arguments:=match s with
  | .FunctionDef _ a _ _ _ _ _ _ _ _=>a
  | _=>{ posonlyargs:=[],args:=[],vararg:=none,kwonlyargs:=[],kw_defaults:=[],kwarg:=none,defaults:=[] }
def defBody(s:Stmt):List Stmt:=match s with
  | .FunctionDef _ _ b _ _ _ _ _ _ _=>b
  | _=>[]
def defScope(s:Stmt):Scope:=match s with
  | .FunctionDef _ _ _ _ _ _ sc _ _ _=>sc
  | _=>{ kind:=.function,names:=[],isGenerator:=false,isCoroutine:=false }
abbrev CX0:CXT:=λ_ _ _ _ _ _=>False
abbrev E0:XK:=λ_ _ _=>False
theorem uG{X:Cx}:xG CX0 X E0:=λ_ _ _ _ _ _ _ h=>h.elim
structure Fun(K:iB)(x qual:Str)(st:Stmt)(f:Addr)(fd:FuncData):Prop where
  ex:∃ (oc:Value) (od:Option Addr) (kV doc pm:Value) (an:Option Addr) (cdv ct:Value) (osl:Array (Option Value)),
    fd=W.fnOf x qual (defArgs st) (defBody st) (defScope st) .none kV doc pm an cdv ct/\K.lookup f=some ⟨oc,od,.func fd,osl⟩/\W.codeIn K cdv qual=true
  kp:W.keepIn K (.ref f)=true
variable {f:Addr}{ps:List Str}{qual:Str}
section
variable {P:Program}{w:World}{K:iB}{mg:Str->Option Value}{base:Heap}
theorem Fun.ok{st:Stmt}{N:List Str}{k:Nat}(F:Fun K x qual st f fd)(S:FnScope N ps (defScope st))(len:∀ vs H Q E,sp vs H Q E->vs.length=ps.length)(hbody:∀ (cdv:Value) (A:Around) (outer:List Env) (s:Shared) (H:Hp) (vs:List V) (Q:VK) (E:XK),Room k (A.deeper (envOfC qual (defScope st) s.heap.objs.size f cdv))->sp vs H Q E ->
      ∃ t,PSs (cxOf CX0 P w K mg base N qual (defScope st) f cdv A outer s H E).nox (defBody st) t/\t { nx:=λ_ H'=>Q .non H',rt:=Q } (start N vs) H):FnOk P w K mg base CX0 (k+1) f fd ps sp:=by
  obtain ⟨oc,od,kV,doc,pm,an,cdv,ct,osl,rfl,lk,hcd⟩:=F.ex;refine IF lk hcd S len λA outer s H vs Q E hr hsp=>?_;obtain ⟨t,h,q⟩:=hbody cdv A outer s H vs Q E hr hsp;exact ⟨t,h.nox,q⟩
theorem Fun.binds{st:Stmt}(F:Fun K x qual st f fd)(h:∀ (kV doc pm:Value) (an:Option Addr) (cdv ct:Value) (us:List Value),us.length=ps.length->bindArgs (W.fnOf x qual (defArgs st) (defBody st) (defScope st) .none kV doc pm an cdv ct) ⟨us,[]⟩=pure (ps.zip us)):Binds K fd ps []:=by
  obtain ⟨oc,od,kV,doc,pm,an,cdv,ct,osl,rfl,lk,hcd⟩:=F.ex;exact .all (h kV doc pm an cdv ct)
theorem GU{st:Stmt}{oc:Value}{od an:Option Addr}{osl:Array (Option Value)}{kV doc pm cdv ct:Value}(l:K.lookup f=some ⟨oc,od,.func (W.fnOf x qual (defArgs st) (defBody st) (defScope st) .none kV doc pm an cdv ct),osl⟩)(c:W.codeIn K cdv qual=true)(k:W.keepIn K (.ref f)=true):Fun K x qual st f (W.fnOf x qual (defArgs st) (defBody st) (defScope st) .none kV doc pm an cdv ct):=⟨⟨oc,od,kV,doc,pm,an,cdv,ct,osl,rfl,l,c⟩,k⟩
end
theorem xA{A:Around}{k:Nat}(hr:Room k A):A.units+1<cLine:=br (Nat.add_le_add_left (by decide:1<=64) _) hr.units
theorem EJ{n:Nat}(h:n<=1000):n<sizeLine:=br h (by decide)
variable {X:Cx}
theorem pv(i:Nat){pos:Pos}(hN:X.N[i]?=some x:=by rfl)(hv:Vis X.env.scope x:=by first | exact Or.inl rfl | exact Or.inr (Or.inl rfl) | exact Or.inr (Or.inr rfl))(hd:(x==("__debug__":Str))=false:=by decide)(hcd:(x==("__classdict__":Str))=false:=by decide):PE X (.Name x pos) (tVar i):=Ks hN hv hd hcd
def Same(H H':Hp):Prop:=∀ b o,H b=some o->H' b=some o
theorem Same.refl(H:Hp):Same H H:=λ_ _ h=>h
variable {H:Hp}
theorem Same.trans{H1 H2:Hp}(a:Same H H1)(b:Same H1 H2):Same H H2:=λc o h=>b c o (a c o h)
theorem Same.seq{K:iB}{H':Hp}{xs:List V}(e:Same H H')(h:SqL K H a xs):SqL K H' a xs:=by
  rcases h with (h|⟨o,h⟩)|h
  . exact .inl (.inl (e _ _ h))
  . exact .inl (.inr ⟨o,e _ _ h⟩)
  . exact .inr h
end L2
local macro_rules | `(tactic| omega)=>`(tactic| first | lia | omega +splitNatSub)
namespace L2
open PySem PySem.Spec PyProof.Rows
variable {κ:Type}[DecidableEq κ]
def valV(kvs:List (κ×V))(k:κ):Option V:=(kvs.find? λkv=>decide (kv.1=k)).map (·.2)
def putK(kvs:List (κ×V))(k:κ)(v:V):List (κ×V) :=
  if (kvs.any λkv=>decide (kv.1=k))=true then kvs.map (λkv=>if kv.1=k then (kv.1,v) else kv) else kvs++[(k,v)]
def vL(kvs:List (κ×V))(k:κ):List (κ×V):=kvs.filter λkv=>decide (kv.1≠k)
theorem z5{p:κ×V}{r:List (κ×V)}{k:κ}(e:p.1=k):valV (p::r) k=some p.2:=by simp [valV,dr,e]
theorem zQ{p:κ×V}{r:List (κ×V)}{k:κ}(e:¬ p.1=k):valV (p::r) k=valV r k:=by simp [valV,dr,e]
theorem xW(k:κ):∀ kvs:List (κ×V),(kvs.any λkv=>decide (kv.1=k))=(valV kvs k).isSome
  | []=>rfl
  | p::r=>by
    rw [dU];by_cases e:p.1=k
    . simp only [z5 e,iu e,Bool.true_or,Option.isSome_some]
    . rw [zQ e,hZ e,Bool.false_or]; exact xW k r
theorem Bw(k j:κ)(y:V):∀ kvs:List (κ×V),valV (kvs.map λkv=>if kv.1=k then (kv.1,y) else kv) j=(valV kvs j).map λx=>if j=k then y else x
  | []=>rfl
  | p::r=>by
    have ih:=Bw k j y r;rw [aU];by_cases h:p.1=k
    . rw [h7 h];by_cases e:p.1=j
      . rw [z5 (p:=(p.1,y)) e,z5 e,cZ,h7 (e.symm.trans h)]
      . rw [zQ (p:=(p.1,y)) e,zQ e,ih]
    . rw [h8 h];by_cases e:p.1=j
      . rw [z5 (p:=p) e,z5 e,cZ,h8 (λz=>h (e.trans z))]
      . rw [zQ (p:=p) e,zQ e,ih]
theorem Ac(k j:κ)(y:V):∀ kvs:List (κ×V),valV kvs k=none->valV (kvs++[(k,y)]) j=if j=k then some y else valV kvs j
  | [],_=>by
    by_cases e:k=j
    . rw [h7 e.symm]; exact z5 (p:=(k,y)) e
    . rw [h8 (λz=>e z.symm)]; exact zQ (p:=(k,y)) e
  | p::r,hn=>by
    rw [List.cons_append];have hk:¬ p.1=k:=λz=>by rw [z5 z] at hn; cases hn
    rw [zQ hk] at hn;have ih:=Ac k j y r hn;by_cases e:p.1=j
    . rw [z5 e,z5 e,h8 (λz=>hk (e.trans z))]
    . rw [zQ e,zQ e,ih]
theorem xY(kvs:List (κ×V))(k j:κ)(y:V):valV (putK kvs k y) j=if j=k then some y else valV kvs j:=by
  unfold putK;by_cases a:(kvs.any λkv=>decide (kv.1=k))=true
  . rw [h7 a,Bw];rw [xW] at a;by_cases e:j=k
    . obtain ⟨x,hx⟩:=fS.mp a;rw [h7 e,e,hx,cZ,h7 rfl]
    . rw [h8 e];cases valV kvs j with
      | none=>rfl
      | some x=>rw [cZ,h8 e]
  . rw [h8 a];refine Ac k j y kvs ?_;rw [xW] at a;cases q:valV kvs k with
    | none=>rfl
    | some x=>rw [q] at a; exact (a rfl).elim
theorem yL(kvs:List (κ×V))(k:κ)(v:V):(putK kvs k v).length<=kvs.length+1:=by
  unfold putK;split
  . rw [aa]; omega
  . rw [ah,ar,aP]; omega
theorem wR{kvs:List (κ×V)}{k:κ}(v:V)(h:valV kvs k=none):putK kvs k v=kvs++[(k,v)]:=by
  unfold putK;rw [xW,h];exact h8 (by decide)
theorem RelO.isSome_eq{o:Option V}{u:Option Value}(r:RelO o u):o.isSome=u.isSome:=by
  cases o with
  | none=>cases u with
    | none=>rfl
    | some _=>exact (show False from r).elim
  | some _=>cases u with
    | none=>exact (show False from r).elim
    | some _=>rfl
theorem KV.val{kvs:List (κ×V)}{vs:List (κ×Value)}(r:KV kvs vs)(k:κ):RelO (valV kvs k) (valueAt vs k):=by
  unfold KV at r;induction r with
  | nil=>exact True.intro
  | @cons p q ps qs h t ih =>
    obtain ⟨h1,h2⟩:=h;by_cases e:p.1=k
    . have e':q.1=k:=h1.symm.trans e;have b:valueAt (q::qs) k=some q.2:=by simp [valueAt,dr,e']
      rw [z5 e,b]; exact h2
    . have e':¬ q.1=k:=λz=>e (h1.trans z);have b:valueAt (q::qs) k=valueAt qs k:=by simp [valueAt,dr,e']
      rw [zQ e,b]; exact ih
theorem KV.any{kvs:List (κ×V)}{vs:List (κ×Value)}(r:KV kvs vs)(k:κ):(kvs.any λkv=>decide (kv.1=k))=vs.any λkv=>decide (kv.1=k):=by
  unfold KV at r;induction r with
  | nil=>rfl
  | cons h t ih=>rw [dU,dU,ih,h.1]
variable {y:V}
theorem KV.repl{kvs:List (κ×V)}{vs:List (κ×Value)}(r:KV kvs vs)(k:κ){u:Value}(ry:RelV y u) : KV (kvs.map λkv=>if kv.1=k then (kv.1,y) else kv) (vs.map λkv=>if kv.1=k then (kv.1,u) else kv):=by
  unfold KV at r ⊢;induction r with
  | nil=>exact .nil
  | @cons p q ps qs h t ih =>
    rw [aU,aU];refine .cons ?_ ih;obtain ⟨h1,h2⟩:=h;by_cases e:p.1=k
    . rw [h7 e,h7 (h1.symm.trans e)]; exact ⟨h1,ry⟩
    . rw [h8 e,h8 (λz=>e (h1.trans z))]; exact ⟨h1,h2⟩
theorem KV.put{kvs:List (κ×V)}{vs:List (κ×Value)}(r:KV kvs vs)(k:κ){u:Value}(ry:RelV y u):KV (putK kvs k y) (stored vs k u):=by
  unfold putK stored;rw [r.any k];by_cases e:(vs.any λkv=>decide (kv.1=k))=true
  . rw [h7 e,h7 e]; exact r.repl k ry
  . rw [h8 e,h8 e]; exact Paired.snoc r ⟨rfl,ry⟩
theorem KV.drop{kvs:List (κ×V)}{vs:List (κ×Value)}(r:KV kvs vs)(k:κ):KV (vL kvs k) (without vs k):=by
  unfold KV at r ⊢;unfold vL without;induction r with
  | nil=>exact .nil
  | @cons p q ps qs h t ih =>
    obtain ⟨h1,h2⟩:=h;rw [cI,cI];by_cases e:p.1=k
    . have a:¬ decide (p.1≠k)=true:=by simp [e]
      have b:¬ decide (q.1≠k)=true:=by simp [h1.symm.trans e]
      rw [h8 a,h8 b]; exact ih
    . have e':¬ q.1=k:=λz=>e (h1.trans z);have a:decide (p.1≠k)=true:=by simp [e]
      have b:decide (q.1≠k)=true:=by simp [e']
      rw [h7 a,h7 b]; exact .cons ⟨h1,h2⟩ ih
theorem KV.keys{kvs:List (κ×V)}{vs:List (κ×Value)}(r:KV kvs vs):kvs.map (·.1)=vs.map (·.1):=by
  unfold KV at r;induction r with
  | nil=>rfl
  | cons h t ih=>rw [aU,aU,ih,h.1]
theorem KV.length{kvs:List (κ×V)}{vs:List (κ×Value)}(r:KV kvs vs):kvs.length=vs.length:=Paired.length r
theorem Ff(kvs:List (κ×V))(k:κ):(vL kvs k).length<=kvs.length:=eI _ _
theorem Ct{P:Program}{w:World}{k:Key}{u:Value}(r:RelV (kV k) u):(zR P w).is k u=true:=by
  cases k with
  | inl i=>obtain ⟨t,e⟩:=(show ∃ t,u=Value.int i t from r); subst e; exact AA P w i t
  | inr x=>obtain ⟨t,e⟩:=(show ∃ t,u=Value.str x t from r); subst e; exact AE P w x t
theorem Ap{P:Program}{w:World}:∀ {ks:List Key} {us:List Value},Vals (ks.map kV) us->ItemsAre (zR P w) ks us
  | [],_,r=>by rw [cL] at r; cases r; exact .nil
  | k::ks,_,r=>by
    rw [aU] at r;cases r with
    | cons h t=>exact .cons (Ct h) (Ap t)
abbrev KT(H:Hp):List (List Key×V)->List (List Key×Addr×Value)->Prop:=Paired λp q=>p.1=q.1/\H q.2.1=some (.tup (p.1.map kV))/\RelV p.2 q.2.2
variable {kvs:List (List Key×V)}
theorem KT.val{H:Hp}{xs:List (List Key×Addr×Value)}(r:KT H kvs xs)(k:List Key):RelO (valV kvs k) ((atKey xs k).map (·.2)):=by
  induction r with
  | nil=>exact True.intro
  | @cons p q ps qs h t ih =>
    obtain ⟨h1,_,h2⟩:=h;by_cases e:p.1=k
    . have e':q.1=k:=h1.symm.trans e;have b:atKey (q::qs) k=some q.2:=by simp [atKey,dr,e']
      rw [z5 e,b]; exact h2
    . have e':¬ q.1=k:=λz=>e (h1.trans z);have b:atKey (q::qs) k=atKey qs k:=by simp [atKey,dr,e']
      rw [zQ e,b]; exact ih
theorem KT.repl{H:Hp}{xs:List (List Key×Addr×Value)}(r:KT H kvs xs)(k:List Key){u:Value}(ry:RelV y u) : KT H (kvs.map λkv=>if kv.1=k then (kv.1,y) else kv) (xs.map (putAt k u)):=by
  induction r with
  | nil=>exact .nil
  | @cons p q ps qs h t ih =>
    rw [aU,aU];refine .cons ?_ ih;obtain ⟨h1,h2,h3⟩:=h;unfold putAt;by_cases e:p.1=k
    . rw [h7 e,h7 (h1.symm.trans e)]; exact ⟨h1,h2,ry⟩
    . rw [h8 e,h8 (λz=>e (h1.trans z))]; exact ⟨h1,h2,h3⟩
theorem KT.put{H:Hp}{xs:List (List Key×Addr×Value)}(r:KT H kvs xs)(k:List Key){b:Addr}{u:Value}(hb:H b=some (.tup (k.map kV)))(ry:RelV y u) : KT H (putK kvs k y) (storedH xs k b u):=by
  have e:(kvs.any λkv=>decide (kv.1=k))=(atKey xs k).isSome:=by
    rw [xW,(r.val k).isSome_eq,Option.isSome_map]
  unfold putK storedH;rw [e];by_cases q:(atKey xs k).isSome=true
  . rw [h7 q,h7 q]; exact r.repl k ry
  . rw [h8 q,h8 q]; exact Paired.snoc r ⟨rfl,hb,ry⟩
variable {H':Hp}
theorem KT.keeps{H:Hp}{xs:List (List Key×Addr×Value)}(r:KT H kvs xs)(ht:∀ b ys,H b=some (.tup ys)->H' b=some (.tup ys)):KT H' kvs xs :=
  Paired.mapP r λ_ _ z=>⟨z.1,ht _ _ z.2.1,z.2.2⟩
variable {P:Program}{w:World}{H:Hp}{h:Heap}{a:Addr}
theorem IC{u:HO}(ok:HOk P w H h)(e:Rd H a u):ObjOk P w H h a u:=e.ok ok
theorem CM{kvs:List (Key×V)}(ok:HOk P w H h)(e:Rd H a (.dK kvs)):kvs.length<=sizeLine/\(a==sysModules)=false/\∃ vs,KV kvs vs/\h.DictOf (zR P w) a vs :=
  show ObjOk P w H h a (.dK kvs) from IC ok e
theorem IE{kvs:List (Key×V)}(ok:HOk P w H h)(e:H a=some (.dK kvs)):kvs.length<=sizeLine/\(a==sysModules)=false/\∃ vs,KV kvs vs/\h.DictOf (zR P w) a vs:=CM ok (.inl e)
theorem Cb{ks:List Key}(ok:HOk P w H h)(e:H a=some (.tup (ks.map kV))):(tupleKind (zR P w)).is h ks a:=by
  obtain ⟨_,its,r,o,h1,h2,n,h3⟩:=(show ObjOk P w H h a (.tup (ks.map kV)) from ok a _ e)
  exact ⟨o,its.toArray,n,h1,h2,h3,by simpa using Ap r⟩
theorem CW(ok:HOk P w H h)(e:Rd H a (.dT kvs)):kvs.length<=sizeLine/\(a==sysModules)=false /\ ∃ xs,KT H kvs xs/\h.DictOfH (tupleKind (zR P w)) a xs:=by
  obtain ⟨z,y,xs,r,o,es,ep,h1,h2,h3,h4,h5⟩:=(show ObjOk P w H h a (.dT kvs) from IC ok e)
  refine ⟨z,y,xs,r,o,es,ep,h1,h2,h3,h4,λx hx=>?_,h5⟩;have all:∀ {l:List (List Key×V)} {m:List (List Key×Addr×Value)},KT H l m->∀ x∈m,(tupleKind (zR P w)).is h x.1 x.2.1:=by
    intro l m q;induction q with
    | nil=>intro x hx; exact nomatch hx
    | @cons p q ps qs hq t ih =>
      intro x hx;rcases aK.mp hx with e|hx
      . subst e;exact Cb ok (by rw [<-hq.1]; exact hq.2.1)
      . exact ih x hx
  exact all r x hx
theorem Ls(ok:HOk P w H h)(e:H a=some (.dT kvs)):kvs.length<=sizeLine/\(a==sysModules)=false /\ ∃ xs,KT H kvs xs/\h.DictOfH (tupleKind (zR P w)) a xs:=CW ok (.inl e)
def DGet(H:Hp)(a:Addr)(y:V)(r:Option V):Prop :=
  (∃ kvs k,Rd H a (.dK kvs)/\y=kV k/\r=valV kvs k)\/∃ kvs k b,Rd H a (.dT kvs)/\y=.ref b/\H b=some (.tup (k.map kV))/\r=valV kvs k
def DPut(H:Hp)(a:Addr)(y v:V)(H':Hp):Prop :=
  (∃ kvs k,H a=some (.dK kvs)/\y=kV k/\kvs.length<sizeLine/\H'=upd H a (.dK (putK kvs k v))) \/
  ∃ kvs k b,H a=some (.dT kvs)/\y=.ref b/\H b=some (.tup (k.map kV))/\kvs.length<sizeLine/\H'=upd H a (.dT (putK kvs k v))
theorem DGet.k{H:Hp}{a:Addr}{kvs:List (Key×V)}{k:Key}(e:H a=some (.dK kvs)):DGet H a (kV k) (valV kvs k):=.inl ⟨kvs,k,.inl e,rfl,rfl⟩
theorem DPut.k{H:Hp}{a:Addr}{kvs:List (Key×V)}{k:Key}{v:V}(e:H a=some (.dK kvs))(hl:kvs.length<sizeLine):DPut H a (kV k) v (upd H a (.dK (putK kvs k v))):=.inl ⟨kvs,k,e,rfl,hl,rfl⟩
variable {h':Heap}{Q:Value->Shared->Prop}
section
variable {X:Cx}{pins:List (Addr×Obj)}{σ:St}{s:Shared}{y v:V}{u r:Value}{o:Option V}{A:Around}{E:Value->Shared->Prop}
theorem Inv.big(I:Inv X pins σ H s):sysModules<s.heap.objs.size:=by
  have h:mainGlobals<s.heap.objs.size:=(I.mod.glob.keeps I.bk).lt;exact fE (by decide) h
theorem Di(hu:A.units+1<cLine)(I:Inv X pins σ H s)(g:DGet H a y (some v))(ry:RelV y u)(h:∀ w' s',Inv X pins σ H s'->RelV v w'->Q w' s') : wpAny (model X.prog X.w) A (getItem (.ref a) u) Q E s:=by
  rcases g with ⟨kvs,k,e,ey,l⟩|⟨kvs,k,b,e,ey,eb,l⟩
  . subst ey;obtain ⟨z,hd,vs,rel,dd⟩:=CM I.hok e;obtain ⟨w',hw,rw'⟩:=RelO.some_of (v:=v) (o:=valueAt vs k) (by rw [l]; exact rel.val k);exact wpAny_getItem_of (Ct ry) dd.mapOf hw (h w' _ (I.tok _) rw')
  . subst ey;cases (show u=Value.ref b from ry)
    obtain ⟨z,hd,xs,rel,dd⟩:=CW I.hok e;obtain ⟨w',hw,rw'⟩:=RelO.some_of (v:=v) (o:=(atKey xs k).map (·.2)) (by rw [l]; exact rel.val k);obtain ⟨p,hp,hp2⟩:=ao.mp hw;refine wpAny_getItem_heap (iw hu) (Cb I.hok eb) dd hp ?_;rw [hp2];exact h w' _ (I.tok _) rw'
theorem Ia(hu:A.units+1<cLine)(I:Inv X pins σ H s)(g:DGet H a y o)(ry:RelV y u)(h:∀ s',Inv X pins σ H s'->Q (.bool (!o.isSome)) s') : wpAny (model X.prog X.w) A (compareOp .NotIn u (.ref a)) Q E s:=by
  rcases g with ⟨kvs,k,e,ey,l⟩|⟨kvs,k,b,e,ey,eb,l⟩
  . subst ey;obtain ⟨z,hd,vs,rel,dd⟩:=CM I.hok e;refine wpAny_notIn_of (Ct ry) hd dd.mapOf ?_;rw [<-(rel.val k).isSome_eq,<-l];exact h _ (I.tok _)
  . subst ey;cases (show u=Value.ref b from ry)
    obtain ⟨z,hd,xs,rel,dd⟩:=CW I.hok e;refine wpAny_notIn_heap (iw hu) (Cb I.hok eb) hd dd ?_;have q:=(rel.val k).isSome_eq;rw [Option.isSome_map] at q;rw [<-q,<-l];exact h _ (I.tok _)
theorem AC{t':Nat}{ob:HO}(I:Inv X pins σ H s)(mu:Mut (H a))(hs:Heap.SameBut a s.heap h')(he:∃ q,h'.get? a=some q)(new:ObjOk X.prog X.w (upd H a ob) h' a ob) : Inv X pins σ (upd H a ob) { s with heap:=h',toks:=t' } :=
  I.write (x:=a) (e:=a) mu (.inl rfl) (λb q hb z=>(hs.2 b hb).trans z) he new
theorem Bn{kvs:List (Key×V)}{vs:List (Key×Value)}(z:kvs.length<=sizeLine)(hd:(a==sysModules)=false)(rel:KV kvs vs)(dd:h'.DictOf (zR P w) a vs) : ObjOk P w H' h' a (.dK kvs):=⟨z,hd,vs,rel,dd⟩
theorem Ey{Q:Unit->Shared->Prop}(hu:A.units+1<cLine)(I:Inv X pins σ H s)(g:DPut H a y v H')(ry:RelV y u)(rv:RelV v r)(h:∀ s',Inv X pins σ H' s'->Q () s') : wpAny (model X.prog X.w) A (setItem (.ref a) u r) Q E s:=by
  rcases g with ⟨kvs,k,e,ey,l,eH⟩|⟨kvs,k,b,e,ey,eb,l,eH⟩
  . subst ey eH;obtain ⟨z,hd,vs,rel,dd⟩:=IE I.hok e;have hz:vs.length<=sizeLine:=by rw [<-rel.length]; exact z
    have hl:(putK kvs k v).length<=sizeLine:=by have:=yL kvs k v; omega
    refine wpAny_setItem_pairs (hsz:=hz) (Ct ry) dd λh' dd' hs=>h _ ?_;have he:∃ q,h'.get? a=some q:=let ⟨q,_,_,hq,_⟩:=dd'; ⟨q,hq⟩
    exact AC I (by rw [e]; exact True.intro) hs he (Bn hl hd (rel.put k rv) dd')
  . subst ey eH;cases (show u=Value.ref b from ry)
    obtain ⟨z,hd,xs,rel,dd⟩:=Ls I.hok e;have hz:xs.length<=sizeLine:=by rw [<-Paired.length rel]; exact z
    have hl:(putK kvs k v).length<=sizeLine:=by have:=yL kvs k v; omega
    refine wpAny_setItem_heap (hsz:=hz) (iw hu) (Cb I.hok eb) dd λh' dd' hs=>h _ ?_;obtain ⟨q,es,ep,hq,h2,h3,h4,_,h5⟩:=dd';refine AC I (by rw [e]; exact True.intro) hs ⟨q,hq⟩ ⟨hl,hd,_,(rel.put k eb rv).keeps λc ys ec=>?_,q,es,ep,hq,h2,h3,h4,h5⟩;rw [zj (zX ec e (λz=>nomatch z))];exact ec
end
section
variable {X:Cx}{pins:List (Addr×Obj)}{σ:St}{s:Shared}{kvs:List (Key×V)}{k:Key}{u:Value}{A:Around}{E:Value->Shared->Prop}
theorem KP{v:V}{more:List Value}(I:Inv X pins σ H s)(e:H a=some (.dK kvs))(ry:RelV (kV k) u)(l:valV kvs k=some v)(hm:more=[]\/∃ x,more=[x])(h:∀ w' s',Inv X pins σ (upd H a (.dK (vL kvs k))) s'->RelV v w'->Q w' s'):wpAny (model X.prog X.w) A (call (.builtin "dict.pop") (.ref a::u::more)) Q E s:=by
  obtain ⟨z,hd,vs,rel,dd⟩:=IE I.hok e;obtain ⟨w',hw,rw'⟩:=RelO.some_of (v:=v) (o:=valueAt vs k) (by rw [<-l]; exact rel.val k);have hp:(keyPart u).isSome=true:=by
    cases k with
    | inl i=>obtain ⟨t,q⟩:=(show ∃ t,u=Value.int i t from ry); subst q; rfl
    | inr x=>obtain ⟨t,q⟩:=(show ∃ t,u=Value.str x t from ry); subst q; rfl
  have ha:argsOk "dict.pop" ⟨.ref a::u::more,[]⟩:=by
    rcases hm with q|⟨x,q⟩
    . subst q; exact PySem.F.args_dict_pop_2 _ _
    . subst q; exact PySem.F.args_dict_pop_3 _ _ _
  refine call_meetsIn gF dd.typeIs PySem.F.entry_dict_pop ha (meets_dict_pop_there (zR X.prog X.w) a (Ct ry) more hm hp)
    ⟨vs,w',dd,by rw [<-rel.length]; exact z,hw,λh' dd' hs=>h w' _ ?_ rw'⟩
  have he:∃ q,h'.get? a=some q:=let ⟨q,_,_,hq,_⟩:=dd'; ⟨q,hq⟩
  exact AC I (by rw [e]; exact True.intro) hs he (Bn (bK (Ff kvs k) z) hd (rel.drop k) dd')
end
def NoSl(i:Expr):Prop:=∀ ov iv,subscripted i false ov iv=operate [ov,iv] (getItem ov iv)
theorem HA{prog:Program}{A:Around}{E:Value->Shared->Prop}{s:Shared}{env:Env}{value slice:Expr}{pos:Pos}{T id:String}(hl:typeLookup (.type T) "__getitem__"=pure (some (.builtin id)))(hs:NoSl slice)(h:wpAny (model prog w) A (eval value env) (λo s₁=>wpAny (model prog w) A (eval slice env) (λi s₂=>s₂.TypeIs o T/\wpAny (model prog w) A (getItem o i) Q E s₂) E s₁) E s) : wpAny (model prog w) A (eval (.Subscript value slice pos) env) Q E s:=by
  refine Subscript_ (h9 h (λo s₁ h₁=>h9 h₁ (λi s₂ h₂=>?_) λ_ _ x=>x) λ_ _ x=>x);obtain ⟨hT,h₂⟩:=h₂;unfold subscriptTail;refine ig ?_;rw [getitemInPython_of_ne hT.not_modules];refine ig (wpAny_specialOf hT hl ?_);have fin:wpAny (model prog w) A (subscripted slice false o i) (λr s₃=>wpAny (model prog w) A (letTemporaryGo value o r >>= λ_=>pure r) Q E s₃) E s₂:=by
    rw [hs o i];exact wpAny_operating (h9 h₂ (λr s₃ h₃=>ig (wpAny_letTemporaryGo (ii h₃))) λ_ _ x=>x)
  first
    | exact ii (ig fin)
    | exact ig (ii (ig fin))
    | exact ig fin
variable {pins:List (Addr×Obj)}
theorem AV{X:Cx}{σ:St}{s:Shared}{o:Option V}(I:Inv X pins σ H s)(g:DGet H a y o):s.TypeIs (.ref a) "dict":=by
  rcases g with ⟨kvs,k,e,_,_⟩|⟨kvs,k,b,e,_,_,_⟩
  . obtain ⟨_,_,vs,_,dd⟩:=CM I.hok e;exact dd.typeIs
  . obtain ⟨_,_,xs,_,dd⟩:=CW I.hok e;exact dd.typeIs
def JG(td ty:TE):TE:=λσ H Q=>td σ H λx H1=>ty σ H1 λy H2=>∃ a v,x=.ref a/\DGet H2 a y (some v)/\Q v H2
def Ec(ty td:TE):TE:=λσ H Q=>ty σ H λy H1=>td σ H1 λx H2=>∃ a o,x=.ref a/\DGet H2 a y o/\Q (.bl (!o.isSome)) H2
def Ka(td ty tv:TE):TS:=λD σ H=>tv σ H λv H1=>td σ H1 λx H2=>ty σ H2 λy H3=>∃ a H4,x=.ref a/\DPut H3 a y v H4/\D.nx σ H4
section
variable {X:Cx}{o i e value:Expr}{pos pos' tpos:Pos}{td ty tv:TE}
theorem xn(hu:X.A.units+1<cLine)(ho:PE X o td)(hi:PE X i ty)(hs:NoSl i):PE X (.Subscript o i pos) (JG td ty):=by
  intro pins s σ H Q I h;refine HA PySem.F.slot_dict_getitem.lookup hs (thn (ho pins s σ H _ I h) λu s1 ⟨x,H1,I1,rx,q1⟩=>thn (hi pins s1 σ H1 _ I1 q1) λiv s2 ⟨y,H2,I2,ry,a,v,ex,g,q2⟩=>?_);subst ex;obtain rfl:u=Value.ref a:=rx;exact ⟨AV I2 g,Di hu I2 g ry λw' s3 I3 rw'=>⟨v,H2,I3,rw',q2⟩⟩
theorem Es(hu:X.A.units+1<cLine)(hi:PE X i ty)(ho:PE X o td):PC X .NotIn i o (Ec ty td):=by
  intro pins s σ H Q I h;refine thn (hi pins s σ H _ I h) λiv s1 ⟨y,H1,I1,ry,q1⟩=>thn (ho pins s1 σ H1 _ I1 q1) λu s2 ⟨x,H2,I2,rx,a,ov,ex,g,q2⟩=>?_;subst ex;obtain rfl:u=Value.ref a:=rx;exact Ia hu I2 g ry λs3 I3=>⟨.bl (!ov.isSome),H2,I3,rfl,q2⟩
theorem xI(hu:X.A.units+1<cLine)(ho:PE X o td)(hi:PE X i ty)(hv:PE X value tv)(hs:swapsWith value (some (.Subscript o i pos')) pos.line X.env=pure false) : PS X (.Assign [.Subscript o i pos'] value pos) (Ka td ty tv):=by
  intro pins s σ H D I h;refine wpAny_Assign_Subscript (thn (hv pins s σ H _ I h) λr s1 ⟨v,H1,I1,rv,q1⟩=>thn (ho pins s1 σ H1 _ I1 q1) λu s2 ⟨x,H2,I2,rx,q2⟩=>thn (hi pins s2 σ H2 _ I2 q2) λiv s3 ⟨y,H3,I3,ry,a,H4,ex,g,q3⟩=>?_) hs;subst ex;obtain rfl:u=Value.ref a:=rx;exact Ey hu I3 g ry rv λs4 I4=>⟨σ,H4,I4,q3⟩
end
variable {X:Cx}{pos:Pos}
structure M1(X:Cx)(o:Expr)(m:Str)(apos:Pos)(e:Expr)(cpos:Pos):Prop where
  base:attributeBase o m X.env (eval o X.env)=eval o X.env
  few:((backTo cpos (starEach [e] X.env)).all (λx=>!x.1) && (backToKw cpos (keywordEach [] X.env)).all (λx=>x.1.isSome)
    && decide (([e]:List Expr).length+([]:List Keyword).length+(if ([]:List Keyword).isEmpty then 0 else 1)<30))=true
  line:(apos.endLine==cpos.line)=true
  trees:backTo cpos (starEach [e] X.env)=[(false,eval e X.env)]
def IsD(H:Hp)(a:Addr):Prop:=(∃ kvs,Rd H a (.dK kvs))\/∃ kvs,Rd H a (.dT kvs)
theorem Jh{σ:St}{s:Shared}(I:Inv X pins σ H s)(d:IsD H a) : s.TypeIs (.ref a) "dict"/\(∀ b,Value.ref a=.ref b->∃ ob,s.heap.get? b=some ob/\ob.dict=none)/\(a==sysModules)=false:=by
  rcases d with ⟨kvs,e⟩|⟨kvs,e⟩
  . obtain ⟨_,hd,vs,_,dd⟩:=CM I.hok e;refine ⟨dd.typeIs,λb q=>?_,hd⟩;cases q
    obtain ⟨ob,_,_,h1,h2,_⟩:=dd;exact ⟨ob,h1,h2.2.1⟩
  . obtain ⟨_,hd,xs,_,dd⟩:=CW I.hok e;refine ⟨dd.typeIs,λb q=>?_,hd⟩;cases q
    obtain ⟨ob,_,_,h1,h2,_⟩:=dd;exact ⟨ob,h1,h2.2.1⟩
section
variable {pins:List (Addr×Obj)}{σ:St}{s:Shared}{y d:V}{u r:Value}{o:Option V}{A:Around}{E:Value->Shared->Prop}
end
def GV(td ty:TE):TE:=λσ H Q=>td σ H λx H1=>∃ a,x=.ref a/\IsD H1 a/\ty σ H1 λy H2=>∃ kvs k v,H2 a=some (.dK kvs)/\y=kV k/\valV kvs k=some v/\Q v (upd H2 a (.dK (vL kvs k)))
variable {o e f:Expr}{apos cpos:Pos}{td ty tx:TE}
theorem uP(ho:PE X o td)(he:PE X e ty)(m:M1 X o "pop" apos e cpos):PE X (.Call (.Attribute o "pop" apos) [e] [] cpos) (GV td ty):=by
  intro pins s σ H Q I h;refine wpAny_Call_method m.base m.few m.line PySem.F.plainAttrs_dict gF PySem.F.type_dict_pop (thn (ho pins s σ H _ I h) λu s1 ⟨x,H1,I1,rx,a,ex,d,q1⟩=>?_);subst ex;obtain rfl:u=Value.ref a:=rx;obtain ⟨t1,t2,_⟩:=Jh I1 d;refine ⟨t1,t2,?_⟩;rw [m.trees];refine Calls.callWith_builtin rfl (Calls.evalArgs_plain (Calls.spliced_cons (thn (he pins s1 σ H1 _ I1 q1) λiv s2 ⟨y,H2,I2,ry,kvs,k,v,ea,ey,l,q2⟩=>Calls.spliced_nil ?_)));subst ey;exact KP I2 ea ry l (.inl rfl) λw' s3 I3 rw'=>⟨v,_,I3,rw',q2⟩
section
variable {pins:List (Addr×Obj)}{σ:St}{s:Shared}{kvs:List (Key×V)}{A:Around}{E:Value->Shared->Prop}
theorem FR(I:Inv X pins σ H s)(e:Rd H a (.dK kvs))(h:∀ p s',H p=none->Inv X pins σ (upd H p (.dK kvs)) s'->Q (.ref p) s'):wpAny (model X.prog X.w) A (call (.type "dict") [.ref a]) Q E s:=by
  obtain ⟨z,hd,vs,rel,dd⟩:=CM I.hok e;refine kt_call_dict hd dd (by rw [<-rel.length]; exact z) λh' dd' hs=>?_;refine h _ _ (I.hok.fresh (ai _)) (I.laid (a:=s.heap.objs.size) (o:=.dK kvs) (t':=s.toks) (λb q hq=>?_) (ai _) (Bn z (beq_eq_false_iff_ne.mpr (ca (az I.big))) rel dd'));exact (hs.2 b (az (Heap.lt_size hq))).trans (Heap.get?_push_of_some _ hq)
end
section
variable {pins:List (Addr×Obj)}{σ:St}{s:Shared}{y:V}{u:Value}{A:Around}{E:Value->Shared->Prop}
end
end L2
namespace Att
open PySem PySem.W PySem.Calls PyProof.Rows
end Att
namespace L2
open PySem PySem.Spec PyProof.Rows
variable {X:Cx}
variable {κ:Type}[DecidableEq κ]
end L2
namespace Bg
theorem Fe(a b:Int):Int.gcd b (a.fmod b)=Int.gcd a b:=by
  rw [Int.fmod_def,av,eW,db]
theorem Fm(a b:Int):Int.gcd b (a % b)=Int.gcd a b:=by
  rw [Int.emod_def,av,eW,db]
variable {a:Int}
theorem Ik{b:Int}(h:b≠0):(a.fmod b).natAbs<b.natAbs:=by
  rw [Int.fmod_eq_emod];have h1:=ce a h;have h2:=Int.emod_lt a h;by_cases c:0<=b\/b∣a
  . rw [h7 c]; omega
  . rw [h8 c];have hb:b<0:=by
      rcases gG b 0 with z|z
      . exact z
      . exact absurd (Or.inl z) c
    have hd:¬ b∣a:=λz=>c (Or.inr z);have hn:a % b≠0:=λz=>hd (Int.dvd_of_emod_eq_zero z);omega
def Bd(k:Nat)(x:Int):Prop:=x.natAbs<2 ^ k
instance {k:Nat} {x:Int}:Decidable (Bd k x):=inferInstanceAs (Decidable (x.natAbs<2 ^ k))
variable {x:Int}
theorem Bd.mono{j k:Nat}(h:Bd j x)(l:j<=k):Bd k x:=aE h (Nat.pow_le_pow_right (by decide) l)
theorem Bd.neg{k:Nat}(h:Bd k x):Bd k (-x):=by unfold Bd at *; rw [Int.natAbs_neg]; exact h
variable {y:Int}
theorem Bd.mul{j k:Nat}(h:Bd j x)(g:Bd k y):Bd (j+k) (x*y):=by
  unfold Bd at *
  rw [cf,Nat.pow_add];exact Nat.mul_lt_mul_of_lt_of_lt h g
theorem Bd.add{k:Nat}(h:Bd k x)(g:Bd k y):Bd (k+1) (x+y):=by
  unfold Bd at *
  rw [Nat.pow_succ];omega
theorem Bd.sub{k:Nat}(h:Bd k x)(g:Bd k y):Bd (k+1) (x - y):=by
  unfold Bd at *
  rw [Nat.pow_succ];omega
theorem Bd.of_le{k:Nat}(h:Bd k y)(l:x.natAbs<=y.natAbs):Bd k x:=br l h
theorem vI(a b:Int):(a.fdiv b).natAbs<=a.natAbs:=by
  by_cases hb:b=0
  . subst hb; simp
  have key:∀ a b:Int,0<b->(a.fdiv b).natAbs<=a.natAbs:=λa b hb=>by
    rw [fm a (by omega)];have h1:b*(a / b)+a % b=a:=Int.mul_ediv_add_emod a b;have h2:=ce a (show b≠0 by omega);have h3:=cg a hb;rcases gG (a / b) 0 with q|q
    . have e:a<=a / b:=by
        have:b*(a / b)<=1*(a / b) - (b - 1):=by
          have z:(b - 1)*(a / b)<=(b - 1)*(-1):=eK (by omega) (by omega);have z2:b*(a / b)=(b - 1)*(a / b)+a / b:=by rw [gT]; omega
          omega
        omega
      omega
    . have e:a / b<=a:=by
        have z:1*(a / b)<=b*(a / b):=Int.mul_le_mul_of_nonneg_right (by omega) q;omega
      omega
  rcases gG b 0 with h|h
  . have e:a.fdiv b=(-a).fdiv (-b):=by rw [Int.neg_fdiv_neg]
    rw [e];have:=key (-a) (-b) (by omega);omega
  . exact key a b (by omega)
theorem Bd.fdiv{k:Nat}{x:Int}(h:Bd k x)(y:Int):Bd k (x.fdiv y):=h.of_le (vI x y)
theorem Bd.emod{k:Nat}(h:Bd k y)(hy:y≠0)(x:Int):Bd k (x % y):=by
  refine h.of_le ?_;have h1:=ce x hy;have h2:=Int.emod_lt x hy;omega
theorem Bd.log{k:Nat}(h:Bd k x):x.natAbs.log2<=k:=by
  by_cases z:x.natAbs=0
  . rw [z]; simp
  . exact bn ((gU z).mpr h)
def g3(a b n:Int):Nat:=Int.gcd (Int.gcd n a) b
def gd(a b n:Int):Int:=if n<0 then -(g3 a b n:Int) else (g3 a b n:Int)
theorem g3_n(a b n:Int):(g3 a b n:Int)∣n:=aW (bH ..) (bH ..)
theorem g3_a(a b n:Int):(g3 a b n:Int)∣a:=aW (bH ..) (bM ..)
theorem g3_b(a b n:Int):(g3 a b n:Int)∣b:=bM ..
theorem Fa{b n:Int}(h:n≠0):0<g3 a b n:=by
  rcases Nat.eq_zero_or_pos (g3 a b n) with z|z
  . have:=g3_n a b n;rw [z] at this;exact absurd (Int.zero_dvd.mp (by simpa using this)) h
  . exact z
theorem IH(a b n:Int):Int.gcd (Int.gcd a b) n=g3 a b n:=by
  unfold g3;rw [db,<-Int.gcd_assoc]
theorem Ij{b n:Int}(h:n≠0):gd a b n≠0:=by
  have:=Fa (a:=a) (b:=b) h;unfold gd;split <;> omega
theorem Ge(a b n:Int):(gd a b n).natAbs=g3 a b n:=by
  unfold gd;split <;> simp
theorem DB{b n:Int}(h:(g3 a b n:Int)∣x):gd a b n∣x:=by
  unfold gd;split
  . exact Int.neg_dvd.mpr h
  . exact h
theorem HZ{k:Nat}{b n:Int}(hn:n≠0)(h:Bd k n):Bd k (gd a b n):=by
  refine h.of_le ?_;rw [Ge];exact gZ (by omega) (by
    have:=bQ.mpr (g3_n a b n);simpa using this)
def lA(a b n:Int):Int:=a.fdiv (gd a b n)
def lB(a b n:Int):Int:=b.fdiv (gd a b n)
def lN(a b n:Int):Int:=n.fdiv (gd a b n)
theorem GL{b n:Int}:lA a b n*gd a b n=a:=eZ (DB (g3_a a b n))
theorem GQ{b n:Int}:lB a b n*gd a b n=b:=eZ (DB (g3_b a b n))
theorem lN_mul{b n:Int}:lN a b n*gd a b n=n:=eZ (DB (g3_n a b n))
theorem l_a{b n:Int}:lA a b n*n=a*lN a b n:=by
  have h1:=GL (a:=a) (b:=b) (n:=n);have h2:=lN_mul (a:=a) (b:=b) (n:=n)
  calc lA a b n*n=lA a b n*(lN a b n*gd a b n):=by rw [h2]
    _=lA a b n*gd a b n*lN a b n:=by rw [am,av (gd a b n)]
    _=a*lN a b n:=by rw [h1]
theorem l_b{b n:Int}:lB a b n*n=b*lN a b n:=by
  have h1:=GQ (a:=a) (b:=b) (n:=n);have h2:=lN_mul (a:=a) (b:=b) (n:=n)
  calc lB a b n*n=lB a b n*(lN a b n*gd a b n):=by rw [h2]
    _=lB a b n*gd a b n*lN a b n:=by rw [am,av (gd a b n)]
    _=b*lN a b n:=by rw [h1]
theorem l_n{b n:Int}(h:n≠0):1<=lN a b n:=by
  have h2:=lN_mul (a:=a) (b:=b) (n:=n);have hp:=Fa (a:=a) (b:=b) h;have hs:0<lN a b n:=by
    by_cases c:n<0
    . have e:gd a b n=-(g3 a b n:Int):=h7 c;rw [e] at h2;refine eM λz=>?_;have:0<=lN a b n*-(g3 a b n:Int):=dQ z (by omega);omega
    . have e:gd a b n=(g3 a b n:Int):=h8 c;rw [e] at h2;refine eM λz=>?_;have:lN a b n*(g3 a b n:Int)<=0:=c6 z (by omega);omega
  omega
theorem xB{b n:Int}(h:n≠0):g3 (lA a b n) (lB a b n) (lN a b n)=1:=by
  have hp:=Fa (a:=a) (b:=b) h;have e:g3 a b n=g3 (lA a b n) (lB a b n) (lN a b n)*(gd a b n).natAbs:=by
    have h1:=GL (a:=a) (b:=b) (n:=n);have h2:=GQ (a:=a) (b:=b) (n:=n);have h3:=lN_mul (a:=a) (b:=b) (n:=n);have:g3 (lA a b n*gd a b n) (lB a b n*gd a b n) (lN a b n*gd a b n)=g3 (lA a b n) (lB a b n) (lN a b n)*(gd a b n).natAbs:=by
      unfold g3;rw [Int.gcd_mul_right];have e1:((Int.gcd (lN a b n) (lA a b n)*(gd a b n).natAbs:Nat):Int).gcd (lB a b n*gd a b n)=Int.gcd ((Int.gcd (lN a b n) (lA a b n):Int)*gd a b n) (lB a b n*gd a b n):=by
        rw [a9,a9];congr 1;rw [cf,b9,b9]
      rw [e1,Int.gcd_mul_right]
    rw [h1,h2,h3] at this;exact this
  rw [Ge] at e;have:1*g3 a b n=g3 (lA a b n) (lB a b n) (lN a b n)*g3 a b n:=by omega
  exact (Nat.eq_of_mul_eq_mul_right hp this).symm
end Bg
namespace L2
open PySem PySem.Spec PyProof.Rows Bg
theorem Er{k:Nat}{x:Int}(h:Bd k x):Builtin.Int.intBits x<=k:=by
  unfold Builtin.Int.intBits;split
  . exact bZ _
  . rename_i z;have z':x≠0:=by simpa using z
    exact (gU (by omega)).mpr h
variable {y:Int}
theorem Bd.ok{j k:Nat}{x:Int}(h:Bd j x)(g:Bd k y)(l:j+k<=134217728):IntMulOk x y:=by
  have h1:=Er h;have h2:=Er g;unfold IntMulOk;have:Builtin.Int.intTooBig (Builtin.Int.intBits x+Builtin.Int.intBits y)=false:=by
    unfold Builtin.Int.intTooBig bitsLine;simp only [decide_eq_false_iff_not,eU,gt_iff_lt];have:(2 ^ 27:Nat)=134217728:=by decide
    omega
  rw [this];simp
variable {X:Cx}
theorem zm:OpR X (binaryOp .Mult) (rI IntMulOk λi j=>.int (i*j)):=opI λ_ _ _ _ _ _ _ hc q=>mul_int q hc
abbrev CFd(_ j:Int):Prop:=j≠0/\j.natAbs.log2<9000
abbrev CFp(_ j:Int):Prop:=0<j/\j.natAbs.log2<9000
abbrev CPw(i j:Int):Prop:=0<=j/\(Builtin.Int.intBits i:Int)*j<=2 ^ 27
theorem zM:OpR X (binaryOp .FloorDiv) (rI CFd λi j=>.int (i.fdiv j)):=opI λ_ _ _ _ _ _ _ hc q=>floordiv_int hc.1 q (.inl (fW hc.2))
theorem zS:OpR X (binaryOp .FloorDiv) (rI CFp λi j=>.int (i / j)):=opI λi j _ _ _ _ _ hc q=>by
  have h1:(0:Int)<j:=hc.1;exact floordiv_int (by omega) (by rw [fm i (by omega)]; exact q) (.inl (fW hc.2))
theorem Ar:OpR X (binaryOp .Pow) (rI CPw λi j=>.int (i ^ j.toNat)):=opI λ_ _ _ _ _ _ _ hc q=>pow_int hc.1 hc.2 q
def rIs(K:iB):List V->Hp->VK->Prop:=λxs H Q=>∃ x T t b,xs=[x,.ty T]/\TyOf K H x t/\W.kitOne K t (.type T)=some b/\Q (.bl b) H
theorem yG:yS X (.builtin "isinstance") (rIs X.K):=by
  intro pins s σ H xs us Q I r h;obtain ⟨x,T,t,b,rfl,ty,e,q⟩:=h;obtain ⟨u,c,rfl,ru,rc⟩:=KY r;cases (show c=Value.type T from rc)
  exact DS I ru ty e λtk=>⟨.bl b,H,I.tok tk,rfl,q⟩
theorem ul(K:iB)(T:String):W.kitOne K (.type T) (.type T)=some true:=by
  unfold W.kitOne;rw [h7];simp
theorem Ag(K:iB):W.kitOne K (.type "int") (.type "bool")=some false:=by
  unfold W.kitOne;rw [h8 (by decide)];show (if W.kitMeta "bool"=true then W.subIn K (.type "int") (.type "bool") else none)=some false;rw [h7 (by decide +kernel)];show (fastBuiltinMro "int").map (·.contains (Value.type "bool"))=some false;decide +kernel
section
variable {K:iB}{H:Hp}{Q:VK}
theorem FH{i:Int}(h:Q (.bl true) H):rIs K [.int i,.ty "int"] H Q:=⟨_,_,_,_,rfl,.int i,ul K _,h⟩
theorem Dz{i:Int}(h:Q (.bl false) H):rIs K [.int i,.ty "bool"] H Q:=⟨_,_,_,_,rfl,.int i,Ag K,h⟩
theorem F6{a:Addr}{xs:List V}(e:H a=some (.tup xs))(h:Q (.bl true) H):rIs K [.ref a,.ty "tuple"] H Q:=⟨_,_,_,_,rfl,.tup e,ul K _,h⟩
end
def Own(P:Program)(w:World)(K:iB)(mg:Str->Option Value)(base:Heap)(k:Nat)(x:Str)(ps:List Str)(dvs:List V)(sp:Sp):Prop :=
  ∃ (f:Addr) (fd:FuncData) (ds:List Value),FnOk P w K mg base CX0 k f fd ps sp/\mg x=some (.ref f)/\W.keepIn K (.ref f)=true/\Binds K fd ps ds/\Vals dvs ds
variable {ps:List Str}{dvs:List V}{sp:Sp}{x:Str}{t:TA}
theorem ze{k j:Nat}{p pos:Pos}{e:Expr}{es:List Expr}(O:Own X.prog X.w X.K X.mg X.base k x ps dvs sp)(hr:Room j X.A)(hg:Gl X x)(ha:PA X (e::es) t)(hk:k<=j:=by decide)(hdb:(x==("__debug__":Str))=false:=by decide)(he:starEach (e::es) X.env=(false,eval e X.env)::starEach es X.env:=by rfl)(hpl:(backTo pos (starEach es X.env)).any (·.1)=false:=by rfl) :
    PE X (.Call (.Name x p) (e::es) [] pos) (HU sp dvs E0 t):=by
  obtain ⟨f,fd,ds,F,hm,kp,hb,hd⟩:=O;exact HJ F (hr.mono hk) hg hm kp hb hd uG ha hdb he hpl
structure FunD(K:iB)(x qual:Str)(st:Stmt)(f:Addr)(fd:FuncData)(its:List Value):Prop where
  ex:∃ (oc:Value) (od:Option Addr) (T:Addr) (kV doc pm:Value) (an:Option Addr) (cdv ct:Value) (osl:Array (Option Value)) (to:Obj) (n:Nat),
    fd=W.fnOf x qual (defArgs st) (defBody st) (defScope st) (.ref T) kV doc pm an cdv ct/\K.lookup f=some ⟨oc,od,.func fd,osl⟩/\W.codeIn K cdv qual=true/\K.lookup T=some to/\to.data=.seq its.toArray n
  kp:W.keepIn K (.ref f)=true
variable {f:Addr}{fd:FuncData}{its:List Value}{qual:Str}
section
variable {P:Program}{w:World}{K:iB}{mg:Str->Option Value}{base:Heap}
theorem FunD.ok{st:Stmt}{N:List Str}{k:Nat}(F:FunD K x qual st f fd its)(S:FnScope N ps (defScope st))(len:∀ vs H Q E,sp vs H Q E->vs.length=ps.length)(hbody:∀ (cdv:Value) (A:Around) (outer:List Env) (s:Shared) (H:Hp) (vs:List V) (Q:VK) (E:XK),Room k (A.deeper (envOfC qual (defScope st) s.heap.objs.size f cdv))->sp vs H Q E ->
      ∃ t,PSs (cxOf CX0 P w K mg base N qual (defScope st) f cdv A outer s H E).nox (defBody st) t/\t { nx:=λ_ H'=>Q .non H',rt:=Q } (start N vs) H):FnOk P w K mg base CX0 (k+1) f fd ps sp:=by
  obtain ⟨oc,od,T,kV,doc,pm,an,cdv,ct,osl,to,n,rfl,lk,hcd,_⟩:=F.ex;refine IF lk hcd S len λA outer s H vs Q E hr hsp=>?_;obtain ⟨t,h,q⟩:=hbody cdv A outer s H vs Q E hr hsp;exact ⟨t,h.nox,q⟩
end
def Top(K:iB)(mg:Str->Option Value)(x:Str)(st:Stmt):Prop:=∃ (f:Addr) (fd:FuncData),Fun K x x st f fd/\mg x=some (.ref f)
def TopD(K:iB)(mg:Str->Option Value)(x:Str)(st:Stmt)(its:List Value):Prop:=∃ (f:Addr) (fd:FuncData),FunD K x x st f fd its/\mg x=some (.ref f)
variable {osl:Array (Option Value)}{h:Heap}{an od:Option Addr}{mg:Str->Option Value}{cdv ct doc oc pm:Value}
theorem top_mk{K:iB}{st:Stmt}{kV:Value}(X:K.In h)(G:h.Ns mainGlobals mg)(a:W.nsIn K mainGlobals x=some (some (.ref f)))(l:K.lookup f=some ⟨oc,od,.func (W.fnOf x x (defArgs st) (defBody st) (defScope st) .none kV doc pm an cdv ct),osl⟩)(c:W.codeIn K cdv x=true)(k:W.keepIn K (.ref f)=true):Top K mg x st:=⟨f,_,GU l c k,dC X G a⟩
theorem topD_mk{K:iB}{st:Stmt}{T:Addr}{kV:Value}{n:Nat}{to:Obj}(X:K.In h)(G:h.Ns mainGlobals mg)(a:W.nsIn K mainGlobals x=some (some (.ref f)))(l:K.lookup f=some ⟨oc,od,.func (W.fnOf x x (defArgs st) (defBody st) (defScope st) (.ref T) kV doc pm an cdv ct),osl⟩)(c:W.codeIn K cdv x=true)(k:W.keepIn K (.ref f)=true)(t:K.lookup T=some to)(d:to.data=.seq its.toArray n):TopD K mg x st its:=⟨f,_,⟨⟨oc,od,T,kV,doc,pm,an,cdv,ct,osl,_,n,rfl,l,c,t,d⟩,k⟩,dC X G a⟩
theorem Top.own{P:Program}{w:World}{K:iB}{base:Heap}{k:Nat}{st:Stmt}(T:Top K mg x st)(hb:∀ (kV doc pm:Value) (an:Option Addr) (cdv ct:Value) (us:List Value),us.length=ps.length->bindArgs (W.fnOf x x (defArgs st) (defBody st) (defScope st) .none kV doc pm an cdv ct) ⟨us,[]⟩=pure (ps.zip us))(h:∀ f fd,Fun K x x st f fd->FnOk P w K mg base CX0 k f fd ps sp):Own P w K mg base k x ps [] sp:=by
  obtain ⟨f,fd,F,m⟩:=T;exact ⟨f,fd,[],h f fd F,m,F.kp,F.binds hb,.nil⟩
def NewL(xs:List V)(H:Hp)(Q:VK):Prop:=xs.length<=sizeLine/\∀ p,H p=none->Q (.ref p) (upd H p (.lst xs))
def NewT(xs:List V)(H:Hp)(Q:VK):Prop:=xs.length<=sizeLine/\∀ p,H p=none->Q (.ref p) (upd H p (.tup xs))
def rLen(K:iB):List V->Hp->VK->Prop:=λxs H Q=>∃ p ys,xs=[.ref p]/\(SqL K H p ys\/SqT K H p ys)/\Q (.int ys.length) H
def rAbs:List V->Hp->VK->Prop:=λxs H Q=>∃ i,xs=[.int i]/\Q (.int (if i<0 then -i else i)) H
def rInt:List V->Hp->VK->Prop:=λxs H Q=>(∃ i,xs=[.int i]/\Q (.int i) H)\/∃ k,xs=[.bl k]/\Q (.int (if k then 1 else 0)) H
theorem zt:yS X (.builtin "len") (rLen X.K):=Ao
theorem vA:yS X (.builtin "abs") rAbs:=F7
theorem vh:yS X (.type "int") rInt:=D6
variable {g:Int->Int->V}{ta te:TE}{c:TT}
section
variable {σ:St}{H:Hp}{Q:VK}{B:Bool->Hp->Prop}{D:Ends}{K:iB}
theorem Ll{t u:TS}(h:t { D with nx:=u D } σ H):tSeq t u D σ H:=h
theorem i_next(h:D.nx σ H):JI D σ H:=h
theorem i_asg{g:TG}(h:te σ H λx H1=>g x σ H1 D.nx):tAsg te g D σ H:=h
theorem i_gname{i:Nat}{v:V}{R:St->Hp->Prop}(h:R (σ.set i (some v)) H):Cw i v σ H R:=h
theorem i_ret(h:te σ H D.rt):tRet te D σ H:=h
theorem i_drop(h:te σ H λ_ H1=>D.nx σ H1):JC te D σ H:=h
theorem i_ifS{t u:TS}(h:c σ H λb H1=>if b=true then t D σ H1 else u D σ H1):tIfS c t u D σ H:=h
theorem i_var{i:Nat}{v:V}(e:σ[i]?=some (some v))(h:Q v H):tVar i σ H Q:=⟨v,e,h⟩
theorem i_c{v:V}(h:Q v H):tC v σ H Q:=h
theorem i_op{r:R2}{tb:TE}(h:ta σ H λx H1=>tb σ H1 λy H2=>r x y H2 Q):tOp r ta tb σ H Q:=h
theorem i_un{r:V->Hp->VK->Prop}(h:ta σ H λx H1=>r x H1 Q):tUn r ta σ H Q:=h
theorem i_I0{i j:Int}(h:Q (g i j) H):rI0 g (.int i) (.int j) H Q:=⟨i,j,rfl,rfl,h⟩
theorem i_I{C:Int->Int->Prop}{i j:Int}(h:Q (g i j) H)(c:C i j):rI C g (.int i) (.int j) H Q:=⟨i,j,rfl,rfl,c,h⟩
theorem i_U{g:Int->V}{i:Int}(h:Q (g i) H):rU g (.int i) H Q:=⟨i,rfl,h⟩
theorem Le{i j:Int}(h:Q (.bl (decide (i=j))) H):rEq (.int i) (.int j) H Q:=⟨rfl,by
  have e:decide (V.int i=V.int j)=decide (i=j):=by rw [ui]; exact gH i j
  rw [e]; exact h⟩
theorem Lg{i j:Int}(h:Q (.bl (!decide (i=j))) H):rNe (.int i) (.int j) H Q:=⟨rfl,by
  have e:decide (V.int i=V.int j)=decide (i=j):=by rw [ui]; exact gH i j
  rw [e]; exact h⟩
theorem JU{t:TE}(h:t σ H λx H'=>∃ k,x=.bl k/\B k H'):Kb t σ H B:=h
theorem i_tB{t:TE}(h:t σ H λx H'=>∃ k,x=.bl k/\B k H'):tB t σ H B:=h
theorem i_bl{k:Bool}{R:Bool->Prop}(h:R k):∃ k',V.bl k=.bl k'/\R k':=⟨k,rfl,h⟩
theorem LD{t u:TT}(h:t σ H λc H1=>if c=true then u σ H1 B else B false H1):tAnd t u σ H B:=h
theorem i_or{t u:TT}(h:t σ H λc H1=>if c=true then B true H1 else u σ H1 B):tOr t u σ H B:=h
theorem LF{t:TT}(h:t σ H λc H1=>B (!c) H1):tNot t σ H B:=h
theorem Kq{t u:TE}(h:t σ H λx H1=>∃ c,x=.bl c/\if c=true then u σ H1 Q else Q (.bl false) H1):Kx t u σ H Q:=h
theorem Lc{t u:TE}(h:t σ H λx H1=>∃ c,x=.bl c/\if c=true then Q (.bl true) H1 else u σ H1 Q):tOrV t u σ H Q:=h
theorem Kj{t:TE}(h:t σ H λx H1=>∃ c,x=.bl c/\Q (.bl (!c)) H1):IG t σ H Q:=h
theorem KN{tb:TE}(h:c σ H λb H1=>if b=true then ta σ H1 Q else tb σ H1 Q):tIf c ta tb σ H Q:=h
theorem LM{R:List V->Hp->Prop}(h:R [] H):tNil σ H R:=h
theorem IY{tr:TA}{R:List V->Hp->Prop}(h:ta σ H λx H1=>tr σ H1 λxs H2=>R (x::xs) H2):ti ta tr σ H R:=h
theorem Jq{E:XK}(h:t σ H λvs H1=>sp (vs++dvs) H1 Q E):HU sp dvs E t σ H Q:=h
theorem i_cb{r:List V->Hp->VK->Prop}(h:t σ H λvs H1=>r vs H1 Q):tCB r t σ H Q:=h
theorem Li(h:t σ H λxs H1=>NewT xs H1 Q):tTup t σ H Q:=h
theorem LJ(h:t σ H λxs H1=>NewL xs H1 Q):tLst t σ H Q:=h
theorem yO{n:Nat}(h:n<=1000):n<=sizeLine:=bn (EJ h)
theorem wD{p:Addr}{xs:List V}{i:Int}{v:V}(h:H p=some (.tup xs))(e:atI xs i=some v)(q:Q v H):rIxT K (.ref p) (.int i) H Q:=⟨p,xs,i,v,rfl,rfl,SqT.of h,e,q⟩
theorem zw{p:Addr}{xs:List V}{i:Int}{v:V}(h:H p=some (.lst xs))(e:atI xs i=some v)(q:Q v H):rIxL K (.ref p) (.int i) H Q:=⟨p,xs,i,v,rfl,rfl,SqL.of h,e,q⟩
theorem JX{p:Addr}{xs:List V}(h:H p=some (.tup xs))(q:Q (.int xs.length) H):rLen K [.ref p] H Q:=⟨p,xs,rfl,.inr (SqT.of h),q⟩
theorem Jw{p:Addr}{xs:List V}(h:H p=some (.lst xs))(q:Q (.int xs.length) H):rLen K [.ref p] H Q:=⟨p,xs,rfl,.inl (SqL.of h),q⟩
theorem Lq{i:Int}(q:Q (.int (if i<0 then -i else i)) H):rAbs [.int i] H Q:=⟨i,rfl,q⟩
theorem JR{k:Bool}(q:Q (.int (if k then 1 else 0)) H):rInt [.bl k] H Q:=.inr ⟨k,rfl,q⟩
theorem KK{i j:Nat}{ta:TA}(h:ta σ H λvs H1=>∃ v w,vs=[v,w]/\D.nx ((σ.set i (some v)).set j (some w)) H1):tPar i j ta D σ H:=h
theorem JB{v w:V}{R:V->V->Prop}(h:R v w):∃ v' w',[v,w]=[v',w']/\R v' w':=⟨v,w,rfl,h⟩
end
theorem if_d{p A B:Prop}[Decidable p](h1:p->A)(h2:¬ p->B):if decide p=true then A else B:=by
  by_cases h:p
  . rw [h7 (iu h)]; exact h1 h
  . rw [h8 (by simp [h])]; exact h2 h
theorem A9{p A B:Prop}[Decidable p](h1:¬ p->A)(h2:p->B):if (!decide p)=true then A else B:=by
  by_cases h:p
  . rw [h8 (by simp [h])]; exact h2 h
  . rw [h7 (by simp [h])]; exact h1 h
theorem vO{α:Type}{x y:α}{A B:Prop}[Decidable (x=y)](e:x=y)(h:B):if (!decide (x=y))=true then A else B:=A9 (λc=>absurd e c) λ_=>h
theorem if_t{A B:Prop}(h:A):if true=true then A else B:=by rw [h7 rfl]; exact h
theorem if_f{A B:Prop}(h:B):if false=true then A else B:=by rw [h8 aT]; exact h
theorem JK{A B:Prop}(h:B):if (!true)=true then A else B:=by rw [h8 (by decide)]; exact h
theorem KG{A B:Prop}(h:A):if (!false)=true then A else B:=by rw [h7 (by decide)]; exact h
theorem zA{H:Hp}{p:Addr}(h:H p=none)(o:HO):Same H (upd H p o):=λb u q=>by rw [zj (zb q h)]; exact q
theorem DV(x:Int):Bd (x.natAbs.log2+1) x:=by
  unfold Bd;exact Nat.lt_log2_self
theorem Iv{j k:Nat}{x:Int}(h:Bd j x)(g:Bd k y):Bd (j+k+1) (x+y):=(h.mono (dm ..)).add (g.mono (Nat.le_add_left ..))
theorem Iu{j k:Nat}{x:Int}(h:Bd j x)(g:Bd k y):Bd (j+k+1) (x - y):=(h.mono (dm ..)).sub (g.mono (Nat.le_add_left ..))
variable {ds:List Value}
section
variable {P:Program}{w:World}{K:iB}{mg:Str->Option Value}{base:Heap}
theorem FunD.binds{st:Stmt}(F:FunD K x qual st f fd its)(h:∀ (T:Addr) (kV doc pm:Value) (an:Option Addr) (cdv ct:Value) (us:List Value),(us++ds).length=ps.length->∃ k:Option (Array Value)->Sem (List (Str×Value)),
      bindArgs (W.fnOf x qual (defArgs st) (defBody st) (defScope st) (.ref T) kV doc pm an cdv ct) ⟨us,[]⟩=seqItems? (.ref T) >>= k/\k (some its.toArray)=pure (ps.zip (us++ds))):Binds K fd ps ds:=by
  obtain ⟨oc,od,T,kV,doc,pm,an,cdv,ct,osl,to,n,rfl,lk,hcd,lT,hs⟩:=F.ex;intro s us KX hl;obtain ⟨k,h1,h2⟩:=h T kV doc pm an cdv ct us hl;exact BindsTo.of_defaults rfl (KX _ _ lT) hs h1 h2
theorem TopD.own{k:Nat}{st:Stmt}(T:TopD K mg x st its)(hb:∀ (T:Addr) (kV doc pm:Value) (an:Option Addr) (cdv ct:Value) (us:List Value),(us++ds).length=ps.length->∃ k:Option (Array Value)->Sem (List (Str×Value)),
      bindArgs (W.fnOf x x (defArgs st) (defBody st) (defScope st) (.ref T) kV doc pm an cdv ct) ⟨us,[]⟩=seqItems? (.ref T) >>= k/\k (some its.toArray)=pure (ps.zip (us++ds)))(hd:Vals dvs ds)(h:∀ f fd,FunD K x x st f fd its->FnOk P w K mg base CX0 k f fd ps sp):Own P w K mg base k x ps dvs sp:=by
  obtain ⟨f,fd,F,m⟩:=T;exact ⟨f,fd,ds,h f fd F,m,F.kp,F.binds hb,hd⟩
end
end L2
namespace Att
open PySem PySem.W PySem.Calls PyProof.Rows Bg
theorem vx{x:WData}:∀ {xs:List WData},x∈xs->WData.weight x<=WData.weightAll xs
  | [],h=>absurd h (by simp)
  | y::ys,h=>by
    simp only [WData.weightAll];rcases aK.mp h with e|e
    . subst e; omega
    . have:=vx e;omega
theorem F8{ns:List Int}(h:WData.layableAll [WData.list (ns.map WData.int)]=true):∀ x∈ns,Bd 1048576 x:=λx hx=>by
  have h1:WData.layable (WData.list (ns.map WData.int))=true:=by simpa [WData.layableAll] using h
  unfold WData.layable at h1;rw [cT] at h1;have h2:WData.weight (WData.list (ns.map WData.int))<=2 ^ 20:=of_decide_eq_true h1.2;simp only [WData.weight] at h2;have h3:WData.weight (WData.int x)<=WData.weightAll (ns.map WData.int):=vx (aZ.mpr ⟨x,hx,rfl⟩);simp only [WData.weight] at h3;unfold Bd;by_cases z:x=0
  . subst z;exact Nat.pow_pos (by decide)
  . rw [h8 (by simpa using z)] at h3;have e:(2:Nat) ^ 20=1048576:=by decide
    exact (gU (by omega)).mp (by omega)
theorem attach_callB{l:OpenLaw}{n:Nat}{q:Program}{loose:List Str}{XP:(Str->Option Value)->Heap->Prop}{YP:World->Heap->Prop}{d:DefRec}(hn:l.most=some n)(hdf:d.params.defaults=[])(call:∀ (w:World) (s₀ s₁:Shared) (mg mb:Str->Option Value) (fa:Addr) (a:Addr) (vs:List Value) (ns:List Int),
      Ground q loose [] XP w s₀ mg mb s₁.heap->YP w s₁.heap->mg d.name=some (.ref fa) ->
      s₁.heap.get? a=some { cls:=.type "list",data:=.seq vs.toArray }->IntsAre vs ns->ns.length<=n->(∀ x∈ns,Bd 1048576 x)->s₁.gens=#[] ->
      codeAny (model l.prog w) callerA (.call (.ref fa) ⟨[.ref a],[]⟩) (λr s'=>r=.ok (.ret (.bool true))/\OldK s₁.heap s'.heap/\s'.os=s₁.os/\AllBare s'.gens) s₁) :
    WalkO q loose XP YP l.row.toRowW d [] (λf vs=>PySem.call f vs):=by
  intro w s₀ s₁ mg mb G Y fa o pm cd doc dV kV ho hd hcd hD hmg hg args vals as hpre hlay hrd hwl hlo;obtain ⟨a,vs,ns,rfl,rfl,hobj,hints,hlen⟩:=Ep hn hpre hwl;refine enter_call (io (call w s₀ s₁ mg mb fa a vs ns G Y hmg hobj hints hlen (F8 hlay) hg) λr s' hq=>?_);obtain ⟨rfl,h2,h3,h4⟩:=hq;exact ⟨.inl ⟨.bool true,.bool true,[],rfl,λ_=>rfl,.bool true,DU l _,λ_=>⟨List.Pairwise.nil,λ_ hm=>(nomatch hm)⟩⟩,h2,h3,h4⟩
end Att
namespace L2
open PySem PySem.Spec PyProof.Rows Bg
def Fx(K:iB):Sp:=λvs H Q _=>∃ (a:Addr) (ns:List Int),vs=[.ref a]/\SqL K H a (ns.map V.int)/\ns.length<=63/\(∀ x∈ns,Bd 1048576 x)/\∀ H',Q (.bl true) H'
variable {x:Str}
theorem walk_B{l:PySem.W.OpenLaw}{k:Nat}{q:Program}{loose:List Str}{XP:(Str->Option Value)->Heap->Prop}{YP:World->Heap->Prop}{d:DefRec}{K:Params->iB}(hn:l.most=some 63)(hdf:d.params.defaults=[])(hr:Room k callerA)(hY:∀ (w:World) (h:Heap),YP w h->(K w.params).In h)(F:∀ (w:World) (mg:Str->Option Value) (fa:Addr) (h:Heap),(K w.params).In h->h.Ns mainGlobals mg->mg d.name=some (.ref fa) ->
      ∃ fd:FuncData,(∀ (s:Shared) (u:Value),BindsTo s fd ⟨[u],[]⟩ [(x,u)]) /\
        ∀ base:Heap,(K w.params).In base->base.Ns mainGlobals mg->FnOk l.prog w (K w.params) mg base CX0 k fa fd [x] (Fx (K w.params))) :
    PySem.W.WalkO q loose XP YP l.row.toRowW d [] (λf vs=>PySem.call f vs):=by
  refine Att.attach_callB hn hdf λw s₀ s₁ mg mb fa a vs ns G Y hmg hobj hints hlen hbd hg=>?_;have KX:=hY w _ Y;obtain ⟨fd,hb,hF⟩:=F w mg fa _ KX G.T.g hmg;exact FK KX G.T.g G.T.b G.T.builtins G.T.nolimit hg hobj hints (bK hlen (by decide)) hr hF hb (λH hO hS=>⟨a,ns,rfl,hS,hlen,hbd,λ_=>rfl⟩) λH e s' z=>z
theorem law_mk{P:Program}{w:World}{K:iB}{mg:Str->Option Value}{fa:Addr}{k:Nat}{st:Stmt}(T:Top K mg "law" st)(hfa:mg "law"=some (.ref fa))(hb:∀ (kV doc pm:Value) (an:Option Addr) (cdv ct:Value) (v:Value),bindArgs (W.fnOf "law" "law" (defArgs st) (defBody st) (defScope st) .none kV doc pm an cdv ct) ⟨[v],[]⟩=pure [(x,v)])(h:∀ base f fd,Fun K "law" "law" st f fd->FnOk P w K mg base CX0 k f fd [x] (Fx K)) : ∃ fd:FuncData,(∀ (s:Shared) (u:Value),BindsTo s fd ⟨[u],[]⟩ [(x,u)])/\∀ base:Heap,K.In base->base.Ns mainGlobals mg->FnOk P w K mg base CX0 k fa fd [x] (Fx K):=by
  obtain ⟨f,fd,F,m⟩:=T;have e:=hfa.symm.trans m;cases e
  obtain ⟨oc,od,kV,doc,pm,an,cdv,ct,osl,e1,lk,hcd⟩:=id F.ex;refine ⟨fd,λs u=>?_,λbase _ _=>h base _ _ F⟩;rw [e1];exact .of_eq (hb kV doc pm an cdv ct u)
end L2
namespace Bg
def fg(t b:Int):Int:=if b<0 then -((Int.gcd t b:Nat):Int) else ((Int.gcd t b:Nat):Int)
def fT(t b:Int):Int:=t.fdiv (fg t b)
def fB(t b:Int):Int:=b.fdiv (fg t b)
theorem FI(t b:Int):fg t b=gd t t b:=by
  have e:g3 t t b=Int.gcd t b:=by
    unfold g3;rw [db b t];have h:((Int.gcd t b:Nat):Int)∣t:=bH ..;rw [db];have:=Int.gcd_eq_right_iff_dvd (a:=t) (b:=((Int.gcd t b:Nat):Int));rw [a9];rw [Nat.gcd_eq_right (bQ.mpr h)];simp
  unfold fg gd;rw [e]
theorem JL(t b:Int):fT t b=lA t t b:=by unfold fT lA; rw [FI]
theorem HN(t b:Int):fB t b=lN t t b:=by unfold fB lN; rw [FI]
variable {t:Int}
theorem f_b{b:Int}(h:b≠0):1<=fB t b:=by rw [HN]; exact l_n h
theorem f_t{b:Int}:fT t b*b=t*fB t b:=by rw [JL,HN]; exact l_a
theorem LI{b:Int}(h:b≠0):Int.gcd (fT t b) (fB t b)=1:=by
  have:=xB (a:=t) (b:=t) (n:=b) h;rw [JL,HN];unfold g3 at this;have e:lB t t b=lA t t b:=rfl;rw [e] at this;have d:((Int.gcd (lN t t b) (lA t t b):Nat):Int)∣lA t t b:=bM ..;rw [a9,Nat.gcd_eq_left (bQ.mpr d),b9] at this;rw [db];exact this
theorem Lj{b:Int}(h:b≠0):fg t b≠0:=by rw [FI]; exact Ij h
theorem KW{k:Nat}{b:Int}(h:b≠0)(hb:Bd k b):Bd k (fg t b):=by rw [FI]; exact HZ h hb
theorem GR(c x y z:Int):g3 (c*x) (c*y) (c*z)=c.natAbs*g3 x y z:=by
  unfold g3;rw [eP];have e1:((c.natAbs*Int.gcd z x:Nat):Int).gcd (c*y)=Int.gcd (c*(Int.gcd z x:Nat)) (c*y):=by
    rw [a9,a9];congr 1;rw [cf,b9,b9]
  rw [e1,eP]
variable {x y z:Int}
theorem Bi{d:Int}(hx:d∣x)(hy:d∣y)(hz:d∣z):d∣(g3 x y z:Int):=dW (dW hz hx) hy
variable {x' y' z':Int}
theorem Eh(hg:g3 x y z=1)(hx:x*z'=x'*z)(hy:y*z'=y'*z):z∣z':=by
  have h1:z∣z'*x:=⟨x',by rw [av z',hx,av]⟩
  have h2:z∣z'*y:=⟨y',by rw [av z',hy,av]⟩
  have h3:z∣z'*z:=⟨z',by rw [av]⟩
  have h:=Bi h1 h2 h3;rw [GR,hg,gf] at h;exact Int.dvd_natAbs.mp h
theorem GN(h1:1<=z)(h2:1<=z')(g1:g3 x y z=1)(g2:g3 x' y' z'=1)(hx:x*z'=x'*z)(hy:y*z'=y'*z):x=x'/\y=y'/\z=z':=by
  have d1:z∣z':=Eh g1 hx hy;have d2:z'∣z:=Eh g2 hx.symm hy.symm;have e:z=z':=by
    have a1:=g7 (by omega) d1;have a2:=g7 (by omega) d2;omega
  subst e;exact ⟨aC (by omega) hx,aC (by omega) hy,rfl⟩
theorem yi{a b n:Int}(h1:1<=z)(g1:g3 x y z=1)(hn:n≠0)(hx:x*n=a*z)(hy:y*n=b*z):x=lA a b n/\y=lB a b n/\z=lN a b n:=by
  refine GN h1 (l_n hn) g1 (xB hn) ?_ ?_
  . have e:=l_a (a:=a) (b:=b) (n:=n);refine aC hn ?_
    calc x*lN a b n*n=x*n*lN a b n:=by rw [am,av (lN a b n),am]
      _=a*z*lN a b n:=by rw [hx]
      _=a*lN a b n*z:=by rw [am,av z,am]
      _=lA a b n*n*z:=by rw [e]
      _=lA a b n*z*n:=by rw [am,av n,am]
  . have e:=l_b (a:=a) (b:=b) (n:=n);refine aC hn ?_
    calc y*lN a b n*n=y*n*lN a b n:=by rw [am,av (lN a b n),am]
      _=b*z*lN a b n:=by rw [hy]
      _=b*lN a b n*z:=by rw [am,av z,am]
      _=lB a b n*n*z:=by rw [e]
      _=lB a b n*z*n:=by rw [am,av n,am]
theorem Hi(h1:1<=z)(h2:1<=z')(g1:Int.gcd x z=1)(g2:Int.gcd x' z'=1)(hx:x*z'=x'*z):x=x'/\z=z':=by
  have k:∀ {a b:Int},Int.gcd a b=1->g3 a a b=1:=λ{a b} h=>by
    unfold g3;rw [db b a,h];simp
  have:=GN h1 h2 (k g1) (k g2) hx hx;exact ⟨this.1,this.2.2⟩
theorem AK{k:Nat}(h:Bd k x):Bd k (x / y):=h.of_le (Int.natAbs_ediv_le_natAbs x y)
theorem Ir{k:Nat}(h:Bd k y)(hy:0<y):Bd k (x % y):=h.emod (by omega) x
theorem zL{k:Nat}{B:Int}(h0:0<=x)(h1:x<=B)(hB:B.natAbs<2 ^ k):Bd k x:=by
  unfold Bd;omega
theorem xr(k:Nat)(h0:-1000000<=x)(h1:x<=1000000)(hk:20<=k):Bd k x:=by
  have h:Bd 20 x:=by
    unfold Bd;have:(2:Nat) ^ 20=1048576:=by decide
    omega
  exact h.mono hk
theorem Fp(a b:Int):Int.gcd (if a<0 then -a else a) (if b<0 then -b else b)=Int.gcd a b:=by
  have e:∀ x:Int,(if x<0 then -x else x)=(x.natAbs:Int):=λx=>by split <;> omega
  rw [e,e,a9,a9,b9,b9]
end Bg
namespace L2
open PySem PySem.Spec PyProof.Rows Bg
variable {l:Addr}{X:Cx}{g:TG}{t:TS}
section
variable {σ:St}{H:Hp}{Q:VK}{D:Ends}{K:iB}
def tCut(t:TS):TS:=λD σ H=>∃ T:St->Hp->Prop,(∀ σ' H',T σ' H'->D.nx σ' H')/\t { D with nx:=T } σ H
theorem wH{st:Stmt}(h:PS X st t):PS X st (tCut t):=by
  intro pins s σ H D I hw;obtain ⟨T,hT,hw⟩:=hw;refine thn (h pins s σ H _ I hw) λf s' q=>?_;cases f with
  | next=>obtain ⟨σ',H',I',q⟩:=q; exact ⟨σ',H',I',hT _ _ q⟩
  | brk=>exact q
  | cont=>exact q
  | ret v=>exact q
theorem tN{T:St->Hp->Prop}(h:t { D with nx:=T } σ H)(hT:∀ σ' H',T σ' H'->D.nx σ' H'):tCut t D σ H:=⟨T,hT,h⟩
theorem zC{xs:List V}(hl:xs.length<=1000)(h:∀ p H2,Same H H2->H2 p=some (.tup xs)->Q (.ref p) H2):NewT xs H Q :=
  ⟨yO hl,λp hp=>h p _ (zA hp _) zf⟩
theorem GH{xs:List V}(hl:xs.length<=1000)(h:∀ p H2,Same H H2->H2 p=some (.lst xs)->Q (.ref p) H2):NewL xs H Q :=
  ⟨yO hl,λp hp=>h p _ (zA hp _) zf⟩
theorem zv{xs:List V}(hl:xs.length<=1000)(h:∀ p H2,H p=none->Same H H2->H2 p=some (.lst xs)->Q (.ref p) H2):NewL xs H Q :=
  ⟨yO hl,λp hp=>h p _ hp (zA hp _) zf⟩
theorem Jn{b:Addr}{xs zs:List V}(h1:H l=some (.lst xs))(h2:H b=some (.lst zs))(hz:xs.length+zs.length<=1000)(h:∀ p H2,Same H H2->H2 p=some (.lst (xs++zs))->Q (.ref p) H2):rCat (.ref l) (.ref b) H Q :=
  ⟨l,b,xs,zs,rfl,rfl,h1,h2,yO hz,λp hp=>h p _ (zA hp _) zf⟩
theorem i_sl{r:V->Option Int->Option Int->Hp->VK->Prop}{te:TE}{tl th:TO}(h:te σ H λx H1=>tl σ H1 λl H2=>th σ H2 λu H3=>r x l u H3 Q):tSl r te tl th σ H Q:=h
theorem Fd{R:Option Int->Hp->Prop}(h:R none H):EK σ H R:=h
theorem Ja{t:TE}{R:Option Int->Hp->Prop}(h:t σ H λx H1=>∃ i,x=.int i/\R (some i) H1):Kw t σ H R:=h
theorem Lx{k:Int}{R:Int->Prop}(h:R k):∃ k',V.int k=.int k'/\R k':=⟨k,rfl,h⟩
theorem y9{tl:TE}{tb:TS}(h:tl σ H λx H1=>∃ a,x=.ref a/\(∃ xs,SqL K H1 a xs)/\∃ W:Nat->Nat->St->Hp->Prop,(∃ m,W 0 m σ H1)/\∀ i m σ H,W i m σ H ->
  ((Itl K a).stop i H/\D.nx σ H)\/((Itl K a).go i H/\∃ N:St->Hp->Prop,(∀ σ' H',N σ' H'->∃ m',m'<m/\W (i+1) m' σ' H')/\∀ x H',(Itl K a).yld i H x H'->g x σ H' λσ2 H2=>tb { D with nx:=N,ct:=N,bk:=D.nx } σ2 H2)) :
  tFor (GX K tl) g tb D σ H:=h
end
def EqV(X:Cx)(n:Nat)(H:Hp)(x y:V)(b:Bool):Prop :=
  ∀ (pins:List (Addr×Obj)) (σ:St) (s:Shared) (v u:Value) (A:Around),Inv X pins σ H s->RelV x v->RelV y u->A.units+4*n<cLine->SeqAt.EqAt A s v u b
theorem EqV.int{X:Cx}{n:Nat}{H:Hp}(i j:Int):EqV X n H (.int i) (.int j) (i==j):=λ_ _ s v u A _ rv ru _=>by
  obtain ⟨t,rfl⟩:=rv;obtain ⟨t',rfl⟩:=ru;exact SeqAt.EqAt.int_int i t j t'
inductive EqVs(X:Cx)(n:Nat)(H:Hp):List V->List V->List Bool->Prop
  | nil:EqVs X n H [] [] []
  | cons {x y:V} {b:Bool} {xs ys:List V} {bs:List Bool}:EqV X n H x y b->EqVs X n H xs ys bs->EqVs X n H (x::xs) (y::ys) (b::bs)
theorem EqVs.at{X:Cx}{n:Nat}{H:Hp}:∀ {xs ys:List V} {bs:List Bool},EqVs X n H xs ys bs->∀ {j:Nat} {x y:V},xs[j]?=some x->ys[j]?=some y->EqV X n H x y (bs.getD j false)
  | _,_,_,.nil,j,x,y,h,_=>by simp at h
  | _,_,_,.cons e _,0,x,y,h1,h2=>by
    simp at h1 h2;subst h1; subst h2;exact e
  | _,_,_,.cons _ r,j+1,x,y,h1,h2=>by
    have:=EqVs.at r (j:=j) (x:=x) (y:=y) (by simpa using h1) (by simpa using h2);simpa using this
theorem EqVs.len{X:Cx}{n:Nat}{H:Hp}:∀ {xs ys:List V} {bs:List Bool},EqVs X n H xs ys bs->xs.length=bs.length/\ys.length=bs.length
  | _,_,_,.nil=>⟨rfl,rfl⟩
  | _,_,_,.cons _ r=>by
    have:=r.len;simp only [ar];omega
theorem uC(bs:List Bool):((List.range bs.length).all λj=>bs.getD j false)=bs.all id:=by
  rw [cr];simp only [dM,bG,id];constructor
  . intro h b hb;obtain ⟨j,hj,e⟩:=List.mem_iff_getElem.mp hb;have:=h j hj;rw [c7,ae hj] at this;rw [<-e];exact this
  . intro h j hj;rw [c7,ae hj];exact h _ (bI hj)
variable {a:Addr}{H:Hp}
theorem D8{n:Nat}{b:Addr}{xs ys:List V}{bs:List Bool}{pins:List (Addr×Obj)}{σ:St}{s:Shared}{A:Around}(ha:SqT X.K H a xs)(hb:SqT X.K H b ys)(he:EqVs X n H xs ys bs)(I:Inv X pins σ H s)(hu:A.units+4*(n+1)<cLine) : ∃ (is js:Array Value),s.heap.IsTuple a is/\s.heap.IsTuple b js/\(∀ j (h1:j<is.size) (h2:j<js.size),SeqAt.EqAt A.in1 s is[j] js[j] (bs.getD j false))/\((List.range (min is.size js.size)).all (λj=>bs.getD j false) && is.size==js.size)=bs.all id:=by
  obtain ⟨is,r1,p1,_⟩:=I.tuple ha;obtain ⟨js,r2,p2,_⟩:=I.tuple hb;obtain ⟨l1,l2⟩:=he.len;have q1:=r1.length;have q2:=r2.length;refine ⟨is.toArray,js.toArray,(show s.heap.IsTuple a is.toArray from p1),(show s.heap.IsTuple b js.toArray from p2),λj h1 h2=>?_,?_⟩
  . have hj1:j<xs.length:=by rw [q1]; simpa using h1
    have hj2:j<ys.length:=by rw [q2]; simpa using h2
    obtain ⟨v,ev,rv⟩:=r1.get (ae hj1);obtain ⟨u,eu,ru⟩:=r2.get (ae hj2);have e1:is.toArray[j]=v:=by
      have:is[j]?=some v:=ev;rw [ae (by simpa using h1)] at this;simpa using aw this
    have e2:js.toArray[j]=u:=by
      have:js[j]?=some u:=eu;rw [ae (by simpa using h2)] at this;simpa using aw this
    rw [e1,e2];exact he.at (ae hj1) (ae hj2) pins σ s v u A.in1 I rv ru (by show A.units+1+4*n<cLine; omega)
  . have e1:is.toArray.size=bs.length:=by rw [aI]; omega
    have e2:js.toArray.size=bs.length:=by rw [aI]; omega
    rw [e1,e2,Nat.min_self,uC];simp
theorem EqV.tup{X:Cx}{n:Nat}{H:Hp}{a b:Addr}{xs ys:List V}{bs:List Bool}(ha:SqT X.K H a xs)(hb:SqT X.K H b ys)(he:EqVs X n H xs ys bs)(hs:a=b->bs.all id=true):EqV X (n+1) H (.ref a) (.ref b) (bs.all id):=λpins σ s v u A I rv ru hu=>by
  cases rv
  cases ru
  by_cases hab:a=b
  . subst hab;rw [hs rfl];exact SeqAt.EqAt.same _
  . obtain ⟨is,js,p1,p2,hj,e⟩:=D8 ha hb he I hu;have:=SeqAt.RcAt.tuples (A:=A) (e:=λj=>bs.getD j false) p1 p2 (by omega) hj;rw [e] at this;exact SeqAt.EqAt.of_refs hab this
def rEqT(X:Cx):R2:=λx y H Q=>∃ a b xs ys bs n,x=.ref a/\y=.ref b/\n<=9/\SqT X.K H a xs/\SqT X.K H b ys/\EqVs X n H xs ys bs/\Q (.bl (bs.all id)) H
def rNeT(X:Cx):R2:=λx y H Q=>∃ a b xs ys bs n,x=.ref a/\y=.ref b/\n<=9/\SqT X.K H a xs/\SqT X.K H b ys/\EqVs X n H xs ys bs/\Q (.bl (!(bs.all id))) H
theorem BI(hu:X.A.units+64<cLine):OpR X (compareOp .Eq) (rEqT X):=by
  intro pins s σ H x y v u Q I rx ry h;obtain ⟨a,b,xs,ys,bs,n,rfl,rfl,hn,ha,hb,he,q⟩:=h;cases rx
  cases ry
  obtain ⟨is,js,p1,p2,hj,e⟩:=D8 (A:=X.A) ha hb he I (by omega);refine SeqAt.eq_tupleAt p1 p2 (by omega) hj ?_;rw [e];exact ⟨.bl _,H,I,rfl,q⟩
theorem EM(hu:X.A.units+64<cLine):OpR X (compareOp .NotEq) (rNeT X):=by
  intro pins s σ H x y v u Q I rx ry h;obtain ⟨a,b,xs,ys,bs,n,rfl,rfl,hn,ha,hb,he,q⟩:=h;cases rx
  cases ry
  obtain ⟨is,js,p1,p2,hj,e⟩:=D8 (A:=X.A) ha hb he I (by omega);refine SeqAt.RcNeAt.tuples p1 p2 (by omega) hj X.prog X.w X.xe _ ?_;rw [e];exact ⟨.bl _,H,I,rfl,q⟩
variable {x x' y y' z z':Int}{Q:VK}
theorem Lk{b:Addr}(ha:H a=some (.tup [.int x,.int y,.int z]))(hb:H b=some (.tup [.int x',.int y',.int z']))(q:Q (.bl (decide (x=x'/\y=y'/\z=z'))) H):rEqT X (.ref a) (.ref b) H Q:=by
  refine ⟨a,b,_,_,_,0,rfl,rfl,bZ _,SqT.of ha,SqT.of hb,.cons (.int x x') (.cons (.int y y') (.cons (.int z z') .nil)),?_⟩;have e:([x==x',y==y',z==z']:List Bool).all id=decide (x=x'/\y=y'/\z=z'):=by
    rw [cr];simp
  rw [e];exact q
theorem LO{b:Addr}(ha:H a=some (.tup [.int x,.int y,.int z]))(hb:H b=some (.tup [.int x',.int y',.int z']))(q:Q (.bl (!decide (x=x'/\y=y'/\z=z'))) H):rNeT X (.ref a) (.ref b) H Q:=by
  refine ⟨a,b,_,_,_,0,rfl,rfl,bZ _,SqT.of ha,SqT.of hb,.cons (.int x x') (.cons (.int y y') (.cons (.int z z') .nil)),?_⟩;have e:([x==x',y==y',z==z']:List Bool).all id=decide (x=x'/\y=y'/\z=z'):=by
    rw [cr];simp
  rw [e];exact q
theorem JJ{b:Addr}(ha:H a=some (.tup [.int x,.int z]))(hb:H b=some (.tup [.int x',.int z']))(q:Q (.bl (!decide (x=x'/\z=z'))) H):rNeT X (.ref a) (.ref b) H Q:=by
  refine ⟨a,b,_,_,_,0,rfl,rfl,bZ _,SqT.of ha,SqT.of hb,.cons (.int x x') (.cons (.int z z') .nil),?_⟩;have e:([x==x',z==z']:List Bool).all id=decide (x=x'/\z=z'):=by
    rw [cr];simp
  rw [e];exact q
theorem eqv3{b:Addr}(ha:H a=some (.tup [.int x,.int y,.int z]))(hb:H b=some (.tup [.int x,.int y,.int z])):EqV X 1 H (.ref a) (.ref b) true:=by
  have e:([x==x,y==y,z==z]:List Bool).all id=true:=by simp
  have:=EqV.tup (X:=X) (n:=0) (SqT.of ha) (SqT.of hb) (.cons (.int x x) (.cons (.int y y) (.cons (.int z z) .nil))) (λ_=>e);rw [e] at this;exact this
def SameX(l:Addr)(H H':Hp):Prop:=∀ b o,H b=some o->b≠l->H' b=some o
theorem Same.sameX{H':Hp}(s:Same H H')(l:Addr):SameX l H H':=λb o e _=>s b o e
theorem SameX.trans{H1 H2:Hp}(a:SameX l H H1)(b:SameX l H1 H2):SameX l H H2:=λc o e n=>b c o (a c o e n) n
theorem SameX.tup{l p:Addr}{H H':Hp}{xs ys:List V}(s:SameX l H H')(h:H p=some (.tup xs))(hl:H l=some (.lst ys)):H' p=some (.tup xs):=s _ _ h (zX h hl (λz=>nomatch z))
section
variable {σ:St}{H:Hp}{Q:VK}{D:Ends}{K:iB}
theorem zp{xs:List V}{y:V}(h:H l=some (.lst xs))(hz:xs.length<1000)(q:∀ H2,SameX l H H2->H2 l=some (.lst (xs++[y]))->Q .non H2):z7 (.ref l) [y] H Q :=
  ⟨l,xs,y,rfl,rfl,h,aE hz (yO (ai _)),q _ (λb o e n=>by rw [zj n]; exact e) zf⟩
theorem i_bm{T:String}{r:V->List V->Hp->VK->Prop}{to:TE}{t:TA}(h:to σ H λx H1=>tyV K T x H1/\t σ H1 λxs H2=>r x xs H2 Q):tBM K T r to t σ H Q:=h
theorem KO{xs:List V}{R:Prop}(h:H l=some (.lst xs))(q:R):tyV K "list" (.ref l) H/\R:=⟨.inl ⟨rfl,_,SqL.of h⟩,q⟩
theorem wx{ta:TA}{tb:TS}(h:ta σ H λvs H1=>∃ j:Int,vs=[.int j]/\-(2 ^ 62)<=j/\j<2 ^ 62/\∃ W:Nat->Nat->St->Hp->Prop,(∃ m,W 0 m σ H1)/\∀ i m σ H,W i m σ H ->
  ((Itr 0 j.toNat).stop i H/\D.nx σ H)\/((Itr 0 j.toNat).go i H/\∃ N:St->Hp->Prop,(∀ σ' H',N σ' H'->∃ m',m'<m/\W (i+1) m' σ' H')/\∀ x H',(Itr 0 j.toNat).yld i H x H'->g x σ H' λσ2 H2=>tb { D with nx:=N,ct:=N,bk:=D.nx } σ2 H2)) :
  tFor (Hq ta) g tb D σ H:=h
end
end L2
namespace Bg
structure Rt(d:Int):Prop where
  lo:2<=d
  hi:d<=99
  ns:∀ k:Nat,((k*k:Nat):Int)≠d
variable {d:Int}
theorem KU(h:2<=d/\d<=99)(n:d≠4/\d≠9/\d≠16/\d≠25/\d≠36/\d≠49/\d≠64/\d≠81):Rt d:=by
  refine ⟨h.1,h.2,λk e=>?_⟩;have hk:k<10:=by
    refine Nat.lt_of_not_le λz=>?_;have:10*10<=k*k:=Nat.mul_le_mul z z;omega
  have:k=0\/k=1\/k=2\/k=3\/k=4\/k=5\/k=6\/k=7\/k=8\/k=9:=by omega
  rcases this with q|q|q|q|q|q|q|q|q|q <;> subst q <;> omega
theorem irrN{D A B:Nat}(ns:∀ k:Nat,k*k≠D)(e:A*A=D*B*B):B=0:=by
  rcases Nat.eq_zero_or_pos B with z|hB
  . exact z
  exfalso;have hg:0<Nat.gcd A B:=Nat.gcd_pos_of_pos_right A hB;have hc:=Nat.coprime_div_gcd_div_gcd hg;obtain ⟨a,ha⟩:=Nat.gcd_dvd_left A B;obtain ⟨b,hb⟩:=Nat.gcd_dvd_right A B;have ea:A / Nat.gcd A B=a:=by rw [fe hg (Nat.gcd_dvd_left A B)]; exact ha
  have eb:B / Nat.gcd A B=b:=by rw [fe hg (Nat.gcd_dvd_right A B)]; exact hb
  rw [ea,eb] at hc;generalize Nat.gcd A B=g at *
  have e2:a*a=D*b*b:=by
    have h1:g*g*(a*a)=g*g*(D*b*b):=by
      rw [ha,hb] at e
      calc g*g*(a*a)=g*a*(g*a):=by simp only [g8,Nat.mul_left_comm]
        _=D*(g*b)*(g*b):=e
        _=g*g*(D*b*b):=by simp only [g8,Nat.mul_left_comm]
    exact dH (Nat.mul_pos hg hg) h1
  have d1:b∣a*a:=⟨D*b,by rw [e2,Nat.mul_comm b]⟩
  have d2:b∣a:=hc.symm.dvd_of_dvd_mul_left d1;have d3:b=1:=by
    have:b∣Nat.gcd a b:=Nat.dvd_gcd d2 (Nat.dvd_refl b);rw [show Nat.gcd a b=1 from hc] at this;exact Nat.dvd_one.mp this
  rw [d3,gf,gf] at e2;exact ns a e2
variable {a:Int}
theorem irr{b:Int}(h:Rt d)(e:a*a=d*b*b):b=0:=by
  have hd:(d.toNat:Int)=d:=Int.toNat_of_nonneg (by have:=h.lo; omega);have:=irrN (D:=d.toNat) (A:=a.natAbs) (B:=b.natAbs) (λk q=>h.ns k (by rw [q]; exact hd)) (by
    have h1:((a.natAbs*a.natAbs:Nat):Int)=((d.toNat*b.natAbs*b.natAbs:Nat):Int):=by
      have ea:((a.natAbs*a.natAbs:Nat):Int)=a*a:=Int.natAbs_mul_self;have eb:((b.natAbs*b.natAbs:Nat):Int)=b*b:=Int.natAbs_mul_self;rw [ea,g8,Int.natCast_mul,eb,hd,<-am];exact e
    exact cV h1)
  omega
def sgn(d a b:Int):Int:=if 0<=a/\0<=b then (if 0<a+b then 1 else 0) else if a<=0/\b<=0 then -1 else if 0<a then (if d*b*b<a*a then 1 else -1) else (if a*a<d*b*b then 1 else -1)
theorem EV{b:Int}(h:b≠0):0<b*b:=by
  rcases Int.lt_or_gt_of_ne h with q|q
  . exact dI q q
  . exact aX q q
theorem GW{b:Int}(h:2<=d)(hb:b≠0):0<d*b*b:=by rw [am]; exact aX (by omega) (EV hb)
def nrm(d a b:Int):Int:=a*a - d*b*b
theorem Bm{b:Int}(h:Rt d)(e:nrm d a b=0):a=0/\b=0:=by
  unfold nrm at e;have hb:=irr (a:=a) (b:=b) h (by omega);subst hb;rw [cM] at e;refine ⟨?_,rfl⟩;rcases Int.lt_trichotomy a 0 with q|q|q
  . have:=dI q q; omega
  . exact q
  . have:=aX q q; omega
def sg(x:Int):Int:=if 0<x then 1 else if x<0 then -1 else 0
theorem yT{b:Int}(h:Rt d)(n:0<nrm d a b):sgn d a b=sg a:=by
  unfold nrm at n;have ha:a≠0:=λz=>by
    subst z;by_cases hb:b=0
    . subst hb; simp at n
    . have:=GW h.lo hb;omega
  unfold sgn sg
  repeat' split
  all_goals omega
theorem yu{b:Int}(h:Rt d)(n:nrm d a b<0):sgn d a b=sg b:=by
  unfold nrm at n;have hb:b≠0:=λz=>by
    subst z;rw [cM] at n;by_cases ha:a=0
    . subst ha; simp at n
    . have:=EV ha;omega
  unfold sgn sg
  repeat' split
  all_goals omega
theorem ym(d:Int):sgn d 0 0=0:=by simp [sgn]
theorem nrm_tri{b:Int}(h:Rt d):(0<nrm d a b)\/(nrm d a b<0)\/(a=0/\b=0):=by
  rcases Int.lt_trichotomy (nrm d a b) 0 with q|q|q
  . exact .inr (.inl q)
  . exact .inr (.inr (Bm h q))
  . exact .inl q
theorem GP(x:Int):sg (-x)=- sg x:=by unfold sg; repeat' split <;> omega
theorem CZ(d a b:Int):nrm d (-a) (-b)=nrm d a b:=by unfold nrm; rw [cN,am,cN,<-am]
theorem xP(h:Rt d)(a b:Int):sgn d (-a) (-b)=- sgn d a b:=by
  rcases nrm_tri (a:=a) (b:=b) h with q|q|⟨rfl,rfl⟩
  . rw [yT h q,yT h (by rw [CZ]; exact q),GP]
  . rw [yu h q,yu h (by rw [CZ]; exact q),GP]
  . rfl
theorem sg_cases(x:Int):(0<x/\sg x=1)\/(x<0/\sg x=-1)\/(x=0/\sg x=0):=by unfold sg; repeat' split <;> omega
theorem v0{k:Int}(hk:0<k)(x:Int):sg (k*x)=sg x:=by
  rcases sg_cases x with ⟨q,e⟩|⟨q,e⟩|⟨q,e⟩
  . have:=aX hk q;rw [e]; unfold sg; rw [h7 this]
  . have:=dc hk q;rw [e]; unfold sg; rw [h8 (by omega),h7 this]
  . subst q; simp
theorem Ek(d k a b:Int):nrm d (k*a) (k*b)=k*k*nrm d a b:=by
  unfold nrm;rw [fh];congr 1
  . simp only [am,bu]
  . simp only [am,bu,av d]
theorem xk{k:Int}(h:Rt d)(hk:0<k)(a b:Int):sgn d (k*a) (k*b)=sgn d a b:=by
  have kk:0<k*k:=aX hk hk;rcases nrm_tri (a:=a) (b:=b) h with q|q|⟨rfl,rfl⟩
  . rw [yT h q,yT h (by rw [Ek]; exact aX kk q),v0 hk]
  . rw [yu h q,yu h (by rw [Ek]; exact dc kk q),v0 hk]
  . simp
variable {a' b':Int}
theorem xg{k m b:Int}(h:Rt d)(hk:0<k)(hm:0<m)(ea:k*a=m*a')(eb:k*b=m*b'):sgn d a b=sgn d a' b':=by
  rw [<-xk h hk a b,<-xk h hm a' b',ea,eb]
theorem Gb(d a b a' b':Int):nrm d (a*a'+d*b*b') (a*b'+b*a')=nrm d a b*nrm d a' b':=by
  unfold nrm;simp only [Int.mul_add,Int.add_mul,fh,gT];have e1:a*a'*(a*a')=a*a*(a'*a'):=by simp only [am,bu]
  have e2:d*b*b'*(d*b*b')=d*b*b*(d*b'*b'):=by simp only [am,bu]
  have e3:d*(a*b')*(a*b')=a*a*(d*b'*b'):=by simp only [am,bu]
  have e4:d*(b*a')*(b*a')=d*b*b*(a'*a'):=by simp only [am,bu,av]
  have e5:d*b*b'*(a*a')=d*(b*a')*(a*b'):=by simp only [am,bu,av]
  have e6:a*a'*(d*b*b')=d*(a*b')*(b*a'):=by simp only [am,bu,av]
  omega
theorem wk{x y:Int}(hx:0<x)(h:y*y<x*x):-x<y/\y<x:=by
  constructor
  . refine eM λz=>?_;have:x*x<=(-y)*(-y):=fH (by omega) (by omega) (by omega) (by omega);rw [cN] at this;omega
  . refine eM λz=>?_;have:x*x<=y*y:=fH z z (by omega) (by omega);omega
theorem xf{p q r s:Int}(h1:p<q)(h2:r<s)(hp:0<=p)(hr:0<=r):p*r<q*s:=by
  have a1:p*r<=p*s:=eK (by omega) hp;have a2:p*s<q*s:=Int.mul_lt_mul_of_pos_right h1 (by omega);omega
theorem Co(x:Int):0<=x*x:=by
  by_cases h:x=0
  . subst h; simp
  . exact Int.le_of_lt (EV h)
theorem Am(h:2<=d)(x:Int):0<=d*x*x:=by rw [am]; exact fI (by omega) (Co x)
theorem By{b:Int}(h:Rt d)(h1:sgn d a b=1)(h2:sgn d a' b'=1):sgn d (a*a'+d*b*b') (a*b'+b*a')=1:=by
  have hd:=h.lo;have np:=Gb d a b a' b';rcases nrm_tri (a:=a) (b:=b) h with q|q|⟨rfl,rfl⟩
  . have sa:0<a:=by rw [yT h q] at h1; unfold sg at h1; split at h1 <;> omega
    rcases nrm_tri (a:=a') (b:=b') h with q' | q' | ⟨rfl,rfl⟩
    . have sa':0<a':=by rw [yT h q'] at h2; unfold sg at h2; split at h2 <;> omega
      have n:0<nrm d (a*a'+d*b*b') (a*b'+b*a'):=by rw [np]; exact aX q q'
      rw [yT h n];unfold nrm at q q';have k:=xf (p:=d*b*b) (q:=a*a) (r:=d*b'*b') (s:=a'*a') (by omega) (by omega) (Am hd b) (Am hd b');have e1:d*b*b*(d*b'*b')=(d*b*b')*(d*b*b'):=by simp only [am,bu]
      have e2:a*a*(a'*a')=a*a'*(a*a'):=by simp only [am,bu]
      rw [e1,e2] at k;have:=(wk (aX sa sa') k).1;unfold sg;rw [h7 (by omega)]
    . have sb':0<b':=by rw [yu h q'] at h2; unfold sg at h2; split at h2 <;> omega
      have n:nrm d (a*a'+d*b*b') (a*b'+b*a')<0:=by rw [np]; exact dc q q'
      rw [yu h n];unfold nrm at q q';have k:=xf (p:=d*b*b) (q:=a*a) (r:=a'*a') (s:=d*b'*b') (by omega) (by omega) (Am hd b) (Co a');have e1:d*b*b*(a'*a')=d*(b*a'*(b*a')):=by simp only [am,bu]
      have e2:a*a*(d*b'*b')=d*(a*b'*(a*b')):=by simp only [am,bu]
      rw [e1,e2] at k;have k':=fJ k (by omega);have:=(wk (aX sa sb') k').1;unfold sg;rw [h7 (by omega)]
    . rw [ym] at h2; omega
  . have sb:0<b:=by rw [yu h q] at h1; unfold sg at h1; split at h1 <;> omega
    rcases nrm_tri (a:=a') (b:=b') h with q' | q' | ⟨rfl,rfl⟩
    . have sa':0<a':=by rw [yT h q'] at h2; unfold sg at h2; split at h2 <;> omega
      have n:nrm d (a*a'+d*b*b') (a*b'+b*a')<0:=by rw [np]; exact Int.mul_neg_of_neg_of_pos q q'
      rw [yu h n];unfold nrm at q q';have k:=xf (p:=a*a) (q:=d*b*b) (r:=d*b'*b') (s:=a'*a') (by omega) (by omega) (Co a) (Am hd b');have e1:a*a*(d*b'*b')=d*(a*b'*(a*b')):=by simp only [am,bu]
      have e2:d*b*b*(a'*a')=d*(b*a'*(b*a')):=by simp only [am,bu]
      rw [e1,e2] at k;have k':=fJ k (by omega);have:=(wk (aX sb sa') k').1;unfold sg;rw [h7 (by omega)]
    . have sb':0<b':=by rw [yu h q'] at h2; unfold sg at h2; split at h2 <;> omega
      have n:0<nrm d (a*a'+d*b*b') (a*b'+b*a'):=by rw [np]; exact dI q q'
      rw [yT h n];unfold nrm at q q';have k:=xf (p:=a*a) (q:=d*b*b) (r:=a'*a') (s:=d*b'*b') (by omega) (by omega) (Co a) (Co a');have e1:a*a*(a'*a')=a*a'*(a*a'):=by simp only [am,bu]
      have e2:d*b*b*(d*b'*b')=(d*b*b')*(d*b*b'):=by simp only [am,bu]
      rw [e1,e2] at k;have:=(wk (aX (aX (by omega) sb) sb') k).1;unfold sg;rw [h7 (by omega)]
    . rw [ym] at h2; omega
  . rw [ym] at h1; omega
theorem sgn_tri(h:Rt d)(a b:Int):sgn d a b=1\/sgn d a b=-1\/(a=0/\b=0):=by
  rcases nrm_tri (a:=a) (b:=b) h with q|q|q
  . have ha:a≠0:=λz=>by
      subst z;unfold nrm at q;have:=Am h.lo b;omega
    rw [yT h q];rcases sg_cases a with ⟨_,e⟩|⟨_,e⟩|⟨e,_⟩
    . exact .inl e
    . exact .inr (.inl e)
    . exact absurd e ha
  . have hb:b≠0:=λz=>by
      subst z;unfold nrm at q;rw [cM] at q;have:=Co a;omega
    rw [yu h q];rcases sg_cases b with ⟨_,e⟩|⟨_,e⟩|⟨e,_⟩
    . exact .inl e
    . exact .inr (.inl e)
    . exact absurd e hb
  . exact .inr (.inr q)
theorem BF{b:Int}(h:Rt d):sgn d (a*a'+d*b*b') (a*b'+b*a')=sgn d a b*sgn d a' b':=by
  have neg1:∀ a b,sgn d a b=-1->sgn d (-a) (-b)=1:=λa b e=>by rw [xP h,e]; rfl
  rcases sgn_tri h a b with p|p|⟨rfl,rfl⟩
  . rcases sgn_tri h a' b' with q | q | ⟨rfl,rfl⟩
    . rw [By h p q,p,q]; rfl
    . have:=By h p (neg1 _ _ q);have e1:a*-a'+d*b*-b'=-(a*a'+d*b*b'):=by rw [gh,gh,gW]
      have e2:a*-b'+b*-a'=-(a*b'+b*a'):=by rw [gh,gh,gW]
      rw [e1,e2,xP h] at this;rw [p,q]; omega
    . simp [ym]
  . rcases sgn_tri h a' b' with q | q | ⟨rfl,rfl⟩
    . have:=By h (neg1 _ _ p) q;have e1:-a*a'+d*-b*b'=-(a*a'+d*b*b'):=by rw [dw,gh,dw,gW]
      have e2:-a*b'+-b*a'=-(a*b'+b*a'):=by rw [dw,dw,gW]
      rw [e1,e2,xP h] at this;rw [p,q]; omega
    . have:=By h (neg1 _ _ p) (neg1 _ _ q);have e1:-a*-a'+d*-b*-b'=a*a'+d*b*b':=by rw [cN,am d,cN,<-am]
      have e2:-a*-b'+-b*-a'=a*b'+b*a':=by rw [cN,cN]
      rw [e1,e2] at this;rw [this,p,q]; rfl
    . simp [ym]
  . simp [ym]
theorem vZ{b:Int}(h:0<=a)(k:0<=b):sgn d a b=if 0<a+b then 1 else 0:=by unfold sgn; rw [h7 ⟨h,k⟩]
theorem GS{b:Int}(n:¬ (0<=a/\0<=b))(h:a<=0)(k:b<=0):sgn d a b=-1:=by unfold sgn; rw [h8 n,h7 ⟨h,k⟩]
theorem DI{b:Int}(h:0<a)(k:b<0):sgn d a b=if d*b*b<a*a then 1 else -1:=by unfold sgn; rw [h8 (by omega),h8 (by omega),h7 h]
theorem DX{b:Int}(h:a<0)(k:0<b):sgn d a b=if a*a<d*b*b then 1 else -1:=by unfold sgn; rw [h8 (by omega),h8 (by omega),h8 (by omega)]
end Bg
namespace L2
open PySem PySem.Spec PyProof.Rows Bg
theorem xM(env:Env):∀ (names:List (Str×NameKind)) (acc:List (Str×Addr)),(∀ y∈names,y.2=.free->∃ c,env.cells.lookup y.1=some c)->(∀ x c,acc.lookup x=some c->env.cells.lookup x=some c) -> ∃ cl, (forIn names acc (fun (x : Str × NameKind) (r : List (Str × Addr)) => if (x.snd == NameKind.free) = true then do
                  let a <-cellOf env x.fst
                  pure (ForInStep.yield ((x.fst,a)::r))
                else pure (ForInStep.yield r)):Sem (List (Str×Addr)))=pure cl/\(∀ x c,cl.lookup x=some c->env.cells.lookup x=some c) /\
      ∀ x,((∃ c,acc.lookup x=some c)\/∃ y∈names,y.1=x/\y.2=.free)->∃ c,cl.lookup x=some c
  | [],acc,_,ha=>⟨acc,rfl,ha,λx h=>by
      rcases h with h|⟨y,hy,_⟩
      . exact h
      . simp at hy⟩
  | y::r,acc,hn,ha=>by
    by_cases hf:y.2=.free
    . obtain ⟨c,hc⟩:=hn y aB hf;obtain ⟨cl,e,h1,h2⟩:=xM env r ((y.1,c)::acc) (λz hz=>hn z (ay _ hz)) (λx d hx=>by
        rw [cv] at hx;split at hx
        . rename_i q;have q':x=y.1:=by simpa using q
          rw [q',hc]; exact hx
        . exact ha x d hx)
      refine ⟨cl,?_,h1,λx h=>h2 x ?_⟩
      . rw [List.forIn_cons,h7 (by rw [hf]; rfl)];unfold cellOf;rw [hc];exact e
      . by_cases q:x=y.1
        . exact .inl ⟨c,by rw [cv,q]; simp⟩
        . rcases h with ⟨d,hd⟩ | ⟨z,hz,e1,e2⟩
          . exact .inl ⟨d,by
              rw [cv];have:(x==y.1)=false:=by simpa using q
              rw [this]; exact hd⟩
          . rcases aK.mp hz with e3 | e3
            . subst e3; exact absurd e1.symm q
            . exact .inr ⟨z,e3,e1,e2⟩
    . obtain ⟨cl,e,h1,h2⟩:=xM env r acc (λz hz=>hn z (ay _ hz)) ha;refine ⟨cl,?_,h1,λx h=>h2 x ?_⟩
      . rw [List.forIn_cons,h8 (by simpa using hf)];exact e
      . rcases h with h | ⟨z,hz,e1,e2⟩
        . exact .inl h
        . rcases aK.mp hz with e3 | e3
          . subst e3; exact absurd e2 hf
          . exact .inr ⟨z,e3,e1,e2⟩
variable {scope:Scope}
theorem CF{env:Env}(h:∀ y∈scope.names,y.2=.free->∃ c,env.cells.lookup y.1=some c) : ∃ cl,closureFor scope env=pure cl/\(∀ x c,cl.lookup x=some c->env.cells.lookup x=some c)/\∀ y∈scope.names,y.2=.free->∃ c,cl.lookup y.1=some c:=by
  obtain ⟨cl,e,h1,h2⟩:=xM env scope.names [] h (λx c q=>by simp at q);refine ⟨cl,?_,h1,λy hy hf=>h2 y.1 (.inr ⟨y,hy,rfl,hf⟩)⟩;exact congrArg (λz:Sem (List (Str×Addr))=>z >>= λcs=>pure cs) e
variable {elt iter:Expr}{ifs:List Expr}{pos:Pos}
section
variable {prog:Program}{w:World}{A:Around}{R:Result->Shared->Prop}{s:Shared}
abbrev NoX:Value->Shared->Prop:=λ_ _=>False
theorem xH{target:Expr}{it acc:Value}{env:Env}(I:Nat->Shared->Prop)(turn:∀ n s,I n s->wpAny (model prog w) A (pyNext it) (λr s₁=>match r with
      | none=>R (.ok .next) s₁
      | some v=>wpAny (model prog w) A (letOwnedTupleGo target it v) (λ_ s₁'=>wpAny (model prog w) A (assign target env v) (λ_ s₂ =>
          wpAny (model prog w) A (forIn ifs true λc r=>if r=true then do let ok <-isTrue c env (eval c env); pure (ForInStep.yield ok) else pure (ForInStep.yield r)) (λok s₃ =>
            if ok=true then wpAny (model prog w) A (eval elt env) (λx s₄ =>
              wpAny (model prog w) A (call (.builtin "list.append") [acc,x]) (λ_ s₅=>∃ m,m<n/\I m s₅) NoX s₄) NoX s₃
            else ∃ m,m<n/\I m s₃) NoX s₂) NoX s₁') NoX s₁) NoX s)(n:Nat)(h:I n s) :
    codeAny (model prog w) A (.compLoop (.ListComp elt [⟨target,iter,ifs,0⟩] scope pos) 0 it acc env) R s:=by
  refine codeAny_loop rfl I (λn s hI=>?_) n h;show wpAny _ A ((compTurn (.ListComp elt [⟨target,iter,ifs,0⟩] scope pos) 0 it acc env).onRaise (λx=>do noteFrame x env; theTreesLotGoes x)) _ _ s;refine wpAny_noted ?_;rw [compTurn_list];refine ig (wpAny_standAt (ig (h9 (turn n s hI) (λr s₁ h₁=>?_) λ_ _ h'=>h'.elim)));cases r with
  | none=>exact ii h₁
  | some v =>
    refine ig (h9 h₁ (λ_ s₁' h₁'=>?_) λ_ _ h'=>h'.elim);refine ig (h9 h₁' (λ_ s₂ h₂=>ig (h9 h₂ (λok s₃ h₃=>?_) λ_ _ h'=>h'.elim)) λ_ _ h'=>h'.elim);cases ok with
    | false=>exact ii ⟨rfl,h₃⟩
    | true =>
      exact ig (ig (h9 h₃ (λx s₄ h₄=>ig (h9 h₄ (λ_ s₅ h₅=>ii (ii ⟨rfl,h₅⟩)) λ_ _ h'=>h'.elim)) λ_ _ h'=>h'.elim))
end
theorem yE{env:Env}(hk:env.scope.kind=.function):∀ {names:List (Str×NameKind)} {x:Str},names.lookup x=some .free->env.kindOf x=some .cell -> (names.map λ(n,k)=>if (k==NameKind.free && env.scope.kind==.function && env.kindOf n==some .cell) then (n,NameKind.cell) else (n,k)).lookup x=some .cell
  | [],_,h,_=>by simp at h
  | (n,k)::r,x,h,he=>by
    have ih:=@yE env hk r x;show List.lookup x ((if (k==NameKind.free && env.scope.kind==.function && env.kindOf n==some .cell)=true then (n,NameKind.cell) else (n,k))::_)=_;cases hx:x==n with
    | true =>
      simp only [cv,hx] at h;cases h
      have hxn:x=n:=by simpa using hx
      subst hxn;have hc:(NameKind.free==NameKind.free && env.scope.kind==.function && env.kindOf x==some .cell)=true:=by rw [hk,he]; rfl
      rw [h7 hc];simp [cv]
    | false =>
      simp only [cv,hx] at h;by_cases hc:(k==NameKind.free && env.scope.kind==.function && env.kindOf n==some .cell)=true
      . rw [h7 hc]; simp only [cv,hx]; exact ih h he
      . rw [h8 hc]; simp only [cv,hx]; exact ih h he
theorem vW{env:Env}:∀ {names:List (Str×NameKind)} {x:Str} {k:NameKind},(∀ y∈names,y.2≠.cell)->(k=.cell\/k=.free) -> (names.map λ(n,k)=>if (k==NameKind.free && env.scope.kind==.function && env.kindOf n==some .cell) then (n,NameKind.cell) else (n,k)).lookup x=some k->∃ y∈names,y.1=x/\y.2=.free
  | [],_,_,_,_,h=>by simp at h
  | (n,k)::r,x,k',hn,hk,h=>by
    have h':List.lookup x ((if (k==NameKind.free && env.scope.kind==.function && env.kindOf n==some .cell)=true then (n,NameKind.cell) else (n,k))::_)=some k':=h;have ih:=@vW env r x k' (λy hy=>hn y (ay _ hy)) hk;have kn:k≠.cell:=hn (n,k) aB;by_cases hc:(k==NameKind.free && env.scope.kind==.function && env.kindOf n==some .cell)=true
    . rw [h7 hc,cv] at h';have kf:k=.free:=by
        rw [cT,cT] at hc;simpa using hc.1.1
      cases hx:x==n with
      | true =>
        have hxn:x=n:=by simpa using hx
        exact ⟨(n,k),aB,hxn.symm,kf⟩
      | false =>
        rw [hx] at h';obtain ⟨y,hy,q⟩:=ih h';exact ⟨y,ay _ hy,q⟩
    . rw [h8 hc,cv] at h';cases hx:x==n with
      | true =>
        have hxn:x=n:=by simpa using hx
        rw [hx] at h';have e:k=k':=aw h';refine ⟨(n,k),aB,hxn.symm,?_⟩;rcases hk with q|q
        . exact absurd (e.trans q) kn
        . exact e.trans q
      | false =>
        rw [hx] at h';obtain ⟨y,hy,q⟩:=ih h';exact ⟨y,ay _ hy,q⟩
variable {ns:List (Str×NameKind)}
theorem AH(h:(scope.names.all λy=>y.2 != .free || ns.lookup y.1==some .cell)=true):∀ y∈scope.names,y.2=.free->ns.lookup y.1=some .cell:=λy hy hf=>by
  have:=dM.mp h y hy;rw [hf] at this;simpa using this
variable {js:List Nat}
theorem GZ{N:List Str}(h:(js.all λj=>scope.names.lookup (N.getD j Str.empty)==some .free && ns.lookup (N.getD j Str.empty)==some .cell)=true):∀ j∈js,scope.names.lookup (N.getD j Str.empty)=some .free/\ns.lookup (N.getD j Str.empty)=some .cell:=λj hj=>by
  have:=dM.mp h j hj;rw [cT] at this;exact ⟨eq_of_beq this.1,eq_of_beq this.2⟩
theorem AY(h:(scope.names.all λy=>y.2 != .cell)=true):∀ y∈scope.names,y.2≠.cell:=λy hy=>by
  have:=dM.mp h y hy;simpa using this
theorem uA(h:(scope.names.all λy=>y.2 != .local || scope.names.lookup y.1==some .local)=true):∀ y∈scope.names,y.2=.local->scope.names.lookup y.1=some .local:=λy hy hf=>by
  have:=dM.mp h y hy;rw [hf] at this;simpa using this
def vF(n:Nat)(js:List Nat)(σ:St):St:=List.replicate n none++js.map λj=>(σ[j]?).join
def zY(X:Cx)(scope:Scope)(cl:List (Str×Addr))(own:List Str)(js:List Nat)(fp:List Addr)(C:Addr)(s3:Shared)(H3:Hp):Cx :=
  { X with N:=own++js.map (λj=>X.N.getD j Str.empty),s₀:=s3,H₀:=H3,env:=compEnvC scope cl C X.env,outer:=X.stack,ex:=fp,fn:=λ_=>false,pn:=[],xe:=λ_ _=>False }
def PIfs(X:Cx)(ifs:List Expr)(t:TT):Prop:=∀ (pins:List (Addr×Obj)) (s:Shared) (σ:St) (H:Hp) (Q:Bool->Hp->Prop),Inv X pins σ H s->t σ H Q ->
  wpAny (model X.prog X.w) X.A (forIn ifs true λc r=>if r=true then do let ok <-isTrue c X.env (eval c X.env); pure (ForInStep.yield ok) else pure (ForInStep.yield r)) (TP X pins σ Q) X.xe s
def tAll:TT:=λ_ H B=>B true H
variable {X:Cx}
theorem zJ:PIfs X [] tAll:=λ_ _ _ H _ I h=>wpAny_tests_nil ⟨H,I,h⟩
theorem Bs{c:Expr}{t:TT}(h:PT X c t):PIfs X [c] t:=λpins s σ H Q I q=>wpAny_tests_one (h pins s σ H Q I q)
def Ai(wi:TI)(g:TG)(tc:TT)(te:TE)(n:Nat)(js:List Nat):TE:=λσ H Q=>wi σ H λJ H1=>∀ D,H1 D=none->∃ W:Nat->Nat->St->Hp->Prop,(∃ m,W 0 m (vF n js σ) (upd H1 D (.lst []))) /\
  ∀ i m σ' H',W i m σ' H'->(J.stop i H'/\Q (.ref D) H')\/(J.go i H'/\∀ x H2,J.yld i H' x H2->g x σ' H2 λσ3 H3=>tc σ3 H3 λb H4 =>
    if b=true then te σ3 H4 λv H5=>z7 (.ref D) [v] H5 λ_ H6=>∃ m',m'<m/\W (i+1) m' σ3 H6 else ∃ m',m'<m/\W (i+1) m' σ3 H4)
section
variable {X:Cx}{pins:List (Addr×Obj)}{σ:St}{H:Hp}{s:Shared}{scope:Scope}{cl:List (Str×Addr)}{own:List Str}{js:List Nat}{fp:List Addr}
theorem DZ(I:Inv X pins σ H s)(hkind:scope.kind=.function)(hcell:∀ y∈scope.names,y.2≠.cell)(cl1:∀ x c,cl.lookup x=some c->X.env.cells.lookup x=some c)(cl2:∀ y∈scope.names,y.2=.free->∃ c,cl.lookup y.1=some c)(hf:∀ b∈fp,FpOk X pins H b)(hl:∀ b∈fp,b<s.heap.objs.size):(zY X scope cl own js fp s.heap.objs.size s H).Ok:=by
  have hno:∀ b o,X.base.get? b=some o->b∉fp:=λb o e hb=>by
    rcases (hf b hb).2.2.2.1 with z|z
    . exact I.ok.noex b o e z
    . exact absurd (aE (Heap.lt_size e) (bK I.ok.bsz z)) (cU _)
  have hex:∀ b∈fp,b∉frs X.stack:=λb hb z=>by
    rcases aK.mp (I.stkSub b z) with e|e
    . exact (hf b hb).2.1 e
    . exact (hf b hb).2.2.1 e
  exact ⟨I.ok.mod,hkind,I.ok.glob,I.ok.blt,ai _,λx y c h1 h2=>I.ok.inj x y c (cl1 x c h1) (cl1 y c h2),
    λx hx=>by
      have hx':(∃ k,(k=NameKind.cell\/k=.free)/\(relabel scope X.env).names.lookup x=some k):=by
        rcases hx with z|z
        . exact ⟨_,.inl rfl,z⟩
        . exact ⟨_,.inr rfl,z⟩
      obtain ⟨k,hk,z⟩:=hx';obtain ⟨y,hy,e1,e2⟩:=vW hcell hk z;obtain ⟨c,hc⟩:=cl2 y hy e2;exact ⟨c,by rw [<-e1]; exact hc⟩,
    λx c h _=>absurd h (by show ¬ (false=true); decide),I.ok.hd,I.ok.frames,.inl rfl,
    λb hb=>⟨az (hl b hb),λx c e=>(hf b hb).2.2.2.2.1 x c (cl1 x c e)⟩,
    I.bs,bK I.ok.bsz I.sz,hno,hex,I.stack,I.stkFree⟩
theorem FY{h₁:Heap}{m:Str->Option Value}{t':Nat}(I:Inv X pins σ H s)(hkind:scope.kind=.function)(hcell:∀ y∈scope.names,y.2≠.cell)(cl1:∀ x c,cl.lookup x=some c->X.env.cells.lookup x=some c)(cl2:∀ y∈scope.names,y.2=.free->∃ c,cl.lookup y.1=some c)(hjs:∀ j∈js,scope.names.lookup (X.N.getD j Str.empty)=some .free/\X.env.scope.names.lookup (X.N.getD j Str.empty)=some .cell)(hf:∀ b∈fp,FpOk X pins H b)(hl:∀ b∈fp,b<s.heap.objs.size)(hn:h₁.Ns s.heap.objs.size m)(k:∀ b o,s.heap.get? b=some o->h₁.get? b=some o) : Inv (zY X scope cl own js fp s.heap.objs.size s H) [] (vF own.length js σ) H { s with heap:=h₁,toks:=t' }:=by
  refine ⟨DZ I hkind hcell cl1 cl2 hf hl,rfl,I.bare,Un.kept k,⟨m,hn,λi x v h1 h2 h3=>?_⟩,λx c e=>?_,I.hok.fresh (ai _),λx c e=>I.freeC x c (cl1 x c e),λp hp=>absurd (show p∈([]:List (Addr×Obj)) from hp) (by simp),I.hok.kept k,?_⟩
  . have hi:own.length<=i:=by
      unfold vF at h2;by_cases z:i<own.length
      . rw [aM (by simpa using z),f9,h7 z] at h2;cases h2
      . omega
    unfold vF at h2;rw [aG (by simpa using hi),gE,ag] at h2;have h1':(own++js.map (λj=>X.N.getD j Str.empty))[i]?=some x:=h1;rw [aG hi,ag] at h1';cases ej:js[i - own.length]? with
    | none=>rw [ej] at h2; cases h2
    | some j =>
      rw [ej] at h2 h1';have ex:X.N.getD j Str.empty=x:=aw h1';have ev:(σ[j]?).join=some v:=aw h2;have ev':σ[j]?=some (some v):=by
        cases q:σ[j]? with
        | none=>rw [q] at ev; cases ev
        | some z=>rw [q] at ev; rw [show z=some v from ev]
      have hjl:j<X.N.length:=by
        rw [<-I.len];exact (af.mp ev').1
      have eN:X.N[j]?=some x:=by
        rw [<-ex,c7,ae hjl];rfl
      obtain ⟨f1,f2⟩:=hjs j (aq ej);rw [ex] at f1 f2;obtain ⟨mm,hnn,hll⟩:=I.loc;obtain ⟨u,r,lk⟩:=hll j x v eN ev' (.inr (.inl f2));refine ⟨u,r,?_⟩;rcases lk with ⟨q,_⟩|⟨_,c,e,ic⟩
      . rw [show X.env.kindOf x=some .cell from f2] at q; cases q
      . obtain ⟨y,hy,e1,e2⟩:∃ y∈scope.names,y.1=x/\y.2=.free:=⟨_,cY f1,rfl,rfl⟩
        obtain ⟨c',hc'⟩:=cl2 y hy e2;rw [e1] at hc';have:c'=c:=by
          have:=cl1 x c' hc';rw [e] at this;exact (aw this).symm
        subst this;obtain ⟨o,ho,hd⟩:=ic;exact .inr ⟨.inl (yE I.ok.kind f1 f2),c',hc',⟨o,k _ _ ho,hd⟩⟩
  . obtain ⟨v,o,ho,hd⟩:=I.cell x c (cl1 x c e);exact ⟨v,o,k _ _ ho,hd⟩
  . show _=(own++js.map _).length;unfold vF;simp
theorem vy{H':Hp}{σ':St}{s':Shared}{h':Heap}(I:Inv X pins σ H s)(hf:∀ b∈fp,FpOk X pins H b)(I':Inv (zY X scope cl own js fp s.heap.objs.size s H) [] σ' H' s')(sb:Heap.SameBut s.heap.objs.size s'.heap h'):Inv X pins σ H' { s' with heap:=h' }:=by
  have u:=I'.base;have ne:∀ b o,s.heap.get? b=some o->b≠s.heap.objs.size:=λb o e=>az (Heap.lt_size e);refine I.call' (ch:=fp) I'.os ⟨λb o e n hb hx=>?_,λb o e n hb hx=>?_,u.free,λb o e hx=>?_,u.tups,u.frzs,u.tbls⟩ (λb o e=>?_) I'.bare λb hb=>⟨(hf b hb).2.2.2.1,(hf b hb).2.1,(hf b hb).2.2.2.2.1,(hf b hb).2.2.2.2.2⟩
  . exact (sb.2 b (ne b o e)).trans (u.keep b o e n hb hx)
  . obtain ⟨sl,z⟩:=u.slot b o e n hb hx;exact ⟨sl,(sb.2 b (ne b o e)).trans z⟩
  . obtain ⟨o',z⟩:=u.there b o e hx;exact ⟨o',(sb.2 b (ne b o e)).trans z⟩
  . have hfr:H' s.heap.objs.size=none:=I'.free;refine (I'.hok b o e).stay (λc v hc q=>(sb.2 c ?_).trans q) (λ_ q=>q) λ_ _ q=>q;rintro rfl;rcases hc with rfl|hc
    . rw [hfr] at e; cases e
    . rw [hfr] at hc; cases hc
end
variable {tgt:Expr}{H:Hp}{te:TE}{g:TG}{wi:TI}{tc:TT}{Q:VK}
theorem uH{use:Option (Value->Sem Unit)}{R:Value->Shared->Prop}{pins:List (Addr×Obj)}{σ:St}{s:Shared}(own:List Str)(js:List Nat)(hc:X.calm=true)(hi:PI X tgt iter wi)(hg:∀ cl fp C s3 H3,PG (zY X scope cl own js fp C s3 H3) tgt g)(ht:∀ cl fp C s3 H3,PIfs (zY X scope cl own js fp C s3 H3) ifs tc)(he:∀ cl fp C s3 H3,PE (zY X scope cl own js fp C s3 H3) elt te)(hfree:∀ y∈scope.names,y.2=.free->X.env.scope.names.lookup y.1=some .cell)(hjs:∀ j∈js,scope.names.lookup (X.N.getD j Str.empty)=some .free/\X.env.scope.names.lookup (X.N.getD j Str.empty)=some .cell)(hcell:∀ y∈scope.names,y.2≠.cell)(hnames:∀ y∈scope.names,y.2=.local->scope.names.lookup y.1=some .local)(hkind:scope.kind=.function)(hs:∀ x,foldedSetIterable iter X.env x=pure x)(I:Inv X pins σ H s)(h:Ai wi g tc te own.length js σ H Q)(hend:∀ (D:Addr) (H3 H5:Hp) (σ5:St) (s3 s6:Shared) (fp:List Addr) (cl:List (Str×Addr)),Inv X pins σ H3 s3->(∀ b∈fp,FpOk X pins H3 b)->Inv (zY X scope cl own js fp s3.heap.objs.size s3 H3) [] σ5 H5 s6->Q (.ref D) H5 ->
      compPost (model X.prog X.w) X.A X.xe use R (.ref D) s3.heap.objs.size (.ok .next) s6) :
    wpAny (model X.prog X.w) X.A (comprehension (.ListComp elt [⟨tgt,iter,ifs,0⟩] scope pos) scope X.env (firstIterPos [⟨tgt,iter,ifs,0⟩] pos) (newList []) false (eval iter X.env) use) R X.xe s:=by
  have hk:=I.ok.kind;obtain ⟨cl,hcl,cl1,cl2⟩:=CF (scope:=scope) (env:=X.env) λy hy hf=>I.ok.has y.1 (.inl (hfree y hy hf));refine wpAny_comprehension_free rfl hs hcl hkind hnames (thn (hi pins s σ H _ I h) λv s1 h1=>thn h1 λitv s2 h2=>?_);obtain ⟨it,fp,tn,J,H2,e,I2,T,st2,f2,q2⟩:=h2;subst e;obtain ⟨W,⟨m0,w0⟩,turn⟩:=q2 s2.heap.objs.size I2.fresh;have I3:=I2.lnew (ys:=[]) (its:=[]) (t':=s2.toks) .nil (bZ _);refine ij (wpAny_newFunctionEnv hcell (by intro y hy; simp at hy) (λh₁ hns₁ hsb₁=>?_) hkind);have hl3:∀ b∈fp,b<(s2.heap.push ({ cls:=.type "list",data:=.seq ([]:List Value).toArray }:Obj)).objs.size:=λb hb=>by
    obtain ⟨o,e,_⟩:=T.obj _ _ st2 b hb;rw [Heap.size_push];exact dD (Heap.lt_size e)
  have f3:∀ b∈fp,FpOk X pins (upd H2 s2.heap.objs.size (.lst [])) b:=λb hb=>by
    obtain ⟨o,e,_⟩:=T.obj _ _ st2 b hb;refine ⟨?_,(f2 b hb).2⟩;rw [zj (az (Heap.lt_size e))];exact (f2 b hb).1
  have I4:=FY (own:=own) (js:=js) (h₁:=h₁) (t':=s2.toks+([]:List (Str×Value)).length) I3 hkind hcell cl1 cl2 hjs f3 hl3 hns₁ (λb o e=>(hsb₁.2 b (az (Heap.lt_size e))).trans (Heap.get?_push_of_some _ e));have st4:tn 0 h₁:=T.keep _ _ _ st2 λb hb o e=>(hsb₁.2 b (az (hl3 b hb))).trans (Heap.get?_push_of_some _ (Heap.get?_push_of_some _ e));have loop:codeAny (model X.prog X.w) X.A (.compLoop (.ListComp elt [⟨tgt,iter,ifs,0⟩] scope pos) 0 (.ref it) (.ref s2.heap.objs.size) (compEnvC scope cl (s2.heap.push ({ cls:=.type "list",data:=.seq ([]:List Value).toArray }:Obj)).objs.size X.env))
      (compPost (model X.prog X.w) X.A X.xe use R (.ref s2.heap.objs.size) (s2.heap.push ({ cls:=.type "list",data:=.seq ([]:List Value).toArray }:Obj)).objs.size) { s2 with heap:=h₁,toks:=s2.toks+([]:List (Str×Value)).length }:=by
    refine xH (λn s'=>∃ i σ' H',Inv (zY X scope cl own js fp _ _ _) [] σ' H' s'/\tn i s'.heap/\(∀ b∈fp,H' b=none)/\W i n σ' H') ?_ m0 ⟨0,_,_,I4,st4,λb hb=>(f3 b hb).1,w0⟩;rintro n s5 ⟨i,σ5,H5,I5,st5,fr5,w5⟩;have stat:∀ {H':Hp},(∀ b∈fp,H' b=none)->∀ b∈fp,FpOk (zY X scope cl own js fp _ _ _) [] H' b:=λhn b hb =>
      ⟨hn b hb,(I4.ok.exf b hb).1,I4.ok.exfs b hb,.inl hb,(I4.ok.exf b hb).2,λp hp=>absurd (show p∈([]:List (Addr×Obj)) from hp) (by simp)⟩
    rcases turn i n σ5 H5 w5 with ⟨stop,qn⟩|⟨go,step⟩
    . refine thn (T.done (zY X scope cl own js fp _ _ _) rfl rfl rfl hc i [] s5 σ5 H5 NoX I5 (stat fr5) st5 stop) λr s6 ⟨hr,I6⟩=>?_;subst hr;exact hend _ _ _ _ _ _ _ _ I3 f3 I6 qn
    . refine thn (T.item (zY X scope cl own js fp _ _ _) rfl rfl rfl hc i [] s5 σ5 H5 NoX I5 (stat fr5) st5 go) λr s6 ⟨u,hr,h6⟩=>?_;subst hr;refine thn h6 λ_ s7 ⟨x,H7,I7,r7,y7,st7,fr7⟩=>?_;have I7':=I7.pinned (stat fr7) (T.obj _ _ st7);refine thn (hg cl fp _ _ _ _ s7 σ5 H7 x u _ I7' r7 (step x H7 y7)) λ_ s8 ⟨σ8,H8,I8,q8⟩=>?_;have again:∀ {C3:Addr} {s3:Shared} {H3:Hp} {σ9:St} {H9:Hp} {s9:Shared} {m':Nat},Inv (zY X scope cl own js fp C3 s3 H3) ([]++Ae fp s7.heap) σ9 H9 s9->m'<n->W (i+1) m' σ9 H9->∃ m,m<n/\∃ i σ' H',Inv (zY X scope cl own js fp C3 s3 H3) [] σ' H' s9/\tn i s9.heap/\(∀ b∈fp,H' b=none)/\W i m σ' H':=λ{C3 s3 H3 σ9 H9 s9 m'} I9 hm w9=>by
        refine ⟨m',hm,i+1,σ9,H9,I9.unpinned,T.keep _ _ _ st7 λb hb o e=>(I9.pin (b,o) (aV _ (aV _ (xy hb e)))).1,λb hb=>?_,w9⟩;obtain ⟨o,e,d⟩:=T.obj _ _ st7 b hb;exact (I9.pin (b,o) (aV _ (aV _ (xy hb e)))).2.1
      refine thn (ht cl fp _ _ _ _ s8 σ8 H8 _ I8 q8) λb s9 ⟨H9,I9,q9⟩=>?_;cases b with
      | false =>
        rw [h8 aT] at q9 ⊢;obtain ⟨m',hm,w9⟩:=q9;exact again I9 hm w9
      | true =>
        rw [h7 rfl] at q9 ⊢;refine thn (he cl fp _ _ _ _ s9 σ8 H9 _ I9 q9) λy s10 ⟨v,H10,I10,r10,q10⟩=>?_;exact thn (zB (X:=zY X scope cl own js fp _ _ _) _ s10 σ8 H10 (.ref s2.heap.objs.size) [v] (.ref s2.heap.objs.size) [y] _ I10 rfl (.cons r10 .nil) q10) λ_ s11 ⟨_,H11,I11,_,m',hm,w11⟩=>again I11 hm w11
  exact codeAny_compStart_list loop (T.self _ 0 _ _ _ st4 loop)
theorem yl(own:List Str)(js:List Nat)(hc:X.calm=true)(hi:PI X tgt iter wi)(hg:∀ cl fp C s3 H3,PG (zY X scope cl own js fp C s3 H3) tgt g)(ht:∀ cl fp C s3 H3,PIfs (zY X scope cl own js fp C s3 H3) ifs tc)(he:∀ cl fp C s3 H3,PE (zY X scope cl own js fp C s3 H3) elt te)(hfree':(scope.names.all λy=>y.2 != .free || X.env.scope.names.lookup y.1==some .cell)=true:=by rfl)(hjs':(js.all λj=>scope.names.lookup (X.N.getD j Str.empty)==some .free && X.env.scope.names.lookup (X.N.getD j Str.empty)==some .cell)=true:=by rfl)(hcell':(scope.names.all λy=>y.2 != .cell)=true:=by rfl)(hnames':(scope.names.all λy=>y.2 != .local || scope.names.lookup y.1==some .local)=true:=by rfl)(hkind:scope.kind=.function:=by rfl)(hs:∀ x,foldedSetIterable iter X.env x=pure x:=by intro _; rfl) :
    PE X (.ListComp elt [⟨tgt,iter,ifs,0⟩] scope pos) (Ai wi g tc te own.length js):=by
  have hfree:∀ y∈scope.names,y.2=.free->X.env.scope.names.lookup y.1=some .cell:=AH hfree';have hjs:∀ j∈js,scope.names.lookup (X.N.getD j Str.empty)=some .free/\X.env.scope.names.lookup (X.N.getD j Str.empty)=some .cell:=GZ hjs';have hcell:∀ y∈scope.names,y.2≠.cell:=AY hcell';have hnames:∀ y∈scope.names,y.2=.local->scope.names.lookup y.1=some .local:=uA hnames';intro pins s σ H Q I h;rw [eval_ListComp];refine uH own js hc hi hg ht he hfree hjs hcell hnames hkind hs I h λD H3 H5 σ5 s3 s6 fp cl I3 f3 I6 qn=>?_;obtain ⟨m,hm,_⟩:=id I6.loc;exact ⟨m,hm,λh' sb=>⟨.ref D,H5,vy I3 f3 I6 sb,rfl,qn⟩⟩
theorem uD{i:Nat}{x:Str}{spos px:Pos}(hN:X.N.Nodup)(hiN:X.N[i]?=some x)(hx:X.env.scope.names.lookup x=some .local)(own:List Str)(js:List Nat)(hc:X.calm=true)(hi:PI X tgt iter wi)(hg:∀ cl fp C s3 H3,PG (zY X scope cl own js fp C s3 H3) tgt g)(ht:∀ cl fp C s3 H3,PIfs (zY X scope cl own js fp C s3 H3) ifs tc)(he:∀ cl fp C s3 H3,PE (zY X scope cl own js fp C s3 H3) elt te)(hfree':(scope.names.all λy=>y.2 != .free || X.env.scope.names.lookup y.1==some .cell)=true:=by rfl)(hjs':(js.all λj=>scope.names.lookup (X.N.getD j Str.empty)==some .free && X.env.scope.names.lookup (X.N.getD j Str.empty)==some .cell)=true:=by rfl)(hcell':(scope.names.all λy=>y.2 != .cell)=true:=by rfl)(hnames':(scope.names.all λy=>y.2 != .local || scope.names.lookup y.1==some .local)=true:=by rfl)(hkind:scope.kind=.function:=by rfl)(hs:∀ x,foldedSetIterable iter X.env x=pure x:=by intro _; rfl)(hsw:swapsWith (.ListComp elt [⟨tgt,iter,ifs,0⟩] scope pos) (some (.Name x px)) spos.line X.env=pure true:=by rfl) :
    PS X (.Assign [.Name x px] (.ListComp elt [⟨tgt,iter,ifs,0⟩] scope pos) spos) (tAsg (Ai wi g tc te own.length js) (Cw i)):=by
  have hfree:∀ y∈scope.names,y.2=.free->X.env.scope.names.lookup y.1=some .cell:=AH hfree';have hjs:∀ j∈js,scope.names.lookup (X.N.getD j Str.empty)=some .free/\X.env.scope.names.lookup (X.N.getD j Str.empty)=some .cell:=GZ hjs';have hcell:∀ y∈scope.names,y.2≠.cell:=AY hcell';have hnames:∀ y∈scope.names,y.2=.local->scope.names.lookup y.1=some .local:=uA hnames';intro pins s σ H D I h;rw [exec_Assign_Name_used _ _ _ _ hsw];refine ig (wpAny_standAt (ig ?_));show wpAny _ X.A (do let _ <-comprehension (.ListComp elt [⟨tgt,iter,ifs,0⟩] scope pos) scope X.env _ (newList []) false (eval iter X.env) (some (assign (.Name x px) X.env))) _ _ s;refine ig (thn (uH (use:=some (assign (.Name x px) X.env)) (R:=λ_ s'=>SP X pins D .next s') own js hc hi hg ht he hfree hjs hcell hnames hkind hs I h λD' H3 H5 σ5 s3 s6 fp cl I3 f3 I6 qn=>?_) λ_ s' hq=>ii (ii hq));have I7:Inv X pins σ H5 s6:=vy I3 f3 I6 (Heap.SameBut.refl ..);have hlt:X.env.locals<s3.heap.objs.size:=I3.lt;have hcl:∀ y c,X.env.cells.lookup y=some c->c≠s3.heap.objs.size:=λy c e z=>by
    obtain ⟨v,q⟩:=I3.cell y c e;exact absurd q.lt (by rw [z]; exact cU _)
  refine wpAny_assign_Name (uY I7 hN hiN (.inl hx) (v:=.ref D') (u:=.ref D') rfl (λs7 I8 hch=>?_) (.inr hx));obtain ⟨m,hm,_⟩:=id I6.loc;have hne:s3.heap.objs.size≠X.env.locals:=fw hlt;have hm7:s7.heap.Ns s3.heap.objs.size m:=by
    obtain ⟨a,sb,ha⟩:=hch;refine Heap.Ns.sameBut hm sb ?_;rcases ha with ha|ha
    . rw [ha]; exact hne
    . exact λz=>hcl x a ha z.symm
  refine ⟨m,hm7,λh' sb=>?_⟩;refine ⟨_,H5,I8.turned (t':=s7.toks) (it:=s3.heap.objs.size) (λb o hb e=>(sb.2 b hb).trans e) I6.free hne (.inr I3.sz) hcl (λp hp z=>?_),qn⟩;exact absurd (Heap.lt_size (I3.pin p hp).1) (by rw [z]; exact cU _)
def uM(n:Nat)(Pv:Nat->List V->St->Hp->Prop)(i:Nat)(σ:St)(H:Hp):Prop:=∃ m',m'<n - i/\m'=n - (i+1)/\i+1<=n/\∃ xs,Pv (i+1) xs σ H
theorem yr{n:Nat}{Pv:Nat->List V->St->Hp->Prop}{i:Nat}{xs:List V}{σ:St}(h:i<n)(p:Pv (i+1) xs σ H):uM n Pv i σ H:=⟨n - (i+1),by omega,rfl,h,xs,p⟩
variable {a:Addr}{y:Int}{ys:List V}{ta:TA}{tl:TE}{x:V}
section
variable {g:TG}{tc:TT}{te:TE}{D:Addr}{H1:Hp}{σ0:St}{Q:VK}
theorem yD{R:Hp->Prop}{lo:Int}{n:Nat}(Pv:Nat->List V->St->Hp->Prop)(h0:Pv 0 [] σ0 (upd H1 D (.lst [])))(hs:∀ i xs σ H,i<n->Pv i xs σ H->g (.int (lo+i)) σ H λσ3 H3=>tc σ3 H3 λb H4=>if b=true then te σ3 H4 λv H5=>z7 (.ref D) [v] H5 λ_ H6=>uM n Pv i σ3 H6 else uM n Pv i σ3 H4)(hd:∀ xs σ H,Pv n xs σ H->R H) : ∃ W:Nat->Nat->St->Hp->Prop,(∃ m,W 0 m σ0 (upd H1 D (.lst [])))/\∀ i m σ' H',W i m σ' H'->((Itr lo n).stop i H'/\R H')\/((Itr lo n).go i H'/\∀ x H2,(Itr lo n).yld i H' x H2->g x σ' H2 λσ3 H3=>tc σ3 H3 λb H4 =>
      if b=true then te σ3 H4 λv H5=>z7 (.ref D) [v] H5 λ_ H6=>∃ m',m'<m/\W (i+1) m' σ3 H6 else ∃ m',m'<m/\W (i+1) m' σ3 H4):=by
  refine ⟨λi m σ H=>m=n - i/\i<=n/\∃ xs,Pv i xs σ H,⟨n,by simp,bZ _,[],h0⟩,?_⟩;rintro i m σ H ⟨rfl,hi,xs,p⟩;by_cases hlt:i<n
  . refine .inr ⟨hlt,λx H' y=>?_⟩;obtain ⟨e,y⟩:=y;subst e y;exact hs i xs σ _ hlt p
  . have e:i=n:=by omega
    subst e;exact .inl ⟨ai _,hd xs σ H p⟩
theorem zV{R:Hp->Prop}{K:iB}(Pv:Nat->List V->St->Hp->Prop)(h0:Pv 0 [] σ0 (upd H1 D (.lst [])))(hl:∀ i xs σ H,i<=ys.length->Pv i xs σ H->SqL K H a ys)(hs:∀ i x xs σ H,ys[i]?=some x->Pv i xs σ H->g x σ H λσ3 H3=>tc σ3 H3 λb H4=>if b=true then te σ3 H4 λv H5=>z7 (.ref D) [v] H5 λ_ H6=>uM ys.length Pv i σ3 H6 else uM ys.length Pv i σ3 H4)(hd:∀ xs σ H,Pv ys.length xs σ H->R H) : ∃ W:Nat->Nat->St->Hp->Prop,(∃ m,W 0 m σ0 (upd H1 D (.lst [])))/\∀ i m σ' H',W i m σ' H'->((Itl K a).stop i H'/\R H')\/((Itl K a).go i H'/\∀ x H2,(Itl K a).yld i H' x H2->g x σ' H2 λσ3 H3=>tc σ3 H3 λb H4 =>
      if b=true then te σ3 H4 λv H5=>z7 (.ref D) [v] H5 λ_ H6=>∃ m',m'<m/\W (i+1) m' σ3 H6 else ∃ m',m'<m/\W (i+1) m' σ3 H4):=by
  refine ⟨λi m σ H=>m=ys.length - i/\i<=ys.length/\∃ xs,Pv i xs σ H,⟨ys.length,by simp,bZ _,[],h0⟩,?_⟩;rintro i m σ H ⟨rfl,hi,xs,p⟩;have q:=hl i xs σ H hi p;by_cases hlt:i<ys.length
  . refine .inr ⟨⟨ys,ys[i],q,by simp [hlt]⟩,λx H' y=>?_⟩;obtain ⟨e,y⟩:=y;subst e;exact hs i x xs σ _ (y ys q) p
  . have e:i=ys.length:=by omega
    subst e;exact .inl ⟨⟨ys,q,ai _⟩,hd xs σ H p⟩
theorem Bu{R:Hp->Prop}{K:iB}(Pv:Nat->List V->St->Hp->Prop)(h0:Pv 0 [] σ0 (upd H1 D (.lst [])))(hl:∀ i xs σ H,i<=ys.length->Pv i xs σ H->SqT K H a ys)(hs:∀ i x xs σ H,ys[i]?=some x->Pv i xs σ H->g x σ H λσ3 H3=>tc σ3 H3 λb H4=>if b=true then te σ3 H4 λv H5=>z7 (.ref D) [v] H5 λ_ H6=>uM ys.length Pv i σ3 H6 else uM ys.length Pv i σ3 H4)(hd:∀ xs σ H,Pv ys.length xs σ H->R H) : ∃ W:Nat->Nat->St->Hp->Prop,(∃ m,W 0 m σ0 (upd H1 D (.lst [])))/\∀ i m σ' H',W i m σ' H'->((Itt K a).stop i H'/\R H')\/((Itt K a).go i H'/\∀ x H2,(Itt K a).yld i H' x H2->g x σ' H2 λσ3 H3=>tc σ3 H3 λb H4 =>
      if b=true then te σ3 H4 λv H5=>z7 (.ref D) [v] H5 λ_ H6=>∃ m',m'<m/\W (i+1) m' σ3 H6 else ∃ m',m'<m/\W (i+1) m' σ3 H4):=by
  refine ⟨λi m σ H=>m=ys.length - i/\i<=ys.length/\∃ xs,Pv i xs σ H,⟨ys.length,by simp,bZ _,[],h0⟩,?_⟩;rintro i m σ H ⟨rfl,hi,xs,p⟩;have q:=hl i xs σ H hi p;by_cases hlt:i<ys.length
  . refine .inr ⟨⟨ys,ys[i],q,by simp [hlt]⟩,λx H' y=>?_⟩;obtain ⟨e,y⟩:=y;subst e;exact hs i x xs σ _ (y ys q) p
  . have e:i=ys.length:=by omega
    subst e;exact .inl ⟨⟨ys,q,ai _⟩,hd xs σ H p⟩
theorem BS{σ:St}{n:Nat}(h:ta σ H λvs H1=>∃ i j:Int,vs=[.int i,.int j]/\(-(2 ^ 62)<=i/\i<2 ^ 62/\-(2 ^ 62)<=j/\j<2 ^ 62)/\∀ D,H1 D=none->∃ W:Nat->Nat->St->Hp->Prop,(∃ m,W 0 m (vF n js σ) (upd H1 D (.lst []))) /\
  ∀ i_1 m σ' H',W i_1 m σ' H'->((Itr i (j - i).toNat).stop i_1 H'/\Q (.ref D) H')\/((Itr i (j - i).toNat).go i_1 H'/\∀ x H2,(Itr i (j - i).toNat).yld i_1 H' x H2->g x σ' H2 λσ3 H3=>tc σ3 H3 λb H4 =>
    if b=true then te σ3 H4 λv H5=>z7 (.ref D) [v] H5 λ_ H6=>∃ m',m'<m/\W (i_1+1) m' σ3 H6 else ∃ m',m'<m/\W (i_1+1) m' σ3 H4)):Ai (HM ta) g tc te n js σ H Q:=h
theorem wX{σ:St}{n:Nat}(h:ta σ H λvs H1=>∃ j:Int,vs=[.int j]/\-(2 ^ 62)<=j/\j<2 ^ 62/\∀ D,H1 D=none->∃ W:Nat->Nat->St->Hp->Prop,(∃ m,W 0 m (vF n js σ) (upd H1 D (.lst []))) /\
  ∀ i m σ' H',W i m σ' H'->((Itr 0 j.toNat).stop i H'/\Q (.ref D) H')\/((Itr 0 j.toNat).go i H'/\∀ x H2,(Itr 0 j.toNat).yld i H' x H2->g x σ' H2 λσ3 H3=>tc σ3 H3 λb H4 =>
    if b=true then te σ3 H4 λv H5=>z7 (.ref D) [v] H5 λ_ H6=>∃ m',m'<m/\W (i+1) m' σ3 H6 else ∃ m',m'<m/\W (i+1) m' σ3 H4)):Ai (Hq ta) g tc te n js σ H Q:=h
theorem yK{K:iB}{σ:St}{n:Nat}(h:tl σ H λx H1=>∃ a,x=.ref a/\(∃ xs,SqL K H1 a xs)/\∀ D,H1 D=none->∃ W:Nat->Nat->St->Hp->Prop,(∃ m,W 0 m (vF n js σ) (upd H1 D (.lst []))) /\
  ∀ i m σ' H',W i m σ' H'->((Itl K a).stop i H'/\Q (.ref D) H')\/((Itl K a).go i H'/\∀ x H2,(Itl K a).yld i H' x H2->g x σ' H2 λσ3 H3=>tc σ3 H3 λb H4 =>
    if b=true then te σ3 H4 λv H5=>z7 (.ref D) [v] H5 λ_ H6=>∃ m',m'<m/\W (i+1) m' σ3 H6 else ∃ m',m'<m/\W (i+1) m' σ3 H4)):Ai (GX K tl) g tc te n js σ H Q:=h
theorem EF{K:iB}{σ:St}{n:Nat}(h:tl σ H λx H1=>∃ a,x=.ref a/\(∃ xs,SqT K H1 a xs)/\∀ D,H1 D=none->∃ W:Nat->Nat->St->Hp->Prop,(∃ m,W 0 m (vF n js σ) (upd H1 D (.lst []))) /\
  ∀ i m σ' H',W i m σ' H'->((Itt K a).stop i H'/\Q (.ref D) H')\/((Itt K a).go i H'/\∀ x H2,(Itt K a).yld i H' x H2->g x σ' H2 λσ3 H3=>tc σ3 H3 λb H4 =>
    if b=true then te σ3 H4 λv H5=>z7 (.ref D) [v] H5 λ_ H6=>∃ m',m'<m/\W (i+1) m' σ3 H6 else ∃ m',m'<m/\W (i+1) m' σ3 H4)):Ai (iTup K tl) g tc te n js σ H Q:=h
theorem Lm{B:Bool->Hp->Prop}{σ:St}(h:B true H):tAll σ H B:=h
theorem FL{K:iB}{p:Addr}(h:H p=some (.tup ys))(fx:wf x=true)(fs:ys.all wf=true)(q:Q (.bl (!inV x ys)) H):rIn K true x (.ref p) H Q:=⟨p,ys,rfl,.inr (SqT.of h),fx,fs,q⟩
theorem KI{K:iB}{p:Addr}(h:H p=some (.tup ys))(fx:wf x=true)(fs:ys.all wf=true)(q:Q (.bl (inV x ys)) H):rIn K false x (.ref p) H Q:=⟨p,ys,rfl,.inr (SqT.of h),fx,fs,q⟩
theorem Lv{K:iB}{p:Addr}{xs:List V}{i:Int}{v:V}(h:SqT K H p xs)(e:atI xs i=some v)(q:Q v H):rIxT K (.ref p) (.int i) H Q:=⟨p,xs,i,v,rfl,rfl,h,e,q⟩
theorem JY{b:Addr}{x z x' y' z':Int}(ha:SqT X.K H a [.int x,.int y,.int z])(hb:SqT X.K H b [.int x',.int y',.int z'])(q:Q (.bl (decide (x=x'/\y=y'/\z=z'))) H):rEqT X (.ref a) (.ref b) H Q:=by
  refine ⟨a,b,_,_,_,0,rfl,rfl,bZ _,ha,hb,.cons (.int x x') (.cons (.int y y') (.cons (.int z z') .nil)),?_⟩;have e:([x==x',y==y',z==z']:List Bool).all id=decide (x=x'/\y=y'/\z=z'):=by
    rw [cr];simp
  rw [e];exact q
theorem DH{σ:St}{E:Ends}{tb:TS}(h:ta σ H λvs H1=>∃ i j:Int,vs=[.int i,.int j]/\(-(2 ^ 62)<=i/\i<2 ^ 62/\-(2 ^ 62)<=j/\j<2 ^ 62)/\∃ W:Nat->Nat->St->Hp->Prop,(∃ m,W 0 m σ H1)/\∀ k m σ H,W k m σ H ->
  ((Itr i (j - i).toNat).stop k H/\E.nx σ H)\/((Itr i (j - i).toNat).go k H/\∃ N:St->Hp->Prop,(∀ σ' H',N σ' H'->∃ m',m'<m/\W (k+1) m' σ' H')/\∀ x H',(Itr i (j - i).toNat).yld k H x H'->g x σ H' λσ2 H2=>tb { E with nx:=N,ct:=N,bk:=E.nx } σ2 H2)) :
  tFor (HM ta) g tb E σ H:=h
end
section
variable {σ:St}{H:Hp}{K:iB}{R:St->Hp->Prop}
theorem J5{n:Nat}{t:TGs}{xs:List V}(h:H a=some (.tup xs))(hn:xs.length=n)(q:t xs σ H R):gTup K n t (.ref a) σ H R:=⟨a,xs,rfl,SqT.of h,hn,q⟩
theorem Iq{t:TG}{u:TGs}{v:V}{r:List V}(q:t v σ H λσ' H'=>u r σ' H' R):Km t u (v::r) σ H R:=⟨v,r,rfl,q⟩
theorem IV(q:R σ H):gNil [] σ H R:=⟨rfl,q⟩
end
def TopI(mg:Str->Option Value)(x:Str)(i:Int):Prop:=∃ u,mg x=some u/\RelV (.int i) u
def TopT(K:iB)(mg:Str->Option Value)(x:Str)(xs:List V):Prop:=∃ a,mg x=some (.ref a)/\∀ H:Hp,SqT K H a xs
variable {h:Heap}{mg:Str->Option Value}
theorem topT_mk{K:iB}{x:Str}{o:Obj}{its:Array Value}{n:Nat}{xs:List V}(X:K.In h)(G:h.Ns mainGlobals mg)(e:W.nsIn K mainGlobals x=some (some (.ref a)))(l:K.lookup a=some o)(c:o.cls=.type "tuple")(d:o.data=.seq its n)(z:its.size<=sizeLine)(v:Vals xs its.toList):TopT K mg x xs:=⟨a,dC X G e,λ_=>.inr ⟨o,its,n,l,c,d,z,v⟩⟩
theorem topI_mk{K:iB}{x:Str}{i:Int}{t:Tok}(X:K.In h)(G:h.Ns mainGlobals mg)(e:W.nsIn K mainGlobals x=some (some (.int i t))):TopI mg x i:=⟨_,dC X G e,⟨t,rfl⟩⟩
theorem bl_q{x y:Bool}(e:x=y)(q:Q (.bl y) H):Q (.bl x) H:=by rw [e]; exact q
theorem Df{x:Int}(e:x=y)(q:Q (.int y) H):Q (.int x) H:=by rw [e]; exact q
def rIsN:R2:=λx y H Q=>y=.non/\Q (.bl (decide (x=.non))) H
def Kn:R2:=λx y H Q=>y=.non/\Q (.bl (!decide (x=.non))) H
theorem Ba:OpR X (compareOp .Is) rIsN:=Kc
theorem ux:OpR X (compareOp .IsNot) Kn:=HK
theorem Lf(q:Q (.bl (decide (x=.non))) H):rIsN x .non H Q:=⟨rfl,q⟩
theorem Jp(q:Q (.bl (!decide (x=.non))) H):Kn x .non H Q:=⟨rfl,q⟩
def sqs:List Int:=[4,9,16,25,36,49,64,81]
def yH(n:Nat):List Int:=((List.range n).map λ(i:Nat)=>(2:Int)+i).filter λd=>!sqs.contains d
theorem wJ(n:Nat):yH (n+1)=yH n++(if sqs.contains ((2:Int)+n) then [] else [(2:Int)+n]):=by
  unfold yH;rw [d4,aj,List.filter_append];congr 1;simp only [aU,cL,cI,List.filter_nil];cases sqs.contains ((2:Int)+n) <;> rfl
theorem Ck{n:Nat}(hn:n<=98){d:Int}(h:d∈yH n):Rt d:=by
  unfold yH at h;rw [dR,aZ] at h;obtain ⟨⟨i,hi,rfl⟩,hc⟩:=h;rw [bG] at hi;refine KU ⟨by omega,by omega⟩ ?_;simp only [sqs,List.contains_cons,List.contains_nil,Bool.or_false,Bool.not_eq_true',Bool.or_eq_false_iff,beq_eq_false_iff_ne,ne_eq] at hc;exact hc
theorem tJ:(yH 98).length=90:=by decide +kernel
theorem Ib(d:Int):inV (.int d) [.int 4,.int 9,.int 16,.int 25,.int 36,.int 49,.int 64,.int 81]=sqs.contains d:=by
  simp only [inV,dU,List.any_nil,eqV,sqs,List.contains_cons,List.contains_nil,Bool.or_false];simp only [BEq.comm (b:=d)]
theorem BM{xs:List Int}{i:Int}(h0:0<=i)(h1:i<xs.length):∃ d∈xs,atI (xs.map V.int) i=some (.int d):=by
  have hi:i.toNat<xs.length:=by omega
  refine ⟨xs[i.toNat],bI hi,?_⟩;have e:=zF (xs:=xs.map V.int) (j:=i.toNat) (v:=.int xs[i.toNat]) (by rw [ag,ae hi]; rfl);rw [show ((i.toNat:Nat):Int)=i by omega] at e;exact e
end L2
namespace Bg
variable {a d:Int}
theorem IM{b:Int}(h:Rt d)(z:¬ (a=0/\b=0)):a*a - d*b*b≠0:=λe=>z (Bm h e)
theorem tG{b k:Int}(hk:k≠0)(h:a*k=b*k):a=b:=aC hk h
variable {x y z:Int}
theorem FA(h1:1<=z)(g:g3 x y z=1):lA x y z=x/\lB x y z=y/\lN x y z=z:=by
  have:=yi (x:=x) (y:=y) (z:=z) (a:=x) (b:=y) (n:=z) h1 g (by omega) rfl rfl;exact ⟨this.1.symm,this.2.1.symm,this.2.2.symm⟩
variable {t:Int}
theorem xL{b:Int}(h1:1<=z)(g:Int.gcd x z=1)(hb:b≠0)(e:x*b=t*z):x=fT t b/\z=fB t b:=by
  refine Hi h1 (f_b hb) g (LI hb) ?_;have f1:=f_t (t:=t) (b:=b);generalize fT t b=u at *
  generalize fB t b=v at *
  refine aC hb ?_;grind
theorem ve{b:Int}(h:Int.gcd x a=1)(k:Int.gcd x b=1):Int.gcd x (a*b)=1:=by
  rw [a9] at *
  rw [cf];exact Nat.Coprime.mul_right h k
theorem uz{b:Int}(h:Int.gcd a x=1)(k:Int.gcd b x=1):Int.gcd (a*b) x=1:=by
  rw [db] at *
  exact ve h k
theorem wv{b:Int}(h:Int.gcd x a=1)(hy:y∣x)(hb:b∣a):Int.gcd y b=1:=by
  have h1:((Int.gcd y b:Nat):Int)∣x:=aW (bH ..) hy;have h2:((Int.gcd y b:Nat):Int)∣a:=aW (bM ..) hb;have h3:=dW h1 h2;rw [h] at h3;have:=g7 (by decide) h3;have h4:Int.gcd y b≠0:=λz=>by
    rw [z] at h3;exact absurd (Int.zero_dvd.mp h3) (by decide)
  omega
theorem yk{b:Int}(h:1<=b):(0:Int)<(Int.gcd a b:Nat):=by
  have:=(Int.gcd_pos_iff (a:=a) (b:=b)).mpr (.inr (show b≠0 by omega));omega
theorem xS{b:Int}(ha:1<=a)(hb:0<b)(h:b∣a):1<=a / b:=by
  have e:=bS h;rcases gG (a / b) 1 with z|z
  . have:a / b*b<=0:=c6 (by omega) (by omega);omega
  . exact z
theorem wP{b:Int}(h:1<=b):Int.gcd (a / (Int.gcd a b:Nat)) (b / (Int.gcd a b:Nat))=1:=Int.gcd_ediv_gcd_ediv_gcd (by have:=yk (a:=a) h; omega)
def plT(t b t' b':Int):Int:=t*(b' / (Int.gcd b b':Nat))+t'*(b / (Int.gcd b b':Nat))
variable {b' t':Int}
theorem Fy{b:Int}(hb:1<=b)(hb':1<=b')(g:Int.gcd t b=1)(g':Int.gcd t' b'=1) : plT t b t' b' / (Int.gcd (plT t b t' b') (Int.gcd b b':Nat):Nat)=fT (t*b'+t'*b) (b*b')/\b / (Int.gcd b b':Nat)*(b' / (Int.gcd (plT t b t' b') (Int.gcd b b':Nat):Nat))=fB (t*b'+t'*b) (b*b'):=by
  have hs:=yk (a:=b) hb';have hsb:((Int.gcd b b':Nat):Int)∣b:=bH ..;have hsb':((Int.gcd b b':Nat):Int)∣b':=bM ..;have hq:=wP (a:=b) hb';have htop:plT t b t' b'=t*(b' / (Int.gcd b b':Nat))+t'*(b / (Int.gcd b b':Nat)):=rfl;generalize ((Int.gcd b b':Nat):Int)=s at *
  have eb:=bS hsb;have eb':=bS hsb';have p1:=xS hb hs hsb;have p2:=xS hb' hs hsb';have c1:Int.gcd t (b / s)=1:=wv g (dy _) ⟨s,eb.symm⟩;have c2:Int.gcd t' (b' / s)=1:=wv g' (dy _) ⟨s,eb'.symm⟩;generalize b / s=B at *
  generalize b' / s=B' at *
  generalize plT t b t' b'=T at *
  have hl:=yk (a:=T) (b:=s) (by omega);have hlT:((Int.gcd T s:Nat):Int)∣T:=bH ..;have hls:((Int.gcd T s:Nat):Int)∣s:=bM ..;have hq2:=wP (a:=T) (b:=s) (by omega);generalize ((Int.gcd T s:Nat):Int)=l at *
  have eT:=bS hlT;have es:=bS hls;have p3:=xS (by omega) hl hls;have e1:b' / l=s / l*B':=by
    refine aC (show l≠0 by omega) ?_;rw [bS (aW hls hsb'),<-eb'];grind
  rw [e1];generalize T / l=U at *
  generalize s / l=S at *
  have d1:Int.gcd T B=1:=by
    rw [htop,av t' B,fK];exact uz c1 (by rw [db]; exact hq)
  have d2:Int.gcd T B'=1:=by
    rw [htop,fF,av t B',fK];exact uz c2 hq
  have u1:Int.gcd U B=1:=wv d1 ⟨l,eT.symm⟩ (dy _);have u2:Int.gcd U B'=1:=wv d2 ⟨l,eT.symm⟩ (dy _);have pos:0<B*(S*B'):=aX (by omega) (aX (by omega) (by omega));refine xL (by omega) (ve u1 (ve hq2 u2)) (aH (by omega) (by omega)) ?_;subst eb eb' eT es;clear hs hsb hsb' hq p1 p2 c1 c2 hl hlT hls hq2 p3 e1 d1 d2 u1 u2 pos hb hb' g g';grind
theorem E8{b:Int}(hb:1<=b)(hb':1<=b')(g:Int.gcd t b=1)(g':Int.gcd t' b'=1) : t / (Int.gcd t b':Nat)*(t' / (Int.gcd t' b:Nat))=fT (t*t') (b*b')/\b / (Int.gcd t' b:Nat)*(b' / (Int.gcd t b':Nat))=fB (t*t') (b*b'):=by
  have hf:=yk (a:=t) hb';have hs:=yk (a:=t') hb;have f1:((Int.gcd t b':Nat):Int)∣t:=bH ..;have f2:((Int.gcd t b':Nat):Int)∣b':=bM ..;have s1:((Int.gcd t' b:Nat):Int)∣t':=bH ..;have s2:((Int.gcd t' b:Nat):Int)∣b:=bM ..;have q1:=wP (a:=t) hb';have q2:=wP (a:=t') hb;generalize ((Int.gcd t b':Nat):Int)=f at *
  generalize ((Int.gcd t' b:Nat):Int)=s at *
  have et:=bS f1;have eb':=bS f2;have et':=bS s1;have eb:=bS s2;have p1:=xS hb hs s2;have p2:=xS hb' hf f2;have c1:Int.gcd (t / f) (b / s)=1:=wv g ⟨f,et.symm⟩ ⟨s,eb.symm⟩;have c2:Int.gcd (t' / s) (b' / f)=1:=wv g' ⟨s,et'.symm⟩ ⟨f,eb'.symm⟩;generalize t / f=T at *
  generalize t' / s=T' at *
  generalize b / s=B at *
  generalize b' / f=B' at *
  have pos:0<B*B':=aX (by omega) (by omega);refine xL (by omega) (uz (ve c1 q1) (ve q2 c2)) (aH (by omega) (by omega)) ?_;subst et eb et' eb';clear hf hs f1 f2 s1 s2 q1 q2 p1 p2 c1 c2 pos hb hb' g g';grind
theorem KM{k:Nat}{b:Int}(h:Bd k t):Bd k (fT t b):=h.fdiv _
theorem LH{k:Nat}{b:Int}(h:Bd k b):Bd k (fB t b):=h.fdiv _
theorem den_pos(q:Rat):(1:Int)<=(q.den:Int):=by have:=q.den_pos; omega
theorem xD(q:Rat):(q.den:Int)≠0:=by have:=q.den_pos; omega
theorem red(q:Rat):Int.gcd q.num q.den=1:=by
  have:=q.reduced;rw [a9,b9];exact this
theorem xU(q:Rat):Rat.divInt q.num q.den=q:=Rat.num_divInt_den q
theorem rf{b:Int}(hb:b≠0):fT t b=(Rat.divInt t b).num/\fB t b=((Rat.divInt t b).den:Int):=by
  have e:(Rat.divInt t b).num*b=t*((Rat.divInt t b).den:Int):=by
    have:=xU (Rat.divInt t b);exact (cR (xD _) hb).mp this
  have:=xL (den_pos (Rat.divInt t b)) (red _) hb e;exact ⟨this.1.symm,this.2.symm⟩
theorem CB{b:Int}(hb:b≠0)(hb':b'≠0):Rat.divInt (t*b'+t'*b) (b*b')=Rat.divInt t b+Rat.divInt t' b':=(Rat.divInt_add_divInt t t' hb hb').symm
theorem wL{b:Int}:Rat.divInt (t*t') (b*b')=Rat.divInt t b*Rat.divInt t' b':=(Rat.divInt_mul_divInt t t').symm
theorem LG(q q':Rat):Rat.divInt (q.num*q'.den+q'.num*q.den) (q.den*q'.den)=q+q':=by rw [CB (xD q) (xD q'),xU,xU]
theorem LB(q q':Rat):Rat.divInt (q.num*q'.num) (q.den*q'.den)=q*q':=by rw [wL,xU,xU]
def Bq(k:Nat)(q:Rat):Prop:=Bd k q.num/\Bd k (q.den:Int)
theorem GF(q q':Rat):plT q.num q.den q'.num q'.den / (Int.gcd (plT q.num q.den q'.num q'.den) (Int.gcd q.den q'.den:Nat):Nat)=(q+q').num/\(q.den:Int) / (Int.gcd q.den q'.den:Nat)*((q'.den:Int) / (Int.gcd (plT q.num q.den q'.num q'.den) (Int.gcd q.den q'.den:Nat):Nat))=((q+q').den:Int):=by
  have h:=Fy (den_pos q) (den_pos q') (red q) (red q');have e:=rf (t:=q.num*q'.den+q'.num*q.den) (b:=q.den*q'.den) (aH (xD _) (xD _));rw [LG] at e;exact ⟨h.1.trans e.1,h.2.trans e.2⟩
theorem Eb(q q':Rat):q.num / (Int.gcd q.num q'.den:Nat)*(q'.num / (Int.gcd q'.num q.den:Nat))=(q*q').num/\(q.den:Int) / (Int.gcd q'.num q.den:Nat)*((q'.den:Int) / (Int.gcd q.num q'.den:Nat))=((q*q').den:Int):=by
  have h:=E8 (den_pos q) (den_pos q') (red q) (red q');have e:=rf (t:=q.num*q'.num) (b:=q.den*q'.den) (aH (xD _) (xD _));rw [LB] at e;exact ⟨h.1.trans e.1,h.2.trans e.2⟩
theorem BX{k:Nat}{b:Int}(hb:b≠0)(h:Bd k b):Bd k ((Int.gcd a b:Nat):Int):=h.of_le (by
  have h1:=bQ.mpr (bM a b);exact gZ (by omega) h1)
def Br(j k:Nat)(q:Rat):Prop:=Bd j q.num/\Bd k (q.den:Int)
theorem Br.mono{j k j' k':Nat}{q:Rat}(h:Br j k q)(l:j<=j')(l':k<=k'):Br j' k' q:=⟨h.1.mono l,h.2.mono l'⟩
theorem Br.bq{j k n:Nat}{q:Rat}(h:Br j k q)(l:j<=n)(l':k<=n):Bq n q:=⟨h.1.mono l,h.2.mono l'⟩
theorem vV{j k:Nat}{b:Int}(hb:b≠0)(h1:Bd j t)(h2:Bd k b):Br j k (Rat.divInt t b):=⟨by rw [<-(rf hb).1]; exact KM h1,by rw [<-(rf hb).2]; exact LH h2⟩
structure Tb where
  a:Rat
  b:Rat
  c:Rat
  e:Rat
theorem Tb.ext{s t:Tb}(h1:s.a=t.a)(h2:s.b=t.b)(h3:s.c=t.c)(h4:s.e=t.e):s=t:=by
  cases s
  cases t
  simp_all
def Tb.zero:Tb:=⟨0,0,0,0⟩
def Tb.add(s t:Tb):Tb:=⟨s.a+t.a,s.b+t.b,s.c+t.c,s.e+t.e⟩
def Tb.sub(s t:Tb):Tb:=⟨s.a - t.a,s.b - t.b,s.c - t.c,s.e - t.e⟩
def Tb.tr(s:Tb):Tb:=⟨s.a,s.c,s.b,s.e⟩
structure Tb.Bt(j k:Nat)(t:Tb):Prop where
  a:Br j k t.a
  b:Br j k t.b
  c:Br j k t.c
  e:Br j k t.e
theorem Tb.Bt.mono{j k j' k':Nat}{t:Tb}(h:t.Bt j k)(l:j<=j')(l':k<=k'):t.Bt j' k':=⟨h.a.mono l l',h.b.mono l l',h.c.mono l l',h.e.mono l l'⟩
theorem Tb.add_comm(s t:Tb):s.add t=t.add s:=Tb.ext (gI ..) (gI ..) (gI ..) (gI ..)
theorem Tb.add_assoc(s t u:Tb):(s.add t).add u=s.add (t.add u):=Tb.ext (gi ..) (gi ..) (gi ..) (gi ..)
theorem Tb.zero_add(t:Tb):Tb.zero.add t=t:=Tb.ext (gJ _) (gJ _) (gJ _) (gJ _)
structure Sd where
  x:Int
  y:Int
  z:Int
structure Sd.Ok(d:Int)(s:Sd):Prop where
  z1:1<=s.z
  g:g3 s.x s.y s.z=1
  bx:Bd 120 s.x
  bY:Bd 120 s.y
  bz:Bd 30 s.z
  up:sgn d s.x s.y=1
def Sd.p(s:Sd):Rat:=Rat.divInt s.x s.z
def Sd.q(s:Sd):Rat:=Rat.divInt s.y s.z
structure Bo where
  w:Sd
  h:Sd
def Bo.Ok(d:Int)(b:Bo):Prop:=b.w.Ok d/\b.h.Ok d
def Bo.tb(b:Bo):Tb:=⟨b.w.p*b.h.p,b.w.p*b.h.q,b.w.q*b.h.p,b.w.q*b.h.q⟩
def tbs:List Bo->Tb
  | []=>Tb.zero
  | b::l=>b.tb.add (tbs l)
theorem vU(l m:List Bo):tbs (l++m)=(tbs l).add (tbs m):=by
  induction l with
  | nil=>exact (Tb.zero_add _).symm
  | cons b l ih =>
    show b.tb.add (tbs (l++m))=(b.tb.add (tbs l)).add (tbs m);rw [ih,Tb.add_assoc]
theorem vb(b:Bo):tbs [b]=b.tb:=by
  show b.tb.add Tb.zero=b.tb;rw [Tb.add_comm,Tb.zero_add]
theorem FZ(l:List Bo)(b:Bo):tbs (l++[b])=(tbs l).add b.tb:=by rw [vU,vb]
structure Ms where
  f:Rat
  g:Rat
def Ms.Ok(m:Ms):Prop:=Br 90 10 m.f/\Br 90 10 m.g
def Sd.ms(s:Sd):Ms:=⟨s.p,s.q⟩
theorem FM{n p q:Int}(hR:Rt d)(hn:0<n)(h:sgn d p q=1):sgn d (n+p) q=1:=by
  have d2:=hR.lo;by_cases hp:0<=p
  . by_cases hq:0<=q
    . rw [vZ (by omega) hq,h7 (by omega)]
    . have p0:0<p:=by
        rcases Int.lt_or_eq_of_le hp with z|z
        . exact z
        . subst z;rw [GS (by omega) (by omega) (by omega)] at h;exact absurd h (by decide)
      rw [DI p0 (by omega)] at h;rw [DI (by omega) (by omega)];have h1:d*q*q<p*p:=by
        by_cases z:d*q*q<p*p
        . exact z
        . rw [h8 z] at h;exact absurd h (by decide)
      have h2:p*p<=(n+p)*(n+p):=fH (by omega) (by omega) (by omega) (by omega);rw [h7 (by omega)]
  . by_cases hq:0<q
    . rw [DX (by omega) hq] at h;have h1:p*p<d*q*q:=by
        by_cases z:p*p<d*q*q
        . exact z
        . rw [h8 z] at h;exact absurd h (by decide)
      by_cases hs:0<=n+p
      . rw [vZ hs (by omega),h7 (by omega)]
      . rw [DX (by omega) hq];have h2:(-(n+p))*(-(n+p))<=(-p)*(-p):=fH (by omega) (by omega) (by omega) (by omega);rw [cN,cN] at h2;rw [h7 (by omega)]
    . rw [GS (by omega) (by omega) (by omega)] at h;exact absurd h (by decide)
variable {a':Int}
theorem uO{b:Int}(hR:Rt d)(h:sgn d a b=1)(h':sgn d a' b'=1):sgn d (a+a') (b+b')=1:=by
  have hN:a*a - d*b*b≠0:=by
    refine IM hR λz=>?_;rw [z.1,z.2,ym] at h;exact absurd h (by decide)
  obtain ⟨k,w,v,hk,e1,e2,e3,e4⟩:∃ k w v:Int,0<k/\k*a'=w*a+d*v*b/\k*b'=w*b+v*a/\k*(a+a')=(k+w)*a+d*v*b/\k*(b+b')=(k+w)*b+v*a:=by
    rcases Int.lt_or_gt_of_ne hN with z|z
    . refine ⟨-(a*a - d*b*b),-(a'*a - d*b'*b),-(b'*a - a'*b),by omega,?_,?_,?_,?_⟩ <;> grind
    . refine ⟨a*a - d*b*b,a'*a - d*b'*b,b'*a - a'*b,z,?_,?_,?_,?_⟩ <;> grind
  have s1:=xk hR hk a' b';rw [e1,e2,BF hR,h,cJ,h'] at s1;have s2:=FM hR hk s1;have s3:=xk hR hk (a+a') (b+b');rw [e3,e4,BF hR,h,s2] at s3;rw [<-s3];rfl
def Tb.A(d:Int)(t:Tb):Rat:=t.a+(d:Rat)*t.e
def Tb.B(t:Tb):Rat:=t.b+t.c
variable {e:Int}
theorem yb{v:Int}(h:e∣x*v)(g:Int.gcd e v=1):e∣x:=by
  have h1:e∣x*v:=h;have h2:e∣x*e:=⟨x,av ..⟩
  have h3:e∣(Int.gcd (x*e) (x*v):Nat):=dW h2 h1;rw [eP,g,gf] at h3;exact Int.dvd_natAbs.mp h3
theorem yY{b:Int}(h:∀ e:Int,e∣a->e∣b->e∣1):Int.gcd a b=1:=by
  have:=h (Int.gcd a b:Nat) (bH ..) (bM ..);have h2:=bQ.mpr this;simpa using h2
theorem wq{b:Int}(h:Int.gcd a b=1)(ha:e∣a)(hb:e∣b):e∣1:=by
  have:=dW ha hb;rw [h] at this;exact this
theorem xo{b:Int}(h:Int.gcd a b=1)(ha:e∣a):Int.gcd e b=1 :=
  yY λ_ h1 h2=>wq h (aW h1 ha) h2
variable {c:Int}
theorem vo{b:Int}(h1:Int.gcd a b=1)(h2:Int.gcd a c=1):Int.gcd a (b*c)=1 :=
  yY λe ha hb=>by
    have e1:Int.gcd e c=1:=xo h2 ha;exact wq h1 ha (yb hb e1)
variable {z':Int}
theorem EI(h1:1<=z)(h2:1<=z'):∃ s u v:Int,s=(Int.gcd z z':Nat)/\1<=s/\1<=u/\1<=v/\z=s*u/\z'=s*v/\z.fdiv s=u/\z'.fdiv s=v/\Int.gcd u v=1:=by
  have d1:((Int.gcd z z':Nat):Int)∣z:=bH ..;have d2:((Int.gcd z z':Nat):Int)∣z':=bM ..;have hp:0<Int.gcd z z':=cH _ (by omega);obtain ⟨u,hu⟩:=d1;obtain ⟨v,hv⟩:=d2;have hs:(1:Int)<=(Int.gcd z z':Nat):=by omega
  have hg:Int.gcd u v=1:=by
    have e:Int.gcd z z'=Int.gcd ((Int.gcd z z':Nat)*u) ((Int.gcd z z':Nat)*v):=by rw [<-hu,<-hv]
    rw [eP,b9] at e;exact (dH hp (by rw [gf]; exact e)).symm
  generalize ((Int.gcd z z':Nat):Int)=s at *
  subst hu; subst hv;refine ⟨s,u,v,rfl,hs,?_,?_,rfl,rfl,cS _ (by omega),cS _ (by omega),hg⟩
  . refine eU.mp λq=>?_;have:=bL (show (0:Int)<=s by omega) (show u<=0 by omega);omega
  . refine eU.mp λq=>?_;have:=bL (show (0:Int)<=s by omega) (show v<=0 by omega);omega
def aS(z z':Int):Int:=(Int.gcd z z':Nat)
def aA(x z x' z':Int):Int:=x*z'.fdiv (aS z z')+x'*z.fdiv (aS z z')
def aL(x y z x' y' z':Int):Int:=(Int.gcd (Int.gcd (aS z z') (aA x z x' z'):Nat) (aA y z y' z'):Nat)
theorem Ii{x' y':Int}(h1:1<=z)(h2:1<=z')(g1:g3 x y z=1)(g2:g3 x' y' z'=1) : 1<=aS z z'/\1<=aL x y z x' y' z'/\(aA x z x' z').fdiv (aL x y z x' y' z')=lA (x*z'+x'*z) (y*z'+y'*z) (z*z')/\(aA y z y' z').fdiv (aL x y z x' y' z')=lB (x*z'+x'*z) (y*z'+y'*z) (z*z') /\ z.fdiv (aS z z')*z'.fdiv (aL x y z x' y' z')=lN (x*z'+x'*z) (y*z'+y'*z) (z*z'):=by
  obtain ⟨s,u,v,hs,s1,u1,v1,ez,ez',fu,fv,guv⟩:=EI h1 h2;have eS:aS z z'=s:=hs.symm;have eA:∀ p q,aA p z q z'=p*v+q*u:=λp q=>by unfold aA; rw [eS,fu,fv]
  have eL:aL x y z x' y' z'=(Int.gcd (Int.gcd s (x*v+x'*u):Nat) (y*v+y'*u):Nat):=by unfold aL; rw [eS,eA,eA]
  rw [eS,eA,eA,fu];generalize hl:aL x y z x' y' z'=l at *
  generalize ha:x*v+x'*u=a at *
  generalize hb:y*v+y'*u=b at *
  have l1:1<=l:=by
    have:0<Int.gcd (Int.gcd s a:Nat) b:=cH _ (by
      have:=cH a (show s≠0 by omega);omega)
    omega
  have dls:l∣s:=by rw [eL]; exact aW (bH ..) (bH ..)
  have dla:l∣a:=by rw [eL]; exact aW (bH ..) (bM ..)
  have dlb:l∣b:=by rw [eL]; exact bM ..
  obtain ⟨m,hm⟩:=dls;obtain ⟨X,hX⟩:=dla;obtain ⟨Y,hY⟩:=dlb;have l0:l≠0:=by omega
  have fX:a.fdiv l=X:=by rw [hX]; exact cS _ l0
  have fY:b.fdiv l=Y:=by rw [hY]; exact cS _ l0
  have fZ:z'.fdiv l=m*v:=by rw [ez',hm,am]; exact cS _ l0
  rw [fX,fY,fZ];have m1:1<=m:=by
    refine eU.mp λq=>?_;have:=bL (show (0:Int)<=l by omega) (show m<=0 by omega);omega
  refine ⟨s1,l1,?_⟩;have gm:g3 X Y m=1:=by
    have e:(g3 (l*X) (l*Y) (l*m):Int)=l:=by
      unfold g3;rw [<-hX,<-hY,<-hm,<-eL]
    rw [GR] at e;have e2:l.natAbs*g3 X Y m=l.natAbs*1:=by omega
    exact dH (by omega) e2
  have cop:∀ e:Int,e∣X->e∣Y->Int.gcd e u=1/\Int.gcd e v=1/\Int.gcd e m=1:=λe eX eY=>by
    have ea:e∣a:=by rw [hX]; exact aW eX (bT ..)
    have eb:e∣b:=by rw [hY]; exact aW eY (bT ..)
    refine ⟨yY λf f1 f2=>?_,yY λf f1 f2=>?_,yY λf f1 f2=>?_⟩
    . have fv1:Int.gcd f v=1:=xo guv f2;have k1:f∣x*v:=by
        have:=gY (aW f1 ea) (aW f2 (bT x' u));rw [<-ha,d5] at this;exact this
      have k2:f∣y*v:=by
        have:=gY (aW f1 eb) (aW f2 (bT y' u));rw [<-hb,d5] at this;exact this
      have:=Bi (yb k1 fv1) (yb k2 fv1) (aW f2 (show u∣z by rw [ez]; exact bT ..));rw [g1] at this;exact this
    . have fu1:Int.gcd f u=1:=xo (db u v ▸ guv) f2;have k1:f∣x'*u:=by
        have:=gY (aW f1 ea) (aW f2 (bT x v));rw [<-ha,fF,d5] at this;exact this
      have k2:f∣y'*u:=by
        have:=gY (aW f1 eb) (aW f2 (bT y v));rw [<-hb,fF,d5] at this;exact this
      have:=Bi (yb k1 fu1) (yb k2 fu1) (aW f2 (show v∣z' by rw [ez']; exact bT ..));rw [g2] at this;exact this
    . have:=Bi (aW f1 eX) (aW f1 eY) f2;rw [gm] at this;exact this
  have gX:g3 X Y (u*(m*v))=1:=by
    have dX:=g3_a X Y (u*(m*v));have dY:=g3_b X Y (u*(m*v));have dZ:=g3_n X Y (u*(m*v));obtain ⟨c1,c2,c3⟩:=cop _ dX dY;have c4:=vo c1 (vo c3 c2);have:=wq c4 (dy _) dZ;have:=bQ.mpr this;simpa using this
  refine yi ?_ gX (aH (by omega) (by omega)) ?_ ?_
  . exact aX (by omega) (aX (by omega) (by omega))
  . subst ez ez';refine dJ l0 ?_;clear cop gX gm eL hl eA hs fu fv fX fY fZ guv g1 g2;have e1:l*(X*(s*u*(s*v)))=a*(s*u*(s*v)):=by rw [hX,am l X]
    have e2:l*((x*(s*v)+x'*(s*u))*(u*(m*v)))=(x*v+x'*u)*s*(u*(l*m*v)):=by grind
    rw [e1,e2,<-hm,ha];grind
  . subst ez ez';refine dJ l0 ?_;clear cop gX gm eL hl eA hs fu fv fX fY fZ guv g1 g2;have e1:l*(Y*(s*u*(s*v)))=b*(s*u*(s*v)):=by rw [hY,am l Y]
    have e2:l*((y*(s*v)+y'*(s*u))*(u*(m*v)))=(y*v+y'*u)*s*(u*(l*m*v)):=by grind
    rw [e1,e2,<-hm,hb];grind
theorem uS{k:Nat}(h:z≠0)(hb:Bd k z):Bd k ((Int.gcd z a:Nat):Int):=hb.of_le (by
  rw [b9];exact gZ (by omega) (by simpa using bQ.mpr (bH z a)))
theorem KF(x y z:Int):g3 (-x) (-y) z=g3 x y z:=by
  unfold g3;rw [Int.gcd_neg,Int.gcd_neg]
theorem En{b n n':Int}(hn:n≠0)(hn':n'≠0)(ea:a*n'=a'*n)(eb:b*n'=b'*n):lA a b n=lA a' b' n'/\lB a b n=lB a' b' n'/\lN a b n=lN a' b' n':=by
  refine yi (l_n hn) (xB hn) hn' ?_ ?_
  . have e:=l_a (a:=a) (b:=b) (n:=n);refine aC hn ?_;generalize lA a b n=u at *
    generalize lN a b n=v at *
    have h1:u*n'*n=u*n*n':=by rw [am,av n',am]
    have h2:a'*v*n=a'*n*v:=by rw [am,av v,am]
    rw [h1,h2,e,<-ea,am,av v,am]
  . have e:=l_b (a:=a) (b:=b) (n:=n);refine aC hn ?_;generalize lB a b n=u at *
    generalize lN a b n=v at *
    have h1:u*n'*n=u*n*n':=by rw [am,av n',am]
    have h2:b'*v*n=b'*n*v:=by rw [am,av v,am]
    rw [h1,h2,e,<-eb,am,av v,am]
structure B4 where
  a:Int
  b:Int
  c:Int
  e:Int
def B4.nx(d:Int)(s:B4):B4:=if 0<sgn d (s.a - s.c) (s.b - s.e) then ⟨s.a - s.c,s.b - s.e,s.c,s.e⟩ else ⟨s.a,s.b,s.c - s.a,s.e - s.b⟩
def b4:B4:=⟨0,1,1,0⟩
structure GB(d:Int)(k:Nat)(s:B4):Prop where
  det:s.a*s.e - s.b*s.c=1\/s.a*s.e - s.b*s.c=-1
  p1:sgn d s.a s.b=1
  q1:sgn d s.c s.e=1
  ba:Bd k s.a
  bb:Bd k s.b
  bc:Bd k s.c
  be:Bd k s.e
theorem GB.mono{d:Int}{j k:Nat}{s:B4}(g:GB d j s)(l:j<=k):GB d k s:=⟨g.det,g.p1,g.q1,g.ba.mono l,g.bb.mono l,g.bc.mono l,g.be.mono l⟩
theorem uy(d:Int):GB d 1 b4:=⟨.inr (by decide),by rw [show b4.a=0 from rfl,show b4.b=1 from rfl,vZ (by decide) (by decide)]; rfl,by rw [show b4.c=1 from rfl,show b4.e=0 from rfl,vZ (by decide) (by decide)]; rfl,by decide,by decide,by decide,by decide⟩
theorem GB.next{k:Nat}{s:B4}(hR:Rt d)(g:GB d k s):GB d (k+1) (s.nx d):=by
  obtain ⟨a,b,c,e⟩:=s;obtain ⟨det,p1,q1,ba,bb,bc,be⟩:=g;simp only at *
  have key:sgn d (a - c) (b - e)=1\/sgn d (a - c) (b - e)=-1:=by
    rcases sgn_tri hR (a - c) (b - e) with h|h|⟨h1,h2⟩
    . exact .inl h
    . exact .inr h
    . have e1:a=c:=by omega
      have e2:b=e:=by omega
      subst e1; subst e2;have:a*b - b*a=0:=by rw [av]; omega
      omega
  unfold B4.nx;simp only;by_cases z:0<sgn d (a - c) (b - e)
  . rw [h7 z];refine ⟨?_,by show sgn d (a - c) (b - e)=1; omega,q1,ba.sub bc,bb.sub be,bc.mono (by omega),be.mono (by omega)⟩;show (a - c)*e - (b - e)*c=1\/(a - c)*e - (b - e)*c=-1;have:(a - c)*e - (b - e)*c=a*e - b*c:=by rw [gT,gT,av e c]; omega
    omega
  . rw [h8 z];refine ⟨?_,p1,?_,ba.mono (by omega),bb.mono (by omega),bc.sub ba,be.sub bb⟩
    . show a*(e - b) - b*(c - a)=1\/a*(e - b) - b*(c - a)=-1;have:a*(e - b) - b*(c - a)=a*e - b*c:=by rw [fh,fh,av b a]; omega
      omega
    . show sgn d (c - a) (e - b)=1;have:=xP hR (a - c) (b - e);rw [show -(a - c)=c - a by omega,show -(b - e)=e - b by omega] at this;omega
theorem xz{N p0 p2 q0 q2:Int}(h1:p0*N=a*p2)(h2:q0*N=c*q2):N*(p0*q2 - q0*p2)=p2*q2*(a - c):=by
  have e1:N*(p0*q2)=p2*q2*a:=by
    rw [<-am,av N,h1,av a,am,am,av a]
  have e2:N*(q0*p2)=p2*q2*c:=by
    rw [<-am,av N,h2,av c,am,av c,<-am,av q2]
  rw [fh,fh,e1,e2]
theorem FS{b N:Int}(hR:Rt d)(hN:1<=N):sgn d (lA a b N*lN c e N - lA c e N*lN a b N) (lB a b N*lN c e N - lB c e N*lN a b N)=sgn d (a - c) (b - e):=by
  have n0:N≠0:=by omega
  refine xg hR (k:=N) (m:=lN a b N*lN c e N) (by omega) (aX (l_n n0) (l_n n0)) ?_ ?_
  . exact xz l_a l_a
  . exact xz l_b l_b
theorem Bv{b N:Int}(hN:1<=N):lA (lA a b N*lN c e N - lA c e N*lN a b N) (lB a b N*lN c e N - lB c e N*lN a b N) (lN a b N*lN c e N)=lA (a - c) (b - e) N/\lB (lA a b N*lN c e N - lA c e N*lN a b N) (lB a b N*lN c e N - lB c e N*lN a b N) (lN a b N*lN c e N)=lB (a - c) (b - e) N/\lN (lA a b N*lN c e N - lA c e N*lN a b N) (lB a b N*lN c e N - lB c e N*lN a b N) (lN a b N*lN c e N)=lN (a - c) (b - e) N:=by
  have n0:N≠0:=by omega
  have h1:=l_n (a:=a) (b:=b) n0;have h2:=l_n (a:=c) (b:=e) n0;refine En (aH (by omega) (by omega)) n0 ?_ ?_
  . rw [av,xz l_a l_a,av]
  . rw [av,xz l_b l_b,av]
theorem wW(x y z w:Int):x*y+-z*w=x*y - z*w:=by rw [dw]; omega
theorem AM{b N:Int}:(lA a b N*lB c e N - lB a b N*lA c e N)*N*N=lN a b N*lN c e N*(a*e - b*c):=by
  have h1:=l_a (a:=a) (b:=b) (n:=N);have h2:=l_b (a:=a) (b:=b) (n:=N);have h3:=l_a (a:=c) (b:=e) (n:=N);have h4:=l_b (a:=c) (b:=e) (n:=N);generalize lA a b N=p0 at *
  generalize lB a b N=p1 at *
  generalize lN a b N=p2 at *
  generalize lA c e N=q0 at *
  generalize lB c e N=q1 at *
  generalize lN c e N=q2 at *
  calc (p0*q1 - p1*q0)*N*N=(p0*N)*(q1*N) - (p1*N)*(q0*N):=by grind
    _=(a*p2)*(e*q2) - (b*p2)*(c*q2):=by rw [h1,h2,h3,h4]
    _=p2*q2*(a*e - b*c):=by grind
theorem z4{b N:Int}(hR:Rt d)(hN:1<=N):sgn d (lA a b N) (lB a b N)=sgn d a b:=by
  have n0:N≠0:=by omega
  have h1:=l_n (a:=a) (b:=b) n0;refine xg hR (k:=N) (m:=lN a b N) (by omega) (by omega) ?_ ?_
  . rw [av,l_a,av]
  . rw [av,l_b,av]
def B4.det(s:B4):Int:=s.a*s.e - s.b*s.c
def B4.i(s:B4)(x y:Int):Int:=s.det*(x*s.e - y*s.c)
def B4.j(s:B4)(x y:Int):Int:=s.det*(s.a*y - s.b*x)
theorem Gu{k:Nat}{s:B4}(g:GB d k s):s.det*s.det=1:=by
  unfold B4.det;rcases g.det with h|h <;> rw [h] <;> decide
theorem AL{k:Nat}{s:B4}(g:GB d k s)(x y:Int):s.i x y*s.a+s.j x y*s.c=x/\s.i x y*s.b+s.j x y*s.e=y:=by
  have h:=Gu g;unfold B4.i B4.j B4.det at *
  generalize s.a=a at *
  generalize s.b=b at *
  generalize s.c=c at *
  generalize s.e=e at *
  clear g;constructor
  . have:(a*e - b*c)*(x*e - y*c)*a+(a*e - b*c)*(a*y - b*x)*c=(a*e - b*c)*(a*e - b*c)*x:=by grind
    rw [this,h,ee]
  . have:(a*e - b*c)*(x*e - y*c)*b+(a*e - b*c)*(a*y - b*x)*e=(a*e - b*c)*(a*e - b*c)*y:=by grind
    rw [this,h,ee]
theorem Jl(d:Int)(s:B4):(s.nx d).det=s.det:=by
  unfold B4.nx;split <;> unfold B4.det <;> dsimp only <;> grind
theorem GK(d:Int)(s:B4)(x y:Int):(0<sgn d (s.a - s.c) (s.b - s.e)->(s.nx d).i x y=s.i x y/\(s.nx d).j x y=s.i x y+s.j x y)/\(¬ 0<sgn d (s.a - s.c) (s.b - s.e)->(s.nx d).i x y=s.i x y+s.j x y/\(s.nx d).j x y=s.j x y):=by
  have h:=Jl d s;constructor
  . intro z;unfold B4.i B4.j;rw [h];generalize s.det=D;unfold B4.nx;rw [h7 z];dsimp only;clear h z;grind
  . intro z;unfold B4.i B4.j;rw [h];generalize s.det=D;unfold B4.nx;rw [h8 z];dsimp only;clear h z;grind
theorem DG{b q:Int}(hb:b≠0)(h:t=q*b):t.fdiv b=q:=by rw [h]; exact Int.mul_fdiv_cancel _ hb
theorem KJ{k:Nat}{s:B4}{N:Int}(g:GB d k s)(hN:1<=N) : lN x y N*(lA s.a s.b N*lB s.c s.e N - lB s.a s.b N*lA s.c s.e N)≠0 /\ ((lA x y N*lB s.c s.e N - lB x y N*lA s.c s.e N)*lN s.a s.b N).fdiv (lN x y N*(lA s.a s.b N*lB s.c s.e N - lB s.a s.b N*lA s.c s.e N))=s.i x y /\ ((lA s.a s.b N*lB x y N - lB s.a s.b N*lA x y N)*lN s.c s.e N).fdiv (lN x y N*(lA s.a s.b N*lB s.c s.e N - lB s.a s.b N*lA s.c s.e N))=s.j x y:=by
  have n0:N≠0:=by omega
  have z1:=l_n (a:=s.a) (b:=s.b) n0;have z2:=l_n (a:=s.c) (b:=s.e) n0;have z3:=l_n (a:=x) (b:=y) n0;have D:=AM (a:=s.a) (b:=s.b) (c:=s.c) (e:=s.e) (N:=N);have D1:=AM (a:=x) (b:=y) (c:=s.c) (e:=s.e) (N:=N);have D2:=AM (a:=s.a) (b:=s.b) (c:=x) (e:=y) (N:=N);have sq:=Gu g;have hd:s.a*s.e - s.b*s.c=s.det:=rfl;have hi:s.i x y=s.det*(x*s.e - y*s.c):=rfl;have hj:s.j x y=s.det*(s.a*y - s.b*x):=rfl;rw [hd] at D;rw [hi,hj];generalize x*s.e - y*s.c=U at *
  generalize s.a*y - s.b*x=V at *
  generalize hE:lA s.a s.b N*lB s.c s.e N - lB s.a s.b N*lA s.c s.e N=E at *
  generalize lA x y N*lB s.c s.e N - lB x y N*lA s.c s.e N=F at *
  generalize lA s.a s.b N*lB x y N - lB s.a s.b N*lA x y N=G at *
  generalize lN s.a s.b N=p at *
  generalize lN s.c s.e N=q at *
  generalize lN x y N=r at *
  generalize s.det=t at *
  have NN:N*N≠0:=aH n0 n0;have t0:t≠0:=λz=>by rw [z] at sq; exact absurd sq (by decide)
  have E0:E≠0:=λz=>by
    rw [z,bV,bV] at D;exact aH (aH (by omega) (by omega)) t0 D.symm
  have b0:r*E≠0:=aH (by omega) E0;refine ⟨b0,DG b0 (aC NN ?_),DG b0 (aC NN ?_)⟩
  . calc F*p*(N*N)=F*N*N*p:=by grind
      _=r*q*U*p:=by rw [D1]
      _=1*(p*q*r*U):=by grind
      _=t*t*(p*q*r*U):=by rw [sq]
      _=t*U*r*(p*q*t):=by grind
      _=t*U*r*(E*N*N):=by rw [D]
      _=t*U*(r*E)*(N*N):=by grind
  . calc G*q*(N*N)=G*N*N*q:=by grind
      _=p*r*V*q:=by rw [D2]
      _=1*(p*q*r*V):=by grind
      _=t*t*(p*q*r*V):=by rw [sq]
      _=t*V*r*(p*q*t):=by grind
      _=t*V*r*(E*N*N):=by rw [D]
      _=t*V*(r*E)*(N*N):=by grind
structure Sg(s:B4):Prop where
  a:s.a<=0
  b:0<=s.b
  c:0<=s.c
  e:s.e<=0
theorem Sg.nx{s:B4}(d:Int)(h:Sg s):Sg (s.nx d):=by
  obtain ⟨h1,h2,h3,h4⟩:=h;unfold B4.nx;split
  . exact ⟨by dsimp only; omega,by dsimp only; omega,h3,h4⟩
  . exact ⟨h1,h2,by dsimp only; omega,by dsimp only; omega⟩
def B4.srv(s:B4)(x y:Int):Prop:=0<=s.i x y/\0<=s.j x y
instance {s:B4} {x y:Int}:Decidable (s.srv x y):=inferInstanceAs (Decidable (0<=s.i x y/\0<=s.j x y))
theorem Gh{s:B4}(d:Int)(h:s.srv x y):(s.nx d).srv x y:=by
  obtain ⟨h1,h2⟩:=h;obtain ⟨n1,n2⟩:=GK d s x y;unfold B4.srv;by_cases c:0<sgn d (s.a - s.c) (s.b - s.e)
  . rw [(n1 c).1,(n1 c).2]; exact ⟨h1,by omega⟩
  . rw [(n2 c).1,(n2 c).2]; exact ⟨by omega,h2⟩
theorem AF{k:Nat}{s:B4}(hR:Rt d)(g:GB d k s)(h:sgn d x y=1):0<s.i x y\/0<s.j x y:=by
  obtain ⟨cx,cy⟩:=AL g x y;generalize s.i x y=i at *
  generalize s.j x y=j at *
  refine fM λn=>?_;have hi:i<=0:=by omega
  have hj:j<=0:=by omega
  have p1:=g.p1;have q1:=g.q1;have e1:sgn d ((-i)*s.a+(-j)*s.c) ((-i)*s.b+(-j)*s.e)=-1:=by
    rw [show (-i)*s.a+(-j)*s.c=-x by rw [<-cx,dw,dw]; omega,show (-i)*s.b+(-j)*s.e=-y by rw [<-cy,dw,dw]; omega,xP hR,h]
  have sc:∀ (t a b:Int),0<=t->sgn d a b=1->(t=0\/sgn d (t*a) (t*b)=1):=λt a b ht hs=>by
    by_cases z:t=0
    . exact .inl z
    . right;rw [xk hR (by omega)];exact hs
  rcases sc (-i) s.a s.b (by omega) p1 with z1|z1
  . rcases sc (-j) s.c s.e (by omega) q1 with z2 | z2
    . rw [z1,z2,bV,bV,bV,bV,cq,ym] at e1;exact absurd e1 (by decide)
    . rw [z1,bV,bV,dj,dj,z2] at e1;exact absurd e1 (by decide)
  . rcases sc (-j) s.c s.e (by omega) q1 with z2 | z2
    . rw [z2,bV,bV,cq,cq,z1] at e1;exact absurd e1 (by decide)
    . have:=uO hR z1 z2;rw [this] at e1;exact absurd e1 (by decide)
theorem yh{i u:Int}(h:i≠0):u.natAbs<=(i*u).natAbs:=by
  rw [cf];exact d8 _ (by omega)
theorem D9{i u:Int}(h:i<=0)(k:0<=u):i*u<=0:=c6 h k
theorem DM{i u:Int}(h:i<=0)(k:u<=0):0<=i*u:=dQ h k
theorem BA{i u:Int}(h:0<=i)(k:u<=0):i*u<=0:=bL h k
theorem BR{k:Nat}{s:B4}(hR:Rt d)(g:GB d k s)(z:Sg s)(h:sgn d x y=1)(n:¬ s.srv x y) : s.a.natAbs<=x.natAbs/\s.c.natAbs<=x.natAbs/\s.b.natAbs<=y.natAbs/\s.e.natAbs<=y.natAbs:=by
  have hp:=AF hR g h;obtain ⟨cx,cy⟩:=AL g x y;unfold B4.srv at n;obtain ⟨h1,h2,h3,h4⟩:=z;generalize s.i x y=i at *
  generalize s.j x y=j at *
  by_cases c:i<0
  . have hj:0<j:=by omega
    have a1:=yh (i:=i) (u:=s.a) (by omega);have a2:=yh (i:=j) (u:=s.c) (by omega);have a3:=yh (i:=i) (u:=s.b) (by omega);have a4:=yh (i:=j) (u:=s.e) (by omega);have p1:=DM (i:=i) (u:=s.a) (by omega) h1;have p2:=fI (a:=j) (b:=s.c) (by omega) h3;have p3:=D9 (i:=i) (u:=s.b) (by omega) h2;have p4:=BA (i:=j) (u:=s.e) (by omega) h4;omega
  . have hj:j<0:=by omega
    have hi:0<i:=by omega
    have a1:=yh (i:=i) (u:=s.a) (by omega);have a2:=yh (i:=j) (u:=s.c) (by omega);have a3:=yh (i:=i) (u:=s.b) (by omega);have a4:=yh (i:=j) (u:=s.e) (by omega);have p1:=BA (i:=i) (u:=s.a) (by omega) h1;have p2:=D9 (i:=j) (u:=s.c) (by omega) h3;have p3:=fI (a:=i) (b:=s.b) (by omega) h2;have p4:=DM (i:=j) (u:=s.e) (by omega) h4;omega
def st(d:Int):Nat->B4
  | 0=>b4
  | k+1=>(st d k).nx d
theorem Hu(d:Int)(k:Nat):st d (k+1)=(st d k).nx d:=rfl
theorem EN{d:Int}(hR:Rt d):∀ k,GB d (k+1) (st d k)
  | 0=>uy d
  | k+1=>(EN hR k).next hR
theorem Id(d:Int):∀ k,Sg (st d k)
  | 0=>⟨show b4.a<=0 by decide,show 0<=b4.b by decide,show 0<=b4.c by decide,show b4.e<=0 by decide⟩
  | k+1=>(Id d k).nx d
variable {m:Nat}
theorem DE{k:Nat}(h:(st d k).srv x y)(l:k<=m):(st d m).srv x y:=by
  induction m with
  | zero => have : k = 0 := by omega
            subst this; exact h
  | succ m ih =>
    by_cases c:k=m+1
    . subst c; exact h
    . exact Gh d (ih (by omega))
theorem JT(hR:Rt d)(h:sgn d x y=1):∀ (m k:Nat),((st d k).i x y).natAbs+((st d k).j x y).natAbs<=m->∃ K,(st d K).srv x y:=by
  intro m;induction m with
  | zero =>
    intro k hk;exact ⟨k,by omega,by omega⟩
  | succ m ih =>
    intro k hk;by_cases c:(st d k).srv x y
    . exact ⟨k,c⟩
    by_cases c2:(st d (k+1)).srv x y
    . exact ⟨_,c2⟩
    refine ih (k+1) ?_;have g1:=AF hR (EN hR k) h;have g2:=AF hR (EN hR (k+1)) h;obtain ⟨n1,n2⟩:=GK d (st d k) x y;rw [Hu] at *
    unfold B4.srv at c c2;by_cases cc:0<sgn d ((st d k).a - (st d k).c) ((st d k).b - (st d k).e)
    . obtain ⟨e1,e2⟩:=n1 cc;rw [e1,e2] at *
      omega
    . obtain ⟨e1,e2⟩:=n2 cc;rw [e1,e2] at *
      omega
theorem F0(hR:Rt d)(h:sgn d x y=1):∃ K,(st d K).srv x y:=JT hR h _ 0 (ai _)
theorem Gf{d:Int}(hR:Rt d):∀ (L:List (Int×Int)),(∀ u∈L,sgn d u.1 u.2=1)->∃ K,∀ u∈L,(st d K).srv u.1 u.2
  | [],_=>⟨0,λu h=>absurd h (by simp)⟩
  | v::L,h=>by
    obtain ⟨K,hK⟩:=Gf hR L λu hu=>h u (ay _ hu);obtain ⟨K',hK'⟩:=F0 hR (h v aB);refine ⟨max K K',λu hu=>?_⟩;rcases aK.mp hu with z|z
    . subst z; exact DE hK' (Nat.le_max_right ..)
    . exact DE (hK u z) (Nat.le_max_left ..)
def Fst(d:Int)(L:List (Int×Int))(K:Nat):Prop:=(∀ u∈L,(st d K).srv u.1 u.2)/\∀ k,k<K->∃ u∈L,¬ (st d k).srv u.1 u.2
theorem Fst.unique{L L':List (Int×Int)}{K K':Nat}(hL:∀ u,u∈L↔u∈L')(h:Fst d L K)(h':Fst d L' K'):K=K':=by
  rcases f6 K K' with c|c|c
  . obtain ⟨u,hu,n⟩:=h'.2 K c;exact absurd (h.1 u ((hL u).mpr hu)) n
  . exact c
  . obtain ⟨u,hu,n⟩:=h.2 K' c;exact absurd (h'.1 u ((hL u).mp hu)) n
theorem Fst.gb(hR:Rt d){L:List (Int×Int)}{K k:Nat}(hk:1<=k)(h:Fst d L K)(hp:∀ u∈L,sgn d u.1 u.2=1)(hb:∀ u∈L,Bd k u.1/\Bd k u.2):GB d (k+1) (st d K):=by
  cases K with
  | zero=>exact (uy d).mono (by omega)
  | succ m =>
    obtain ⟨u,hu,n⟩:=h.2 m (by omega);have g:=EN hR m;obtain ⟨b1,b2,b3,b4⟩:=BR hR g (Id d m) (hp u hu) n;obtain ⟨c1,c2⟩:=hb u hu;have g':GB d k (st d m):=⟨g.det,g.p1,g.q1,c1.of_le b1,c2.of_le b3,c1.of_le b2,c2.of_le b4⟩
    exact g'.next hR
theorem Fst.gb_le(hR:Rt d){L:List (Int×Int)}{K k:Nat}(hk:1<=k)(h:Fst d L K)(hm:m<=K)(hp:∀ u∈L,sgn d u.1 u.2=1)(hb:∀ u∈L,Bd k u.1/\Bd k u.2):GB d (k+1) (st d m):=by
  cases m with
  | zero=>exact (uy d).mono (by omega)
  | succ m =>
    obtain ⟨u,hu,n⟩:=h.2 m (by omega);have g:=EN hR m;obtain ⟨b1,b2,b3,b4⟩:=BR hR g (Id d m) (hp u hu) n;obtain ⟨c1,c2⟩:=hb u hu;have g':GB d k (st d m):=⟨g.det,g.p1,g.q1,c1.of_le b1,c2.of_le b3,c1.of_le b2,c2.of_le b4⟩
    exact g'.next hR
theorem tH(s:B4)(t x y:Int):s.i (t*x) (t*y)=t*s.i x y/\s.j (t*x) (t*y)=t*s.j x y:=by
  unfold B4.i B4.j;constructor <;> grind
theorem Ej{s:B4}(ht:1<=t):s.srv (t*x) (t*y)↔s.srv x y:=by
  unfold B4.srv;rw [(tH s t x y).1,(tH s t x y).2];have k:∀ u:Int,0<=t*u↔0<=u:=λu=>by
    constructor
    . intro h;refine eU.mp λn=>?_;have:t*u<0:=dc (by omega) n;omega
    . exact λh=>fI (by omega) h
  rw [k,k]
def lcmI(f z:Int):Int:=f.fdiv (Int.gcd f z:Nat)*z
theorem ww{f:Int}(hf:1<=f)(hz:1<=z):1<=lcmI f z/\f∣lcmI f z/\z∣lcmI f z/\(lcmI f z).natAbs<=(f*z).natAbs:=by
  obtain ⟨s,u,v,hs,s1,u1,v1,ez,ez',fu,fv,guv⟩:=EI hf hz;unfold lcmI;rw [<-hs,fu];refine ⟨aX (by omega) (by omega),⟨v,by rw [ez',ez,av s u,am]⟩,bT ..,?_⟩;rw [cf,cf];refine Nat.mul_le_mul_right _ ?_;rw [ez,cf];exact d8 _ (by omega)
def cbs(zs:List Int):Int:=zs.foldl lcmI 1
theorem FE(zs:List Int)(z:Int):cbs (zs++[z])=lcmI (cbs zs) z:=by unfold cbs; rw [di]; rfl
theorem BC:∀ (zs:List Int) (f:Int) (k n:Nat),1<=f->(∀ z∈zs,1<=z/\Bd k z)->Bd n f->1<=zs.foldl lcmI f/\f∣zs.foldl lcmI f/\(∀ z∈zs,z∣zs.foldl lcmI f)/\Bd (n+k*zs.length) (zs.foldl lcmI f)
  | [],f,k,n,hf,_,hb=>⟨hf,dy _,λz h=>absurd h (by simp),hb⟩
  | z::zs,f,k,n,hf,h,hb=>by
    have hz:=h z aB;obtain ⟨a1,a2,a3,a4⟩:=ww hf hz.1;obtain ⟨b1,b2,b3,b4⟩:=BC zs (lcmI f z) k (n+k) a1 (λu hu=>h u (ay _ hu)) ((hb.mul hz.2).of_le a4);refine ⟨b1,aW a2 b2,λu hu=>?_,?_⟩
    . rcases aK.mp hu with e | e
      . subst e; exact aW a3 b2
      . exact b3 u e
    . rw [List.foldl_cons,ar,Nat.mul_succ,Nat.add_comm (k*zs.length),<-gj];exact b4
theorem CU{zs:List Int}{k:Nat}(h:∀ z∈zs,1<=z/\Bd k z):1<=cbs zs/\(∀ z∈zs,z∣cbs zs)/\Bd (1+k*zs.length) (cbs zs):=by
  obtain ⟨a,_,b,c⟩:=BC zs 1 k 1 (by decide) h (by decide);exact ⟨a,b,c⟩
theorem Lr{P:Nat->Prop}:∀ n,P n->∃ m,P m/\∀ k,k<m->¬ P k:=by
  intro n;induction n using Nat.strongRecOn with
  | ind n ih =>
    intro h;by_cases c:∃ k,k<n/\P k
    . obtain ⟨k,hk,hp⟩:=c;exact ih k hk hp
    . exact ⟨n,h,λk hk hp=>c ⟨k,hk,hp⟩⟩
theorem GA(hR:Rt d){L:List (Int×Int)}(h:∀ u∈L,sgn d u.1 u.2=1):∃ K,Fst d L K:=by
  obtain ⟨K,hK⟩:=Gf hR L h;obtain ⟨m,hm,hn⟩:=Lr (P:=λK=>∀ u∈L,(st d K).srv u.1 u.2) K hK;refine ⟨m,hm,λk hk=>?_⟩;have:=hn k hk;refine fQ λc=>this λu hu=>?_;exact fQ λz=>c ⟨u,hu,z⟩
def BsE(s s':B4)(N:Int):Prop:=(lA s.a s.b N=lA s'.a s'.b N/\lB s.a s.b N=lB s'.a s'.b N/\lN s.a s.b N=lN s'.a s'.b N)/\(lA s.c s.e N=lA s'.c s'.e N/\lB s.c s.e N=lB s'.c s'.e N/\lN s.c s.e N=lN s'.c s'.e N)
instance {s s':B4} {N:Int}:Decidable (BsE s s' N):=inferInstanceAs (Decidable (_/\_))
theorem Ax(x y:Int):lA x y 1=x/\lB x y 1=y/\lN x y 1=1:=by
  have e:g3 x y 1=1:=by
    unfold g3;rw [Int.one_gcd];exact Int.one_gcd
  have:=yi (x:=x) (y:=y) (z:=1) (a:=x) (b:=y) (n:=1) (by decide) e (by decide) rfl rfl;exact ⟨this.1.symm,this.2.1.symm,this.2.2.symm⟩
def tmS(m:Int)(s:Sd):Sd:=⟨lA (m*s.x) (m*s.y) s.z,lB (m*s.x) (m*s.y) s.z,lN (m*s.x) (m*s.y) s.z⟩
def adS(s t:Sd):Sd:=⟨lA (s.x*t.z+t.x*s.z) (s.y*t.z+t.y*s.z) (s.z*t.z),lB (s.x*t.z+t.x*s.z) (s.y*t.z+t.y*s.z) (s.z*t.z),lN (s.x*t.z+t.x*s.z) (s.y*t.z+t.y*s.z) (s.z*t.z)⟩
structure SK(k j:Nat)(s:Sd):Prop where
  z1:1<=s.z
  g:g3 s.x s.y s.z=1
  bx:Bd k s.x
  by':Bd k s.y
  bz:Bd j s.z
theorem SK.mono{k j k' j':Nat}{s:Sd}(h:SK k j s)(l:k<=k')(l':j<=j'):SK k' j' s:=⟨h.z1,h.g,h.bx.mono l,h.by'.mono l,h.bz.mono l'⟩
theorem SK.ne{k j:Nat}{s:Sd}(h:SK k j s):s.z≠0:=by have:=h.z1; omega
theorem wz{b n:Int}(hn:n≠0):Rat.divInt (lA a b n) (lN a b n)=Rat.divInt a n/\Rat.divInt (lB a b n) (lN a b n)=Rat.divInt b n:=by
  have z:=l_n (a:=a) (b:=b) hn;exact ⟨(cR (by omega) hn).mpr l_a,(cR (by omega) hn).mpr l_b⟩
def nul:Sd:=⟨0,0,1⟩
def mny(s:B4)(N:Int)(pl:Nat)(w:Sd):Int:=if pl=0 then s.i (N / w.z*w.x) (N / w.z*w.y) else s.j (N / w.z*w.x) (N / w.z*w.y)
def hg(s:B4)(N:Int)(pl:Nat):List Bo->Sd:=λL=>L.foldl (λa b=>adS a (tmS (mny s N pl b.w) b.h)) nul
structure B5(d N:Int)(b:Bo):Prop where
  w:SK 20 12 b.w
  h:SK 20 12 b.h
  wu:sgn d b.w.x b.w.y=1
  hu:sgn d b.h.x b.h.y=1
  dv:b.w.z∣N
theorem Jy{k n:Nat}{s:B4}(g:GB d k s)(bx:Bd n x)(by':Bd n y):Bd (1+(n+k+1)) (s.i x y)/\Bd (1+(n+k+1)) (s.j x y):=by
  have hd:Bd 1 s.det:=by
    unfold B4.det;rcases g.det with h|h <;> rw [h] <;> decide
  refine ⟨hd.mul ((bx.mul g.be).sub (by'.mul g.bc)),hd.mul (Bd.mono ((g.ba.mul by').sub (g.bb.mul bx)) (by omega))⟩
def bw1(s:B4)(N:Int):Sd:=⟨lA s.a s.b N,lB s.a s.b N,lN s.a s.b N⟩
def bw2(s:B4)(N:Int):Sd:=⟨lA s.c s.e N,lB s.c s.e N,lN s.c s.e N⟩
end Bg
namespace L2
open PySem PySem.Spec PyProof.Rows Bg
def rSum(K:iB):List V->Hp->VK->Prop:=λxs H Q=>∃ (a:Addr) (ns:List Int),xs=[.ref a]/\SqL K H a (ns.map V.int)/\Q (.int ns.sum) H
def IQ(K:iB):List V->Hp->VK->Prop:=λxs H Q=>∃ (a:Addr) (bs:List Bool),xs=[.ref a]/\SqL K H a (bs.map V.bl)/\Q (.bl (bs.all id)) H
theorem xw:∀ {ns:List Int} {us:List Value},Vals (ns.map V.int) us->∃ xs:Array (Int×Tok),us.toArray=intItems xs/\xs.toList.map (·.1)=ns
  | [],us,h=>by
    rw [Vals.zero h];exact ⟨#[],by simp [intItems],rfl⟩
  | n::ns,u::us,.cons r t=>by
      obtain ⟨tk,rfl⟩:=r;obtain ⟨xs,e1,e2⟩:=xw t;refine ⟨#[(n,tk)]++xs,?_,by simp [e2]⟩;have e3:(Value.int n tk::us).toArray=#[Value.int n tk]++us.toArray:=by simp
      rw [e3,e1];simp [intItems]
theorem Av{xs:Array (Int×Tok)}:preSum (numAt xs) xs.size=(xs.toList.map (·.1)).sum:=by
  rw [preSum_eq,bJ (by simp)]
variable {X:Cx}
theorem t8(hc:X.calm=true):yS X (.builtin "sum") (rSum X.K):=by
  intro pins s σ H xs us Q I r h;obtain ⟨a,ns,rfl,hq,q⟩:=h;obtain ⟨u,rfl,ru⟩:=Vals.one r;cases ru
  obtain ⟨its,rv,p,hz⟩:=I.list hq;obtain ⟨ys,e1,e2⟩:=xw rv;have hl:s.heap.IsList a (intItems ys):=by rw [<-e1]; exact p.isList
  refine sum_intListG (I.ok.hd hc) hl λh' tk t' hk=>?_;rw [Av,e2];exact ⟨.int ns.sum,H,I.kept (t':=tk) hk,⟨t',rfl⟩,q⟩
theorem Dv(hc:X.calm=true):yS X (.builtin "all") (IQ X.K):=by
  intro pins s σ H xs us Q I r h;obtain ⟨a,bs,rfl,hq,q⟩:=h;obtain ⟨u,rfl,ru⟩:=Vals.one r;cases ru
  obtain ⟨its,rv,p,hz⟩:=I.list hq;have hlt:a<s.heap.objs.size:=by
    obtain ⟨o,_,e,_⟩:=p;exact Heap.lt_size e
  refine call_all_walk (il p.isList ?_);refine ⟨_,_,_,_,_,_,(λi=>bs.getD i false),rfl,Walks.list (A:=X.A.in1) (show X.A.in1.handled=none from I.ok.hd hc) _ a (az hlt) its.toArray,⟨⟨_,Heap.get?_push_size _ rfl,rfl,rfl⟩,p.isList.push _⟩,?_,λh' tk hk=>?_⟩
  . intro i v s' Q' E' hP hQ;have hP':its[i]?=some v:=by simpa using hP
    have hi:i<bs.length:=by
      have:=rv.length;rw [aa] at this;have:=(af.mp hP').1;omega
    obtain ⟨u,hu,ru⟩:=rv.get (i:=i) (x:=.bl bs[i]) (by rw [ag,ae hi]; rfl);rw [hP'] at hu;cases hu
    cases ru
    have e:bs.getD i false=bs[i]:=by rw [c7,ae hi]; rfl
    have hQ':Q' (bs.getD i false) s':=hQ;rw [e] at hQ';exact ia hQ'
  . have e:(List.range its.toArray.size).all (λi=>bs.getD i false)=bs.all id:=by
      have:=rv.length;rw [aa] at this;rw [aI,<-this,uC]
    rw [e];refine ⟨.bl _,H,I.kept (t':=tk) λb o e'=>hk b o ?_ (Heap.get?_push_of_some _ e'),rfl,q⟩;intro hb;have e2:b=s.heap.objs.size:=by simpa using hb
    exact absurd (Heap.lt_size e') (by rw [e2]; exact cU _)
variable {a:Addr}
theorem Kt{K:iB}{H:Hp}{Q:VK}{ns:List Int}(h:SqL K H a (ns.map V.int))(q:Q (.int ns.sum) H):rSum K [.ref a] H Q:=⟨a,ns,rfl,h,q⟩
theorem Iz{K:iB}{H:Hp}{Q:VK}{bs:List Bool}(h:SqL K H a (bs.map V.bl))(q:Q (.bl (bs.all id)) H):IQ K [.ref a] H Q:=⟨a,bs,rfl,h,q⟩
inductive T0 where
  | flat (x:V)
  | tup (xs:List V)
  | lst (xs:List V)
variable {H0 H:Hp}{Q:VK}{ls:List (Addr×HO)}
variable {tg:Expr}
abbrev Fq(H:Hp)(p:Addr)(x:Rat):Prop:=H p=some (.tup [.int x.num,.int (x.den:Int)])
abbrev Fs(K:iB)(H:Hp)(p:Addr)(x:Rat):Prop:=SqT K H p [.int x.num,.int (x.den:Int)]
theorem Fo{p:Addr}{t b:Int}(hb:b≠0)(e:H p=some (.tup [.int (fT t b),.int (fB t b)])):Fq H p (Rat.divInt t b):=by
  rw [(rf hb).1,(rf hb).2] at e;exact e
variable {x y:Rat}
theorem HB{p:Addr}(e:H p=some (.tup [.int (plT x.num x.den y.num y.den / (Int.gcd (plT x.num x.den y.num y.den) (Int.gcd x.den y.den:Nat):Nat)),.int ((x.den:Int) / (Int.gcd x.den y.den:Nat)*((y.den:Int) / (Int.gcd (plT x.num x.den y.num y.den) (Int.gcd x.den y.den:Nat):Nat)))])):Fq H p (x+y):=by
  rw [(GF x y).1,(GF x y).2] at e;exact e
theorem Fl{p:Addr}(e:H p=some (.tup [.int (x.num / (Int.gcd x.num y.den:Nat)*(y.num / (Int.gcd y.num x.den:Nat))),.int ((x.den:Int) / (Int.gcd y.num x.den:Nat)*((y.den:Int) / (Int.gcd x.num y.den:Nat)))])):Fq H p (x*y):=by
  rw [(Eb x y).1,(Eb x y).2] at e;exact e
variable {H':Hp}
theorem Same.sqT{K:iB}{xs:List V}(e:Same H H')(h:SqT K H a xs):SqT K H' a xs:=by
  rcases h with h|h
  . rcases h with h | ⟨o,h⟩
    . exact .inl (.inl (e _ _ h))
    . exact .inl (.inr ⟨o,e _ _ h⟩)
  . exact .inr h
abbrev SdAt(H:Hp)(p:Addr)(s:Sd):Prop:=H p=some (.tup [.int s.x,.int s.y,.int s.z])
structure Cell where
  p:Addr
  pw:Addr
  ph:Addr
  b:Bo
def Cell.v(c:Cell):V:=.ref c.p
structure Cell.At(H:Hp)(c:Cell):Prop where
  t:H c.p=some (.tup [.ref c.pw,.ref c.ph])
  w:SdAt H c.pw c.b.w
  h:SdAt H c.ph c.b.h
variable {c:Cell}
theorem Cell.At.same(h:c.At H)(s:Same H H'):c.At H':=⟨s _ _ h.t,s _ _ h.w,s _ _ h.h⟩
theorem Cell.At.sameX{D:Addr}{xs:List V}(h:c.At H)(s:SameX D H H')(e:H D=some (.lst xs)):c.At H':=⟨s.tup h.t e,s.tup h.w e,s.tup h.h e⟩
theorem uK{L:List Cell}{i:Nat}{y:V}(h:(L.map Cell.v)[i]?=some y):∃ c,y=.ref c.p/\c∈L/\L[i]?=some c:=by
  rw [ag] at h;cases e:L[i]? with
  | none=>rw [e] at h; cases h
  | some c =>
    rw [e] at h;exact ⟨c,(aw h).symm,aq e,rfl⟩
theorem Ci{L:List Cell}{i:Nat}(h:L[i]?=some c):(L.take (i+1)).map Cell.b=(L.take i).map Cell.b++[c.b]:=by
  rw [a8,h,aj];rfl
structure TbS(K:iB)(H:Hp)(p r0 r1 f0 f1 f2 f3:Addr)(t:Tb):Prop where
  p:SqT K H p [.ref r0,.ref r1]
  r0:SqT K H r0 [.ref f0,.ref f1]
  r1:SqT K H r1 [.ref f2,.ref f3]
  f0:Fs K H f0 t.a
  f1:Fs K H f1 t.b
  f2:Fs K H f2 t.c
  f3:Fs K H f3 t.e
variable {f2 f3 r0 r1:Addr}{t:Tb}
theorem TbS.same{K:iB}{p f0 f1:Addr}(h:TbS K H p r0 r1 f0 f1 f2 f3 t)(s:Same H H'):TbS K H' p r0 r1 f0 f1 f2 f3 t:=⟨s.sqT h.p,s.sqT h.r0,s.sqT h.r1,s.sqT h.f0,s.sqT h.f1,s.sqT h.f2,s.sqT h.f3⟩
structure TbH(H:Hp)(p r0 r1 f0 f1 f2 f3:Addr)(t:Tb):Prop where
  p:H p=some (.tup [.ref r0,.ref r1])
  r0:H r0=some (.tup [.ref f0,.ref f1])
  r1:H r1=some (.tup [.ref f2,.ref f3])
  f0:Fq H f0 t.a
  f1:Fq H f1 t.b
  f2:Fq H f2 t.c
  f3:Fq H f3 t.e
theorem TbH.same{p f0 f1:Addr}(h:TbH H p r0 r1 f0 f1 f2 f3 t)(s:Same H H'):TbH H' p r0 r1 f0 f1 f2 f3 t:=⟨s _ _ h.p,s _ _ h.r0,s _ _ h.r1,s _ _ h.f0,s _ _ h.f1,s _ _ h.f2,s _ _ h.f3⟩
theorem TbH.s{K:iB}{p f0 f1:Addr}(h:TbH H p r0 r1 f0 f1 f2 f3 t):TbS K H p r0 r1 f0 f1 f2 f3 t:=⟨.of h.p,.of h.r0,.of h.r1,.of h.f0,.of h.f1,.of h.f2,.of h.f3⟩
def TbAt(H:Hp)(p:Addr)(t:Tb):Prop:=∃ r0 r1 f0 f1 f2 f3:Addr,TbH H p r0 r1 f0 f1 f2 f3 t
theorem TbAt.same{H H':Hp}{p:Addr}{t:Tb}(h:TbAt H p t)(s:Same H H'):TbAt H' p t:=by
  obtain ⟨r0,r1,f0,f1,f2,f3,h⟩:=h;exact ⟨r0,r1,f0,f1,f2,f3,h.same s⟩
theorem TbAt.eq{p:Addr}{u:Tb}(h:TbAt H p t)(e:t=u):TbAt H p u:=e ▸ h
section
variable {K:iB}{σ:St}{D:Ends}
end
def TopE(K:iB)(mg:Str->Option Value)(x:Str):Prop:=∃ a,mg x=some (.ref a)/\∀ H:Hp,∃ r0 r1 f0 f1 f2 f3:Addr,TbS K H a r0 r1 f0 f1 f2 f3 Tb.zero
structure TupIn(K:iB)(a:Addr)(xs:List V):Prop where
  h:∃ (o:Obj) (its:Array Value) (n:Nat),K.lookup a=some o/\o.cls=.type "tuple"/\o.data=.seq its n/\its.size<=sizeLine/\Vals xs its.toList
theorem tupIn_mk{K:iB}{o:Obj}{its:Array Value}{n:Nat}{xs:List V}(l:K.lookup a=some o)(c:o.cls=.type "tuple")(d:o.data=.seq its n)(z:its.size<=sizeLine)(v:Vals xs its.toList):TupIn K a xs:=⟨o,its,n,l,c,d,z,v⟩
theorem topE_mk{K:iB}{h:Heap}{mg:Str->Option Value}{x:Str}{f0 f1:Addr}(X:K.In h)(G:h.Ns mainGlobals mg)(e:W.nsIn K mainGlobals x=some (some (.ref a)))(t:TupIn K a [.ref r0,.ref r1])(t0:TupIn K r0 [.ref f0,.ref f1])(t1:TupIn K r1 [.ref f2,.ref f3])(u0:TupIn K f0 [.int 0,.int 1])(u1:TupIn K f1 [.int 0,.int 1])(u2:TupIn K f2 [.int 0,.int 1])(u3:TupIn K f3 [.int 0,.int 1]):TopE K mg x :=
  ⟨a,dC X G e,λ_=>⟨r0,r1,f0,f1,f2,f3,.inr t.h,.inr t0.h,.inr t1.h,.inr u0.h,.inr u1.h,.inr u2.h,.inr u3.h⟩⟩
def rTup(K:iB):List V->Hp->VK->Prop:=λxs H Q=>∃ p ys,xs=[.ref p]/\((SqL K H p ys/\∀ l,H l=none->Q (.ref l) (upd H l (.tup ys)))\/(SqT K H p ys/\Q (.ref p) H))
theorem ED:yS X (.type "tuple") (rTup X.K):=uI
def rLst(K:iB):List V->Hp->VK->Prop:=λxs H Q=>∃ p ys,xs=[.ref p]/\(SqL K H p ys\/SqT K H p ys)/\∀ l,H l=none->Q (.ref l) (upd H l (.lst ys))
theorem uW:yS X (.type "list") (rLst X.K):=Aa
theorem JH{K:iB}{p:Addr}{ys:List V}(h:H p=some (.lst ys))(q:∀ l H2,Same H H2->H2 l=some (.tup ys)->Q (.ref l) H2):rTup K [.ref p] H Q:=⟨p,ys,rfl,.inl ⟨SqL.of h,λl hl=>q l _ (zA hl _) zf⟩⟩
section
variable {prog:Program}{w:World}{A:Around}{E:Value->Shared->Prop}
end
abbrev TF:=St->Hp->Str->VK->Prop
def tF(t:TF):TE:=λσ H Q=>t σ H Str.empty Q
section
variable {K:iB}{σ:St}
theorem ET{n:Nat}(h:n<=1000):n<=sizeLine:=yO h
theorem Dq{l:Addr}{xs:List V}(h:H l=some (.lst xs))(q:∀ H2,SameX l H H2->H2 l=some (.lst xs.reverse)->Q .non H2):BW (.ref l) [] H Q:=⟨l,xs,rfl,rfl,h,q _ (λb o e n=>by rw [zj n]; exact e) zf⟩
theorem KZ{T:String}{r:V->List V->Hp->VK->Prop}{to:TE}(h:to σ H λx H1=>tyV K T x H1/\r x [] H1 Q):tBM0 K T r to σ H Q:=h
theorem LN{i j:Str}(h:Q (.bl (decide (i=j))) H):rEq (.str i) (.str j) H Q:=⟨rfl,by
  have e:decide (V.str i=V.str j)=decide (i=j):=by rw [cr]; simp
  rw [e]; exact h⟩
theorem LK{i j:Str}(h:Q (.bl (!decide (i=j))) H):rNe (.str i) (.str j) H Q:=⟨rfl,by
  have e:decide (V.str i=V.str j)=decide (i=j):=by rw [cr]; simp
  rw [e]; exact h⟩
theorem Fn{z:Str}(h:Q (.bl true) H):rIs K [.str z,.ty "str"] H Q:=⟨_,_,_,_,rfl,.str z,ul K _,h⟩
end
section
variable {prog:Program}{w:World}{A:Around}{E:Value->Shared->Prop}{s:Shared}{R:Result->Shared->Prop}
variable {I:Addr}{fp wr:List Addr}{G:Array GenState->Array GenState->Prop}{n:Nat}{P:Nat->Value->Prop}{St:Nat->Shared->Prop}
end
variable {e:Expr}{te:TE}{p1 p2 pos pos2:Pos}
theorem Hj{n:Nat}{b r2 s1 s2:Addr}(ha:H a=some (.tup [.ref r1,.ref r2]))(hb:H b=some (.tup [.ref s1,.ref s2]))(e1:EqV X n H (.ref r1) (.ref s1) true)(e2:EqV X n H (.ref r2) (.ref s2) true):EqV X (n+1) H (.ref a) (.ref b) true :=
  EqV.tup (X:=X) (n:=n) (bs:=[true,true]) (SqT.of ha) (SqT.of hb) (.cons e1 (.cons e2 .nil)) (λ_=>rfl)
end L2
namespace Bg
end Bg
namespace L2
open PySem PySem.Spec PyProof.Rows Bg
structure BsAt(H:Hp)(p r1 r2:Addr)(s:B4)(N:Int):Prop where
  t:H p=some (.tup [.ref r1,.ref r2])
  f:H r1=some (.tup [.int (lA s.a s.b N),.int (lB s.a s.b N),.int (lN s.a s.b N)])
  g:H r2=some (.tup [.int (lA s.c s.e N),.int (lB s.c s.e N),.int (lN s.c s.e N)])
theorem BsAt.same{H H':Hp}{p r1 r2:Addr}{s:B4}{N:Int}(h:BsAt H p r1 r2 s N)(z:Same H H'):BsAt H' p r1 r2 s N:=⟨z _ _ h.t,z _ _ h.f,z _ _ h.g⟩
def WGn(Pv:Nat->St->Hp->Prop)(m:Nat)(tb:TS)(D:Ends)(σ:St)(H:Hp):Prop :=
  ∃ N:St->Hp->Prop,(∀ σ' H',N σ' H'->∃ m',m'<m/\Pv m' σ' H')/\tb { D with nx:=N,ct:=N,bk:=D.nx } σ H
variable {D:Ends}
theorem wgn{Pv:Nat->St->Hp->Prop}{m:Nat}{tb:TS}{σ:St}{H:Hp}(h:tb { D with nx:=λσ' H'=>∃ m',m'<m/\Pv m' σ' H',ct:=λσ' H'=>∃ m',m'<m/\Pv m' σ' H',bk:=D.nx } σ H):WGn Pv m tb D σ H :=
  ⟨_,λ_ _ z=>z,h⟩
theorem HW{c:TT}{tb:TS}{σ:St}{H:Hp}(Pv:Nat->St->Hp->Prop)(h0:∃ m,Pv m σ H)(hs:∀ m σ H,Pv m σ H->c σ H λb H1=>if b=true then WGn Pv m tb D σ H1 else D.nx σ H1):DY c tb D σ H :=
  ⟨Pv,h0,hs⟩
theorem vY(f:Nat->Int):∀ k,argBest (λi j=>decide (f i<f j)) k<=k/\∀ i,i<=k->f (argBest (λi j=>decide (f i<f j)) k)<=f i
  | 0=>⟨ai _,λi hi=>by have:i=0:=(by omega); subst this; exact Int.le_refl _⟩
  | k+1=>by
    obtain ⟨h1,h2⟩:=vY f k;unfold argBest;by_cases c:f (k+1)<f (argBest (λi j=>decide (f i<f j)) k)
    . rw [h7 (iu c)];refine ⟨ai _,λi hi=>?_⟩;by_cases e:i=k+1
      . subst e; exact Int.le_refl _
      . have:=h2 i (by omega); omega
    . rw [h8 (by simpa using c)];refine ⟨by omega,λi hi=>?_⟩;by_cases e:i=k+1
      . subst e; omega
      . exact h2 i (by omega)
def Kd(K:iB):List V->Hp->VK->Prop:=λxs H Q=>∃ (a:Addr) (ns:List Int),xs=[.ref a]/\(SqL K H a (ns.map V.int)\/SqT K H a (ns.map V.int))/\ns≠[]/\∀ m∈ns,(∀ x∈ns,m<=x)->Q (.int m) H
variable {ys:Array (Int×Tok)}{ns:List Int}
theorem Bz(e2:ys.toList.map (·.1)=ns){i:Nat}(hi:i<ns.length):numAt ys i=ns[i]:=by
  subst e2;have hi':i<ys.size:=by simpa using hi
  unfold numAt;rw [Array.getElem?_eq_getElem hi'];simp
theorem tL(e2:ys.toList.map (·.1)=ns)(hne:ns≠[]){v:Value}(h:(intItems ys)[argBest (λi j=>decide (numAt ys i<numAt ys j)) (ys.size - 1)]?=some v):∃ m t,v=.int m t/\m∈ns/\∀ x∈ns,m<=x:=by
  have hl:ys.size=ns.length:=by rw [<-e2]; simp
  have hp:0<ns.length:=bA.mpr hne;obtain ⟨h1,h2⟩:=vY (numAt ys) (ys.size - 1);obtain ⟨t,rfl⟩:=intItems_at h;generalize argBest (λi j=>decide (numAt ys i<numAt ys j)) (ys.size - 1)=b at *
  have hb:b<ns.length:=by omega
  refine ⟨_,t,rfl,?_,λx hx=>?_⟩
  . rw [Bz e2 hb]; exact bI hb
  . obtain ⟨i,hi,e⟩:=List.getElem_of_mem hx;have:=h2 i (by omega);rw [Bz e2 hi,e] at this;exact this
variable {X:Cx}
theorem De(hc:X.calm=true):yS X (.builtin "min") (Kd X.K):=by
  intro pins s σ H xs us Q I r h;obtain ⟨a,ns,rfl,hq,hne,q⟩:=h;obtain ⟨u,rfl,ru⟩:=Vals.one r;cases ru
  rcases hq with hq|hq
  . obtain ⟨its,rv,p,hz⟩:=I.list hq;obtain ⟨ys,e1,e2⟩:=xw rv;have hl:s.heap.IsList a (intItems ys):=by rw [<-e1]; exact p.isList
    have hn:0<ys.size:=by
      have:ys.size=ns.length:=by rw [<-e2]; simp
      have:=bA.mpr hne;omega
    refine min_intList (I.ok.hd hc) hl hn λv h' tk hv hk=>?_;obtain ⟨m,t,rfl,hm,hle⟩:=tL e2 hne hv;exact ⟨.int m,H,I.kept (t':=tk) hk,⟨t,rfl⟩,q m hm hle⟩
  . obtain ⟨its,rv,p,hz⟩:=I.tuple hq;obtain ⟨ys,e1,e2⟩:=xw rv;have hl:s.heap.IsTuple a (intItems ys):=by rw [<-e1]; exact p
    have hn:0<ys.size:=by
      have:ys.size=ns.length:=by rw [<-e2]; simp
      have:=bA.mpr hne;omega
    have hlt:a<s.heap.objs.size:=by obtain ⟨_,e,_⟩:=hl; exact Heap.lt_size e
    refine call_min_walk (wpAny_pyIter_tuple hl ?_);refine ⟨_,[_,a],[_],_,_,_,_,rfl,Walks.tuple (A:=X.A.in1) (show X.A.in1.handled=none from I.ok.hd hc) _ a (az hlt) (intItems ys),⟨⟨_,Heap.get?_push_size _ rfl,rfl,rfl⟩,hl.push _⟩,λb hb=>?_,by simpa [intItems] using hn,CmpOf.ints_lt (numAt ys) (λ_ _=>intItems_at),λv h' tk hP hk=>?_⟩
    . show b<(s.heap.push _).objs.size;rw [Heap.size_push];rcases aK.mp hb with rfl|hb
      . exact dL _
      . rcases aK.mp hb with rfl | hb
        . exact dD hlt
        . cases hb
    . obtain ⟨m,t,rfl,hm,hle⟩:=tL e2 hne (by simpa [intItems] using hP);refine ⟨.int m,H,I.kept (t':=tk) λb o e'=>hk b o ?_ (Heap.get?_push_of_some _ e'),⟨t,rfl⟩,q m hm hle⟩;intro hb;have e2:b=s.heap.objs.size:=by simpa using hb
      exact absurd (Heap.lt_size e') (by rw [e2]; exact cU _)
variable {a:Addr}
section
variable {K:iB}{H:Hp}{Q:VK}{σ:St}{D:Ends}
theorem IL{i j:Int}(h:H a=some (.tup [.int i,.int j]))(q:∀ m:Int,(m=i\/m=j)->m<=i->m<=j->Q (.int m) H):Kd K [.ref a] H Q :=
  ⟨a,[i,j],rfl,.inr (SqT.of h),by simp,λm hm hl=>q m (by simpa using hm) (hl i (by simp)) (hl j (by simp))⟩
end
structure Ln where
  p:Addr
  s:Sd
def Ln.v(c:Ln):V:=.ref c.p
def Ln.u(c:Ln):Int×Int:=(c.s.x,c.s.y)
theorem Jb{L:List Ln}{i:Nat}{y:V}(h:(L.map Ln.v)[i]?=some y):∃ c,y=.ref c.p/\c∈L/\L[i]?=some c:=by
  rw [ag] at h;cases e:L[i]? with
  | none=>rw [e] at h; cases h
  | some c =>
    rw [e] at h;refine ⟨c,?_,aq e,rfl⟩;have:Ln.v c=y:=by simpa using h
    exact this.symm
theorem Bc{α:Type}{f:Ln->α}{L:List Ln}{i:Nat}{c:Ln}(h:L[i]?=some c):(L.take (i+1)).map f=(L.take i).map f++[f c]:=by
  rw [f7,h,aj];rfl
variable {tg:Expr}
section
variable {K:iB}{H:Hp}{Q:VK}
theorem IP{i j:Nat}(hS:SqL K H a (ns.map V.int))(q:∀ (p:Addr) (H2:Hp),Same H H2->H2 p=some (.lst (((ns.drop i).take (j - i)).map V.int))->Q (.ref p) H2):rSlL K (.ref a) (some (i:Int)) (some (j:Int)) H Q:=by
  refine ⟨a,_,rfl,hS,λp hp=>?_⟩;refine q p _ (zA hp _) ?_;rw [zf];unfold cutV;rw [HT.sIx_nat,HT.sIx_nat,hJ,gq];congr 2;generalize ns.map V.int=xs;rcases gL i xs.length with z|z
  . rw [d6 z];rcases gL j xs.length with y|y
    . rw [d6 y]
    . rw [eQ y,bJ (by rw [c8]; omega),bJ (by rw [c8]; omega)]
  . rw [eQ z,dn (ai _),dn z,hU,hU]
end
variable {pins:List (Addr×Obj)}
theorem Inv.turnedL{σ:St}{H:Hp}{s:Shared}{h':Heap}{t':Nat}{its:List Addr}(I:Inv X pins σ H s)(k:∀ b o,b∉its->s.heap.get? b=some o->h'.get? b=some o)(hf:∀ b∈its,FpOk X pins H b):Inv X pins σ H { s with heap:=h',toks:=t' }:=by
  have nit:∀ b u,H b=some u->b∉its:=λb u e z=>by have:=(hf b z).1; rw [this] at e; cases e
  refine I.step (g':=s.gens) (d':=s.drawn) (ch:=its) (λb hb=>?_) (λb o _ _ hc e _=>k b o hc e) (λb o _ _ hc e _=>⟨o.slots,k b o hc e⟩) (λ_ _ _ _ n=>n)
    (λb o hc e=>⟨o,k b o hc e⟩) (λ_ _ e=>e) (λ_ _ _ e=>e) (λb ps e=>⟨#[],by rw [e]; simp⟩) (λm hm=>?_) (λb u e=>?_) I.bare
  . obtain ⟨f0,f1,f2,f3,f4,f5⟩:=hf b hb;exact ⟨f3,f1,f4,f5⟩
  . obtain ⟨o,es,ep,ho,r⟩:=hm;exact ⟨o,es,ep,k _ o (λz=>(hf _ z).2.1 rfl) ho,r⟩
  . refine (I.hok b u e).stay (λc v hc q=>k c v ?_ q) (λ_ q=>q) λ_ _ q=>q;rcases hc with z|z
    . rw [z]; exact nit b u e
    . exact nit c _ z
variable {h:Heap}{o:Obj}
theorem AO{c:Addr}{o':Obj}(hc:c≠h.objs.size)(e:(h.push o).get? c=some o'):h.get? c=some o':=by
  obtain ⟨e1,e2⟩:=Heap.get?_some_iff.mp e;refine Heap.get?_some_iff.mpr ⟨?_,e2⟩;cases h
  simpa [Heap.push,Array.getElem?_push,hc] using e1
def Kz:V->List V->Hp->VK->Prop:=λx vs H Q=>∃ i:Int,x=.int i/\vs=[]/\Q (.int ((Builtin.Int.intBits i:Nat):Int)) H
theorem Hw:MtR X "int.bit_length" Kz:=by
  intro pins s σ H x xs v us Q I rx rv h;obtain ⟨i,rfl,rfl,q⟩:=h;obtain ⟨t,rfl⟩:=rx;have hus:=rv.zero;subst hus;exact call_int_bit_length ⟨.int _,H,I.tok _,⟨_,rfl⟩,q⟩
theorem Ku{i:Int}{H:Hp}{Q:VK}(q:Q (.int ((Builtin.Int.intBits i:Nat):Int)) H):Kz (.int i) [] H Q:=⟨i,rfl,rfl,q⟩
theorem Lw{K:iB}{H:Hp}{z:Int}{R:Prop}(q:R):tyV K "int" (.int z) H/\R:=⟨rfl,q⟩
theorem HG{k:Nat}{i:Int}(h:Bd k i):¬ ((k:Int)<((Builtin.Int.intBits i:Nat):Int)):=by
  unfold Builtin.Int.intBits;by_cases c:i=0
  . subst c;rw [h7 (by decide)];omega
  . rw [h8 (by simpa using c)];have h1:i.natAbs.log2<k:=(gU (by omega)).mpr h;omega
variable {x' y y':Int}
theorem LC{j k:Nat}{d x:Int}(hd:Bd 64 d)(b1:Bd j x)(b2:Bd j y)(b4:Bd k x')(b5:Bd k y')(hk:j+k+65<=8192):Bd 8192 (x*x'+d*y*y') :=
  (Bd.add (k:=64+j+k) ((b1.mul b4).mono (by omega)) ((hd.mul b2).mul b5)).mono (by omega)
theorem Lb{j k:Nat}{x:Int}(b1:Bd j x)(b2:Bd j y)(b4:Bd k x')(b5:Bd k y')(hk:j+k+65<=8192):Bd 8192 (x*y'+y*x') :=
  (Bd.add (k:=j+k) (b1.mul b5) (b2.mul b4)).mono (by omega)
section
variable {g:TG}{tc:TT}{te:TE}{σ0:St}{H1:Hp}{D:Addr}
end
def TopS(mg:Str->Option Value)(x:Str)(z:Str):Prop:=∃ u,mg x=some u/\RelV (.str z) u
variable {x:Str}{mg:Str->Option Value}
theorem topS_mk{K:iB}{z:Str}{t:Tok}(X:K.In h)(G:h.Ns mainGlobals mg)(e:W.nsIn K mainGlobals x=some (some (.str z t))):TopS mg x z:=⟨_,dC X G e,⟨t,rfl⟩⟩
section
variable {K:iB}{σ:St}{H:Hp}{Q:VK}
end
open Builtin Builtin.Str
variable {H:Hp}{Q:VK}
open PySem.W PySem.Calls PySem.Builtin PySem.Builtin.ObjectAttr PySem.Builtin.Getset_descriptor
section
variable {prog:Program}{w:World}{A:Around}{E:Value->Shared->Prop}{K:Frag}{x C:Addr}{h:Heap}{g:Array GenState}{d:Drawn}{t:Nat}{os:OsState}
end
section
variable {pins:List (Addr×Obj)}{σ:St}{s:Shared}
end
section
variable {P:Program}{w:World}{K:iB}{mg:Str->Option Value}{base:Heap}{N:List Str}{qual:Str}{scope:Scope}{f:Addr}{cd:Value}{A:Around}{outer:List Env}{s0:Shared}{H0:Hp}{E:XK}
end
section
variable {pl pins:List (Addr×Obj)}{σ:St}{s:Shared}{EE:St->XK}{a:Addr}
end
section
variable {k j:Nat}{x:Str}{ps:List Str}{dvs:List V}{sp:Sp}{p pos:Pos}{e:Expr}{es:List Expr}{t:TA}{E:XK}
end
section
variable {P:Program}{w:World}{K:iB}{mg:Str->Option Value}{base:Heap}
end
variable {P:Program}{w:World}
section
variable {pins:List (Addr×Obj)}{σ:St}{s:Shared}{pos:Pos}
theorem JM(I:Inv X pins σ H s):sysModules<s.heap.objs.size:=fE (by decide) (show mainGlobals<s.heap.objs.size from (I.mod.glob.keeps I.bk).lt)
theorem dnew(h:Heap)(hb:sysModules<h.objs.size):ObjOk P w H (h.push { cls:=.type "dict",data:=.dict #[] }) h.objs.size (.dK []) :=
  ⟨bZ _,beq_eq_false_iff_ne.mpr (ca (az hb)),[],.nil,Heap.DictOf.new h⟩
def Gk:TE:=λ_ H Q=>∀ p H',H p=none->Same H H'->H' p=some (.dK [])->Q (.ref p) H'
theorem uw:PE X (.Dict [] [] pos) Gk:=λpins s σ H Q I h =>
  wpAny_Dict_empty ⟨.ref s.heap.objs.size,_,I.laid (a:=s.heap.objs.size) (o:=.dK []) (t':=s.toks) (λ_ _ q=>Heap.get?_push_of_some _ q) (ai _) (dnew s.heap (JM I)),rfl,
    h _ _ (I.hok.fresh (ai _)) (zA (I.hok.fresh (ai _)) _) zf⟩
theorem Bb{σ:St}(q:∀ p H',H p=none->Same H H'->H' p=some (.dK [])->Q (.ref p) H'):Gk σ H Q:=q
end
theorem Jo{n:Nat}{b:Addr}{xs ys:List V}{bs:List Bool}{σ:St}{s:Shared}{A:Around}(ha:SqL X.K H a xs)(hb:SqL X.K H b ys)(he:EqVs X n H xs ys bs)(I:Inv X pins σ H s)(hu:A.units+4*(n+1)<cLine) : ∃ (is js:Array Value),s.heap.IsList a is/\s.heap.IsList b js/\is.size=js.size/\(∀ j (h1:j<is.size) (h2:j<js.size),SeqAt.EqAt A.in1 s is[j] js[j] (bs.getD j false))/\((List.range is.size).all (λj=>bs.getD j false))=bs.all id:=by
  obtain ⟨is,r1,p1,_⟩:=I.list ha;obtain ⟨js,r2,p2,_⟩:=I.list hb;obtain ⟨l1,l2⟩:=he.len;have q1:=r1.length;have q2:=r2.length;refine ⟨is.toArray,js.toArray,p1.isList,p2.isList,by rw [aI,aI]; omega,λj h1 h2=>?_,?_⟩
  . have hj1:j<xs.length:=by rw [q1]; simpa using h1
    have hj2:j<ys.length:=by rw [q2]; simpa using h2
    obtain ⟨v,ev,rv⟩:=r1.get (ae hj1);obtain ⟨u,eu,ru⟩:=r2.get (ae hj2);have e1:is.toArray[j]=v:=by
      have:is[j]?=some v:=ev;rw [ae (by simpa using h1)] at this;simpa using aw this
    have e2:js.toArray[j]=u:=by
      have:js[j]?=some u:=eu;rw [ae (by simpa using h2)] at this;simpa using aw this
    rw [e1,e2];exact he.at (ae hj1) (ae hj2) pins σ s v u A.in1 I rv ru (by show A.units+1+4*n<cLine; omega)
  . have e1:is.toArray.size=bs.length:=by rw [aI]; omega
    rw [e1,uC]
def rEqL(X:Cx):R2:=λx y H Q=>∃ a b xs ys bs n,x=.ref a/\y=.ref b/\n<=9/\SqL X.K H a xs/\SqL X.K H b ys/\EqVs X n H xs ys bs/\Q (.bl (bs.all id)) H
theorem II{b:Addr}(ha:H a=some (.lst (ns.map V.int)))(hb:H b=some (.lst (ns.map V.int)))(q:Q (.bl true) H):rEqL X (.ref a) (.ref b) H Q:=by
  have key:∀ ms:List Int,EqVs X 0 H (ms.map V.int) (ms.map V.int) (ms.map λ_=>true):=by
    intro ms;induction ms with
    | nil=>exact .nil
    | cons m ms ih =>
      have e:EqV X 0 H (.int m) (.int m) true:=by
        have:=EqV.int (X:=X) (n:=0) (H:=H) m m;simpa using this
      exact .cons e ih
  refine ⟨a,b,_,_,_,0,rfl,rfl,bZ _,SqL.of ha,SqL.of hb,key ns,?_⟩;have e:(ns.map λ_=>true).all id=true:=by simp
  rw [e];exact q
theorem JD{b:Addr}{C D:List Cell}(ha:H a=some (.lst (C.map Cell.v)))(hb:H b=some (.lst (D.map Cell.v)))(hC:∀ c∈C,c.At H)(hD:∀ c∈D,c.At H)(e:C.map Cell.b=D.map Cell.b)(q:Q (.bl true) H):rEqL X (.ref a) (.ref b) H Q:=by
  have key:∀ (C D:List Cell),(∀ c∈C,c.At H)->(∀ c∈D,c.At H)->C.map Cell.b=D.map Cell.b->EqVs X 2 H (C.map Cell.v) (D.map Cell.v) (C.map λ_=>true):=by
    intro C;induction C with
    | nil =>
      intro D _ _ e;have:D=[]:=by
        cases D with
        | nil=>rfl
        | cons d D=>simp at e
      subst this;exact .nil
    | cons c C ih =>
      intro D hC hD e;cases D with
      | nil=>simp at e
      | cons d D =>
        simp only [aU,List.cons.injEq] at e;have ac:=hC c aB;have ad:=hD d aB;have w1:=ac.w;have w2:=ad.w;have h1:=ac.h;have h2:=ad.h;rw [<-e.1] at w2 h2;have e2:EqV X 2 H (.ref c.p) (.ref d.p) true:=Hj ac.t ad.t (eqv3 w1 w2) (eqv3 h1 h2);exact .cons e2 (ih D (λx hx=>hC x (ay _ hx)) (λx hx=>hD x (ay _ hx)) e.2)
  refine ⟨a,b,_,_,_,2,rfl,rfl,by decide,SqL.of ha,SqL.of hb,key C D hC hD e,?_⟩;have e':(C.map λ_=>true).all id=true:=by simp
  rw [e'];exact q
structure H5(d N:Int)(H:Hp)(p:Addr)(C:List Cell):Prop where
  l:H p=some (.lst (C.map Cell.v))
  at':∀ c∈C,c.At H
  ok:∀ c∈C,B5 d N c.b
section
variable {M:Model}{A:Around}{E:Value->Shared->Prop}{s:Shared}
end
section
variable {pins:List (Addr×Obj)}{σ:St}{s:Shared}
end
section
variable {pins:List (Addr×Obj)}{σ:St}{s:Shared}{scope:Scope}{cl:List (Str×Addr)}{own:List Str}{js:List Nat}{fp:List Addr}{C:Addr}{s3:Shared}{H3:Hp}{E:XK}
end
section
variable {pins:List (Addr×Obj)}{σ:St}{s:Shared}{scope:Scope}{cl:List (Str×Addr)}{own:List Str}{js:List Nat}{fp:List Addr}{E:XK}
end
variable {d:Addr}
theorem Inv.retrack{σ:St}{s:Shared}{u u':HO}(I:Inv X pins σ H s)(e:H d=some u)(nf:∀ o v,X.H₀ d≠some (.frz o v))(nt:∀ xs,u≠.tup xs)(nb:∀ ps,u≠.tbl ps)(no:∀ y,u≠.own y)(new:ObjOk X.prog X.w H s.heap d u')(no':∀ y,u'≠.own y):Inv X pins σ (upd H d u') s:=by
  have ne:∀ {b},H b=none->b≠d:=λ{b} q z=>by rw [z,e] at q; cases q
  have st:∀ b v,ObjOk X.prog X.w H s.heap b v->ObjOk X.prog X.w (upd H d u') s.heap b v:=λb v x=>x.stay (λc w' _ q=>q)
    (λc q=>by rw [zj (λz=>no _ (by rw [z,e] at q; exact aw q))]; exact q)
    (λc xs q=>by rw [zj (λz=>nt _ (by rw [z,e] at q; exact aw q))]; exact q)
  refine ⟨I.ok,I.os,I.bare,⟨I.base.keep,I.base.slot,λb o q n hx=>?_,I.base.there,λb xs q=>?_,λb o v q=>?_,λb ps q=>?_⟩,I.loc,I.cell,?_,λx c q=>?_,λp hp=>?_,λb v q=>?_,I.len⟩
  . have k:=I.base.free b o q n hx;rw [zj (ne k)];exact k
  . have k:=I.base.tups b xs q;rw [zj (λz=>nt xs (by rw [z,e] at k; exact aw k))];exact k
  . have k:=I.base.frzs b o v q;rw [zj (λz=>nf o v (by rw [<-z]; exact q))];exact k
  . obtain ⟨more,k⟩:=I.base.tbls b ps q;exact ⟨more,by rw [zj (λz=>nb _ (by rw [z,e] at k; exact aw k))]; exact k⟩
  . rw [zj (ne I.free)]; exact I.free
  . rw [zj (ne (I.freeC x c q))]; exact I.freeC x c q
  . obtain ⟨k1,k2,k3⟩:=I.pin p hp;exact ⟨k1,by rw [zj (ne k2)]; exact k2,k3⟩
  . by_cases z:b=d
    . subst z;rw [zf] at q;cases q
      exact st _ _ new
    . rw [zj z] at q;exact st _ _ (I.hok b v q)
def Itd(d:Addr)(ob:Obj)(kvs:List (Key×V)):It :=
  ⟨λi H=>H d=some (.frz ob (.dK kvs))/\i<kvs.length,λi H x H'=>H'=H/\∃ kv,kvs[i]?=some kv/\x=kV kv.1,λi H=>H d=some (.frz ob (.dK kvs))/\kvs.length<=i⟩
theorem Eu{k:Key}{u:Value}(h:(zR P w).is k u=true):RelV (kV k) u:=by
  cases k with
  | inl i =>
    have h:Value.isInt i u=true:=h;unfold Value.isInt at h;split at h
    . exact ⟨_,by rw [show i=_ from (beq_iff_eq.mp h).symm]⟩
    . cases h
  | inr x =>
    have h:Value.isStrOf x u=true:=h;unfold Value.isStrOf at h;split at h
    . exact ⟨_,by rw [show x=_ from (beq_iff_eq.mp h).symm]⟩
    . cases h
variable {es:Array DictEntry}{kvs:List (Key×V)}{ep:Nat}{ob:Obj}
theorem B2(hdat:ob.data=.dict es ep)(ok:HOk P w H h)(e:H d=some (.frz ob (.dK kvs))):∃ vs,KV kvs vs/\h.DictAt (zR P w) d vs ep:=by
  obtain ⟨g,_,_,vs,r,o,es',ep',g',c,dd,r2⟩:=ok d _ e;have:o=ob:=by rw [g] at g'; exact (aw g').symm
  subst this;rw [hdat] at dd;cases dd
  exact ⟨vs,r,o,es,g,c,hdat,r2⟩
theorem DA{K:iB}(d it:Addr)(hdat:ob.data=.dict es ep):Turn P w K tg (Itd d ob kvs) [it] it (λi h=>h.IsKeyIter it d i kvs.length ep) where
  mem:=by simp
  obj:=λi h st b hb=>by
    have e:b=it:=by simpa using hb
    subst e;obtain ⟨o,e,c,dd⟩:=st;exact ⟨o,e,λv z=>by rw [dd] at z; cases z⟩
  keep:=λi h h' st k=>st.at λo e=>k it (by simp) o e
  item:=by
    intro X hP hw hK hc i pins s σ H E I hf st hg;subst hP hw hK;obtain ⟨hfz,hi⟩:=hg;obtain ⟨vs,r,da⟩:=B2 hdat I.hok hfz;have hl:=r.length;obtain ⟨f0,f1,f2,f3,f4,f5⟩:=hf it (by simp);obtain ⟨⟨k,v⟩,hk⟩:∃ p,vs[i]?=some p:=⟨vs[i]'(by omega),by simp⟩
    have hkk:kvs[i]?.map (·.1)=some k:=by
      have:=congrArg (·[i]?) r.keys;simp only [ag,hk] at this;exact this
    obtain ⟨kv,hkv,ekv⟩:∃ kv,kvs[i]?=some kv/\kv.1=k:=by
      cases q:kvs[i]? with
      | none=>rw [q] at hkk; cases hkk
      | some kv=>rw [q] at hkk; exact ⟨kv,rfl,aw hkk⟩
    rw [hl] at st ⊢;refine wpAny_pyNext_dict_item st da hk λkey h' hkey st' sb=>?_;have I1:Inv X pins σ H { s with heap:=h' }:=I.turned (t':=s.toks) (λb o hb e=>(sb.2 b hb).trans e) f0 f1 f3 f4 f5;obtain ⟨o,e,c,dd⟩:=id st';exact ⟨key,rfl,DW (s:={ s with heap:=h' }) e c dd (by decide) ⟨kV k,H,I1,Eu hkey,⟨rfl,kv,hkv,by rw [ekv]⟩,st',λb hb=>(hf b hb).1⟩⟩
  done:=by
    intro X hP hw hK hc i pins s σ H E I hf st hg;subst hP hw hK;obtain ⟨hfz,hi⟩:=hg;obtain ⟨vs,r,da⟩:=B2 hdat I.hok hfz;have hl:=r.length;obtain ⟨f0,f1,f2,f3,f4,f5⟩:=hf it (by simp);rw [hl] at st;exact wpAny_pyNext_dict_end (I.ok.hd hc) st da (bR (by omega)) λh' eb=>⟨rfl,I.turned (t':=s.toks) (λb o hb e=>eb b o hb e) f0 f1 f3 f4 f5⟩
  self:=λ_ _ _ _ _ st h=>wpAny_pyIter_keyiter st h
def NoFz(H₀:Hp)(d:Addr):Prop:=∀ o v,H₀ d≠some (.frz o v)
def Il(H₀:Hp)(td:TE):TI:=λσ H R=>td σ H λx H1=>∃ d kvs,x=.ref d/\H1 d=some (.dK kvs)/\∀ ob,NoFz H₀ d->R (Itd d ob kvs) (upd H1 d (.frz ob (.dK kvs)))
theorem Inv.nofrz{σ:St}{s:Shared}(I:Inv X pins σ H s)(e:H d=some (.dK kvs)):∀ o v,X.H₀ d≠some (.frz o v):=λo v q=>by
  have k:=I.base.frzs d o v q;rw [e] at k;cases k
theorem Inv.freeze{σ:St}{s:Shared}(I:Inv X pins σ H s)(e:H d=some (.dK kvs))(g:s.heap.get? d=some ob):Inv X pins σ (upd H d (.frz ob (.dK kvs))) s :=
  I.retrack e (I.nofrz e) (λ_ z=>by cases z) (λ_ z=>by cases z) (λ_ z=>by cases z) ⟨g,I.hok d _ e⟩ (λ_ z=>by cases z)
theorem Inv.thaw{σ:St}{s:Shared}(I:Inv X pins σ H s)(nf:∀ o v,X.H₀ d≠some (.frz o v))(e:H d=some (.frz ob (.dK kvs))):Inv X pins σ (upd H d (.dK kvs)) s :=
  I.retrack e nf (λ_ z=>by cases z) (λ_ z=>by cases z) (λ_ z=>by cases z) (I.hok d _ e).2 (λ_ z=>by cases z)
variable {td:TE}
theorem Eo{e:Expr}(hd:PE X e td):PI X tg e (Il X.H₀ td):=by
  intro pins s σ H R I h;refine thn (hd pins s σ H _ I h) λv s1 ⟨x,H1,I1,r1,q1⟩=>?_;obtain ⟨d,kvs,ex,hq,q⟩:=q1;subst ex;cases r1
  obtain ⟨z,y,vs,r,dof⟩:=id (I1.hok d _ hq);obtain ⟨ep,o,es,ho,r2⟩:=dof.dictAt;obtain ⟨c,hdat,r3⟩:=id r2;refine ix y ⟨o,es,ho,r2⟩ ?_;have I2:=(I1.kept (h':=s1.heap.push { cls:=.type "dict_keyiterator",data:=.fields #[.ref d,.int 0 0,.int vs.length 0,.int ep 0] }) (t':=s1.toks) λb o e=>Heap.get?_push_of_some _ e).freeze hq (Heap.get?_push_of_some _ ho);refine ⟨s1.heap.objs.size,[s1.heap.objs.size],_,_,_,rfl,I2,DA d _ hdat,?_,λb hb=>?_,q o (I1.nofrz hq)⟩
  . rw [r.length];exact ⟨_,Heap.get?_push_size _ rfl,rfl,rfl⟩
  . have e:b=s1.heap.objs.size:=by simpa using hb
    subst e;have hn:=I1.hok.fresh (ai s1.heap.objs.size);exact I1.fpOk (ai _) (by rw [zj (λz=>by rw [z,hq] at hn; cases hn)]; exact hn)
def Gq(H₀:Hp)(td:TE)(g:TG)(tc:TT)(te:TE)(n:Nat)(js:List Nat):TE:=λσ H Q=>Ai (Il H₀ td) g tc te n js σ H λv H2=>∃ d ob kvs,NoFz H₀ d/\H2 d=some (.frz ob (.dK kvs))/\Q v (upd H2 d (.dK kvs))
variable {g:TG}
theorem Ce{elt iter tgt:Expr}{ifs:List Expr}{scope:Scope}{pos:Pos}{tc:TT}{te:TE}(own:List Str)(js:List Nat)(hc:X.calm=true)(hi:PI X tgt iter (Il X.H₀ td))(hg:∀ cl fp C s3 H3,PG (zY X scope cl own js fp C s3 H3) tgt g)(ht:∀ cl fp C s3 H3,PIfs (zY X scope cl own js fp C s3 H3) ifs tc)(he:∀ cl fp C s3 H3,PE (zY X scope cl own js fp C s3 H3) elt te)(hfree':(scope.names.all λy=>y.2 != .free || X.env.scope.names.lookup y.1==some .cell)=true:=by rfl)(hjs':(js.all λj=>scope.names.lookup (X.N.getD j Str.empty)==some .free && X.env.scope.names.lookup (X.N.getD j Str.empty)==some .cell)=true:=by rfl)(hcell':(scope.names.all λy=>y.2 != .cell)=true:=by rfl)(hnames':(scope.names.all λy=>y.2 != .local || scope.names.lookup y.1==some .local)=true:=by rfl)(hkind:scope.kind=.function:=by rfl)(hs:∀ x,foldedSetIterable iter X.env x=pure x:=by intro _; rfl) :
    PE X (.ListComp elt [⟨tgt,iter,ifs,0⟩] scope pos) (Gq X.H₀ td g tc te own.length js):=by
  intro pins s σ H Q I h;rw [eval_ListComp];refine uH own js hc hi hg ht he (AH hfree') (GZ hjs') (AY hcell') (uA hnames') hkind hs I h λD H3 H5 σ5 s3 s6 fp cl I3 f3 I6 qn=>?_;obtain ⟨d,ob,kvs,nf,e,qn⟩:=qn;obtain ⟨m,hm,_⟩:=id I6.loc;exact ⟨m,hm,λh' sb=>⟨.ref D,_,(vy I3 f3 I6 sb).thaw nf e,rfl,qn⟩⟩
section
variable {g:TG}{tc:TT}{te:TE}{D:Addr}{H1:Hp}{σ0:St}
theorem tj{R:Hp->Prop}(Pv:Nat->List V->St->Hp->Prop)(h0:Pv 0 [] σ0 (upd H1 D (.lst [])))(hl:∀ i xs σ H,i<=kvs.length->Pv i xs σ H->H d=some (.frz ob (.dK kvs)))(hs:∀ i kv xs σ H,kvs[i]?=some kv->Pv i xs σ H->g (kV kv.1) σ H λσ3 H3=>tc σ3 H3 λb H4=>if b=true then te σ3 H4 λv H5=>z7 (.ref D) [v] H5 λ_ H6=>uM kvs.length Pv i σ3 H6 else uM kvs.length Pv i σ3 H4)(hd:∀ xs σ H,Pv kvs.length xs σ H->R H) : ∃ W:Nat->Nat->St->Hp->Prop,(∃ m,W 0 m σ0 (upd H1 D (.lst [])))/\∀ i m σ' H',W i m σ' H'->((Itd d ob kvs).stop i H'/\R H')\/((Itd d ob kvs).go i H'/\∀ x H2,(Itd d ob kvs).yld i H' x H2->g x σ' H2 λσ3 H3=>tc σ3 H3 λb H4 =>
      if b=true then te σ3 H4 λv H5=>z7 (.ref D) [v] H5 λ_ H6=>∃ m',m'<m/\W (i+1) m' σ3 H6 else ∃ m',m'<m/\W (i+1) m' σ3 H4):=by
  refine ⟨λi m σ H=>m=kvs.length - i/\i<=kvs.length/\∃ xs,Pv i xs σ H,⟨kvs.length,by simp,bZ _,[],h0⟩,?_⟩;rintro i m σ H ⟨rfl,hi,xs,p⟩;have q:=hl i xs σ H hi p;by_cases hlt:i<kvs.length
  . refine .inr ⟨⟨q,hlt⟩,λx H' y=>?_⟩;obtain ⟨e,kv,hkv,ex⟩:=y;subst e ex;exact hs i kv xs σ _ hkv p
  . have e:i=kvs.length:=by omega
    subst e;exact .inl ⟨⟨q,ai _⟩,hd xs σ H p⟩
theorem Dc{H₀:Hp}{σ:St}{n:Nat}{js:List Nat}(h:td σ H λx H1=>∃ d kvs,x=.ref d/\H1 d=some (.dK kvs)/\∀ ob,NoFz H₀ d->∀ D,(upd H1 d (.frz ob (.dK kvs))) D=none->∃ W:Nat->Nat->St->Hp->Prop,(∃ m,W 0 m (vF n js σ) (upd (upd H1 d (.frz ob (.dK kvs))) D (.lst []))) /\
  ∀ i m σ' H',W i m σ' H'->((Itd d ob kvs).stop i H'/\∃ d' ob' kvs',NoFz H₀ d'/\H' d'=some (.frz ob' (.dK kvs'))/\Q (.ref D) (upd H' d' (.dK kvs')))\/((Itd d ob kvs).go i H'/\∀ x H2,(Itd d ob kvs).yld i H' x H2->g x σ' H2 λσ3 H3=>tc σ3 H3 λb H4 =>
    if b=true then te σ3 H4 λv H5=>z7 (.ref D) [v] H5 λ_ H6=>∃ m',m'<m/\W (i+1) m' σ3 H6 else ∃ m',m'<m/\W (i+1) m' σ3 H4)):Gq H₀ td g tc te n js σ H Q:=h
end
def OwnM(P:Program)(w:World)(K:iB)(mg:Str->Option Value)(base:Heap)(CX:CXT)(C:Addr)(k:Nat)(m:Str)(ps:List Str)(dvs:List V)(sp:Sp):Prop :=
  ∃ (f:Addr) (fd:FuncData) (ds:List Value),FnOk P w K mg base CX k f fd ps sp/\Cls K C/\Meth K C m f/\Binds K fd ps ds/\Vals dvs ds
def OwnI(P:Program)(w:World)(K:iB)(mg:Str->Option Value)(base:Heap)(CX:CXT)(C:Addr)(k:Nat)(x:Str)(ps:List Str)(dvs:List V)(sp:Sp):Prop :=
  ∃ (f:Addr) (fd:FuncData) (ds:List Value),FnOk P w K mg base CX k f fd ps sp/\Mk K C f/\mg x=some (.ref C)/\Binds K fd ps ds/\Vals dvs ds
section
variable {CX:CXT}{k j:Nat}{C:Addr}{x m:Str}{ps ks:List Str}{dvs:List V}{sp:Sp}{E:XK}{p pos apos:Pos}{e o:Expr}{es:List Expr}{ta:TE}{t tk:TA}{pl:Sem Bool}{kws:List Keyword}{gV:List V->List V->List V}
theorem vg(O:OwnM X.prog X.w X.K X.mg X.base CX C k m ps dvs sp)(hx:xG CX X E)(hr:Room j X.A)(he:PE X o ta)(ha:PA X (e::es) t)(hk:k<=j:=by decide)(hst:starEach (e::es) X.env=(false,eval e X.env)::starEach es X.env:=by rfl)(hpl:(backTo pos (starEach es X.env)).any (·.1)=false:=by rfl)(ht:eval (.Call (.Attribute o m apos) (e::es) [] pos) X.env=(do
      let ov <-eval o X.env
      standAt apos.atName
      let (f,first) <-holding [ov] (getMethod ov m pl)
      callWith pos f first (backTo pos (starEach (e::es) X.env)) (backToKw pos (keywordEach [] X.env))):=by rfl):PE X (.Call (.Attribute o m apos) (e::es) [] pos) (DQ C m sp dvs E ta t):=by
  obtain ⟨f,fd,ds,F,c,hm,hb,hd⟩:=O;exact Hl he c hm F (hr.mono hk) hb hd hx ha hst hpl ht
theorem BZ(O:OwnM X.prog X.w X.K X.mg X.base CX C k m ps dvs sp)(hx:xG CX X E)(hr:Room j X.A)(he:PE X o ta)(hk:k<=j:=by decide)(ht:eval (.Call (.Attribute o m apos) [] [] pos) X.env=(do
      let ov <-eval o X.env
      standAt apos.atName
      let (f,first) <-holding [ov] (getMethod ov m pl)
      callWith pos f first (backTo pos (starEach [] X.env)) (backToKw pos (keywordEach [] X.env))):=by rfl):PE X (.Call (.Attribute o m apos) [] [] pos) (DQ C m sp dvs E ta tNil):=by
  obtain ⟨f,fd,ds,F,c,hm,hb,hd⟩:=O;exact F3 he c hm F (hr.mono hk) hb hd hx ht
theorem Iw(O:OwnI X.prog X.w X.K X.mg X.base CX C k x ps dvs sp)(hx:xG CX X E)(hr:Room j X.A)(hg:Gl X x)(ha:PA X (e::es) t)(hk:k+1<=j:=by decide)(hdb:(x==("__debug__":Str))=false:=by decide)(he:starEach (e::es) X.env=(false,eval e X.env)::starEach es X.env:=by rfl)(hpl:(backTo pos (starEach es X.env)).any (·.1)=false:=by rfl):PE X (.Call (.Name x p) (e::es) [] pos) (Ie C sp dvs E t):=by
  obtain ⟨f,fd,ds,F,M,hm,hb,hd⟩:=O;exact GY M F (hr.mono hk) hg hm hb hd hx ha hdb he hpl
end
def TopM(K:iB)(C:Addr)(m qual:Str)(st:Stmt):Prop:=∃ (f:Addr) (fd:FuncData),Fun K m qual st f fd/\Meth K C m f
def TopIn (K:iB) (mg:Str->Option Value) (C:Addr) (x qual:Str) (st:Stmt) (its:List Value):Prop:=∃ (f:Addr) (fd:FuncData),FunD K "__init__" qual st f fd its/\Mk K C f/\mg x=some (.ref C)
section
variable {P:Program}{w:World}{K:iB}{mg:Str->Option Value}{base:Heap}{CX:CXT}{C:Addr}{k:Nat}{x m qual:Str}{st:Stmt}{ps ks:List Str}{dvs:List V}{its ds:List Value}{sp:Sp}
theorem TopM.own(T:TopM K C m qual st)(c:Cls K C)(hb:∀ (kV doc pm:Value) (an:Option Addr) (cdv ct:Value) (us:List Value),us.length=ps.length->bindArgs (W.fnOf m qual (defArgs st) (defBody st) (defScope st) .none kV doc pm an cdv ct) ⟨us,[]⟩=pure (ps.zip us))(h:∀ f fd,Fun K m qual st f fd->FnOk P w K mg base CX k f fd ps sp):OwnM P w K mg base CX C k m ps [] sp:=by
  obtain ⟨f,fd,F,hm⟩:=T;exact ⟨f,fd,[],h f fd F,c,hm,F.binds hb,.nil⟩
theorem TopIn.own(T:TopIn K mg C x qual st its)(hb:∀ (T:Addr) (kV doc pm:Value) (an:Option Addr) (cdv ct:Value) (us:List Value),(us++ds).length=ps.length->∃ k:Option (Array Value)->Sem (List (Str×Value)),
      bindArgs (W.fnOf "__init__" qual (defArgs st) (defBody st) (defScope st) (.ref T) kV doc pm an cdv ct) ⟨us,[]⟩=seqItems? (.ref T) >>= k/\k (some its.toArray)=pure (ps.zip (us++ds)))(hd:Vals dvs ds)(h:∀ f fd,FunD K "__init__" qual st f fd its->FnOk P w K mg base CX k f fd ps sp):OwnI P w K mg base CX C k x ps dvs sp:=by
  obtain ⟨f,fd,F,M,hm⟩:=T;exact ⟨f,fd,ds,h f fd F,M,hm,F.binds hb,hd⟩
end
variable {C f:Addr}{osl:Array (Option Value)}{an od:Option Addr}{qual:Str}{cdv ct doc oc pm:Value}
theorem topM_mk{K:iB}{m:Str}{st:Stmt}{kV:Value}(l:K.lookup f=some ⟨oc,od,.func (W.fnOf m qual (defArgs st) (defBody st) (defScope st) .none kV doc pm an cdv ct),osl⟩)(c:W.codeIn K cdv qual=true)(k:W.keepIn K (.ref f)=true)(a:W.findIn K (.ref C) m=some (some (.ref f)))(n:W.isFn K (.ref f)=true):TopM K C m qual st:=⟨f,_,GU l c k,⟨a,n,k⟩⟩
variable {its:List Value}
theorem topIn_mk{K:iB}{st:Stmt}{T:Addr}{kV:Value}{n:Nat}{to:Obj}(X:K.In h)(G:h.Ns mainGlobals mg)(l:K.lookup f=some ⟨oc,od,.func (W.fnOf "__init__" qual (defArgs st) (defBody st) (defScope st) (.ref T) kV doc pm an cdv ct),osl⟩)(c:W.codeIn K cdv qual=true)(k:W.keepIn K (.ref f)=true)(t:K.lookup T=some to)(d:to.data=.seq its.toArray n)(m:W.makesIn K C=true)(i:W.findIn K (.ref C) "__init__"=some (some (.ref f)))(nf:W.isFn K (.ref f)=true)(kc:W.keepIn K (.ref C)=true)(a:W.nsIn K mainGlobals x=some (some (.ref C))):TopIn K mg C x qual st its :=
  ⟨f,_,⟨⟨oc,od,T,kV,doc,pm,an,cdv,ct,osl,_,n,rfl,l,c,t,d⟩,k⟩,⟨m,i,nf,kc⟩,dC X G a⟩
section
variable {prog:Program}{w:World}{κ:Type}[DecidableEq κ]{knd:KeyKind prog w κ}{A:Around}{E:Value->Shared->Prop}
theorem xl:entryFor table "dict.update.loop"=some Builtin.«dict.update.loop»:=entryFor_of_tree (by kernel_rfl)
theorem vD:typeLookup (.type "list") "keys"=pure none:=by rw [typeLookup_type,builtinLookup_eq_fast]; kernel_rfl
theorem u7{s:Shared}{xs:Array Value}{k:Nat}{Q:Option Value->Shared->Prop}(hx:s.heap.get? a=some o)(hc:o.cls=.type "list")(hdat:o.data=.seq xs k)(hd:o.dict=none)(hA:A.handled=none)(q:∀ h' tk e,Heap.NewExcOf s.heap h' e "AttributeError"->Q none { s with heap:=h',toks:=tk }):wpAny (model prog w) A (getAttr? (.ref a) "keys") Q E s:=by
  obtain ⟨c,dct,dat,sl⟩:=o;simp only at hc hdat hd;subst hc hdat hd;obtain ⟨hp,g,d,tk,os⟩:=s;have tT:∀ tk',(⟨hp,g,d,tk',os⟩:Shared).TypeIs (.ref a) "list":=λ_=>⟨_,hx,rfl⟩
  have k1:=sub_AttributeError;have k3:=F.slot_list_getattribute.lookup;have k4:=F.slot_list_getattribute.bind (.ref a);have k5:=am_list_getattr_none;unfold getAttr? getAttrBy? getAttrBy;repeat (any_goals (first | assumption | exact tT _ | ((with_reducible show wpAny _ _ (call (Value.builtin "list.__getattribute__") _ _) _ _ _); refine call_meets F.slot_list_getattribute (tT _) am_entry_list_getattribute (F.args_list_getattribute_2 _ _) (meets_getattribute_miss_list a xs k sl "keys" _ vD (by decide +kernel)) ⟨hx,hA,λh' tk' e hx'=>?_⟩) | wp_step))
  obtain ⟨t',u',he⟩:=hx'.there;show wpAny _ _ (getattributeRaised _ _ _ _ _ _ _) _ _ _;unfold getattributeRaised;repeat (any_goals (first | assumption | wp_step))
  exact q _ _ _ hx'.of
theorem tq(hh:A.handled=none){R:Result->Shared->Prop}{d it l:Addr}(hdi:d≠it)(hdl:l≠d)(hli:l≠it){items:List Value}{rs:List (κ×Value)}{s0:Shared} (hit0:∀ (i:Nat) (x:Value),items[i]?=some x->∃ (p:Addr) (k:κ) (v key:Value),x=.ref p/\p≠d/\p≠it/\s0.heap.IsTuple p #[key,v]/\rs[i]?=some (k,v)/\knd.is k key=true) (hlen:rs.length=items.length) (hnd:(rs.map (·.1)).Nodup) (hsz:rs.length<=sizeLine) (hl0:s0.heap.IsList l items.toArray) (hR:∀ h' tk,h'.DictOf knd d rs->(∀ b o,b≠it->b≠d->s0.heap.get? b=some o->h'.get? b=some o)->R (.ok (.ret .none)) { s0 with heap:=h',toks:=tk }) :
    ∀ (n i:Nat) (h:Heap) (tk:Nat),items.length=i+n->h.IsListIter it l i->h.DictOf knd d (rs.take i)->(∀ b o,b≠it->b≠d->s0.heap.get? b=some o->h.get? b=some o) ->
      codeAny (model prog w) A (.builtin "dict.update.loop" ⟨[.ref d,.ref it,rawInt i,.none],[]⟩) R { s0 with heap:=h,toks:=tk }
  | 0,i,h,tk,e,hi,hd,hk=>by
    have hl:h.IsList l items.toArray:=by
      obtain ⟨o,g,c⟩:=hl0;exact ⟨o,hk l o hli hdl g,c⟩
    refine iy xl ?_;unfold Builtin.«dict.update.loop»;refine ig (wpAny_pyNext_list_end (A:=A.under _) hh hi hl (by simp; omega) λh' eb=>?_);have hd':h'.DictOf knd d rs:=by
      have:=hd.extBut eb hdi
      rwa [bJ (by omega)] at this
    exact ig (ii (ii (hR h' tk hd' λb o n1 n2 g=>eb b o n1 (hk b o n1 n2 g))))
  | n+1,i,h,tk,e,hi,hd,hk=>by
    have hl:h.IsList l items.toArray:=by
      obtain ⟨o,g,c⟩:=hl0;exact ⟨o,hk l o hli hdl g,c⟩
    obtain ⟨x,hx⟩:∃ x,items[i]?=some x:=⟨items[i]'(by omega),by simp⟩
    obtain ⟨p,k,v,key,rfl,np,npi,⟨o,go,oc,m,od⟩,hr,hkey⟩:=hit0 i x hx;refine iy xl ?_;unfold Builtin.«dict.update.loop»;refine ig (wpAny_pyNext_list_item hi hl (by simpa using hx) λh' hi' sb=>?_);have gp:h'.get? p=some o:=(sb.2 p npi).trans (hk p o npi np go);refine ig (iq ?_);refine ig (wpAny_tryCatch ?_);unfold Builtin.Dict.pairItems;refine ig (ir (s:={ s0 with heap:=h',toks:=tk }) (T:="tuple") ⟨o,gp,oc⟩ ?_);rw [h7 (by decide)];refine ig (wpAny_seqItems (s:={ s0 with heap:=h',toks:=tk }) gp od (ii ?_));show wpAny _ _ (holding [key,v] (dictSet d key v)) _ _ _;refine iq (wpAny_dictSet_pairs (s:={ s0 with heap:=h',toks:=tk }) (hsz:=by rw [aJ]; omega) hkey (hd.sameBut sb hdi) λh2 hd2 sb2=>?_);refine ii ⟨Code.quiet_builtin _ (by decide +kernel),?_⟩;have est:stored (rs.take i) k v=rs.take (i+1):=by
      rw [f7,hr];unfold stored;rw [h8]
      . rfl
      . intro z;obtain ⟨y,hy,ey⟩:=List.any_eq_true.mp z;have ey:y.1=k:=of_decide_eq_true ey;obtain ⟨j,hj,rfl⟩:=List.getElem_of_mem hy;rw [aJ] at hj;have hi2:=(af.mp hr)
        obtain ⟨hi3,hi4⟩:=hi2;refine fR.mp hnd j i (by rw [aa]; omega) (by rw [aa]; omega) (by omega) ?_;simp only [c9];rw [hi4];simpa using ey
    rw [est] at hd2;have:=tq hh hdi hdl hli hit0 hlen hnd hsz hl0 hR n (i+1) h2 (tk+1) (by omega) (hi'.at λo g=>(sb2.2 it (ca hdi)).trans g) hd2 λb o n1 n2 g=>(sb2.2 b n2).trans ((sb.2 b n1).trans (hk b o n1 n2 g));exact this
theorem vv{s:Shared}{Q:Value->Shared->Prop}{l:Addr}{ol:Obj}{n:Nat}{items:List Value}{rs:List (κ×Value)}(hh:A.handled=none)(hl:s.heap.get? l=some ol)(hc:ol.cls=.type "list")(hdat:ol.data=.seq items.toArray n)(hdd:ol.dict=none)(hit0:∀ (i:Nat) (x:Value),items[i]?=some x->∃ (p:Addr) (k:κ) (v key:Value),x=.ref p/\s.heap.IsTuple p #[key,v]/\rs[i]?=some (k,v)/\knd.is k key=true)(hlen:rs.length=items.length)(hnd:(rs.map (·.1)).Nodup)(hsz:rs.length<=sizeLine)(q:∀ h' tk,h'.DictOf knd s.heap.objs.size rs->(∀ b o,s.heap.get? b=some o->h'.get? b=some o)->Q (.ref s.heap.objs.size) { s with heap:=h',toks:=tk }) :
    wpAny (model prog w) A (call (.type "dict") [.ref l]) Q E s:=by
  refine callType_codes (Q₁:=λobj s₁=>obj=.ref s.heap.objs.size/\s₁={ s with heap:=s.heap.push { cls:=.type "dict",data:=.dict #[] } }) F.kt_called_dict (F.kt_typeCall_dict_1 _) F.entry_dict_init (kt_code_dict_new _ ⟨rfl,rfl⟩) ?_;rintro obj s₁ ⟨rfl,rfl⟩;have hnew:(s.heap.push { cls:=.type "dict",data:=.dict #[] }).DictOf knd s.heap.objs.size []:=Heap.DictOf.new s.heap;have hl1:=Heap.get?_push_of_some { cls:=.type "dict",data:=.dict #[] } hl;refine ⟨hnew.typeIs,F.args_dict_init_2 _ _,?_⟩;unfold Builtin.«dict.__init__»;refine ig ?_;unfold Builtin.Dict.selfAndRest;refine ig (wpAny_notOrdered_dict hnew.typeIs ?_);show wpAny _ _ (pure (s.heap.objs.size,[Value.ref l])) _ _ _;refine ii ?_;show wpAny _ _ (Builtin.Dict.updateFrom "dict.__init__" s.heap.objs.size (.ref l) [] .none) _ _ _;unfold Builtin.Dict.updateFrom;refine ig (ir (s:={ s with heap:=s.heap.push { cls:=.type "dict",data:=.dict #[] } }) (T:="list") ⟨ol,hl1,hc⟩ ?_);rw [h7 (by decide)];refine ig (u7 (s:={ s with heap:=s.heap.push { cls:=.type "dict",data:=.dict #[] } }) hl1 hc hdat hdd (show A.in1.in1.handled=none from hh) λh1 tk1 e1 new=>?_);simp only [Option.isNone_none,if_true];have kp:∀ b o,(s.heap.push { cls:=.type "dict",data:=.dict #[] }).get? b=some o->h1.get? b=some o:=new.keeps;have hl2:=kp _ _ hl1;refine ig (wpAny_rule ?_);refine ig (il (s:={ s with heap:=h1,toks:=tk1 }) ⟨ol,hl2,hc,n,hdat⟩ ?_);refine ii ⟨Code.quiet_builtin _ (by decide +kernel),?_⟩;have lt:∀ {b o},s.heap.get? b=some o->b<s.heap.objs.size:=λg=>Heap.lt_size g;obtain ⟨od,_,_,god,_⟩:=id hnew;have ltd:s.heap.objs.size<h1.objs.size:=Heap.lt_size (kp _ _ god);have up:∀ b o,s.heap.get? b=some o->(h1.push { cls:=.type "list_iterator",data:=.fields #[.ref l,.int 0 0] }).get? b=some o:=λb o g=>Heap.get?_push_of_some _ (kp b o (Heap.get?_push_of_some _ g));have hd0:(h1.push { cls:=.type "list_iterator",data:=.fields #[.ref l,.int 0 0] }).DictOf knd s.heap.objs.size (rs.take 0):=by
    obtain ⟨o,es,ep,g,r⟩:=hnew;exact ⟨o,es,ep,Heap.get?_push_of_some _ (kp _ _ g),r⟩
  refine tq (s0:={ s with heap:=h1.push { cls:=.type "list_iterator",data:=.fields #[.ref l,.int 0 0] },toks:=tk1 }) (A:=A.in1) (show A.in1.handled=none from hh) (d:=s.heap.objs.size) (it:=h1.objs.size) (l:=l) (az ltd) (az (lt hl)) (az (fE (lt hl) ltd)) (items:=items) (rs:=rs) (λi x hx=>?_) hlen hnd hsz ⟨ol,up _ _ hl,hc,n,hdat⟩ (λh' tk dd kk=>⟨rfl,?_⟩) items.length 0 _ tk1 (by simp) ⟨_,Heap.get?_push_size _ rfl,rfl,rfl⟩ hd0 λb o _ _ g=>g
  . obtain ⟨p,k,v,key,e,⟨o,g,c⟩,r,hk⟩:=hit0 i x hx;exact ⟨p,k,v,key,e,az (lt g),az (fE (lt g) ltd),⟨o,up _ _ g,c⟩,r,hk⟩
  . exact q h' tk dd λb o g=>kk b o (az (fE (lt g) ltd)) (az (lt g)) (up b o g)
end
def Gv:List V->Hp->VK->Prop:=λxs H Q=>∃ (l:Addr) (ps:List Addr) (kvs:List (Key×V)),xs=[.ref l]/\H l=some (.lst (ps.map V.ref))/\ps.length=kvs.length/\(∀ (i:Nat) (p:Addr) (kv:Key×V),ps[i]?=some p->kvs[i]?=some kv->H p=some (.tup [kV kv.1,kv.2]))/\(kvs.map (·.1)).Nodup/\kvs.length<=sizeLine/\∀ p,H p=none->Q (.ref p) (upd H p (.dK kvs))
def GI:List V->Hp->VK->Prop:=λxs H Q=>∃ (a:Addr) (kvs:List (Key×V)),xs=[.ref a]/\H a=some (.dK kvs)/\∀ p,H p=none->Q (.ref p) (upd H p (.dK kvs))
theorem Cr:yS X (.type "dict") GI:=by
  intro pins s σ H xs us Q I r h;obtain ⟨a,kvs,rfl,e,q⟩:=h;obtain ⟨u,rfl,ru⟩:=Vals.one r;cases ru
  exact FR I (.inl e) λp s' hp I'=>⟨.ref p,_,I',rfl,q p hp⟩
theorem BU{P:Program}{w:World}{H:Hp}{h:Heap}(ok:HOk P w H h):∀ {ps:List Addr} {kvs:List (Key×V)},ps.length=kvs.length->(∀ (i:Nat) (p:Addr) (kv:Key×V),ps[i]?=some p->kvs[i]?=some kv->H p=some (.tup [kV kv.1,kv.2])) -> ∃ rs:List (Key×Value),KV kvs rs/\∀ (i:Nat) (x:Value),(ps.map Value.ref)[i]?=some x->∃ (p:Addr) (k:Key) (v key:Value),x=.ref p/\h.IsTuple p #[key,v]/\rs[i]?=some (k,v)/\(zR P w).is k key=true
  | [],[],_,_=>⟨[],.nil,λi x e=>by simp at e⟩
  | [],_::_,e,_=>by cases e
  | _::_,[],e,_=>by cases e
  | p::ps,kv::kvs,e,hp=>by
    obtain ⟨rs,r,hr⟩:=BU ok (ps:=ps) (kvs:=kvs) (by simpa using e) λi p' kv' h1 h2=>hp (i+1) p' kv' h1 h2;obtain ⟨_,its,rv,tp⟩:=ok p _ (hp 0 p kv rfl rfl);obtain ⟨key,v,rfl,rk,rv⟩:=Vals.two rv;refine ⟨(kv.1,v)::rs,.cons ⟨rfl,rv⟩ r,λi x hx=>?_⟩;cases i with
    | zero =>
      have:x=.ref p:=(aw hx).symm;subst this;exact ⟨p,kv.1,v,key,rfl,tp,rfl,Ct rk⟩
    | succ i=>exact hr i x hx
theorem Fb:∀ {ps:List Addr} {its:List Value},Vals (ps.map V.ref) its->its=ps.map Value.ref
  | [],_,r=>by cases r; rfl
  | p::ps,_,r=>by
    cases r with
    | cons r1 r2 =>
      cases r1
      rw [Fb r2];rfl
theorem uc(hc:X.calm=true):yS X (.type "dict") Gv:=by
  intro pins s σ H xs us Q I r h;obtain ⟨l,ps,kvs,rfl,el,hlen,hps,hnd,hsz,q⟩:=h;obtain ⟨u,rfl,ru⟩:=Vals.one r;cases ru
  obtain ⟨_,its,n,rv,gl⟩:=id (I.hok l _ el);have:=Fb rv;subst this;obtain ⟨rs,rr,hr⟩:=BU I.hok hlen hps;have hl:=rr.length;refine vv (I.ok.hd hc) gl rfl rfl rfl hr (by rw [aa]; omega) (by rw [<-rr.keys]; exact hnd) (by omega) λh' tk dd kk=>?_;refine ⟨.ref s.heap.objs.size,_,I.laid (a:=s.heap.objs.size) (o:=.dK kvs) (t':=tk) kk (ai _) (Bn hsz (beq_eq_false_iff_ne.mpr (ca (az I.big))) rr dd),rfl,q _ (I.hok.fresh (ai _))⟩
variable {I S:Addr}{acc:Array Value}
section
variable {prog:Program}{w:World}{κ:Type}[DecidableEq κ]{knd:KeyKind prog w κ}{A:Around}{E:Value->Shared->Prop}
theorem wj:typeLookup (.type "dict") "__len__"=pure (some (.builtin "dict.__len__")):=by rw [typeLookup_type,builtinLookup_eq_fast]; kernel_rfl
theorem EC{s:Shared}{kvs:List (κ×Value)}{R:Result->Shared->Prop}(hh:A.handled=none)(hn:kvs.length<=sizeLine)(g1:s.heap.get? S=some { cls:=.type "list",data:=.seq ([]:List Value).toArray })(hI:s.heap.IsKeyIter I d 0 kvs.length ep)(hm:s.heap.DictAt knd d kvs ep)(nSI:S≠I)(nSd:S≠d)(ndI:d≠I)(hR:∀ (s':Shared) (acc:Array Value) (c:Nat),(∀ b o,b≠S->b≠I->s.heap.get? b=some o->s'.heap.get? b=some o)->s'.gens=s.gens->s'.drawn=s.drawn->s'.os=s.os->s'.heap.get? S=some { cls:=.type "list",dict:=none,data:=.seq acc c,slots:=#[] }->ItemsOf (λi v=>∃ k x,kvs[i]?=some (k,x)/\knd.is k v=true) acc kvs.length->R (.ok (.ret (.ref S))) s') :
    wpAny (model prog w) A.in1 (rule "list.extend.makes-room" >>= λ_=>Builtin.List.listTouch (.ref S) >>= λ_=>again (.builtin "list.extend.loop" ⟨[.ref S,.ref I,.ref S],[]⟩))
      (λfin s'=>match fin with | .done f=>R (.ok f) s' | .again c'=>c'.quiet=true/\codeAny (model prog w) A c' R s') (λe s'=>R (.error e) s') s:=by
  refine ig (wpAny_rule ?_);refine ig ?_;show wpAny _ A.in1 (updateSeq S (·.push .none) >>= λ_=>updateSeq S (·.pop)) _ _ _;refine ig (iz g1 rfl ?_);have g2:=Heap.get?_update_self (Obj.mapSeq (·.push Value.none)) g1 rfl;refine iz g2 rfl ?_;have g3:=Heap.get?_update_self (Obj.mapSeq (·.pop)) g2 rfl;have oth:∀ (b:Addr) (o:Obj),b≠S->s.heap.get? b=some o->((s.heap.update S (Obj.mapSeq (·.push Value.none))).update S (Obj.mapSeq (·.pop))).get? b=some o :=
    λb o nb g=>(Heap.get?_update_other _ _ nb.symm).trans ((Heap.get?_update_other _ _ nb.symm).trans g)
  have W:=(Walks.dictKeys (knd:=knd) (A:=A.in1) (show A.in1.handled=none from hh) I d ndI kvs ep).toS;refine ii ⟨plainId_quiet F.plain_extend_loop _,codeAny_extend_loopS W hn S ?_ _ kvs.length 0 _ _ _ rfl (bZ _) ⟨hI.at λo g=>oth I o nSI.symm g,hm.at' λo g=>oth d o nSd.symm g⟩ g3 (ItemsOf.nil _) λs' acc' c' hmv hS' hacc=>?_⟩
  . intro z;rcases aK.mp z with z|z
    . exact nSI z
    . exact nSd (by simpa using z)
  . refine hR s' acc' c' (λb o n1 n2 g=>hmv.heap b o (λz=>?_) (oth b o n1 g)) hmv.gens hmv.drawn hmv.os hS' hacc;rcases aK.mp z with z|z
    . exact n1 z
    . exact n2 (by simpa using z)
theorem uX{s:Shared}{kvs:List (κ×Value)}{Q:List Value->Shared->Prop}(hh:A.handled=none)(hds:(d==sysModules)=false)(hm:s.heap.DictAt knd d kvs ep)(hn:kvs.length<=sizeLine)(hQ:∀ (s':Shared) (acc:Array Value),(∀ b o,s.heap.get? b=some o->s'.heap.get? b=some o)->s'.gens=s.gens->s'.drawn=s.drawn->s'.os=s.os->s.heap.objs.size<s'.heap.objs.size->ItemsOf (λi v=>∃ k x,kvs[i]?=some (k,x)/\knd.is k v=true) acc kvs.length->Q acc.toList s') : wpAny (model prog w) A (collect (.ref d)) Q E s:=by
  have ltd:=hm.lt_size;unfold collect;refine ig (wpAny_runValue (iy F.entry_proto_collect ?_));rw [Around.under_plainId F.plain_proto_collect _];show wpAny _ A.in1 (newList [] >>= λl=>again (.builtin "list.__iadd__" ⟨[l,.ref d],[]⟩)) _ _ s;refine ig (ij ?_);refine ii ⟨plainId_quiet F.plain_list_iadd _,iy F.entry_list_iadd ?_⟩;rw [Around.under_plainId F.plain_list_iadd _];show wpAny _ A.in1 (Builtin.List.listExtendWith (.ref s.heap.objs.size) (.ref d) (.ref s.heap.objs.size)) _ _ _;have h1:Builtin.List.listSameRef (.ref s.heap.objs.size) (.ref d)=false:=by simp [Builtin.List.listSameRef,ca (az ltd)]
  have hm1:=hm.keep (h':=s.heap.push { cls:=.type "list",data:=.seq ([]:List Value).toArray }) λb o e=>Heap.get?_push_of_some _ e;unfold Builtin.List.listExtendWith;refine ig (ir hm1.dictOf.typeIs ?_);rw [h8 (by rw [h1]; decide)];refine ig (ix hds hm1 ?_);have hm2:=hm1.keep (h':=(s.heap.push { cls:=.type "list",data:=.seq ([]:List Value).toArray }).push { cls:=.type "dict_keyiterator",data:=.fields #[.ref d,.int 0 0,.int kvs.length 0,.int ep 0] }) λb o e=>Heap.get?_push_of_some _ e;refine ig (iq ?_);unfold Builtin.List.listLengthHint;refine ig (wpAny_specialOf hm2.dictOf.typeIs wj ?_)
  (generalize hid:("dict.__len__":String)=id0; (fail_if_success (clear hid id0)); wp_delta; rw [show splitId id0=some ("dict","__len__") from by subst hid; decide +kernel]; subst hid)
  refine ig (wpAny_isInstance (b:=true) hm2.dictOf.typeIs (by rw [isSubtype_type]; kernel_rfl) ?_);rw [h8 (by decide)];refine wpAny_ite ?_;rw [h7 (by decide)];refine ig (ir hm2.dictOf.typeIs ?_);refine ii ?_;rw [h7 (by decide)];have szI:(s.heap.push { cls:=.type "list",data:=.seq ([]:List Value).toArray }).objs.size=s.heap.objs.size+1:=Heap.size_push _ _;refine EC (s:={ s with heap:=(s.heap.push { cls:=.type "list",data:=.seq ([]:List Value).toArray }).push { cls:=.type "dict_keyiterator",data:=.fields #[.ref d,.int 0 0,.int kvs.length 0,.int ep 0] } }) (R:=λr s'=>match r with | .ok (.ret v)=>wpAny (model prog w) A (match v with | .ref a=>(do let o <-load a; match o.data with | .seq xs _=>pure xs.toList | _=>unsupported "internal:collect":Sem (List Value)) | _=>unsupported "internal:collect") Q E s' | .ok _=>False | .error e=>E e s') hh hn (S:=s.heap.objs.size) (I:=(s.heap.push { cls:=.type "list",data:=.seq ([]:List Value).toArray }).objs.size) (Heap.get?_push_of_some _ (Heap.get?_push_size _ rfl)) ⟨_,Heap.get?_push_size _ rfl,rfl,rfl⟩ hm2 (by rw [szI]; exact az (dL _)) (fw ltd) (by rw [szI]; exact az (dD ltd)) λs' acc c kk e1 e2 e3 hS' hacc=>?_;show wpAny _ A (load s.heap.objs.size >>= _) _ _ s';refine ig (wpAny_load hS' (ii (hQ s' acc (λb o g=>?_) e1 e2 e3 (Heap.lt_size hS') hacc)));have lt:=Heap.lt_size g;exact kk b o (az lt) (by rw [szI]; exact az (dD lt)) (Heap.get?_push_of_some _ (Heap.get?_push_of_some _ g))
theorem wE:∀ {l:List Value} {ns:List Int},l.length=ns.length->(∀ (j:Nat) (v:Value) (n:Int),l[j]?=some v->ns[j]?=some n->∃ t,v=.int n t)->IntsAre l ns
  | [],[],_,_=>.nil
  | [],_::_,e,_=>by cases e
  | _::_,[],e,_=>by cases e
  | v::l,n::ns,e,h=>by
    obtain ⟨t,rfl⟩:=h 0 v n rfl rfl;exact .cons n t (wE (by simpa using e) λj v' n' h1 h2=>h (j+1) v' n' h1 h2)
theorem wo{kvs:List (Key×Value)}(hk:kvs.map (·.1)=ns.map Sum.inl)(h:ItemsOf (λi v=>∃ k x,kvs[i]?=some (k,x)/\(zR prog w).is k v=true) acc kvs.length):IntsAre acc.toList ns:=by
  have hl:kvs.length=ns.length:=by
    have:=congrArg List.length hk
    rwa [aa,aa] at this
  refine wE (by rw [cX,h.1,hl]) λj v n h1 h2=>?_;obtain ⟨k,x,e1,e2⟩:=h.2 j v (by rw [<-gO]; exact h1);have:k=.inl n:=by
    have z:=congrArg (·[j]?) hk;simp only [ag,e1,h2,cZ,Option.some.injEq] at z;exact z
  subst this;exact Eu e2
theorem Az{s:Shared}{kvs:List (Key×Value)}{Q:Value->Shared->Prop}(hh:A.handled=none)(hds:(d==sysModules)=false)(hm:s.heap.DictAt (zR prog w) d kvs ep)(hk:kvs.map (·.1)=ns.map Sum.inl)(h64:kvs.length<64)(q:∀ (h':Heap) (tk p e:Nat) (vs':List Value) (ns':List Int),(∀ b o,s.heap.get? b=some o->h'.get? b=some o)->s.heap.objs.size<=p->h'.get? p=some (seqObj "list" vs'.toArray e)->IntsAre vs' ns'->ns'.Perm ns->ns'.Pairwise (·<=·)->Q (.ref p) { s with heap:=h',toks:=tk }) :
    wpAny (model prog w) A (call (.builtin "sorted") [.ref d]) Q E s:=by
  have hz:kvs.length<=sizeLine:=bK (bn h64) (by rw [im]; decide);refine Calls.call_function_entry kind_sorted plain_sorted entry_sorted (args_sorted1 _) ?_;unfold Builtin.«sorted»;refine ig (m:=checkCount "sorted" 1 1 _) (ii ?_);refine ig (uX (show A.in1.handled=none from hh) hds hm hz λs' acc kk e1 e2 e3 lts hacc=>?_);obtain ⟨h0,g0,d0,t0,o0⟩:=s;obtain ⟨h1,g1,d1,t1,o1⟩:=s';simp only at e1 e2 e3 kk hm lts;subst e1 e2 e3;have hI:=wo hk hacc;refine ig (wpAny_newList (hsz:=by rw [cX,hacc.1]; exact hz) ?_);have gl:(h1.push (seqObj "list" acc.toList.toArray 0)).get? h1.objs.size=some (seqObj "list" acc.toList.toArray 0):=Heap.get?_push_size _ rfl;refine ig (iq (wpAny_call_entry slot_list_sort ⟨_,gl,rfl⟩ entry_list_sort (list_sort_tree gl hI (by rw [cX,hacc.1]; exact h64) λout ns' a1 a2 a3=>⟨_,rfl,?_⟩) (args_list_sort _)));obtain ⟨e,he⟩:=sortedHeap_at (out:=out) gl;refine ii ⟨_,rfl,q _ t1 h1.objs.size e out.toList ns' (λb o g=>?_) (bn lts) he a1 a2 a3⟩;have lt:=Heap.lt_size (kk b o g);rw [sortedHeap_old (az lt) (by rw [Heap.size_push]; exact dD lt)];exact Heap.get?_push_of_some _ (kk b o g)
end
theorem AB{ns':List Int}(hp:ns'.Perm ns)(h1:ns'.Pairwise (·<=·))(h2:ns.Pairwise (· < ·)):ns'=ns :=
  dO (λa b _ _ h k=>Int.le_antisymm h k) h1 (h2.imp λh=>Int.le_of_lt h) hp
def Gj:List V->Hp->VK->Prop:=λxs H Q=>∃ (d:Addr) (kvs:List (Key×V)) (ns:List Int),xs=[.ref d]/\H d=some (.dK kvs)/\kvs.map (·.1)=ns.map Sum.inl/\ns.Pairwise (· < ·)/\kvs.length<64/\∀ p,H p=none->Q (.ref p) (upd H p (.lst (ns.map V.int)))
theorem yx:∀ {vs:List Value} {ns:List Int},IntsAre vs ns->Vals (ns.map V.int) vs
  | _,_,.nil=>.nil
  | _,_,.cons n t r=>.cons ⟨t,rfl⟩ (yx r)
theorem vQ(hc:X.calm=true):yS X (.builtin "sorted") Gj:=by
  intro pins s σ H xs us Q I r h;obtain ⟨d,kvs,ns,rfl,e,hk,hr,h64,q⟩:=h;obtain ⟨u,rfl,ru⟩:=Vals.one r;cases ru
  obtain ⟨z,y,vs,rel,dof⟩:=id (I.hok d _ e);obtain ⟨ep,da⟩:=dof.dictAt;have hl:=rel.length;refine Az (I.ok.hd hc) y da (by rw [<-rel.keys]; exact hk) (by omega) λh' tk p ep' vs' ns' kk hp hg hI hpm hpw=>?_;have:=AB hpm hpw hr;subst this;have hl2:(ns'.map V.int).length<=sizeLine:=by
    have:kvs.length=ns'.length:=by
      have:=congrArg List.length hk
      rwa [aa,aa] at this
    rw [aa];omega
  exact ⟨.ref p,_,I.laid (a:=p) (o:=.lst (ns'.map V.int)) (t':=tk) kk hp ⟨hl2,vs',ep',yx hI,hg⟩,rfl,q p (I.hok.fresh hp)⟩
def Ite(K:iB)(a:Addr):It :=
  ⟨λi H=>∃ xs x,SqL K H a xs/\xs[i]?=some x,
   λi H v H'=>∃ T,H T=none/\v=.ref T/\∀ xs,SqL K H a xs->∃ x,xs[i]?=some x/\H'=upd H T (.tup [.int (i:Int),x]),
   λi H=>∃ xs,SqL K H a xs/\xs.length<=i⟩
theorem Em{K:iB}{es:List Expr}{k:Nat}{pos:Pos}(a e it:Addr)(ne:e≠it):Turn P w K (.Tuple es k pos) (Ite K a) [e,it] e (λi h=>(∃ old,IsEnum h e it (i:Int) old)/\h.IsListIter it a i) where
  mem:=by simp
  obj:=λi h st c hc=>by
    obtain ⟨⟨old,he⟩,⟨o1,e1,c1,d1⟩⟩:=st;have hc':c=e\/c=it:=by simpa using hc
    rcases hc' with rfl|rfl
    . exact ⟨_,he,λv q=>by cases q⟩
    . exact ⟨o1,e1,λv q=>by rw [d1] at q; cases q⟩
  keep:=λi h h' st kk=>by
    obtain ⟨⟨old,he⟩,h1⟩:=st;exact ⟨⟨old,kk e (by simp) _ he⟩,h1.at λo q=>kk it (by simp) o q⟩
  item:=by
    intro X hP hw hK hc i pins s σ H E I hf st hg;subst hP hw hK;obtain ⟨xs,x,hq,hx⟩:=hg;obtain ⟨⟨old,he⟩,h1⟩:=st;obtain ⟨its,rv,p1,hz1⟩:=I.list hq;obtain ⟨u,hu,ru⟩:=rv.get hx;refine wpAny_pyNext_enum_item he h1 p1.isList (x:=u) (by simpa using hu) ne λh' a1 a2 a3 a4 hk=>?_;refine ⟨_,rfl,?_⟩;have lt:∀ {c o},s.heap.get? c=some o->s.heap.objs.size≠c:=λq=>fw (Heap.lt_size q);refine wpAny_letOwnedTupleGo_enum (s:={ s with heap:=h',toks:=s.toks+1 }) a1 λh2' he' hs'=>?_;have hs':Heap.SameBut e h' h2':=hs';have hT:H s.heap.objs.size=none:=I.hok.fresh (ai _);have I0:Inv X pins σ (upd H s.heap.objs.size (.tup [.int (i:Int),x])) { s with heap:=s.heap.push { cls:=.type "tuple",data:=.seq #[.int (i:Int) s.toks,u] },toks:=s.toks+1 } :=
      I.laid (t':=s.toks+1) (λb u e=>Heap.get?_push_of_some _ e) (ai _) ⟨show [V.int (i:Int),x].length<=sizeLine from yO (by simp),[.int (i:Int) s.toks,u],.cons ⟨_,rfl⟩ (.cons ru .nil),⟨_,Heap.get?_push_size _ rfl,rfl,_,rfl⟩⟩
    have hne:∀ c∈[e,it],c≠s.heap.objs.size:=λc hc=>by
      have hc':c=e\/c=it:=by simpa using hc
      rcases hc' with rfl|rfl
      . exact (lt he).symm
      . obtain ⟨_,q,_⟩:=h1; exact (lt q).symm
    have hf':∀ c∈[e,it],FpOk X pins (upd H s.heap.objs.size (.tup [.int (i:Int),x])) c:=λc hc=>by
      obtain ⟨f0,f1,f2,f3,f4,f5⟩:=hf c hc;exact ⟨by rw [zj (hne c hc)]; exact f0,f1,f2,f3,f4,f5⟩
    have I1:=Inv.turnedL (s:={ s with heap:=s.heap.push { cls:=.type "tuple",data:=.seq #[.int (i:Int) s.toks,u] },toks:=s.toks+1 }) (h':=h2') (t':=s.toks+1) (its:=[e,it]) I0 (λc o hc q=>by
      have c1:c≠e:=λq=>hc (by simp [q]);have c3:c≠it:=λq=>hc (by simp [q]);refine hs'.extBut _ _ c1 ?_;by_cases hcs:c=s.heap.objs.size
      . subst hcs;have e':some ({ cls:=.type "tuple",data:=.seq #[.int (i:Int) s.toks,u] }:Obj)=some o:=(Heap.get?_push_size s.heap rfl).symm.trans q;rw [<-e'];exact a3
      . exact hk c o c1 c3 (AO hcs q)) hf'
    refine ⟨.ref s.heap.objs.size,_,I1,rfl,⟨_,hT,rfl,λxs' q1=>⟨x,by rw [I.list_inj q1 hq]; exact hx,rfl⟩⟩,⟨⟨_,by simpa using he'⟩,a2.extBut hs'.extBut (ca ne)⟩,λc hc=>?_⟩;rw [zj (hne c hc)];exact (hf c hc).1
  done:=by
    intro X hP hw hK hc i pins s σ H E I hf st hg;subst hP hw hK;obtain ⟨xs,hq,hx⟩:=hg;obtain ⟨⟨old,he⟩,h1⟩:=st;obtain ⟨its,rv,p1,hz1⟩:=I.list hq;have l1:=rv.length;obtain ⟨f0,f1,f2,f3,f4,f5⟩:=hf it (by simp);refine wpAny_pyNext_enum_end (I.ok.hd hc) he h1 p1.isList (by simp; omega) λh' hk=>⟨rfl,I.turned (t':=s.toks) (it:=it) (λc o hc q=>hk c o hc q) f0 f1 f3 f4 f5⟩
  self:=λ_ _ _ _ _ st h=>by
    obtain ⟨⟨old,he⟩,_⟩:=st;exact wpAny_pyIter_enum he h
def Itv(K:iB)(a:Addr)(n:Nat):It :=
  ⟨λi H=>i<n/\∃ xs x,SqL K H a xs/\xs[n - 1 - i]?=some x,λi H x H'=>H'=H/\∀ xs,SqL K H a xs->xs[n - 1 - i]?=some x,λi _=>i=n⟩
theorem Ef{K:iB}(a it:Addr)(n:Nat):Turn P w K tg (Itv K a n) [it] it (λi h=>h.IsRevIter it a ((n:Int) - 1 - (i:Int))) where
  mem:=by simp
  obj:=λi h st b hb=>by
    have e:b=it:=by simpa using hb
    subst e;obtain ⟨o,e,c,d⟩:=st;exact ⟨o,e,λv z=>by rw [d] at z; cases z⟩
  keep:=λi h h' st k=>st.at λo e=>k it (by simp) o e
  item:=by
    intro X hP hw hK hc i pins s σ H E I hf st hg;subst hP hw hK;obtain ⟨hi,xs,x,hq,hx⟩:=hg;obtain ⟨its,rv,p,hz⟩:=I.list hq;obtain ⟨u,hu,ru⟩:=rv.get hx;obtain ⟨f0,f1,f2,f3,f4,f5⟩:=hf it (by simp);have e1:(n:Int) - 1 - (i:Int)=((n - 1 - i:Nat):Int):=by omega
    rw [e1] at st;refine wpAny_pyNext_rev_item st p.isList (x:=u) (by simpa using hu) λh' st' sb=>?_;have I1:Inv X pins σ H { s with heap:=h' }:=I.turned (t':=s.toks) (λb o hb e=>(sb.2 b hb).trans e) f0 f1 f3 f4 f5;obtain ⟨o,e,c,d⟩:=id st';have e2:((n - 1 - i:Nat):Int) - 1=(n:Int) - 1 - ((i+1:Nat):Int):=by omega
    rw [e2] at st';exact ⟨u,rfl,DW (s:={ s with heap:=h' }) e c d (by decide) ⟨x,H,I1,ru,⟨rfl,λys hy=>by rw [I.list_inj hy hq]; exact hx⟩,st',λb hb=>(hf b hb).1⟩⟩
  done:=by
    intro X hP hw hK hc i pins s σ H E I hf st hg;subst hP hw hK;have hg:i=n:=hg;subst hg;obtain ⟨f0,f1,f2,f3,f4,f5⟩:=hf it (by simp);have e1:(i:Int) - 1 - (i:Int)=-1:=by omega
    rw [e1] at st;exact wpAny_pyNext_rev_end (I.ok.hd hc) st λh' hk=>⟨rfl,I.turned (t':=s.toks) (it:=it) (λc o hc q=>hk c o hc q) f0 f1 f3 f4 f5⟩
  self:=λ_ _ _ _ _ st h=>wpAny_pyIter_revIter st h
theorem vK:bootBuiltins "enumerate"=some (.type "enumerate"):=by first | rfl | decide +kernel
def Kk(K:iB)(ta:TA):TI:=λσ H R=>ta σ H λvs H1=>∃ a xs,vs=[.ref a]/\SqL K H1 a xs/\R (Ite K a) H1
variable {ta:TA}
theorem uF{es:List Expr}{k:Nat}{tpos:Pos}{a:Expr}{p pos:Pos}(hg:Gl X "enumerate")(hm:X.mg "enumerate"=none)(ha:PA X [a] ta)(hs:starEach [a] X.env=[(false,eval a X.env)]:=by rfl) :
    PI X (.Tuple es k tpos) (.Call (.Name "enumerate" p) [a] [] pos) (Kk X.K ta):=by
  intro pins s σ H R I h;refine Call_ (xZ I hg hm vK (bP (thn (ha pos pins s σ H _ I h) λus s1 ⟨vs,H1,I1,r1,q1⟩=>?_) hs rfl));obtain ⟨l1,xs,e,q1,q⟩:=q1;subst e;cases r1 with
  | cons r rr =>
    cases rr
    cases r
    obtain ⟨its1,rv1,p1,hz1⟩:=I1.list q1;refine call_enumerate_list p1.isList λh' he hit hsz hk=>?_;refine wpAny_pyIter_enum (s:={ s1 with heap:=h' }) he ?_;refine ⟨_,[_,_],_,_,H1,rfl,I1.kept (t':=s1.toks) hk,Em l1 _ _ (fw (dL s1.heap.objs.size)),⟨⟨_,he⟩,hit⟩,λc hc=>?_,q⟩;have hc':c=s1.heap.objs.size+1\/c=s1.heap.objs.size:=by simpa using hc
    have hge:s1.heap.objs.size<=c:=by
      rcases hc' with rfl|rfl
      . exact dm ..
      . exact ai _
    exact I1.fpOk hge (I1.hok.fresh hge)
def Kp(K:iB)(ta:TA):TI:=λσ H R=>ta σ H λvs H1=>∃ a xs,vs=[.ref a]/\SqL K H1 a xs/\R (Itv K a xs.length) H1
theorem G9{a:Expr}{p pos:Pos}(hg:Gl X "reversed")(hm:X.mg "reversed"=none)(ha:PA X [a] ta)(hs:starEach [a] X.env=[(false,eval a X.env)]:=by rfl) :
    PI X tg (.Call (.Name "reversed" p) [a] [] pos) (Kp X.K ta):=by
  intro pins s σ H R I h;refine Call_ (xZ I hg hm boot_reversed (bP (thn (ha pos pins s σ H _ I h) λus s1 ⟨vs,H1,I1,r1,q1⟩=>?_) hs rfl));obtain ⟨l1,xs,e,q1,q⟩:=q1;subst e;cases r1 with
  | cons r rr =>
    cases rr
    cases r
    obtain ⟨its1,rv1,p1,hz1⟩:=I1.list q1;have hl:=rv1.length;refine call_reversed_list p1.isList ?_;have hit:(s1.heap.push (revObj l1 ((its1.toArray.size:Int) - 1))).IsRevIter s1.heap.objs.size l1 ((xs.length:Int) - 1 - ((0:Nat):Int)):=⟨_,Heap.get?_push_size _ rfl,rfl,by simp [revObj,hl]⟩
    refine wpAny_pyIter_revIter (s:={ s1 with heap:=_ }) hit ?_;refine ⟨_,[_],_,_,H1,rfl,I1.kept (t':=s1.toks) λb o e=>Heap.get?_push_of_some _ e,Ef l1 _ xs.length,hit,λb hb=>?_,q⟩;have e:b=s1.heap.objs.size:=by simpa using hb
    subst e;exact I1.fpOk (ai _) (I1.hok.fresh (ai _))
variable {E:Ends}
theorem B6{K:iB}{σ:St}{tb:TS}(h:ta σ H λvs H1=>∃ a xs,vs=[.ref a]/\SqL K H1 a xs/\∃ W:Nat->Nat->St->Hp->Prop,(∃ m,W 0 m σ H1)/\∀ i m σ H,W i m σ H ->
  ((Ite K a).stop i H/\E.nx σ H)\/((Ite K a).go i H/\∃ N:St->Hp->Prop,(∀ σ' H',N σ' H'->∃ m',m'<m/\W (i+1) m' σ' H')/\∀ x H',(Ite K a).yld i H x H'->g x σ H' λσ2 H2=>tb { E with nx:=N,ct:=N,bk:=E.nx } σ2 H2)) :
  tFor (Kk K ta) g tb E σ H:=h
theorem Jc{K:iB}{σ:St}{tb:TS}(h:ta σ H λvs H1=>∃ a xs,vs=[.ref a]/\SqL K H1 a xs/\∃ W:Nat->Nat->St->Hp->Prop,(∃ m,W 0 m σ H1)/\∀ i m σ H,W i m σ H ->
  ((Itv K a xs.length).stop i H/\E.nx σ H)\/((Itv K a xs.length).go i H/\∃ N:St->Hp->Prop,(∀ σ' H',N σ' H'->∃ m',m'<m/\W (i+1) m' σ' H')/\∀ x H',(Itv K a xs.length).yld i H x H'->g x σ H' λσ2 H2=>tb { E with nx:=N,ct:=N,bk:=E.nx } σ2 H2)) :
  tFor (Kp K ta) g tb E σ H:=h
theorem wT{K:iB}{xs:List V}{tb:TS}{σ:St}(Pv:Nat->St->Hp->Prop)(h0:Pv 0 σ H)(hl:∀ i σ H,i<=xs.length->Pv i σ H->SqL K H a xs)(hs:∀ i x T σ H,xs[i]?=some x->H T=none->Pv i σ H->g (.ref T) σ (upd H T (.tup [.int (i:Int),x])) λσ2 H2=>tb { D with nx:=Pv (i+1),ct:=Pv (i+1),bk:=D.nx } σ2 H2)(hd:∀ σ H,Pv xs.length σ H->D.nx σ H) :
    ∃ W:Nat->Nat->St->Hp->Prop,(∃ m,W 0 m σ H)/\∀ i m σ H,W i m σ H ->
      ((Ite K a).stop i H/\D.nx σ H)\/((Ite K a).go i H/\∃ N:St->Hp->Prop,(∀ σ' H',N σ' H'->∃ m',m'<m/\W (i+1) m' σ' H')/\∀ x H',(Ite K a).yld i H x H'->g x σ H' λσ2 H2=>tb { D with nx:=N,ct:=N,bk:=D.nx } σ2 H2):=by
  refine ⟨λi m σ H=>m=xs.length - i/\i<=xs.length/\Pv i σ H,⟨xs.length,by simp,bZ _,h0⟩,?_⟩;rintro i m σ H ⟨rfl,hi,p⟩;have q1:=hl i σ H hi p;by_cases hlt:i<xs.length
  . refine .inr ⟨⟨xs,xs[i],q1,by simp [hlt]⟩,Pv (i+1),λσ' H' p'=>⟨xs.length - (i+1),by omega,rfl,hlt,p'⟩,λv H' yy=>?_⟩;obtain ⟨T,hT,rfl,yy⟩:=yy;obtain ⟨x,hx,rfl⟩:=yy xs q1;exact hs i x T σ H hx hT p
  . have e:i=xs.length:=by omega
    subst e;exact .inl ⟨⟨xs,q1,ai _⟩,hd σ H p⟩
theorem FQ{K:iB}{xs:List V}{tb:TS}{σ:St}(Pv:Nat->St->Hp->Prop)(h0:Pv 0 σ H)(hl:∀ i σ H,i<=xs.length->Pv i σ H->SqL K H a xs)(hs:∀ i x σ H,i<xs.length->xs[xs.length - 1 - i]?=some x->Pv i σ H->g x σ H λσ2 H2=>tb { D with nx:=Pv (i+1),ct:=Pv (i+1),bk:=D.nx } σ2 H2)(hd:∀ σ H,Pv xs.length σ H->D.nx σ H) :
    ∃ W:Nat->Nat->St->Hp->Prop,(∃ m,W 0 m σ H)/\∀ i m σ H,W i m σ H ->
      ((Itv K a xs.length).stop i H/\D.nx σ H)\/((Itv K a xs.length).go i H/\∃ N:St->Hp->Prop,(∀ σ' H',N σ' H'->∃ m',m'<m/\W (i+1) m' σ' H')/\∀ x H',(Itv K a xs.length).yld i H x H'->g x σ H' λσ2 H2=>tb { D with nx:=N,ct:=N,bk:=D.nx } σ2 H2):=by
  refine ⟨λi m σ H=>m=xs.length - i/\i<=xs.length/\Pv i σ H,⟨xs.length,by simp,bZ _,h0⟩,?_⟩;rintro i m σ H ⟨rfl,hi,p⟩;have q:=hl i σ H hi p;by_cases hlt:i<xs.length
  . have hj:xs.length - 1 - i<xs.length:=by omega
    refine .inr ⟨⟨hlt,xs,xs[xs.length - 1 - i],q,by simp [hj]⟩,Pv (i+1),λσ' H' p'=>⟨xs.length - (i+1),by omega,rfl,hlt,p'⟩,λx H' y=>?_⟩;obtain ⟨e,y⟩:=y;subst e;exact hs i x σ _ hlt (y xs q) p
  . have e:i=xs.length:=by omega
    subst e;exact .inl ⟨rfl,hd σ H p⟩
def Gg(K:iB):List V->Hp->VK->Prop:=λxs H Q=>∃ (a:Addr) (ns ms:List Int),xs=[.ref a]/\SqL K H a (ns.map V.int)/\ms.Perm ns/\ms.Pairwise (·<=·)/\ns.length<64/\∀ p,H p=none->Q (.ref p) (upd H p (.lst (ms.map V.int)))
theorem wI:∀ {vs:List Value} {ns:List Int},Vals (ns.map V.int) vs->IntsAre vs ns
  | _,[],.nil=>.nil
  | _,n::ns,.cons ⟨t,e⟩ r=>by rw [e]; exact .cons n t (wI r)
theorem ua:yS X (.builtin "sorted") (Gg X.K):=by
  intro pins s σ H xs us Q I r h;obtain ⟨a,ns,ms,rfl,hq,hp,hs,h64,q⟩:=h;obtain ⟨u,rfl,ru⟩:=Vals.one r;cases ru
  obtain ⟨its,rv,p1,hz1⟩:=I.list hq;have hl:=rv.length;rw [aa] at hl;refine sorted_ints p1.isList (wI rv) (by omega) λout ns' a1 a2 a3=>?_;have e:ns'=ms:=dO (λa b _ _ h k=>Int.le_antisymm h k) a3 hs (a2.trans hp.symm);subst e;obtain ⟨ep,he⟩:=sortedAll_at s.heap its out;have hl2:(ns'.map V.int).length<=sizeLine:=by
    rw [aa,a2.length_eq];exact bK (bn h64) (by rw [im]; decide)
  exact ⟨.ref _,_,I.laid (a:=s.heap.objs.size+1) (o:=.lst (ns'.map V.int)) (t':=s.toks) (λ_ _=>sortedAll_old) (d9 _) ⟨hl2,out.toList,ep,yx a1,by simpa using he⟩,rfl,q _ (I.hok.fresh (d9 _))⟩
theorem E5{K:iB}{ms:List Int}(h:H a=some (.lst (ns.map V.int)))(hp:ms.Perm ns)(hs:ms.Pairwise (·<=·))(hl:ns.length<64)(q:∀ p H2,H p=none->Same H H2->H2 p=some (.lst (ms.map V.int))->Q (.ref p) H2):Gg K [.ref a] H Q :=
  ⟨a,ns,ms,rfl,SqL.of h,hp,hs,hl,λp hn=>q p _ hn (zA hn _) zf⟩
variable {e:Expr}{te:TE}{p1 p2 pos pos2:Pos}
def tLRg(te:TE):TE:=λσ H Q=>te σ H λx H1=>∃ n:Nat,x=.int (n:Int)/\n<=1000/\∀ l,H1 l=none->Q (.ref l) (upd H1 l (.lst (((List.range n).map λk:Nat=>(k:Int)).map V.int)))
theorem HI{n:Nat}(h:ItemsOf (λi v=>∃ t,v=.int (0+(i:Int)*1) t) acc n):Vals (((List.range n).map λk:Nat=>(k:Int)).map V.int) acc.toList:=by
  refine yx (wE (by simp [h.1]) λj v m h1 h2=>?_);have h3:acc[j]?=some v:=by rw [<-gO]; exact h1
  obtain ⟨t,rfl⟩:=h.2 j v h3;have hj:=(Array.getElem?_eq_some_iff.mp h3).1;rw [h.1] at hj;rw [ag,cK hj] at h2;have:(j:Int)=m:=aw h2;exact ⟨t,by rw [<-this,cJ,dj]⟩
theorem EB(hc:X.calm=true)(hg1:Gl X "list")(hm1:X.mg "list"=none)(b1:bootBuiltins "list"=some (.type "list"))(hg2:Gl X "range")(hm2:X.mg "range"=none)(he:PE X e te)(hs1:starEach [Expr.Call (.Name "range" p2) [e] [] pos2] X.env=[(false,eval (Expr.Call (.Name "range" p2) [e] [] pos2) X.env)]:=by rfl)(hs2:starEach [e] X.env=[(false,eval e X.env)]:=by rfl) :
    PE X (.Call (.Name "list" p1) [.Call (.Name "range" p2) [e] [] pos2] [] pos) (tLRg te):=by
  intro pins s σ H Q I h;refine ip (xZ I hg1 hm1 b1 ?_);refine bP ?_ hs1 rfl;rw [hs1];refine Calls.spliced_cons ?_;refine ip (xZ I hg2 hm2 boot_range ?_);refine bP ?_ hs2 rfl;rw [hs2];refine Calls.spliced_cons (thn (he pins s σ H _ I h) λv s1 ⟨x,H1,I1,r1,q1⟩=>Calls.spliced_nil ?_);obtain ⟨n,rfl,hn,q⟩:=q1;obtain ⟨t,rfl⟩:=r1;refine call_range_1 (Calls.spliced_nil ?_);have hz:Builtin.Range.rangeSize 0 (n:Int) 1=(n:Int):=by rw [rangeSize_one]; split <;> omega
  refine call_list_range (A:=X.A) (n:=n) (I1.ok.hd hc) (IsRange.new ..) (small_one (by omega) (by omega) (by omega) (by omega)) hz (by omega) λh' tk acc c' hk hS hacc=>?_;have hsz:(s1.heap.push { cls:=.type "range",data:=.fields #[.int 0 s1.toks,.int (n:Int) t,.int 1 (s1.toks+1)] }).objs.size=s1.heap.objs.size+1:=by simp [Heap.push]
  have kp:∀ b u,s1.heap.get? b=some u->h'.get? b=some u:=λb u eb=>hk b u (Heap.get?_push_of_some _ eb);have hge:s1.heap.objs.size<=(s1.heap.push { cls:=.type "range",data:=.fields #[.int 0 s1.toks,.int (n:Int) t,.int 1 (s1.toks+1)] }).objs.size:=by rw [hsz]; omega
  have rv:=HI hacc;have hlen:(((List.range n).map λk:Nat=>(k:Int)).map V.int).length<=sizeLine:=by
    rw [aa,aa,bf];exact bK hn (by rw [im]; decide)
  exact ⟨.ref _,_,I1.laid (t':=tk) kp hge (show ObjOk X.prog X.w _ h' _ (.lst (((List.range n).map λk:Nat=>(k:Int)).map V.int)) from ⟨hlen,acc.toList,c',rv,by simpa using hS⟩),rfl,q _ (I1.hok.fresh hge)⟩
theorem Fv{σ:St}(h:te σ H λx H1=>∃ n:Nat,x=.int (n:Int)/\n<=1000/\∀ l,H1 l=none->Q (.ref l) (upd H1 l (.lst (((List.range n).map λk:Nat=>(k:Int)).map V.int)))):tLRg te σ H Q:=h
variable {t:TS}
theorem st_of{σ σ':St}(e:σ=σ')(h:t D σ' H):t D σ H:=e ▸ h
theorem IR{u:TS}{σ:St}(h:∀ N:St->Hp->Prop,(∀ σ' H',u D σ' H'->N σ' H')->t { D with nx:=N } σ H):tSeq t u D σ H:=h (u D) λ_ _ h=>h
theorem ps_s(i:Nat){pos':Pos}(hN:X.N.Nodup)(he:PE X e te)(hi:X.N[i]?=some x:=by rfl)(hx:Loc X.env.scope x:=by first | exact Or.inl rfl | exact Or.inr rfl)(hs:swapsWith e (some (.Name x pos')) pos.line X.env=pure false:=by rfl)(hf:X.fn x=true\/X.env.scope.names.lookup x=some .local:=by first | exact .inl rfl | exact .inr rfl | assumption):PS X (.Assign [.Name x pos'] e pos) (tAsg te (Cw i)):=JE hN hi hx he hs hf
theorem pg_n(i:Nat)(hN:X.N.Nodup)(hi:X.N[i]?=some x:=by rfl)(hx:Loc X.env.scope x:=by first | exact Or.inl rfl | exact Or.inr rfl)(hf:X.fn x=true\/X.env.scope.names.lookup x=some .local:=by first | exact .inl rfl | exact .inr rfl | assumption):PG X (.Name x pos) (Cw i):=HH hN hi hx hf
theorem pe_i{a b:Expr}{ta tb:TE}{r:R2}(hr:IxR X r)(ha:PE X a ta)(hb:PE X b tb)(hs:uJ b:=by exact λ_ _=>rfl):PE X (.Subscript a b pos) (tOp r ta tb):=Ic hr ha hb hs
theorem pa1(ha:PE X e te)(hs:starEach [e] X.env=(false,eval e X.env)::starEach [] X.env:=by rfl):PA X [e] (ti te tNil):=zu ha yz hs
variable {tf:TE}
theorem pa2{f:Expr}(ha:PE X e te)(hb:PE X f tf)(hs:starEach [e,f] X.env=(false,eval e X.env)::starEach [f] X.env:=by rfl)(ht:starEach [f] X.env=(false,eval f X.env)::starEach [] X.env:=by rfl):PA X [e,f] (ti te (ti tf tNil)):=zu ha (pa1 hb ht) hs
theorem pa3{f g:Expr}{tg:TE}(ha:PE X e te)(hb:PE X f tf)(hc:PE X g tg)(hs:starEach [e,f,g] X.env=(false,eval e X.env)::starEach [f,g] X.env:=by rfl)(ht:starEach [f,g] X.env=(false,eval f X.env)::starEach [g] X.env:=by rfl)(hu:starEach [g] X.env=(false,eval g X.env)::starEach [] X.env:=by rfl):PA X [e,f,g] (ti te (ti tf (ti tg tNil))):=zu ha (pa2 hb hc ht hu) hs
variable {fd:FuncData}{base:Heap}{ps:List Str}{sp:Sp}
theorem Fun.okA{K:iB}{st:Stmt}{N:List Str}{k:Nat}(F:Fun K x qual st f fd)(S:FnScope N ps (defScope st))(hbody:∀ (cdv:Value) (A:Around) (outer:List Env) (s:Shared) (H:Hp) (vs:List V) (Q:VK) (E:XK),Room k (A.deeper (envOfC qual (defScope st) s.heap.objs.size f cdv))->sp vs H Q E->∃ t,PSs (cxOf CX0 P w K mg base N qual (defScope st) f cdv A outer s H E).nox (defBody st) t/\t { nx:=λ_ H'=>Q .non H',rt:=Q } (start N vs) H)(len:∀ vs H Q E,sp vs H Q E->vs.length=ps.length:=by intro vs H Q E h; cases h; subst_vars; rfl):FnOk P w K mg base CX0 (k+1) f fd ps sp:=F.ok S len hbody
theorem FunD.okA{K:iB}{st:Stmt}{N:List Str}{k:Nat}(F:FunD K x qual st f fd its)(S:FnScope N ps (defScope st))(hbody:∀ (cdv:Value) (A:Around) (outer:List Env) (s:Shared) (H:Hp) (vs:List V) (Q:VK) (E:XK),Room k (A.deeper (envOfC qual (defScope st) s.heap.objs.size f cdv))->sp vs H Q E->∃ t,PSs (cxOf CX0 P w K mg base N qual (defScope st) f cdv A outer s H E).nox (defBody st) t/\t { nx:=λ_ H'=>Q .non H',rt:=Q } (start N vs) H)(len:∀ vs H Q E,sp vs H Q E->vs.length=ps.length:=by intro vs H Q E h; cases h; subst_vars; rfl):FnOk P w K mg base CX0 (k+1) f fd ps sp:=F.ok S len hbody
theorem ifn{A B:Prop}{p:Prop}[Decidable p](q:B)(h:¬ p:=by decide +kernel):if decide p=true then A else B:=by rw [hZ h]; exact q
variable {p':Pos}
theorem pit(k:Nat){n:Int}{j:Nat}{p:Pos}(hN:X.N[k]?=some x:=by rfl)(hv:Vis X.env.scope x:=by first | exact Or.inl rfl | exact Or.inr (Or.inl rfl) | exact Or.inr (Or.inr rfl))(hd:(x==("__debug__":Str))=false:=by decide)(hcd:(x==("__classdict__":Str))=false:=by decide)(hs:uJ (.Constant (.int n) j p'):=by exact λ_ _=>rfl):PE X (.Subscript (.Name x p) (.Constant (.int n) j p') pos) (tOp (rIxT X.K) (tVar k) (tC (.int n))):=Ic zT (pv k hN hv hd hcd) zd hs
theorem pil(k:Nat){n:Int}{j:Nat}{p:Pos}(hN:X.N[k]?=some x:=by rfl)(hv:Vis X.env.scope x:=by first | exact Or.inl rfl | exact Or.inr (Or.inl rfl) | exact Or.inr (Or.inr rfl))(hd:(x==("__debug__":Str))=false:=by decide)(hcd:(x==("__classdict__":Str))=false:=by decide)(hs:uJ (.Constant (.int n) j p'):=by exact λ_ _=>rfl):PE X (.Subscript (.Name x p) (.Constant (.int n) j p') pos) (tOp (rIxL X.K) (tVar k) (tC (.int n))):=Ic zE (pv k hN hv hd hcd) zd hs
variable {n0:Nat}{res:Value}
section
variable {prog:Program}{w:World}{κ:Type}[DecidableEq κ]{knd:KeyKind prog w κ}{A:Around}{E:Value->Shared->Prop}
theorem Cp{s:Shared}{kvs:List (κ×Value)}{R:Result->Shared->Prop}(hh:A.handled=none)(hn:kvs.length<=sizeLine)(g1:s.heap.get? S=some { cls:=.type "list",data:=.seq #[] n0 })(hI:s.heap.IsKeyIter I d 0 kvs.length ep)(hm:s.heap.DictAt knd d kvs ep)(nSI:S≠I)(nSd:S≠d)(ndI:d≠I)(hR:∀ (s':Shared) (acc:Array Value) (c:Nat),(∀ b o,b≠S->b≠I->s.heap.get? b=some o->s'.heap.get? b=some o)->s'.gens=s.gens->s'.drawn=s.drawn->s'.os=s.os->s'.heap.get? S=some { cls:=.type "list",dict:=none,data:=.seq acc c,slots:=#[] }->ItemsOf (λi v=>∃ k x,kvs[i]?=some (k,x)/\knd.is k v=true) acc kvs.length->R (.ok (.ret res)) s') :
    wpAny (model prog w) A.in1 (rule "list.extend.makes-room" >>= λ_=>Builtin.List.listTouch (.ref S) >>= λ_=>again (.builtin "list.extend.loop" ⟨[.ref S,.ref I,res],[]⟩))
      (λfin s'=>match fin with | .done f=>R (.ok f) s' | .again c'=>c'.quiet=true/\codeAny (model prog w) A c' R s') (λe s'=>R (.error e) s') s:=by
  refine ig (wpAny_rule ?_);refine ig ?_;show wpAny _ A.in1 (updateSeq S (·.push .none) >>= λ_=>updateSeq S (·.pop)) _ _ _;refine ig (iz g1 rfl ?_);have g2:=Heap.get?_update_self (Obj.mapSeq (·.push Value.none)) g1 rfl;refine iz g2 rfl ?_;have g3:=Heap.get?_update_self (Obj.mapSeq (·.pop)) g2 rfl;have oth:∀ (b:Addr) (o:Obj),b≠S->s.heap.get? b=some o->((s.heap.update S (Obj.mapSeq (·.push Value.none))).update S (Obj.mapSeq (·.pop))).get? b=some o :=
    λb o nb g=>(Heap.get?_update_other _ _ nb.symm).trans ((Heap.get?_update_other _ _ nb.symm).trans g)
  have W:=(Walks.dictKeys (knd:=knd) (A:=A.in1) (show A.in1.handled=none from hh) I d ndI kvs ep).toS;refine ii ⟨plainId_quiet F.plain_extend_loop _,codeAny_extend_loopS W hn S ?_ _ kvs.length 0 _ _ _ rfl (bZ _) ⟨hI.at λo g=>oth I o nSI.symm g,hm.at' λo g=>oth d o nSd.symm g⟩ g3 (ItemsOf.nil _) λs' acc' c' hmv hS' hacc=>?_⟩
  . intro z;rcases aK.mp z with z|z
    . exact nSI z
    . exact nSd (by simpa using z)
  . refine hR s' acc' c' (λb o n1 n2 g=>hmv.heap b o (λz=>?_) (oth b o n1 g)) hmv.gens hmv.drawn hmv.os hS' hacc;rcases aK.mp z with z|z
    . exact n1 z
    . exact n2 (by simpa using z)
theorem AG{s:Shared}{kvs:List (κ×Value)}{R:Result->Shared->Prop}(hh:A.handled=none)(hds:(d==sysModules)=false)(hn:kvs.length<=sizeLine)(g1:s.heap.get? S=some { cls:=.type "list",data:=.seq #[] n0 })(hm:s.heap.DictAt knd d kvs ep)(nSd:S≠d)(hR:∀ (s':Shared) (acc:Array Value) (c:Nat),(∀ b o,b≠S->s.heap.get? b=some o->s'.heap.get? b=some o)->s'.gens=s.gens->s'.drawn=s.drawn->s'.os=s.os->s'.heap.get? S=some { cls:=.type "list",dict:=none,data:=.seq acc c,slots:=#[] }->ItemsOf (λi v=>∃ k x,kvs[i]?=some (k,x)/\knd.is k v=true) acc kvs.length->R (.ok (.ret res)) s') :
    wpAny (model prog w) A.in1 (Builtin.List.listExtendWith (.ref S) (.ref d) res)
      (λfin s'=>match fin with | .done f=>R (.ok f) s' | .again c'=>c'.quiet=true/\codeAny (model prog w) A c' R s') (λe s'=>R (.error e) s') s:=by
  have h1:Builtin.List.listSameRef (.ref S) (.ref d)=false:=by simp [Builtin.List.listSameRef,nSd]
  unfold Builtin.List.listExtendWith;refine ig (ir hm.dictOf.typeIs ?_);rw [h8 (by rw [h1]; decide)];refine ig (ix hds hm ?_);have hm2:=hm.keep (h':=s.heap.push { cls:=.type "dict_keyiterator",data:=.fields #[.ref d,.int 0 0,.int kvs.length 0,.int ep 0] }) λb o e=>Heap.get?_push_of_some _ e;refine ig (iq ?_);unfold Builtin.List.listLengthHint;refine ig (wpAny_specialOf hm2.dictOf.typeIs wj ?_)
  (generalize hid:("dict.__len__":String)=id0; (fail_if_success (clear hid id0)); wp_delta; rw [show splitId id0=some ("dict","__len__") from by subst hid; decide +kernel]; subst hid)
  refine ig (wpAny_isInstance (b:=true) hm2.dictOf.typeIs (by rw [isSubtype_type]; kernel_rfl) ?_);rw [h8 (by decide)];refine wpAny_ite ?_;rw [h7 (by decide)];refine ig (ir hm2.dictOf.typeIs ?_);refine ii ?_;rw [h7 (by decide)];have ltS:=Heap.lt_size g1;refine Cp (s:={ s with heap:=s.heap.push { cls:=.type "dict_keyiterator",data:=.fields #[.ref d,.int 0 0,.int kvs.length 0,.int ep 0] } }) (R:=R) hh hn (S:=S) (I:=s.heap.objs.size) (Heap.get?_push_of_some _ g1) ⟨_,Heap.get?_push_size _ rfl,rfl,rfl⟩ hm2 (az ltS) nSd (az hm.lt_size) λs' acc c kk e1 e2 e3 hS' hacc=>?_;exact hR s' acc c (λb o n g=>kk b o n (az (Heap.lt_size g)) (Heap.get?_push_of_some _ g)) e1 e2 e3 hS' hacc
theorem vJ{s:Shared}{kvs:List (κ×Value)}{Q:Value->Shared->Prop}(hh:A.handled=none)(hds:(d==sysModules)=false)(hn:kvs.length<=sizeLine)(hm:s.heap.DictAt knd d kvs ep)(hQ:∀ (s':Shared) (acc:Array Value) (c:Nat),(∀ b o,s.heap.get? b=some o->s'.heap.get? b=some o)->s'.gens=s.gens->s'.drawn=s.drawn->s'.os=s.os->s'.heap.get? s.heap.objs.size=some { cls:=.type "list",dict:=none,data:=.seq acc c,slots:=#[] }->ItemsOf (λi v=>∃ k x,kvs[i]?=some (k,x)/\knd.is k v=true) acc kvs.length->Q (.ref s.heap.objs.size) s') :
    wpAny (model prog w) A (call (.type "list") [.ref d]) Q E s:=by
  refine callType_codes (Q₁:=λobj s₁=>obj=.ref s.heap.objs.size/\s₁={ s with heap:=s.heap.push { cls:=.type "list",data:=.seq #[] } }) F.called_list (F.typeCall_list_1 _) F.entry_list_init
    (code_list_new _ ⟨rfl,rfl⟩) λobj s₁ h₁=>?_
  obtain ⟨rfl,rfl⟩:=h₁;have hS:(s.heap.push { cls:=.type "list",data:=.seq #[] }).get? s.heap.objs.size=some { cls:=.type "list",data:=.seq #[] }:=Heap.get?_push_size _ rfl;have hm1:=hm.keep (h':=s.heap.push { cls:=.type "list",data:=.seq #[] }) λb o e=>Heap.get?_push_of_some _ e;have nSd:s.heap.objs.size≠d:=ca (az hm.lt_size);refine ⟨⟨_,hS,rfl⟩,F.args_list_init_2 _ _,?_⟩;show wpAny _ _ (do let old <-Builtin.List.listItems (.ref s.heap.objs.size); Builtin.List.listUpdate (.ref s.heap.objs.size) (λ_=>#[]); letGo old.toList.reverse; Builtin.List.listExtendWith (.ref s.heap.objs.size) (.ref d) .none) _ _ _;refine ig ?_;unfold Builtin.List.listItems;refine ig (wpAny_seqItems hS rfl (ii ?_));show wpAny _ _ (updateSeq s.heap.objs.size (λ_=>#[]) >>= λ_=>letGo (#[]:Array Value).toList.reverse >>= λ_=>Builtin.List.listExtendWith (.ref s.heap.objs.size) (.ref d) .none) _ _ _;refine ig (iz hS rfl ?_);have hS2:=Heap.get?_update_self (Obj.mapSeq (λ_=>(#[]:Array Value))) hS rfl;have oth:∀ b o,b≠s.heap.objs.size->(s.heap.push { cls:=.type "list",data:=.seq #[] }).get? b=some o->((s.heap.push { cls:=.type "list",data:=.seq #[] }).update s.heap.objs.size (Obj.mapSeq (λ_=>(#[]:Array Value)))).get? b=some o :=
    λb o hb e=>(Heap.get?_update_other _ _ (ca hb)).trans e
  have hm3:=hm1.at' (h':=(s.heap.push { cls:=.type "list",data:=.seq #[] }).update s.heap.objs.size (Obj.mapSeq (λ_=>(#[]:Array Value)))) λo g=>oth d o (ca nSd) g;refine ig (wpAny_letGo ?_);refine AG (A:=A.in1) hh hds hn hS2 hm3 nSd λs' acc c kk e1 e2 e3 hS' hacc=>?_;exact ⟨rfl,hQ s' acc c (λb o g=>kk b o (az (Heap.lt_size g)) (oth b o (az (Heap.lt_size g)) (Heap.get?_push_of_some _ g))) e1 e2 e3 hS' hacc⟩
end
def Kh:List V->Hp->VK->Prop:=λxs H Q=>∃ (d:Addr) (kvs:List (Key×V)) (ns:List Int),xs=[.ref d]/\H d=some (.dK kvs)/\kvs.map (·.1)=ns.map Sum.inl/\kvs.length<=1000/\∀ p,H p=none->Q (.ref p) (upd H p (.lst (ns.map V.int)))
theorem Eg(hc:X.calm=true):yS X (.type "list") Kh:=by
  intro pins s σ H xs us Q I r h;obtain ⟨d,kvs,ns,rfl,e,hk,h64,q⟩:=h;obtain ⟨u,rfl,ru⟩:=Vals.one r;cases ru
  obtain ⟨z,y,vs,rel,dof⟩:=id (I.hok d _ e);obtain ⟨ep,da⟩:=dof.dictAt;have hl:=rel.length;have hz:vs.length<=sizeLine:=bK (show vs.length<=1000 by omega) (by rw [im]; decide);refine vJ (I.ok.hd hc) y hz da λs' acc c kk e1 e2 e3 hS' hacc=>?_;obtain ⟨h0,g0,d0,t0,o0⟩:=s;obtain ⟨h1,g1,d1,t1,o1⟩:=s';simp only at e1 e2 e3 kk hS';subst e1 e2 e3;have hI:=wo (by rw [<-rel.keys]; exact hk) hacc;have hl2:(ns.map V.int).length<=sizeLine:=by
    have:kvs.length=ns.length:=by
      have:=congrArg List.length hk
      rwa [aa,aa] at this
    rw [aa];omega
  exact ⟨.ref h0.objs.size,_,I.laid (a:=h0.objs.size) (o:=.lst (ns.map V.int)) (t':=t1) kk (ai _) ⟨hl2,acc.toList,c,yx hI,by rw [Array.toArray_toList]; exact hS'⟩,rfl,q _ (I.hok.fresh (ai _))⟩
theorem J3(h:H d=some (.dK kvs))(hk:kvs.map (·.1)=ns.map Sum.inl)(hl:kvs.length<=1000)(q:∀ (p:Addr) (H2:Hp),H p=none->Same H H2->H2 p=some (.lst (ns.map V.int))->Q (.ref p) H2):Kh [.ref d] H Q :=
  ⟨d,kvs,ns,rfl,h,hk,hl,λp hp=>q p _ hp (zA hp _) zf⟩
end L2
local macro_rules | `(tactic| walk_at "sc")=>`(tactic| exact ⟨rfl,rfl,rfl,by decide +kernel,rfl,by decide +kernel,by decide +kernel⟩)
local macro_rules | `(tactic| walk_at "s")=>`(tactic| ((refine L2.st_of (by dsimp only [L2.start,List.map,List.length,Nat.zero_add,Nat.reduceAdd,Nat.reduceSub,List.replicate,List.cons_append,List.nil_append]) ?_); try dsimp only [L2.cx_K]))
local macro_rules | `(tactic| omega)=>`(tactic| first | lia | omega +splitNatSub)
open PySem PySem.Spec PyProof.Rows L2 Bg
local macro_rules | `(tactic| walk_at "bd")=>`(tactic| first | assumption | ((with_reducible show Bd _ (-_)); exact Bd.neg (by walk_at "bd")) | ((with_reducible show Bd _ (_*_)); exact Bd.mul (by walk_at "bd") (by walk_at "bd")) | ((with_reducible show Bd _ (_+_)); exact Iv (by walk_at "bd") (by walk_at "bd")) | ((with_reducible show Bd _ (_ - _)); exact Iu (by walk_at "bd") (by walk_at "bd")) | ((with_reducible show Bd _ (_ ^ _)); exact bd_powx (by walk_at "bd")) | ((with_reducible show Bd _ (_ / _)); exact AK (by walk_at "bd")) | ((with_reducible show Bd _ (_ % _)); exact Ir (by walk_at "bd") (by decide +kernel)) | ((with_reducible show Bd _ (Int.fdiv _ _)); exact Bd.fdiv (by walk_at "bd") _) | exact Bd.abs (by walk_at "bd") | exact DV _)
local macro_rules | `(tactic| walk_at "cd")=>`(tactic| first | assumption | decide | omega | exact ⟨by decide,by decide +kernel⟩ | exact Bd.ok (by walk_at "bd") (by walk_at "bd") (by decide +kernel) | exact cpw_of (by walk_at "bd") (by decide) (by decide +kernel) | decide +kernel)
local macro_rules | `(tactic| walk_at "rd")=>`(tactic| first | ((with_reducible refine IR ?_); intro _ _) | with_reducible refine i_asg ?_ | ((with_reducible refine i_gname ?_); try dsimp only [List.set_cons_zero,List.set_cons_succ]) | with_reducible refine i_ret ?_ | with_reducible refine i_drop ?_ | with_reducible refine i_ifS ?_ | with_reducible refine i_next ?_ | ((with_reducible show tVar _ _ _ _); refine i_var rfl ?_) | with_reducible refine i_c ?_ | with_reducible refine i_op ?_ | with_reducible refine i_un ?_ | with_reducible refine i_I0 ?_ | ((with_reducible show rI _ _ (V.int _) (V.int _) _ _); first | refine i_I ?_ (by walk_at "cd") | refine i_I ?_ ?c) | with_reducible refine i_U ?_ | with_reducible refine Le ?_ | with_reducible refine Lg ?_ | with_reducible refine i_eqB ?_ | with_reducible refine i_neB ?_ | with_reducible refine JU ?_ | with_reducible refine i_tB ?_ | with_reducible refine i_bl ?_ | with_reducible refine LD ?_ | with_reducible refine i_or ?_ | with_reducible refine LF ?_ | with_reducible refine Kq ?_ | with_reducible refine Lc ?_ | with_reducible refine Kj ?_ | with_reducible refine KN ?_ | with_reducible refine LM ?_ | with_reducible refine IY ?_ | with_reducible refine Jq ?_ | with_reducible refine i_callK ?_ | with_reducible refine i_cb ?_ | with_reducible refine Li ?_ | with_reducible refine LJ ?_ | with_reducible refine if_t ?_ | with_reducible refine if_f ?_ | with_reducible refine JK ?_ | with_reducible refine KG ?_ | with_reducible refine KK ?_ | with_reducible refine JB ?_ | with_reducible refine Lq ?_ | with_reducible refine JR ?_ | with_reducible refine FH ?_ | with_reducible refine Dz ?_ | with_reducible refine i_is_bool ?_ | with_reducible refine F6 (by assumption) ?_ | with_reducible refine JX (by assumption) ?_ | with_reducible refine Jw (by assumption) ?_ | ((with_reducible show rIxT _ (V.ref _) (V.int _) _ _); first | refine wD (by assumption) (by rfl) ?_ | refine Lv (by assumption) (by rfl) ?_) | ((with_reducible show rIxL _ (V.ref _) (V.int _) _ _); refine zw (by assumption) (by rfl) ?_) | with_reducible refine i_bm ?_ | with_reducible refine KO (by assumption) ?_ | with_reducible refine i_sl ?_ | with_reducible refine Fd ?_ | with_reducible refine Ja ?_ | with_reducible refine Lx ?_ | with_reducible refine Lf ?_ | with_reducible refine Jp ?_ | ((with_reducible show gTup _ _ _ (V.ref _) _ _ _); refine J5 (by assumption) (by rfl) ?_) | with_reducible refine Iq ?_ | with_reducible refine IV ?_ | with_reducible refine Lm ?_ | with_reducible refine (show ∀ σ' H',_->_ from by assumption) _ _ ?_)
local macro_rules | `(tactic| walk_at "mm")=>`(tactic| repeat first | exact aB | refine ay _ ?_)
local macro_rules | `(tactic| walk_at "rd")=>`(tactic| first | with_reducible refine i_min ?_ | with_reducible refine LN ?_ | with_reducible refine LK ?_ | with_reducible refine Fn ?_ | with_reducible refine KZ ?_ | with_reducible refine i_fF ?_ | with_reducible refine i_fVal0 ?_ | with_reducible refine i_fInt0 ?_ | with_reducible refine i_tyS ?_ | with_reducible refine Lw ?_ | with_reducible refine Ku ?_)
local macro_rules | `(tactic| walk_at "b8")=>`(tactic| first | assumption | decide +kernel | exact Bd.mono (by walk_at "bd") (by decide +kernel))
local macro_rules | `(tactic| lia)=>`(tactic| first | (lia (splits:=9)) | omega +splitNatSub)
local macro_rules | `(tactic| exists $e)=>`(tactic| ((repeat walk_at "rd"); refine $e))
local macro_rules | `(tactic| walk_at "r")=>`(tactic| repeat walk_at "rd")
set_option maxHeartbeats 4000000
namespace Bk
inductive A2(a b:Prop):Prop | mk:a->b->A2 a b
inductive A3(a b c:Prop):Prop | mk:a->b->c->A3 a b c
inductive A4(a b c d:Prop):Prop | mk:a->b->c->d->A4 a b c d
inductive A5(a b c d e:Prop):Prop | mk:a->b->c->d->e->A5 a b c d e
inductive A6(a b c d e f:Prop):Prop | mk:a->b->c->d->e->f->A6 a b c d e f
inductive A7(a b c d e f g:Prop):Prop | mk:a->b->c->d->e->f->g->A7 a b c d e f g
inductive A8(a b c d e f g h:Prop):Prop | mk:a->b->c->d->e->f->g->h->A8 a b c d e f g h
inductive A11(a b c d e f g h i j k:Prop):Prop | mk:a->b->c->d->e->f->g->h->i->j->k->A11 a b c d e f g h i j k
inductive E1{A:Type}(p:A->Prop):Prop | mk (a:A) (h:p a):E1 p
inductive E2{A B:Type}(p:A->B->Prop):Prop | mk (a:A) (b:B) (h:p a b):E2 p
inductive E3{A B C:Type}(p:A->B->C->Prop):Prop | mk (a:A) (b:B) (c:C) (h:p a b c):E3 p
inductive E4{A B C D:Type}(p:A->B->C->D->Prop):Prop | mk (a:A) (b:B) (c:C) (d:D) (h:p a b c d):E4 p
inductive E6{A B C D E F:Type}(p:A->B->C->D->E->F->Prop):Prop | mk (a:A) (b:B) (c:C) (d:D) (e:E) (f:F) (h:p a b c d e f):E6 p
inductive E7{A B C D E F G:Type}(p:A->B->C->D->E->F->G->Prop):Prop | mk (a:A) (b:B) (c:C) (d:D) (e:E) (f:F) (g:G) (h:p a b c d e f g):E7 p
inductive E9{A B C D E F G H I:Type}(p:A->B->C->D->E->F->G->H->I->Prop):Prop | mk (a:A) (b:B) (c:C) (d:D) (e:E) (f:F) (g:G) (h:H) (i:I) (h:p a b c d e f g h i):E9 p
def top(i:Nat):Stmt:=PySem.Challenge.pw_boardglue_k58_whole_leading_on.main.body.getD i (.Pass ⟨0,0,0,0⟩)
abbrev S0:Stmt:=top 12
abbrev S1:Stmt:=top 13
abbrev S2:Stmt:=top 16
abbrev S3:Stmt:=top 17
abbrev S4:Stmt:=top 18
abbrev S5:Stmt:=top 19
abbrev S6:Stmt:=top 20
abbrev S7:Stmt:=top 21
abbrev S8:Stmt:=top 22
abbrev S9:Stmt:=top 23
abbrev S10:Stmt:=top 24
abbrev S11:Stmt:=top 26
abbrev S12:Stmt:=top 27
abbrev S13:Stmt:=top 28
abbrev S14:Stmt:=top 29
abbrev S15:Stmt:=top 30
abbrev S16:Stmt:=top 31
abbrev S17:Stmt:=top 33
abbrev S18:Stmt:=top 34
abbrev S19:Stmt:=top 35
abbrev S20:Stmt:=top 37
abbrev S21:Stmt:=top 43
abbrev S22:Stmt:=top 44
abbrev S23:Stmt:=top 45
abbrev S24:Stmt:=top 46
abbrev S25:Stmt:=top 47
abbrev S26:Stmt:=top 48
abbrev S27:Stmt:=top 49
abbrev S28:Stmt:=top 52
abbrev S29:Stmt:=top 53
abbrev S30:Stmt:=top 54
abbrev S31:Stmt:=top 55
abbrev S32:Stmt:=top 56
abbrev S33:Stmt:=top 57
abbrev S34:Stmt:=top 58
abbrev S35:Stmt:=top 59
abbrev S36:Stmt:=top 62
abbrev S37:Stmt:=top 63
abbrev S38:Stmt:=top 64
abbrev S39:Stmt:=top 65
abbrev S40:Stmt:=top 66
abbrev S41:Stmt:=top 68
abbrev S42:Stmt:=top 69
abbrev S43:Stmt:=top 71
abbrev S44:Stmt:=top 73
abbrev S45:Stmt:=top 74
abbrev S46:Stmt:=top 75
abbrev S47:Stmt:=top 76
abbrev S48:Stmt:=top 77
abbrev S49:Stmt:=top 78
abbrev S50:Stmt:=top 79
abbrev S51:Stmt:=top 80
abbrev S52:Stmt:=top 81
abbrev S53:Stmt:=top 82
abbrev S54:Stmt:=top 83
abbrev S55:Stmt:=top 84
abbrev S56:Stmt:=top 85
abbrev S57:Stmt:=top 86
abbrev S58:Stmt:=top 87
abbrev S59:Stmt:=top 88
abbrev S60:Stmt:=top 89
abbrev S61:Stmt:=top 90
abbrev S62:Stmt:=top 91
abbrev S63:Stmt:=xR (top 50) 0
abbrev S64:Stmt:=xR (top 50) 1
abbrev S65:Stmt:=xR (top 50) 2
abbrev S66:Stmt:=xR (top 50) 3
abbrev S67:Stmt:=xR (top 50) 4
abbrev S68:Stmt:=xR (top 50) 5
abbrev S69:Stmt:=xR (top 50) 6
structure Bl(mg:Str->Option Value):Prop where
  ValueError:mg "ValueError"=none
  abs:mg "abs"=none
  all:mg "all"=none
  bool:mg "bool"=none
  dict:mg "dict"=none
  enumerate:mg "enumerate"=none
  int:mg "int"=none
  isinstance:mg "isinstance"=none
  len:mg "len"=none
  list:mg "list"=none
  min:mg "min"=none
  range:mg "range"=none
  reversed:mg "reversed"=none
  sorted:mg "sorted"=none
  str:mg "str"=none
  sum:mg "sum"=none
  tuple:mg "tuple"=none
theorem Dk:bootBuiltins "abs"=some (.builtin "abs"):=by decide +kernel
theorem Jf:bootBuiltins "all"=some (.builtin "all"):=by decide +kernel
theorem Ho:bootBuiltins "bool"=some (.type "bool"):=by decide +kernel
theorem AW:bootBuiltins "dict"=some (.type "dict"):=by decide +kernel
theorem Bf:bootBuiltins "int"=some (.type "int"):=by decide +kernel
theorem yn:bootBuiltins "isinstance"=some (.builtin "isinstance"):=by decide +kernel
theorem uf:bootBuiltins "list"=some (.type "list"):=by decide +kernel
theorem JA:bootBuiltins "min"=some (.builtin "min"):=by decide +kernel
theorem wc:bootBuiltins "sorted"=some (.builtin "sorted"):=by decide +kernel
theorem Jr:bootBuiltins "str"=some (.type "str"):=by decide +kernel
theorem GJ:bootBuiltins "sum"=some (.builtin "sum"):=by decide +kernel
theorem uQ:bootBuiltins "tuple"=some (.type "tuple"):=by decide +kernel
structure Cs where
  YardError:Addr
  NoLength:Addr
  NoDeed:Addr
  NoName:Addr
  Grain:Addr
  Unfit:Addr
  Yard:Addr
structure Xs(K:iB)(mg:Str->Option Value)(cs:Cs):Prop where
  m_YardError:mg "YardError"=some (.ref cs.YardError)
  m_NoLength:mg "NoLength"=some (.ref cs.NoLength)
  m_NoDeed:mg "NoDeed"=some (.ref cs.NoDeed)
  m_NoName:mg "NoName"=some (.ref cs.NoName)
  m_Grain:mg "Grain"=some (.ref cs.Grain)
  m_Unfit:mg "Unfit"=some (.ref cs.Unfit)
  m_Yard:mg "Yard"=some (.ref cs.Yard)
  c_Yard:Cls K cs.Yard
  n_Yard_root:NoAttr K cs.Yard "root"
  n_Yard_turning:NoAttr K cs.Yard "turning"
  n_Yard_known:NoAttr K cs.Yard "known"
  n_Yard_lying:NoAttr K cs.Yard "lying"
  n_Yard_done:NoAttr K cs.Yard "done"
def Rep(D:Int)(M:Nat)(s:Sd):Prop:=∃ X Y:Int,Bd M X/\Bd M Y/\s.x*D=X*s.z/\s.y*D=Y*s.z
structure So(d D:Int)(M:Nat)(s:Sd):Prop where
  z1:1<=s.z
  g:g3 s.x s.y s.z=1
  up:sgn d s.x s.y=1
  r:Rep D M s
variable {D d:Int}{M:Nat}
theorem So.sk{K:Nat}{s:Sd}(h:So d D M s)(hD:1<=D)(bD:Bd K D):SK M K s:=by
  obtain ⟨X,Y,bX,bY,hx,hy⟩:=h.r;obtain ⟨e1,e2,e3⟩:=yi h.z1 h.g (show D≠0 by lia) hx hy;refine ⟨h.z1,h.g,?_,?_,?_⟩
  . rw [e1];exact bX.fdiv _
  . rw [e2];exact bY.fdiv _
  . rw [e3];exact bD.fdiv _
theorem So.ne{s:Sd}(h:So d D M s):s.z≠0:=by have:=h.z1; lia
theorem So.scale{k:Int}{j:Nat}{s:Sd}(h:So d D M s)(bk:Bd j k):So d (D*k) (M+j) s:=by
  obtain ⟨X,Y,bX,bY,hx,hy⟩:=h.r;exact ⟨h.z1,h.g,h.up,X*k,Y*k,bX.mul bk,bY.mul bk,by rw [<-am,hx]; grind,by rw [<-am,hy]; grind⟩
theorem So.mono{d D:Int}{M M':Nat}{s:Sd}(h:So d D M s)(l:M<=M'):So d D M' s:=by
  obtain ⟨X,Y,bX,bY,hx,hy⟩:=h.r;exact ⟨h.z1,h.g,h.up,X,Y,bX.mono l,bY.mono l,hx,hy⟩
theorem yj{a b c e:Int}(hb:b≠0)(he:e≠0)(h:a*e=c*b):Rat.divInt a b=Rat.divInt c e:=(cR hb he).mpr h
theorem So.pq{s:Sd}(h:So d D M s)(hD:1<=D):∃ X Y:Int,Bd M X/\Bd M Y/\s.p=Rat.divInt X D/\s.q=Rat.divInt Y D:=by
  obtain ⟨X,Y,bX,bY,hx,hy⟩:=h.r;exact ⟨X,Y,bX,bY,yj h.ne (by lia) hx,yj h.ne (by lia) hy⟩
def BoD(d D:Int)(M:Nat)(b:Bo):Prop:=So d D M b.w/\So d D M b.h
def TbD(E:Int)(k:Nat)(t:Tb):Prop:=∃ a b c e:Int,(Bd k a/\Bd k b/\Bd k c/\Bd k e)/\t.a=Rat.divInt a E/\t.b=Rat.divInt b E/\t.c=Rat.divInt c E/\t.e=Rat.divInt e E
theorem TbD.bt{E:Int}{k j:Nat}{t:Tb}(h:TbD E k t)(hE:E≠0)(bE:Bd j E):t.Bt k j:=by
  obtain ⟨a,b,c,e,⟨h1,h2,h3,h4⟩,e1,e2,e3,e4⟩:=h;refine ⟨?_,?_,?_,?_⟩
  . rw [e1]; exact vV hE h1 bE
  . rw [e2]; exact vV hE h2 bE
  . rw [e3]; exact vV hE h3 bE
  . rw [e4]; exact vV hE h4 bE
theorem BoD.tb{d D:Int}{M:Nat}{b:Bo}(h:BoD d D M b)(hD:1<=D):TbD (D*D) (M+M) b.tb:=by
  obtain ⟨X,Y,bX,bY,ep,eq⟩:=h.1.pq hD;obtain ⟨X',Y',bX',bY',ep',eq'⟩:=h.2.pq hD;refine ⟨X*X',X*Y',Y*X',Y*Y',⟨bX.mul bX',bX.mul bY',bY.mul bX',bY.mul bY'⟩,?_,?_,?_,?_⟩
  . show b.w.p*b.h.p=_;rw [ep,ep',wL]
  . show b.w.p*b.h.q=_;rw [ep,eq',wL]
  . show b.w.q*b.h.p=_;rw [eq,ep',wL]
  . show b.w.q*b.h.q=_;rw [eq,eq',wL]
theorem xp{a b E:Int}(hE:E≠0):Rat.divInt a E+Rat.divInt b E=Rat.divInt (a+b) E:=by
  rw [<-CB hE hE];refine yj (aH hE hE) hE ?_;grind
theorem TbD.add{E:Int}{k:Nat}{s t:Tb}(hE:E≠0)(h:TbD E k s)(h':TbD E k t):TbD E (k+1) (s.add t):=by
  obtain ⟨a,b,c,e,⟨h1,h2,h3,h4⟩,e1,e2,e3,e4⟩:=h;obtain ⟨a',b',c',e',⟨k1,k2,k3,k4⟩,f1,f2,f3,f4⟩:=h';refine ⟨a+a',b+b',c+c',e+e',⟨h1.add k1,h2.add k2,h3.add k3,h4.add k4⟩,?_,?_,?_,?_⟩
  . show s.a+t.a=_;rw [e1,f1,xp hE]
  . show s.b+t.b=_;rw [e2,f2,xp hE]
  . show s.c+t.c=_;rw [e3,f3,xp hE]
  . show s.e+t.e=_;rw [e4,f4,xp hE]
theorem TbD.mono{E:Int}{k k':Nat}{t:Tb}(h:TbD E k t)(l:k<=k'):TbD E k' t:=by
  obtain ⟨a,b,c,e,⟨h1,h2,h3,h4⟩,r⟩:=h;exact ⟨a,b,c,e,⟨h1.mono l,h2.mono l,h3.mono l,h4.mono l⟩,r⟩
theorem KL{l:List Bo}(h:∀ b∈l,BoD d D M b)(hD:1<=D):TbD (D*D) (M+M+l.length) (tbs l):=by
  have hE:D*D≠0:=aH (by lia) (by lia);induction l with
  | nil =>
    have z:(0:Rat)=Rat.divInt 0 (D*D):=(Rat.zero_divInt _).symm;have b0:Bd (M+M+([]:List Bo).length) 0:=gP _;exact ⟨0,0,0,0,⟨b0,b0,b0,b0⟩,z,z,z,z⟩
  | cons b l ih =>
    have h1:=(h b aB).tb hD;have h2:=ih λc hc=>h c (ay _ hc);exact TbD.add hE (h1.mono (dm _ _)) h2
theorem Kr{K n:Nat}{l:List Bo}(h:∀ b∈l,BoD d D M b)(hD:1<=D)(bD:Bd K D)(hl:l.length<=n):(tbs l).Bt (M+M+n) (K+K) :=
  ((KL h hD).mono (show M+M+l.length<=M+M+n by lia)).bt (aH (by lia) (by lia)) (bD.mul bD)
def tkS(s t:Sd):Sd:=⟨lA (s.x*t.z+-t.x*s.z) (s.y*t.z+-t.y*s.z) (s.z*t.z),lB (s.x*t.z+-t.x*s.z) (s.y*t.z+-t.y*s.z) (s.z*t.z),lN (s.x*t.z+-t.x*s.z) (s.y*t.z+-t.y*s.z) (s.z*t.z)⟩
def shS(s:Sd)(m k:Int):Sd:=⟨lA (s.x*m) (s.y*m) (s.z*k),lB (s.x*m) (s.y*m) (s.z*k),lN (s.x*m) (s.y*m) (s.z*k)⟩
variable {X Y:Int}
theorem xK{a b n:Int}(hn:n≠0)(h1:a*D=X*n)(h2:b*D=Y*n):lA a b n*D=X*lN a b n/\lB a b n*D=Y*lN a b n:=by
  have e1:=l_a (a:=a) (b:=b) (n:=n);have e2:=l_b (a:=a) (b:=b) (n:=n);constructor
  . refine tG hn ?_;have:lA a b n*D*n=(lA a b n*n)*D:=by grind
    rw [this,e1];have:a*lN a b n*D=(a*D)*lN a b n:=by grind
    rw [this,h1];grind
  . refine tG hn ?_;have:lB a b n*D*n=(lB a b n*n)*D:=by grind
    rw [this,e2];have:b*lN a b n*D=(b*D)*lN a b n:=by grind
    rw [this,h2];grind
theorem KS{s t:Sd}(hR:Rt d)(h:So d D M s)(h':So d D M t)(up:sgn d (tkS s t).x (tkS s t).y=1):So d D (M+1) (tkS s t):=by
  obtain ⟨X,Y,bX,bY,hx,hy⟩:=h.r;obtain ⟨X',Y',bX',bY',hx',hy'⟩:=h'.r;have hn:s.z*t.z≠0:=aH h.ne h'.ne;obtain ⟨r1,r2⟩:=xK (a:=s.x*t.z+-t.x*s.z) (b:=s.y*t.z+-t.y*s.z) (n:=s.z*t.z) (D:=D) (X:=X - X') (Y:=Y - Y') hn (by grind) (by grind);exact ⟨l_n hn,xB hn,up,X - X',Y - Y',bX.sub bX',bY.sub bY',r1,r2⟩
theorem Jv{s t:Sd}(hR:Rt d)(h:So d D M s)(h':So d D M t):So d D (M+1) (adS s t):=by
  obtain ⟨X,Y,bX,bY,hx,hy⟩:=h.r;obtain ⟨X',Y',bX',bY',hx',hy'⟩:=h'.r;have hn:s.z*t.z≠0:=aH h.ne h'.ne;have hn1:1<=s.z*t.z:=aX (by have:=h.z1; lia) (by have:=h'.z1; lia);obtain ⟨r1,r2⟩:=xK (a:=s.x*t.z+t.x*s.z) (b:=s.y*t.z+t.y*s.z) (n:=s.z*t.z) (D:=D) (X:=X+X') (Y:=Y+Y') hn (by grind) (by grind);refine ⟨l_n hn,xB hn,?_,X+X',Y+Y',bX.add bX',bY.add bY',r1,r2⟩;refine (z4 hR hn1).trans (uO hR ?_ ?_)
  . exact (xg hR (k:=1) (m:=t.z) (by decide) (by have:=h'.z1; lia) (by grind) (by grind)).trans h.up
  . exact (xg hR (k:=1) (m:=s.z) (by decide) (by have:=h.z1; lia) (by grind) (by grind)).trans h'.up
variable {m:Int}
theorem HY{k:Int}{j:Nat}{s:Sd}(hR:Rt d)(h:So d D M s)(m1:1<=m)(k1:1<=k)(bm:Bd j m):So d (D*k) (M+j) (shS s m k):=by
  obtain ⟨X,Y,bX,bY,hx,hy⟩:=h.r;have hn:s.z*k≠0:=aH h.ne (by lia);have hn1:1<=s.z*k:=aX (by have:=h.z1; lia) (by lia);obtain ⟨r1,r2⟩:=xK (a:=s.x*m) (b:=s.y*m) (n:=s.z*k) (D:=D*k) (X:=X*m) (Y:=Y*m) hn (by grind) (by grind);refine ⟨l_n hn,xB hn,?_,X*m,Y*m,bX.mul bm,bY.mul bm,r1,r2⟩;exact (z4 hR hn1).trans ((xg hR (k:=1) (m:=m) (by decide) (by lia) (by grind) (by grind)).trans h.up)
theorem Lu{k:Int}{s:Sd}(hR:Rt d)(z1:1<=s.z)(up:sgn d s.x s.y=1)(m1:1<=m)(hk:m<k):sgn d (tkS s (shS s m k)).x (tkS s (shS s m k)).y=1:=by
  have hn:s.z*k≠0:=aH (by lia) (by lia);have e1:(shS s m k).x*(s.z*k)=s.x*m*(shS s m k).z:=l_a;have e2:(shS s m k).y*(s.z*k)=s.y*m*(shS s m k).z:=l_b;have f1:1<=(shS s m k).z:=l_n hn;generalize hx:(shS s m k).x=fx at *
  generalize hy:(shS s m k).y=fy at *
  generalize hz:(shS s m k).z=fz at *
  have hn1:1<=s.z*fz:=aX (by lia) (by lia);have t1:(tkS s (shS s m k)).x=lA (s.x*fz+-fx*s.z) (s.y*fz+-fy*s.z) (s.z*fz):=by
    unfold tkS;rw [hx,hy,hz]
  have t2:(tkS s (shS s m k)).y=lB (s.x*fz+-fx*s.z) (s.y*fz+-fy*s.z) (s.z*fz):=by
    unfold tkS;rw [hx,hy,hz]
  rw [t1,t2,z4 hR hn1];refine (xg hR (k:=k) (m:=fz*(k - m)) (by lia) (aX (by lia) (by lia)) ?_ ?_).trans up
  . clear t1 t2 hn1 hn up;grind
  . clear t1 t2 hn1 hn up;grind
theorem LE{s t:Sd}(hR:Rt d)(z1:1<=s.z)(z2:1<=t.z)(h:0<sgn d (s.x*t.z - t.x*s.z) (s.y*t.z - t.y*s.z)):sgn d (tkS s t).x (tkS s t).y=1:=by
  have hn1:1<=s.z*t.z:=aX (by lia) (by lia);have e:sgn d (tkS s t).x (tkS s t).y=sgn d (s.x*t.z - t.x*s.z) (s.y*t.z - t.y*s.z):=by
    refine (z4 hR hn1).trans ?_;rw [show s.x*t.z+-t.x*s.z=s.x*t.z - t.x*s.z by grind,show s.y*t.z+-t.y*s.z=s.y*t.z - t.y*s.z by grind]
  rw [e];rcases sgn_tri hR (s.x*t.z - t.x*s.z) (s.y*t.z - t.y*s.z) with z|z|z
  . exact z
  . lia
  . rw [z.1,z.2,ym] at h
    lia
theorem KE{s t:Sd}(hs:s.z≠0)(ht:t.z≠0):(tkS s t).p=s.p - t.p/\(tkS s t).q=s.q - t.q:=by
  have hn:s.z*t.z≠0:=aH hs ht;obtain ⟨h1,h2⟩:=wz (a:=s.x*t.z+-t.x*s.z) (b:=s.y*t.z+-t.y*s.z) hn;constructor
  . show Rat.divInt (lA _ _ _) (lN _ _ _)=_;rw [h1,CB hs ht,<-Rat.neg_divInt,Rat.sub_eq_add_neg];rfl
  . show Rat.divInt (lB _ _ _) (lN _ _ _)=_;rw [h2,CB hs ht,<-Rat.neg_divInt,Rat.sub_eq_add_neg];rfl
theorem Ki{s t:Sd}(hs:s.z≠0)(ht:t.z≠0):(adS s t).p=s.p+t.p/\(adS s t).q=s.q+t.q:=by
  have hn:s.z*t.z≠0:=aH hs ht;obtain ⟨h1,h2⟩:=wz (a:=s.x*t.z+t.x*s.z) (b:=s.y*t.z+t.y*s.z) hn;constructor
  . show Rat.divInt (lA _ _ _) (lN _ _ _)=_;rw [h1,CB hs ht];rfl
  . show Rat.divInt (lB _ _ _) (lN _ _ _)=_;rw [h2,CB hs ht];rfl
theorem F4{s:Sd}{k:Int}(hs:s.z≠0)(hk:k≠0):(shS s m k).p=s.p*Rat.divInt m k/\(shS s m k).q=s.q*Rat.divInt m k:=by
  have hn:s.z*k≠0:=aH hs hk;obtain ⟨h1,h2⟩:=wz (a:=s.x*m) (b:=s.y*m) hn;constructor
  . show Rat.divInt (lA _ _ _) (lN _ _ _)=_;rw [h1,wL];rfl
  . show Rat.divInt (lB _ _ _) (lN _ _ _)=_;rw [h2,wL];rfl
variable {h w:Sd}
theorem La{f:Sd}(hw:w.z≠0)(hf:f.z≠0):(⟨f,h⟩:Bo).tb.add (⟨tkS w f,h⟩:Bo).tb=(⟨w,h⟩:Bo).tb:=by
  obtain ⟨e1,e2⟩:=KE hw hf;refine Tb.ext ?_ ?_ ?_ ?_ <;> simp only [Tb.add,Bo.tb,e1,e2] <;> grind
theorem KQ{f:Sd}(hh:h.z≠0)(hf:f.z≠0):(⟨w,f⟩:Bo).tb.add (⟨w,tkS h f⟩:Bo).tb=(⟨w,h⟩:Bo).tb:=by
  obtain ⟨e1,e2⟩:=KE hh hf;refine Tb.ext ?_ ?_ ?_ ?_ <;> simp only [Tb.add,Bo.tb,e1,e2] <;> grind
theorem EY(hm:m≠0):Rat.divInt 1 m*Rat.divInt m 1=1:=by
  rw [<-wL];refine (yj (c:=1) (e:=1) (aH hm (by decide)) (by decide) (by grind)).trans ?_;decide +kernel
theorem Ld(hw:w.z≠0)(hh:h.z≠0)(hm:m≠0):(⟨shS w 1 m,shS h m 1⟩:Bo).tb=(⟨w,h⟩:Bo).tb:=by
  obtain ⟨e1,e2⟩:=F4 (m:=1) (k:=m) hw hm;obtain ⟨e3,e4⟩:=F4 (m:=m) (k:=1) hh (by decide);have e:=EY hm;refine Tb.ext ?_ ?_ ?_ ?_ <;> simp only [Bo.tb,e1,e2,e3,e4] <;> grind
theorem KR(hw:w.z≠0)(hh:h.z≠0)(hm:m≠0):(⟨shS w m 1,shS h 1 m⟩:Bo).tb=(⟨w,h⟩:Bo).tb:=by
  obtain ⟨e1,e2⟩:=F4 (m:=m) (k:=1) hw (by decide);obtain ⟨e3,e4⟩:=F4 (m:=1) (k:=m) hh hm;have e:=EY hm;refine Tb.ext ?_ ?_ ?_ ?_ <;> simp only [Bo.tb,e1,e2,e3,e4] <;> grind
theorem Lh{w':Sd}(hw:w.z≠0)(hw':w'.z≠0):(⟨adS w w',h⟩:Bo).tb=(⟨w,h⟩:Bo).tb.add (⟨w',h⟩:Bo).tb:=by
  obtain ⟨e1,e2⟩:=Ki hw hw';refine Tb.ext ?_ ?_ ?_ ?_ <;> simp only [Tb.add,Bo.tb,e1,e2] <;> grind
theorem LA{h':Sd}(hh:h.z≠0)(hh':h'.z≠0):(⟨w,adS h h'⟩:Bo).tb=(⟨w,h⟩:Bo).tb.add (⟨w,h'⟩:Bo).tb:=by
  obtain ⟨e1,e2⟩:=Ki hh hh';refine Tb.ext ?_ ?_ ?_ ?_ <;> simp only [Tb.add,Bo.tb,e1,e2] <;> grind
inductive Dd where
  | cut (al:Bool) (n:Int) (s:Sd)
  | glue (al:Bool) (n m:Int)
  | shift (al:Bool) (n k:Int)
  | turn (n:Int)
abbrev SY(s:Sd):Prop:=SK 2400 2100 s
def Dd.wd:Dd->Str
  | .cut al _ _=>if al then "along" else "across"
  | .glue al _ _=>if al then "atop" else "beside"
  | .shift al _ _=>if al then "spread" else "stack"
  | .turn _=>"turn"
def Dd.n:Dd->Int
  | .cut _ n _=>n
  | .glue _ n _=>n
  | .shift _ n _=>n
  | .turn n=>n
def Dd.names:Dd->List Int
  | .glue _ n m=>[n,m]
  | d=>[d.n]
def DdAt(H:Hp)(p:Addr):Dd->Prop
  | .cut al n s=>∃ q,H p=some (.tup [.str (Dd.cut al n s).wd,.int n,.ref q])/\SdAt H q s
  | .glue al n m=>H p=some (.tup [.str (Dd.glue al n m).wd,.int n,.int m])
  | .shift al n k=>H p=some (.tup [.str (Dd.shift al n k).wd,.int n,.int k])
  | .turn n=>H p=some (.tup [.str "turn",.int n])
def Dd.Ok:Dd->Prop
  | .cut _ _ s=>SY s
  | .shift _ _ k=>1<=k/\Bd 1024 k
  | _=>True
variable {e:Dd}{H H':Hp}
theorem DdAt.same{p:Addr}(h:DdAt H p e)(s:Same H H'):DdAt H' p e:=by
  cases e with
  | cut al n t=>obtain ⟨q,h1,h2⟩:=h; exact ⟨q,s _ _ h1,s _ _ h2⟩
  | glue al n m=>exact s _ _ h
  | shift al n k=>exact s _ _ h
  | turn n=>exact s _ _ h
def Dd.two:Dd->Bool
  | .glue _ _ _=>true
  | _=>false
def Dd.new(b c:Bo):Dd->List Bo
  | .cut false _ s=>[⟨s,b.h⟩,⟨tkS b.w s,b.h⟩]
  | .cut true _ s=>[⟨b.w,s⟩,⟨b.w,tkS b.h s⟩]
  | .glue false _ _=>[⟨adS b.w c.w,b.h⟩]
  | .glue true _ _=>[⟨b.w,adS b.h c.h⟩]
  | .shift false _ k=>[⟨shS b.w 1 k,shS b.h k 1⟩]
  | .shift true _ k=>[⟨shS b.w k 1,shS b.h 1 k⟩]
  | .turn _=>[⟨b.h,b.w⟩]
def CY(d:Int)(w s:Sd):Prop:=SY w/\SY s/\0<sgn d s.x s.y/\0<sgn d (w.x*s.z - s.x*w.z) (w.y*s.z - s.y*w.z)
def Dd.Fit(d:Int)(b c:Bo):Dd->Prop
  | .cut false _ s=>CY d b.w s
  | .cut true _ s=>CY d b.h s
  | .glue false _ _=>b.h=c.h/\SY b.w/\SY c.w
  | .glue true _ _=>b.w=c.w/\SY b.h/\SY c.h
  | .shift _ _ k=>1<=k/\Bd 1024 k/\SY b.w/\SY b.h
  | .turn _=>True
def Dd.isT:Dd->Bool
  | .turn _=>true
  | _=>false
def z8(ns:List Nat):List Int->List Nat
  | []=>ns
  | m::ms=>z8 (ns.filter λn:Nat=>decide ((n:Int)≠m)) ms
def CellsOf(cl:List Cell)(e:Dd)(c c':Cell):Prop:=match e with
  | .glue _ n m=>(∃ i:Nat,n=(i:Int)/\cl[i]?=some c)/\∃ i:Nat,m=(i:Int)/\cl[i]?=some c'
  | e=>(∃ i:Nat,e.n=(i:Int)/\cl[i]?=some c)/\c'=c
structure Yd where
  p:Addr
  dx:Addr
  k:Addr
  l:Addr
  t:Addr
def Yd.fs (y:Yd) (d:Int) (tn:Bool):List (Str×V):=[("root",.int d),("turning",.bl tn),("known",.ref y.k),("lying",.ref y.l),("done",.ref y.t)]
def nmK(ns:List Nat):List (Key×V):=ns.map λn:Nat=>((.inl (n:Int):Key),V.bl true)
structure YdAt(C:Addr)(H:Hp)(y:Yd)(d:Int)(tn:Bool)(cl:List Cell)(ns:List Nat)(lg:List V):Prop where
  o:H y.p=some (.ins C y.dx (y.fs d tn))
  k:H y.k=some (.lst (cl.map Cell.v))
  l:H y.l=some (.dK (nmK ns))
  t:H y.t=some (.lst lg)
  kt:y.k≠y.t
  at':∀ c∈cl,c.At H
  up:ns.Pairwise (· < ·)
  lt:∀ n∈ns,n<cl.length
  lc:cl.length<=400
  ll:lg.length<=200
theorem YdAt.same{C:Addr}{H H':Hp}{y:Yd}{d:Int}{tn:Bool}{cl:List Cell}{ns:List Nat}{lg:List V}(h:YdAt C H y d tn cl ns lg)(s:Same H H'):YdAt C H' y d tn cl ns lg :=
  ⟨s _ _ h.o,s _ _ h.k,s _ _ h.l,s _ _ h.t,h.kt,λc hc=>(h.at' c hc).same s,h.up,h.lt,h.lc,h.ll⟩
variable {ta:TE}
theorem yc{X:Cx}{e:Expr}{f:Str}{pos:Pos}{K:iB}(hK:X.K=K)(he:PE X e ta)(hb:attributeBase e f X.env (eval e X.env)=eval e X.env):PE X (.Attribute e f pos) (tFld K ta f):=by
  subst hK;exact J6 he hb
variable {σ:L2.St}{Q:VK}
theorem LL{K:iB}{f:Str}(h:ta σ H λx H1=>∃ a C dx fs v,x=.ref a/\H1 a=some (.ins C dx fs)/\Cls K C/\NoAttr K C f/\fs.lookup f=some v/\Q v H1):tFld K ta f σ H Q:=h
variable {tv:TE}
theorem IJ{K:iB}{f:Str}{D:Ends}(h:tv σ H λy H1=>ta σ H1 λx H2=>∃ a C dx fs,x=.ref a/\H2 a=some (.ins C dx fs)/\Cls K C/\NoAttr K C f/\fs.length<1000/\D.nx σ (upd H2 a (.ins C dx (putF f y fs)))):sFld K ta tv f D σ H:=h
local macro_rules | `(tactic| walk_at "rd")=>`(tactic| first | with_reducible refine LL ?_ | with_reducible refine IJ ?_)
variable {a dx:Addr}
theorem tE{K:iB}{f:Str}{D:Ends}{y:V}{C:Addr}{fs:List (Str×V)}(e:H a=some (.ins C dx fs))(c:Cls K C)(n:NoAttr K C f)(hl:fs.length<1000)(q:∀ H1,SameX a H H1->H1 a=some (.ins C dx (putF f y fs))->D.nx σ H1):∃ a' C dx fs,V.ref a=.ref a'/\H a'=some (.ins C dx fs)/\Cls K C/\NoAttr K C f/\fs.length<1000/\D.nx σ (upd H a' (.ins C dx (putF f y fs))) :=
  ⟨a,C,dx,fs,rfl,e,c,n,hl,q _ (λb u q n=>by rw [zj n]; exact q) zf⟩
variable {ys:List V}
theorem Dm{K:iB}{p:Addr}(h:H p=some (.lst ys))(q:∀ l H2,H l=none->Same H H2->H2 l=some (.lst ys)->Q (.ref l) H2):rLst K [.ref p] H Q:=⟨p,ys,rfl,.inl (SqL.of h),λl hl=>q l _ hl (zA hl _) zf⟩
variable {l:Addr}{kvs:List (Key×V)}{ps:List Addr}
theorem EO(e:H l=some (.lst (ps.map V.ref)))(hl:ps.length=kvs.length)(hp:∀ (i:Nat) (p:Addr) (kv:Key×V),ps[i]?=some p->kvs[i]?=some kv->H p=some (.tup [kV kv.1,kv.2]))(hn:(kvs.map (·.1)).Nodup)(hz:kvs.length<=1000)(q:∀ p H2,H p=none->Same H H2->H2 p=some (.dK kvs)->Q (.ref p) H2):Gv [.ref l] H Q :=
  ⟨l,ps,kvs,rfl,e,hl,hp,hn,bK hz (by decide +kernel),λp h=>q p _ h (zA h _) zf⟩
variable {ns:List Nat}
theorem Aq(h:ns.Pairwise (· < ·)):((nmK ns).map (·.1)).Nodup:=by
  rw [nmK,gQ];refine em.mpr (h.imp λ{a b} hab e=>?_);have e:(a:Int)=b:=dN e
  lia
theorem SameX.of(s:Same H H'):SameX l H H':=λb o e _=>s b o e
theorem yV{f:Str}{v:V}{fs:List (Str×V)}{n:Nat}(h:fs.length<n):(putF f v fs).length<n+1:=br (xO f v fs) (Nat.succ_lt_succ h)
variable {td ty:TE}
theorem Iy(h:ty σ H λy H1=>td σ H1 λx H2=>∃ a o,x=.ref a/\DGet H2 a y o/\Q (.bl (!o.isSome)) H2):Ec ty td σ H Q:=h
theorem JO(h:td σ H λx H1=>ty σ H1 λy H2=>∃ a v,x=.ref a/\DGet H2 a y (some v)/\Q v H2):JG td ty σ H Q:=h
theorem KA{D:Ends}(h:tv σ H λv H1=>td σ H1 λx H2=>ty σ H2 λy H3=>∃ a H4,x=.ref a/\DPut H3 a y v H4/\D.nx σ H4):Ka td ty tv D σ H:=h
local macro_rules | `(tactic| walk_at "rd")=>`(tactic| first | with_reducible refine Iy ?_ | with_reducible refine JO ?_ | with_reducible refine KA ?_)
theorem wV{n:Nat}:∀ {ns:List Nat},n∈ns->valV (nmK ns) (.inl (n:Int))=some (.bl true)
  | m::ns,h=>by
    by_cases e:m=n
    . subst e; exact z5 rfl
    . rw [nmK,aU,zQ (λc=>e (cV (dN c)))];exact wV (by simpa [ca e] using h)
def pick(cl:List Cell)(ns:List Nat):List Cell:=ns.filterMap λn=>cl[n]?
variable {c:Cell}{cl:List Cell}
theorem EH{i n:Nat}(hi:ns[i]?=some n)(hc:cl[n]?=some c):pick cl (ns.take (i+1))=pick cl (ns.take i)++[c]:=by
  rw [pick,a8,hi,List.filterMap_append];simp [pick,hc]
theorem B9{cl:List Cell}:∀ {ns:List Nat},(pick cl ns).length<=ns.length
  | []=>ai _
  | n::ns=>by
    have:=B9 (cl:=cl) (ns:=ns);cases e:cl[n]? with
    | none=>simp only [pick,cW,e,ar]; exact dE this
    | some c=>simp only [pick,cW,e,ar]; exact Nat.succ_le_succ this
theorem Ch{k:Nat}(h:ns.Pairwise (· < ·))(hk:∀ n∈ns,n<k):ns.length<=k:=by
  have hn:ns.Nodup:=h.imp λhab=>az hab;have:=(gv (n:=k))
  exact (bf (n:=k)) ▸ (eJ hn λn h=>bG.mpr (hk n h))
def Prs(cl:List Cell)(ns:List Nat)(H:Hp)(ps:List Addr):Prop:=ps.length=ns.length/\∀ (j:Nat) (p:Addr),ps[j]?=some p->∃ n c,ns[j]?=some n/\cl[n]?=some c/\H p=some (.tup [.int (n:Int),.ref c.p])
variable {dvs:List V}{sp:Sp}{E:XK}
theorem Jm{C:Addr}{m:Str}{t:TA}(h:ta σ H λx H1=>∃ a dx fs,x=.ref a/\H1 a=some (.ins C dx fs)/\fs.lookup m=none/\t σ H1 λvs H2=>sp (x::(vs++dvs)) H2 Q E):DQ C m sp dvs E ta t σ H Q:=h
theorem Js(h:td σ H λx H1=>∃ a,x=.ref a/\IsD H1 a/\ty σ H1 λy H2=>∃ kvs k v,H2 a=some (.dK kvs)/\y=kV k/\valV kvs k=some v/\Q v (upd H2 a (.dK (vL kvs k)))):GV td ty σ H Q:=h
local macro_rules | `(tactic| walk_at "rd")=>`(tactic| first | with_reducible refine Jm ?_ | with_reducible refine Js ?_)
theorem DdAt.tup{H:Hp}{p:Addr}{e:Dd}(h:DdAt H p e):∃ r,H p=some (.tup (.str e.wd::.int e.n::r)):=by
  cases e with
  | cut al n t=>obtain ⟨q,h1,h2⟩:=h; exact ⟨_,h1⟩
  | glue al n m=>exact ⟨_,h⟩
  | shift al n k=>exact ⟨_,h⟩
  | turn n=>exact ⟨_,h⟩
theorem Hs(h:e.wd=Str.ofString "turn"):e.isT=true:=by
  cases e with
  | cut al n t=>cases al <;> exact absurd (show Str.ofString _=Str.ofString "turn" from h) (by decide +kernel)
  | glue al n m=>cases al <;> exact absurd (show Str.ofString _=Str.ofString "turn" from h) (by decide +kernel)
  | shift al n k=>cases al <;> exact absurd (show Str.ofString _=Str.ofString "turn" from h) (by decide +kernel)
  | turn n=>rfl
theorem Lz{p A B F:Prop}[Decidable p](h:B)(k:p->B->A):if decide p=true then A else if false=true then F else B:=if_d (λc=>k c h) λ_=>if_f h
theorem Dd.names_len(e:Dd):e.names.length<=2:=by cases e <;> simp [Dd.names]
def Dd.cells(e:Dd)(c c':Cell):List Cell:=if e.two then [c,c'] else [c]
variable {c':Cell}
theorem AT(h:CellsOf cl e c c'){i:Nat}(hi:e.names[i]?=some m):∃ (n:Nat) (x:Cell),m=(n:Int)/\cl[n]?=some x/\(e.cells c c')[i]?=some x:=by
  cases e with
  | glue al n k =>
    obtain ⟨⟨j,h1,h2⟩,j',h3,h4⟩:=h
    match i,hi with
    | 0,hi=>injection hi with hi; exact ⟨j,c,hi ▸ h1,h2,rfl⟩
    | 1,hi=>injection hi with hi; exact ⟨j',c',hi ▸ h3,h4,rfl⟩
    | i+2,hi=>exact nomatch hi
  | cut al n t =>
    obtain ⟨⟨j,h1,h2⟩,_⟩:=h
    match i,hi with
    | 0,hi=>injection hi with hi; exact ⟨j,c,hi ▸ h1,h2,rfl⟩
    | i+1,hi=>exact nomatch hi
  | shift al n k =>
    obtain ⟨⟨j,h1,h2⟩,_⟩:=h
    match i,hi with
    | 0,hi=>injection hi with hi; exact ⟨j,c,hi ▸ h1,h2,rfl⟩
    | i+1,hi=>exact nomatch hi
  | turn n =>
    obtain ⟨⟨j,h1,h2⟩,_⟩:=h
    match i,hi with
    | 0,hi=>injection hi with hi; exact ⟨j,c,hi ▸ h1,h2,rfl⟩
    | i+1,hi=>exact nomatch hi
theorem CellsOf.mem(h:CellsOf cl e c c'):c∈cl/\c'∈cl:=by
  cases e with
  | glue al n k=>obtain ⟨⟨j,h1,h2⟩,j',h3,h4⟩:=h; exact ⟨aq h2,aq h4⟩
  | cut al n t=>obtain ⟨⟨j,h1,h2⟩,rfl⟩:=h; exact ⟨aq h2,aq h2⟩
  | shift al n k=>obtain ⟨⟨j,h1,h2⟩,rfl⟩:=h; exact ⟨aq h2,aq h2⟩
  | turn n=>obtain ⟨⟨j,h1,h2⟩,rfl⟩:=h; exact ⟨aq h2,aq h2⟩
theorem Dd.cells_len(e:Dd)(c c':Cell):(e.cells c c').length=e.names.length:=by cases e <;> rfl
theorem xu{m:Int}:∀ (ms:List Int) (ns:List Nat),z8 ns (ms++[m])=(z8 ns ms).filter λn:Nat=>decide ((n:Int)≠m)
  | [],_=>rfl
  | _::ms,_=>xu ms _
theorem mem_ndrop{n:Nat}:∀ {ms:List Int} {ns:List Nat},n∈z8 ns ms↔n∈ns/\(n:Int)∉ms
  | [],ns=>by simp [z8]
  | m::ms,ns=>by
    rw [z8,mem_ndrop,dR];simp only [aK,iA,not_or];constructor
    . rintro ⟨⟨a,b⟩,c⟩; exact ⟨a,b,c⟩
    . rintro ⟨a,b,c⟩; exact ⟨⟨a,b⟩,c⟩
theorem xq:∀ {ms:List Int} {ns:List Nat},ns.Pairwise (· < ·)->(z8 ns ms).Pairwise (· < ·)
  | [],_,h=>h
  | m::ms,ns,h=>show (z8 (ns.filter λn:Nat=>decide ((n:Int)≠m)) ms).Pairwise (· < ·) from xq (h.filter _)
theorem vp{n:Nat}:∀ ns:List Nat,vL (nmK ns) (.inl (n:Int))=nmK (ns.filter λk:Nat=>decide ((k:Int)≠(n:Int)))
  | []=>rfl
  | k::ns=>by
    have ih:=vp (n:=n) ns;simp only [vL,nmK] at ih ⊢;by_cases c:(k:Int)=n
    . simp only [aU,cI,c,ne_eq,not_true_eq_false,decide_false,ih];rfl
    . simp only [aU,cI,ne_eq,Sum.inl.injEq,c,not_false_eq_true,decide_true,ih];rfl
theorem wB{k:Nat}:∀ {ns:List Nat},(∀ n∈ns,n<k)->valV (nmK ns) (.inl (k:Int))=none
  | [],_=>rfl
  | m::ns,h=>by
    rw [nmK,aU,zQ (λc=>absurd (cV (dN c)) (az (h m aB)))];exact wB λn hn=>h n (ay _ hn)
theorem uo(e:Dd)(b c:Bo):(e.new b c).length<=2:=by
  cases e with
  | cut al n t=>cases al <;> exact ai _
  | glue al n m=>cases al <;> exact d9 _
  | shift al n k=>cases al <;> exact d9 _
  | turn n=>exact d9 _
theorem Same.nn(s:Same H H')(h:H' a=none):H a=none:=by
  cases e:H a with
  | none=>rfl
  | some o=>rw [s _ _ e] at h; cases h
theorem zr{xs:List V}(hl:xs.length<=1000)(h:∀ p H2,H p=none->Same H H2->H2 p=some (.tup xs)->Q (.ref p) H2):NewT xs H Q :=
  ⟨ET hl,λp hp=>h p _ hp (zA hp _) zf⟩
def plS(s t:Sd)(g:Int):Sd:=⟨lA (s.x*t.z+g*t.x*s.z) (s.y*t.z+g*t.y*s.z) (s.z*t.z),lB (s.x*t.z+g*t.x*s.z) (s.y*t.z+g*t.y*s.z) (s.z*t.z),lN (s.x*t.z+g*t.x*s.z) (s.y*t.z+g*t.y*s.z) (s.z*t.z)⟩
theorem AN(s t:Sd):plS s t (-1)=tkS s t:=by unfold plS tkS; rw [show (-1:Int)*t.x=-t.x by lia,show (-1:Int)*t.y=-t.y by lia]
theorem D4(s t:Sd):plS s t 1=adS s t:=by unfold plS adS; rw [ee,ee]
structure Dw(d:Int)(s:Sd):Prop where
  z1:1<=s.z
  g:g3 s.x s.y s.z=1
  up:sgn d s.x s.y=1
  bx:Bd 13 s.x
  by':Bd 13 s.y
  bz:Bd 5 s.z
theorem Dw.low{a b n:Int}(hR:Rt d)(ba:Bd 13 a)(bb:Bd 13 b)(h1:1<=n)(h2:n<=30)(up:sgn d a b=1):Dw d ⟨lA a b n,lB a b n,lN a b n⟩ :=
  ⟨l_n (by lia),xB (by lia),(z4 hR h1).trans up,ba.fdiv _,bb.fdiv _,(zL (k:=5) (by lia) h2 (by decide)).fdiv _⟩
def pz:List Sd->Int
  | []=>1
  | s::l=>s.z*pz l
theorem CT{d:Int}:∀ {l:List Sd},(∀ s∈l,Dw d s)->1<=pz l
  | [],_=>Int.le_refl _
  | s::l,h=>aX (by have:=(h s aB).z1; lia) (by have:=CT (l:=l) λt ht=>h t (ay _ ht); lia)
theorem HF{d:Int}:∀ {l:List Sd},(∀ s∈l,Dw d s)->Bd (5*l.length+1) (pz l)
  | [],_=>by decide
  | s::l,h=>Bd.mono ((h s aB).bz.mul (HF (l:=l) λt ht=>h t (ay _ ht))) (by simp only [ar]; lia)
theorem Je{d:Int}:∀ {l:List Sd},(∀ s∈l,Dw d s)->∀ s∈l,So d (pz l) (5*l.length+14) s
  | [],_,s,hs=>absurd hs (by simp)
  | t::l,h,s,hs=>by
    have hl:∀ s∈l,Dw d s:=λt ht=>h t (ay _ ht);rcases aK.mp hs with rfl|hs
    . have o:=h s aB;have:So d s.z 13 s:=⟨o.z1,o.g,o.up,s.x,s.y,o.bx,o.by',rfl,rfl⟩
      exact (this.scale (HF hl)).mono (by simp only [ar]; lia)
    . have:=(Je hl s hs).scale (h t aB).bz;rw [av] at this;exact this.mono (by simp only [ar]; lia)
abbrev PL:=List (Addr×Sd)
structure Pl(H:Hp)(q:Addr)(P:List (Addr×Sd)):Prop where
  l:H q=some (.lst (P.map λx=>V.ref x.1))
  at':∀ x∈P,SdAt H x.1 x.2
  n:P.length=3
variable {P:List (Addr×Sd)}
theorem Pl.same{q:Addr}(h:Pl H q P)(s:Same H H'):Pl H' q P:=⟨s _ _ h.l,λx hx=>s _ _ (h.at' x hx),h.n⟩
theorem Pl.get{q:Addr}(h:Pl H q P){i:Int}(h0:0<=i)(h1:i<3):∃ x∈P,atI (P.map λx=>V.ref x.1) i=some (.ref x.1)/\SdAt H x.1 x.2:=by
  have hn:=h.n;obtain ⟨j,rfl⟩:∃ j:Nat,i=(j:Int):=⟨i.toNat,by lia⟩
  have hj:j<P.length:=by lia
  refine ⟨P[j],bI hj,zF (by rw [ag,ae hj]; rfl),h.at' _ (bI hj)⟩
def cdK(ns:List Nat)(f:Nat->Cell):List (Key×V):=ns.map λn:Nat=>((.inl (n:Int):Key),(f n).v)
structure Ly(H:Hp)(a:Addr)(ns:List Nat)(f:Nat->Cell):Prop where
  l:H a=some (.dK (cdK ns f))
  at':∀ n∈ns,(f n).At H
theorem Ly.same{H H':Hp}{a:Addr}{ns:List Nat}{f:Nat->Cell}(h:Ly H a ns f)(s:Same H H'):Ly H' a ns f:=⟨s _ _ h.l,λn hn=>(h.at' n hn).same s⟩
theorem yt{n:Nat}{f:Nat->Cell}:∀ {ns:List Nat},n∈ns->valV (cdK ns f) (.inl (n:Int))=some (f n).v
  | m::ns,h=>by
    by_cases e:m=n
    . subst e; exact z5 rfl
    . rw [cdK,aU,zQ (λc=>e (cV (dN c)))];exact yt (by simpa [ca e] using h)
theorem xQ{k:Nat}{f:Nat->Cell}:∀ {ns:List Nat},(∀ n∈ns,n<k)->valV (cdK ns f) (.inl (k:Int))=none
  | [],_=>rfl
  | m::ns,h=>by
    rw [cdK,aU,zQ (λc=>absurd (cV (dN c)) (az (h m aB)))];exact xQ λn hn=>h n (ay _ hn)
theorem tQ{n:Nat}{f:Nat->Cell}:∀ ns:List Nat,vL (cdK ns f) (.inl (n:Int))=cdK (ns.filter λk:Nat=>decide ((k:Int)≠(n:Int))) f
  | []=>rfl
  | k::ns=>by
    have ih:=tQ (n:=n) (f:=f) ns;simp only [vL,cdK] at ih ⊢;by_cases c:(k:Int)=n
    . simp only [aU,cI,c,ne_eq,not_true_eq_false,decide_false,ih];rfl
    . simp only [aU,cI,ne_eq,Sum.inl.injEq,c,not_false_eq_true,decide_true,ih];rfl
theorem Fz{f:Nat->Cell}:(cdK ns f).map (·.1)=(ns.map λn:Nat=>(n:Int)).map Sum.inl:=by
  simp only [cdK,gQ];rfl
theorem AD{f:Nat->Cell}:(cdK ns f).length=ns.length:=by simp [cdK]
theorem Ko(h:ns.Pairwise (· < ·)):(ns.map λn:Nat=>(n:Int)).Pairwise (· < ·) :=
  em.mpr (h.imp λ{a b} hab=>Int.ofNat_lt.mpr hab)
theorem Du{f:Nat->Cell}(h:H a=some (.dK (cdK ns f)))(up:ns.Pairwise (· < ·))(hl:ns.length<64)(q:∀ p H2,H p=none->Same H H2->H2 p=some (.lst ((ns.map λn:Nat=>(n:Int)).map V.int))->Q (.ref p) H2):Gj [.ref a] H Q :=
  ⟨a,_,_,rfl,h,Fz,Ko up,by rw [AD]; exact hl,λp hp=>q p _ hp (zA hp _) zf⟩
theorem Fj(h:H a=some (.dK kvs))(q:∀ p H2,H p=none->Same H H2->H2 p=some (.dK kvs)->Q (.ref p) H2):GI [.ref a] H Q :=
  ⟨a,_,rfl,h,λp hp=>q p _ hp (zA hp _) zf⟩
def rNeL(X:Cx):R2:=λx y H Q=>∃ a b xs ys bs n,x=.ref a/\y=.ref b/\n<=9/\SqL X.K H a xs/\SqL X.K H b ys/\EqVs X n H xs ys bs/\Q (.bl (!(bs.all id))) H
theorem GT{X:Cx}(hu:X.A.units+64<cLine):OpR X (compareOp .NotEq) (rNeL X):=by
  intro pins s σ H x y v u Q I rx ry h;obtain ⟨a,b,xs,ys,bs,n,rfl,rfl,hn,ha,hb,he,q⟩:=h;cases rx
  cases ry
  obtain ⟨is,js,p1,p2,hz,hj,e⟩:=Jo (A:=X.A) ha hb he I (by lia);refine SeqAt.RcNeAt.lists p1 p2 hz (by lia) hj X.prog X.w X.xe _ ?_;rw [e];exact ⟨.bl _,H,I,rfl,q⟩
variable {C:List Cell}
theorem Kf{X:Cx}{b:Addr}{D:List Cell}(ha:H a=some (.lst (C.map Cell.v)))(hb:H b=some (.lst (D.map Cell.v)))(hC:∀ c∈C,c.At H)(hD:∀ c∈D,c.At H)(e:C.map Cell.b=D.map Cell.b)(q:Q (.bl false) H):rNeL X (.ref a) (.ref b) H Q:=by
  obtain ⟨a',b',xs,ys,bs,n,e1,e2,hn,h1,h2,h3,h4⟩:=JD (X:=X) (Q:=λv H'=>v=.bl true/\H'=H) ha hb hC hD e ⟨rfl,rfl⟩;refine ⟨a',b',xs,ys,bs,n,e1,e2,hn,h1,h2,h3,?_⟩;have h5:bs.all id=true:=by
    have:=h4.1;injection this
  rw [h5];exact q
def rNeE(K:iB):R2:=λx y H Q=>∃ a b xs,x=.ref a/\y=.ref b/\SqL K H a xs/\SqL K H b []/\Q (.bl (!xs.isEmpty)) H
theorem Kv{X:Cx}(hu:X.A.units+64<cLine):OpR X (compareOp .NotEq) (rNeE X.K):=by
  intro pins s σ H x y v u Q I rx ry h;obtain ⟨a,b,xs,rfl,rfl,ha,hb,q⟩:=h;cases rx
  cases ry
  obtain ⟨is,r1,p1,_⟩:=I.list ha;obtain ⟨js,r2,p2,_⟩:=I.list hb;have l1:=r1.length;have l2:=r2.length;have j0:js=[]:=gr.mp l2.symm;subst j0;cases xs with
  | nil =>
    have i0:is=[]:=gr.mp l1.symm;subst i0;exact SeqAt.RcNeAt.lists (e:=λ_=>true) p1.isList p2.isList rfl (by lia) (λj h1 h2=>absurd h1 (by simp)) X.prog X.w X.xe _ ⟨.bl false,H,I,rfl,q⟩
  | cons z zs =>
    refine SeqAt.RcNeAt.lists_lengths p1.isList p2.isList ?_ (by lia) X.prog X.w X.xe _ ⟨.bl true,H,I,rfl,q⟩;cases is with
    | nil=>simp at l1
    | cons i is=>simp
def rEq3(K:iB):R2:=λu v H Q=>∃ (a b:Addr) (x y z x' y' z':Int),u=.ref a/\v=.ref b/\SqT K H a [.int x,.int y,.int z]/\SqT K H b [.int x',.int y',.int z']/\Q (.bl (decide (x=x'/\y=y'/\z=z'))) H
theorem JV{X:Cx}{K:iB}(hu:X.A.units+64<cLine)(hK:X.K=K):OpR X (compareOp .Eq) (rEq3 K):=by
  subst hK;intro pins s σ H x y v u Q I rx ry h;obtain ⟨a,b,x1,y1,z1,x2,y2,z2,rfl,rfl,ha,hb,q⟩:=h;exact BI hu pins s σ H _ _ v u Q I rx ry (JY ha hb q)
theorem KH{s t:Sd}(hR:Rt d)(z1:1<=s.z)(z2:1<=t.z)(h:sgn d (tkS t s).x (tkS t s).y<0):sgn d (tkS s t).x (tkS s t).y=1:=by
  refine LE hR z1 z2 ?_;have hn1:1<=t.z*s.z:=aX (by lia) (by lia);have e:sgn d (tkS t s).x (tkS t s).y=sgn d (-(s.x*t.z - t.x*s.z)) (-(s.y*t.z - t.y*s.z)):=by
    refine (z4 hR hn1).trans ?_;rw [show t.x*s.z+-s.x*t.z=-(s.x*t.z - t.x*s.z) by grind,show t.y*s.z+-s.y*t.z=-(s.y*t.z - t.y*s.z) by grind]
  rw [e,xP hR] at h
  lia
structure Dd.Good(d D:Int)(M:Nat)(ns:List Nat)(f:Nat->Cell)(e:Dd)(n m:Nat):Prop where
  nm:e.names=if e.two then [(n:Int),(m:Int)] else [(n:Int)]
  hn:n∈ns
  hm:m∈ns
  ne:e.two=true->n≠m
  eq:e.two=false->m=n
  ok:e.Ok
  fit:e.Fit d (f n).b (f m).b
  new:∃ k,1<=k/\Bd 6 k/\∀ x∈e.new (f n).b (f m).b,BoD d (D*k) (M+13) x
theorem BoD.up{k:Int}{j:Nat}{b:Bo}(h:BoD d D M b)(bk:Bd j k):BoD d (D*k) (M+j) b:=⟨h.1.scale bk,h.2.scale bk⟩
theorem BoD.mono{d D:Int}{M M':Nat}{b:Bo}(h:BoD d D M b)(l:M<=M'):BoD d D M' b:=⟨h.1.mono l,h.2.mono l⟩
structure Sz(D:Int)(K' M:Nat):Prop where
  d1:1<=D
  bd:Bd K' D
  k:K'<=2050
  m:M<=2300
variable {K':Nat}
theorem Sz.sy{s:Sd}(z:Sz D K' M)(h:So d D M s):SY s:=(h.sk z.d1 z.bd).mono (by have:=z.m; lia) (by have:=z.k; lia)
variable {al:Bool}
theorem BV{k:Int}{f:Nat->Cell}{n:Nat}{s:Sd}(hR:Rt d)(z:Sz D K' M)(hn:n∈ns)(hb:BoD d D M (f n).b)(k1:1<=k)(bk:Bd 6 k)(hs:So d (D*k) (M+6) s)(up:sgn d (tkS (if al then (f n).b.h else (f n).b.w) s).x (tkS (if al then (f n).b.h else (f n).b.w) s).y=1):(Dd.cut al n s).Good d D M ns f n n:=by
  have kD:1<=D*k:=aX (by have:=z.d1; lia) (by lia);have bD:Bd (K'+6) (D*k):=z.bd.mul bk;have ss:SY s:=(hs.sk kD bD).mono (by have:=z.m; lia) (by have:=z.k; lia);have hb':=hb.up bk;have key:∀ w:Sd,So d D M w->sgn d (tkS w s).x (tkS w s).y=1->CY d w s/\So d (D*k) (M+13) (tkS w s):=λw hw u=>by
    have hn1:1<=w.z*s.z:=aX (by have:=hw.z1; lia) (by have:=hs.z1; lia);refine ⟨⟨z.sy hw,ss,by rw [hs.up]; decide,?_⟩,(KS hR (hw.scale bk) hs u).mono (by lia)⟩;have e:sgn d (tkS w s).x (tkS w s).y=sgn d (w.x*s.z - s.x*w.z) (w.y*s.z - s.y*w.z):=by
      refine (z4 hR hn1).trans ?_;rw [show w.x*s.z+-s.x*w.z=w.x*s.z - s.x*w.z by grind,show w.y*s.z+-s.y*w.z=w.y*s.z - s.y*w.z by grind]
    rw [<-e,u];decide
  have hs':=hs.mono (M':=M+13) (by lia);have ow:=hb'.1.mono (M':=M+13) (by lia);have oh:=hb'.2.mono (M':=M+13) (by lia);cases al with
  | false =>
    obtain ⟨c1,c2⟩:=key (f n).b.w hb.1 up;refine ⟨rfl,hn,hn,(λh=>nomatch h),λ_=>rfl,ss,c1,k,k1,bk.mono (by decide),λx hx=>?_⟩;rcases aK.mp hx with rfl|hx
    . exact ⟨hs',oh⟩
    . rw [ak.mp hx]; exact ⟨c2,oh⟩
  | true =>
    obtain ⟨c1,c2⟩:=key (f n).b.h hb.2 up;refine ⟨rfl,hn,hn,(λh=>nomatch h),λ_=>rfl,ss,c1,k,k1,bk.mono (by decide),λx hx=>?_⟩;rcases aK.mp hx with rfl|hx
    . exact ⟨ow,hs'⟩
    . rw [ak.mp hx]; exact ⟨ow,c2⟩
theorem tP{f:Nat->Cell}{n m:Nat}(hR:Rt d)(z:Sz D K' M)(hn:n∈ns)(hm:m∈ns)(nm:n≠m)(hb:BoD d D M (f n).b)(hb':BoD d D M (f m).b)(e:(if al then (f n).b.w else (f n).b.h)=(if al then (f m).b.w else (f m).b.h)):(Dd.glue al n m).Good d D M ns f n m:=by
  cases al with
  | false =>
    refine ⟨rfl,hn,hm,λ_=>nm,(λh=>nomatch h),trivial,⟨e,z.sy hb.1,z.sy hb'.1⟩,1,by decide,by decide,λx hx=>?_⟩;rw [ak.mp hx,cJ];exact ⟨(Jv hR hb.1 hb'.1).mono (by lia),hb.2.mono (by lia)⟩
  | true =>
    refine ⟨rfl,hn,hm,λ_=>nm,(λh=>nomatch h),trivial,⟨e,z.sy hb.2,z.sy hb'.2⟩,1,by decide,by decide,λx hx=>?_⟩;rw [ak.mp hx,cJ];exact ⟨hb.1.mono (by lia),(Jv hR hb.2 hb'.2).mono (by lia)⟩
theorem Cv{k:Int}{f:Nat->Cell}{n:Nat}(hR:Rt d)(z:Sz D K' M)(hn:n∈ns)(hb:BoD d D M (f n).b)(k1:1<=k)(bk:Bd 6 k):(Dd.shift al n k).Good d D M ns f n n:=by
  have o1:∀ s:Sd,So d D M s->So d (D*k) (M+13) (shS s 1 k):=λs hs=>(HY (j:=1) hR hs (by decide) k1 (by decide)).mono (by lia);have o2:∀ s:Sd,So d D M s->So d (D*k) (M+13) (shS s k 1):=λs hs=>by
    have:=HY (j:=6) hR hs k1 (show (1:Int)<=1 by decide) bk;rw [cJ] at this;exact (this.scale bk).mono (by lia)
  have b64:Bd 1024 k:=bk.mono (by decide);cases al with
  | false =>
    refine ⟨rfl,hn,hn,(λh=>nomatch h),λ_=>rfl,⟨k1,b64⟩,⟨k1,b64,z.sy hb.1,z.sy hb.2⟩,k,k1,bk.mono (by decide),λx hx=>?_⟩;rw [ak.mp hx];exact ⟨o1 _ hb.1,o2 _ hb.2⟩
  | true =>
    refine ⟨rfl,hn,hn,(λh=>nomatch h),λ_=>rfl,⟨k1,b64⟩,⟨k1,b64,z.sy hb.1,z.sy hb.2⟩,k,k1,bk.mono (by decide),λx hx=>?_⟩;rw [ak.mp hx];exact ⟨o2 _ hb.1,o1 _ hb.2⟩
def fL(L:List Cell)(n:Nat):Cell:=L[n]?.getD ⟨0,0,0,⟨⟨0,0,1⟩,⟨0,0,1⟩⟩⟩
theorem tY{L:List Cell}{n:Nat}(h:L[n]?=some c):fL L n=c:=by unfold fL; rw [h]; rfl
theorem Dd.Good.nodup{f:Nat->Cell}{n m:Nat}(h:e.Good d D M ns f n m):e.names.Nodup:=by
  rw [h.nm];cases ht:e.two with
  | true =>
    rw [h7 rfl];have:=h.ne ht;simp
    lia
  | false =>
    rw [h8 (by decide)];simp
variable {z:Int}
theorem Ds{f:Nat->Cell}{n m:Nat}(h:e.Good d D M ns f n m){i:Nat}(hi:e.names[i]?=some z):∃ j∈ns,z=(j:Int)/\(e.cells (f n) (f m))[i]?=some (f j):=by
  rw [h.nm] at hi;unfold Dd.cells;cases ht:e.two with
  | true =>
    rw [ht,h7 rfl] at hi;rw [h7 rfl]
    match i,hi with
    | 0,hi=>injection hi with hi; exact ⟨n,h.hn,hi.symm,rfl⟩
    | 1,hi=>injection hi with hi; exact ⟨m,h.hm,hi.symm,rfl⟩
    | i+2,hi=>exact nomatch hi
  | false =>
    rw [ht,h8 (by decide)] at hi;rw [h8 (by decide)]
    match i,hi with
    | 0,hi=>injection hi with hi; exact ⟨n,h.hn,hi.symm,rfl⟩
    | i+1,hi=>exact nomatch hi
theorem Fr(h:c∈pick cl ns):c∈cl:=by
  obtain ⟨n,_,hn⟩:=fA.mp h;exact aq hn
def fN(f:Nat->Cell)(k:Nat)(N:List Cell)(j:Nat):Cell:=if j<k then f j else fL N (j - k)
theorem JP{f:Nat->Cell}{k:Nat}{N:List Cell}{j:Nat}(h:j<k):fN f k N j=f j:=h7 h
theorem Ky{f:Nat->Cell}{k:Nat}{N:List Cell}{i:Nat}:fN f k N (k+i)=fL N i:=by unfold fN; rw [h8 (by lia),dk]
theorem Dh{f g:Nat->Cell}(h:∀ n∈ns,f n=g n):cdK ns f=cdK ns g:=fi λn hn=>by rw [h n hn]
theorem B7{f:Nat->Cell}{j:Nat}:cdK (ns++[j]) f=cdK ns f++[(.inl (j:Int),(f j).v)]:=by simp [cdK]
theorem vz{K:iB}{p:Addr}{x:V}{b:Bool}(e:H p=some (.tup ys))(hx:wf x=true)(hy:ys.all wf=true)(hb:inV x ys=b)(q:Q (.bl b) H):rIn K false x (.ref p) H Q:=by
  subst hb;exact KI e hx hy q
theorem Jk{C:Addr}{t:TA}(h:t σ H λvs H1=>∀ x dx,H1 x=none->H1 dx=none->dx≠x->sp (.ref x::(vs++dvs)) (upd (upd H1 dx (.own x)) x (.ins C dx [])) (λv H2=>v=.non/\Q (.ref x) H2) E):Ie C sp dvs E t σ H Q:=h
variable {tn:Bool}
theorem YdAt.mv{C:Addr}{y:Yd}{lg:List V}(h:YdAt C H y d tn cl ns lg)(f:∀ b o,H b=some o->(∃ xs,o=.tup xs)\/b=y.p\/b=y.k\/b=y.l\/b=y.t->H' b=some o):YdAt C H' y d tn cl ns lg :=
  ⟨f _ _ h.o (.inr (.inl rfl)),f _ _ h.k (.inr (.inr (.inl rfl))),f _ _ h.l (.inr (.inr (.inr (.inl rfl)))),f _ _ h.t (.inr (.inr (.inr (.inr rfl)))),h.kt,λc hc=>⟨f _ _ (h.at' c hc).t (.inl ⟨_,rfl⟩),f _ _ (h.at' c hc).w (.inl ⟨_,rfl⟩),f _ _ (h.at' c hc).h (.inl ⟨_,rfl⟩)⟩,h.up,h.lt,h.lc,h.ll⟩
theorem HQ{K:iB}{ns:List Int}{i j:Nat}(hS:SqL K H a (ns.map V.int))(q:∀ (p:Addr) (H2:Hp),H p=none->Same H H2->H2 p=some (.lst (((ns.drop i).take (j - i)).map V.int))->Q (.ref p) H2):rSlL K (.ref a) (some (i:Int)) (some (j:Int)) H Q:=by
  obtain ⟨a',xs,e1,h1,h2⟩:=IP (i:=i) (j:=j) (Q:=λv H2=>∃ p,v=.ref p/\Same H H2/\H2 p=some (.lst (((ns.drop i).take (j - i)).map V.int))) hS (λp H2 s e=>⟨p,rfl,s,e⟩);refine ⟨a',xs,e1,h1,λp hp=>?_⟩;obtain ⟨p',e,s,z⟩:=h2 p hp;injection e with e;subst e;exact q _ _ hp s z
theorem JS(e:Dd)(b c:Bo):1<=(e.new b c).length:=by
  cases e with
  | cut al n t=>cases al <;> exact d9 _
  | glue al n m=>cases al <;> exact ai _
  | shift al n k=>cases al <;> exact ai _
  | turn n=>exact ai _
theorem FX{ms:List Int}{n:Nat}(up:ns.Pairwise (· < ·))(hn:n∈ns)(hm:(n:Int)∈ms):(z8 ns ms).length+1<=ns.length:=by
  have nd:(n::z8 ns ms).Nodup:=df.mpr ⟨λh=>(mem_ndrop.mp h).2 hm,(xq up).imp λhab=>az hab⟩;exact eJ nd λk hk=>by
    rcases aK.mp hk with rfl|hk
    . exact hn
    . exact (mem_ndrop.mp hk).1
theorem EqV.str'{X:Cx}{n:Nat}(i:Str):EqV X n H (.str i) (.str i) true:=λ_ _ s v u A _ rv ru _=>by
  have e:=GG (A:=A) (s:=s) rv ru rfl rfl;have q:eqV (.str i) (.str i)=true:=beq_self_eq_true _;rw [q] at e;exact e
theorem DdAt.sameX{p:Addr}{xs:List V}(h:DdAt H p e)(s:SameX l H H')(e0:H l=some (.lst xs)):DdAt H' p e:=by
  cases e with
  | cut al n t=>obtain ⟨q,h1,h2⟩:=h; exact ⟨q,s.tup h1 e0,s.tup h2 e0⟩
  | glue al n m=>exact s.tup h e0
  | shift al n k=>exact s.tup h e0
  | turn n=>exact s.tup h e0
theorem CO{i:Int}(h:ns≠[]):∃ n∈ns,atI ((ns.map λn:Nat=>(n:Int)).map V.int) (i % ((((ns.map λn:Nat=>(n:Int)).map V.int).length:Nat):Int))=some (.int (n:Int)):=by
  have hp:0<ns.length:=bA.mpr h;have e:((((ns.map λn:Nat=>(n:Int)).map V.int).length:Nat):Int)=(ns.length:Int):=by simp
  rw [e];have h0:=ce i (show (ns.length:Int)≠0 by lia);have h1:=cg i (show (0:Int)<ns.length by lia);obtain ⟨x,hx,g⟩:=BM (xs:=ns.map λn:Nat=>(n:Int)) (i:=i % (ns.length:Int)) h0 (by rw [aa]; exact h1);obtain ⟨n,hn,rfl⟩:=aZ.mp hx;exact ⟨n,hn,g⟩
theorem BG{K:iB}{xs:List V}{i:Nat}(h:H a=some (.lst xs))(q:∀ (p:Addr) (H2:Hp),Same H H2->H2 p=some (.lst (xs.drop i))->Q (.ref p) H2):rSlL K (.ref a) (some (i:Int)) none H Q:=by
  refine ⟨a,_,rfl,SqL.of h,λp hp=>?_⟩;refine q p _ (zA hp _) ?_;rw [zf];unfold cutV;rw [HT.sIx_nat,HT.sIx_none];congr 2;rcases gL i xs.length with z|z
  . rw [d6 z,bJ (by rw [c8]; lia)]
  . rw [eQ z,dn (ai _),dn z,hU]
structure As where
  k:Nat
  ns:List Nat
  g:Nat->Bo
def gN(g:Nat->Bo)(k:Nat)(N:List Bo)(j:Nat):Bo:=if j<k then g j else N[j - k]?.getD ⟨⟨0,0,1⟩,⟨0,0,1⟩⟩
def As.next(s:As)(x:Dd×Nat×Nat):As:=⟨s.k+(x.1.new (s.g x.2.1) (s.g x.2.2)).length,z8 s.ns x.1.names++List.range' s.k (x.1.new (s.g x.2.1) (s.g x.2.2)).length,gN s.g s.k (x.1.new (s.g x.2.1) (s.g x.2.2))⟩
def ends(s:As)(es:List (Dd×Nat×Nat)):As:=es.foldl As.next s
def As.st(L:List Cell):As:=⟨L.length,List.range L.length,λn=>(fL L n).b⟩
structure Nms(s:As)(e:Dd)(n m:Nat):Prop where
  nm:e.names=if e.two then [(n:Int),(m:Int)] else [(n:Int)]
  hn:n∈s.ns
  hm:m∈s.ns
  ne:e.two=true->n≠m
  eq:e.two=false->m=n
structure Stp(d:Int)(tn:Bool)(s:As)(x:Dd×Nat×Nat):Prop where
  nms:Nms s x.1 x.2.1 x.2.2
  ok:x.1.Ok
  fit:x.1.Fit d (s.g x.2.1) (s.g x.2.2)
  tn:x.1.isT=true->tn=true
def Walk(d:Int)(tn:Bool)(s:As)(es:List (Dd×Nat×Nat)):Prop:=∀ (i:Nat) (x:Dd×Nat×Nat),es[i]?=some x->Stp d tn (ends s (es.take i)) x
variable {x:Dd×Nat×Nat}
theorem yo{s:As}{es:List (Dd×Nat×Nat)}{i:Nat}(h:es[i]?=some x):ends s (es.take (i+1))=(ends s (es.take i)).next x:=by
  rw [a8,h];show ends s (es.take i++[x])=_;unfold ends;rw [di];rfl
def Runs(H:Hp)(ps:List Addr)(es:List (Dd×Nat×Nat)):Prop:=ps.length=es.length/\∀ (i:Nat) (p:Addr) (x:Dd×Nat×Nat),ps[i]?=some p->es[i]?=some x->DdAt H p x.1
theorem Runs.same{H H':Hp}{ps:List Addr}{es:List (Dd×Nat×Nat)}(h:Runs H ps es)(s:Same H H'):Runs H' ps es:=⟨h.1,λi p x h1 h2=>(h.2 i p x h1 h2).same s⟩
def YdS(C:Addr)(H:Hp)(y:Yd)(d:Int)(tn:Bool)(s:As)(lg:List V):Prop:=∃ cl,YdAt C H y d tn cl s.ns lg/\cl.length=s.k/\∀ n,n<s.k->∃ c,cl[n]?=some c/\c.b=s.g n
theorem Nms.names_in{s:As}{n m:Nat}(h:Nms s e n m):∀ k∈e.names,∃ i∈s.ns,k=(i:Int):=λk hk=>by
  rw [h.nm] at hk;cases ht:e.two with
  | true =>
    rw [ht,h7 rfl] at hk;rcases aK.mp hk with rfl|hk
    . exact ⟨n,h.hn,rfl⟩
    . rw [ak.mp hk]; exact ⟨m,h.hm,rfl⟩
  | false =>
    rw [ht,h8 (by decide)] at hk;rw [ak.mp hk]; exact ⟨n,h.hn,rfl⟩
theorem Nms.nodup{s:As}{n m:Nat}(h:Nms s e n m):e.names.Nodup:=by
  rw [h.nm];cases ht:e.two with
  | true =>
    rw [h7 rfl];have:=h.ne ht;simp
    lia
  | false =>
    rw [h8 (by decide)];simp
theorem Nms.en{s:As}{n m:Nat}(h:Nms s e n m):e.n=(n:Int):=by
  have:=h.nm;cases e <;> simp [Dd.names,Dd.two,Dd.n] at this ⊢
  . exact this
  . exact this.1
  . exact this
  . exact this
theorem Nms.cells{s:As}{n m:Nat}(h:Nms s e n m)(h1:cl[n]?=some c)(h2:cl[m]?=some c'):CellsOf cl e c c':=by
  have hnm:=h.nm;have heq:=h.eq;cases e with
  | glue al a b =>
    simp [Dd.names,Dd.two] at hnm;exact ⟨⟨n,hnm.1,h1⟩,m,hnm.2,h2⟩
  | cut al a t =>
    have:m=n:=heq rfl;subst this;refine ⟨⟨m,h.en,h1⟩,aw (h2.symm.trans h1)⟩
  | shift al a t =>
    have:m=n:=heq rfl;subst this;refine ⟨⟨m,h.en,h1⟩,aw (h2.symm.trans h1)⟩
  | turn a =>
    have:m=n:=heq rfl;subst this;refine ⟨⟨m,h.en,h1⟩,aw (h2.symm.trans h1)⟩
theorem YdS.next{C:Addr}{H':Hp}{y:Yd}{d:Int}{tn:Bool}{s:As}{x:Dd×Nat×Nat}{cl N:List Cell}{lg:List V}(h2:cl.length=s.k)(h3:∀ n,n<s.k->∃ c,cl[n]?=some c/\c.b=s.g n) (hy:YdAt C H' y d tn (cl++N) (z8 s.ns x.1.names++List.range' cl.length N.length) lg) (hN:N.map Cell.b=x.1.new (s.g x.2.1) (s.g x.2.2)):YdS C H' y d tn (s.next x) lg:=by
  have hl:N.length=(x.1.new (s.g x.2.1) (s.g x.2.2)).length:=by rw [<-hN,aa]
  rw [h2,hl] at hy;refine ⟨cl++N,hy,by rw [ah,h2,hl]; rfl,λj hj=>?_⟩;have hj:j<s.k+(x.1.new (s.g x.2.1) (s.g x.2.2)).length:=hj;show ∃ c,(cl++N)[j]?=some c/\c.b=gN s.g s.k _ j;by_cases hjl:j<s.k
  . obtain ⟨c,h4,h5⟩:=h3 j hjl;exact ⟨c,by rw [aM (by lia)]; exact h4,by unfold gN; rw [h7 (by lia)]; exact h5⟩
  . obtain ⟨t,rfl⟩:∃ t,j=s.k+t:=⟨j - s.k,by lia⟩
    have ht:t<N.length:=by lia
    refine ⟨N[t],by rw [aG (by lia),h2,dk]; exact ae ht,?_⟩;unfold gN;rw [h8 (by lia),dk,<-hN,ag,ae ht];rfl
abbrev DL:=List (Dd×Nat×Nat)
theorem Kg{s:As}{es:List (Dd×Nat×Nat)}:(ends s es).k<=s.k+2*es.length:=by
  induction es generalizing s with
  | nil=>exact ai _
  | cons x es ih =>
    have h1:(s.next x).k<=s.k+2:=Nat.add_le_add_left (uo x.1 _ _) _;have h2:=ih (s:=s.next x);show (ends (s.next x) es).k<=_;rw [ar]
    lia
structure As.Ok(B:Nat)(s:As)(i:Nat):Prop where
  up:s.ns.Pairwise (· < ·)
  lt:∀ n∈s.ns,n<s.k
  ne:s.ns≠[]
  nl:s.ns.length<=B+i
  kl:s.k<=B+2*i
theorem As.Ok.next{B:Nat}{s:As}{i:Nat}{x:Dd×Nat×Nat}(h:As.Ok B s i)(n:Nms s x.1 x.2.1 x.2.2):As.Ok B (s.next x) (i+1):=by
  have l2:=uo x.1 (s.g x.2.1) (s.g x.2.2);have l1:=JS x.1 (s.g x.2.1) (s.g x.2.2);have hk:=h.kl;have hnl:=h.nl;have dl:=FX h.up n.hn (show (x.2.1:Int)∈x.1.names by rw [n.nm]; cases x.1.two <;> simp);generalize hN:x.1.new (s.g x.2.1) (s.g x.2.2)=N at l1 l2;have e1:(s.next x).ns=z8 s.ns x.1.names++List.range' s.k N.length:=by rw [<-hN]; rfl
  have e2:(s.next x).k=s.k+N.length:=by rw [<-hN]; rfl
  refine ⟨?_,?_,?_,?_,?_⟩
  . rw [e1];refine List.pairwise_append.mpr ⟨xq h.up,gs ..,λn1 h1 n2 h2=>?_⟩;have:=h.lt n1 (mem_ndrop.mp h1).1;have:=cD.mp h2
    lia
  . rw [e1,e2];intro j hj;rcases ax.mp hj with hj|hj
    . have:=h.lt j (mem_ndrop.mp hj).1
      lia
    . have:=cD.mp hj
      lia
  . rw [e1];intro hh;have:=congrArg List.length hh;rw [ah,dq,aP] at this
    lia
  . rw [e1,ah,dq]
    lia
  . rw [e2]
    lia
theorem Runs.sameX{H H':Hp}{l:Addr}{ps:List Addr}{es:DL}{xs:List V}(h:Runs H ps es)(z:SameX l H H')(e:H l=some (.lst xs)):Runs H' ps es:=⟨h.1,λi p x h1 h2=>(h.2 i p x h1 h2).sameX z e⟩
variable {es:DL}
theorem wU{s:As}:ends s (es++[x])=(ends s es).next x:=by
  unfold ends;rw [di];rfl
theorem Ea{s:As}(h:Walk d tn s es)(g:Stp d tn (ends s es) x):Walk d tn s (es++[x]):=λi y hy=>by
  by_cases c:i<es.length
  . rw [aM c] at hy;rw [cB (by lia)];exact h i y hy
  . have hl:=(af.mp hy).1;rw [ah] at hl;have:i=es.length:=by simp only [ar,aP] at hl; lia
    subst this;rw [aG (ai _),dz] at hy;have:x=y:=aw hy;subst this;rw [List.take_left];exact g
theorem xi{p:Addr}(h:Runs H ps es)(g:DdAt H p x.1):Runs H (ps++[p]) (es++[x]):=⟨by rw [ah,ah,h.1]; rfl,λi q y h1 h2=>by
  by_cases c:i<ps.length
  . rw [aM c] at h1;rw [aM (by rw [<-h.1]; exact c)] at h2;exact h.2 i q y h1 h2
  . have hl:=(af.mp h1).1;rw [ah] at hl;have:i=ps.length:=by simp only [ar,aP] at hl; lia
    subst this;rw [aG (ai _),dz] at h1;rw [h.1,aG (ai _),dz] at h2;have e1:p=q:=aw h1;have e2:x=y:=aw h2;subst e1;subst e2;exact g⟩
structure Rv(D X Y:Int)(s:Sd):Prop where
  z1:1<=s.z
  g:g3 s.x s.y s.z=1
  x:s.x*D=X*s.z
  y:s.y*D=Y*s.z
theorem So.rv{s:Sd}(h:So d D M s):∃ X Y,Rv D X Y s:=by
  obtain ⟨X,Y,_,_,hx,hy⟩:=h.r;exact ⟨X,Y,h.z1,h.g,hx,hy⟩
theorem Rv.eq{s t:Sd}(hD:D≠0)(h:Rv D X Y s)(h':Rv D X Y t):s=t:=by
  obtain ⟨a1,a2,a3⟩:=yi h.z1 h.g hD h.x h.y;obtain ⟨b1,b2,b3⟩:=yi h'.z1 h'.g hD h'.x h'.y;cases s
  cases t
  simp only at a1 a2 a3 b1 b2 b3;rw [a1,a2,a3,b1,b2,b3]
variable {X' Y':Int}
theorem Rv.tk{s t:Sd}(h:Rv D X Y s)(h':Rv D X' Y' t):Rv D (X - X') (Y - Y') (tkS s t):=by
  have hn:s.z*t.z≠0:=aH (by have:=h.z1; lia) (by have:=h'.z1; lia);have h1:=h.x;have h2:=h.y;have h3:=h'.x;have h4:=h'.y;obtain ⟨r1,r2⟩:=xK (a:=s.x*t.z+-t.x*s.z) (b:=s.y*t.z+-t.y*s.z) (n:=s.z*t.z) (D:=D) (X:=X - X') (Y:=Y - Y') hn (by grind) (by grind);exact ⟨l_n hn,xB hn,r1,r2⟩
theorem Rv.ad{s t:Sd}(h:Rv D X Y s)(h':Rv D X' Y' t):Rv D (X+X') (Y+Y') (adS s t):=by
  have hn:s.z*t.z≠0:=aH (by have:=h.z1; lia) (by have:=h'.z1; lia);have h1:=h.x;have h2:=h.y;have h3:=h'.x;have h4:=h'.y;obtain ⟨r1,r2⟩:=xK (a:=s.x*t.z+t.x*s.z) (b:=s.y*t.z+t.y*s.z) (n:=s.z*t.z) (D:=D) (X:=X+X') (Y:=Y+Y') hn (by grind) (by grind);exact ⟨l_n hn,xB hn,r1,r2⟩
theorem Rv.sh{k:Int}{s:Sd}(h:Rv D X Y s)(k1:1<=k):Rv (D*k) (X*m) (Y*m) (shS s m k):=by
  have hn:s.z*k≠0:=aH (by have:=h.z1; lia) (by lia);have h1:=h.x;have h2:=h.y;obtain ⟨r1,r2⟩:=xK (a:=s.x*m) (b:=s.y*m) (n:=s.z*k) (D:=D*k) (X:=X*m) (Y:=Y*m) hn (by grind) (by grind);exact ⟨l_n hn,xB hn,r1,r2⟩
theorem Rv.sc{k:Int}{s:Sd}(h:Rv D X Y s):Rv (D*k) (X*k) (Y*k) s :=
  ⟨h.z1,h.g,by rw [<-am,h.x]; grind,by rw [<-am,h.y]; grind⟩
variable {M':Nat}
theorem J9{s:Sd}(hD:1<=D)(h:So d D M w)(h':So d D M' s):adS s (tkS w s)=w:=by
  obtain ⟨X,Y,r⟩:=h.rv;obtain ⟨X',Y',r'⟩:=h'.rv;have:=r'.ad (r.tk r');rw [show X'+(X - X')=X by lia,show Y'+(Y - Y')=Y by lia] at this;exact this.eq (by lia) r
theorem IB{s:Sd}(hD:1<=D)(h:So d D M w)(h':So d D M' s):tkS (adS w s) w=s:=by
  obtain ⟨X,Y,r⟩:=h.rv;obtain ⟨X',Y',r'⟩:=h'.rv;have:=(r.ad r').tk r;rw [show X+X' - X=X' by lia,show Y+Y' - Y=Y' by lia] at this;exact this.eq (by lia) r'
theorem FV{k:Int}(hD:1<=D)(h:So d D M w)(k1:1<=k):shS (shS w 1 k) k 1=w/\shS (shS w k 1) 1 k=w:=by
  obtain ⟨X,Y,r⟩:=h.rv;have hk:D*k≠0:=aH (by lia) (by lia);have r1:Rv (D*k*1) (X*1*k) (Y*1*k) (shS (shS w 1 k) k 1):=(r.sh (m:=1) k1).sh (m:=k) (by lia);have r2:Rv (D*1*k) (X*k*1) (Y*k*1) (shS (shS w k 1) 1 k):=(r.sh (m:=k) (k:=1) (by lia)).sh (m:=1) k1;simp only [cJ] at r1 r2;exact ⟨r1.eq hk r.sc,r2.eq hk r.sc⟩
def Dd.und(m m':Int)(b:Bo):Dd->Dd
  | .cut al _ _=>.glue al m m'
  | .glue al _ _=>.cut al m (if al then b.h else b.w)
  | .shift al _ k=>.shift (!al) m k
  | .turn _=>.turn m
def Dd.puts:Dd->Nat
  | .cut _ _ _=>2
  | _=>1
theorem Dd.puts_new(e:Dd)(b c:Bo):(e.new b c).length=e.puts:=by
  cases e with
  | cut al n s=>cases al <;> rfl
  | glue al n m=>cases al <;> rfl
  | shift al n k=>cases al <;> rfl
  | turn n=>rfl
def undo(s:As)(x:Dd×Nat×Nat)(r:Nat->Nat):Dd×Nat×Nat:=(x.1.und (r s.k:Nat) (r (s.k+1):Nat) (s.g x.2.1),r s.k,if x.1.puts=2 then r (s.k+1) else r s.k)
def ren(r:Nat->Nat)(x:Dd×Nat×Nat)(u j:Nat):Nat:=if x.1.two=true/\j=x.2.2 then u+1 else if j=x.2.1 then u else r j
structure Sim(r:Nat->Nat)(s t:As):Prop where
  mp:∀ n∈s.ns,r n∈t.ns
  on:∀ m∈t.ns,∃ n∈s.ns,r n=m
  inj:∀ n∈s.ns,∀ m∈s.ns,r n=r m->n=m
  g:∀ n∈s.ns,t.g (r n)=s.g n
theorem AX(m m':Int)(b:Bo)(e:Dd):(e.und m m' b).two=decide (e.puts=2):=by cases e <;> rfl
theorem Ip(m m':Int)(b:Bo)(e:Dd):(e.und m m' b).isT=e.isT:=by cases e <;> rfl
theorem BP(m m':Int)(b:Bo)(e:Dd):(e.und m m' b).puts=if e.two then 2 else 1:=by cases e <;> rfl
theorem tU(m m':Int)(b:Bo)(e:Dd):(e.und m m' b).names=if e.puts=2 then [m,m'] else [m]:=by cases e <;> rfl
theorem puts_le(e:Dd):e.puts=1\/e.puts=2:=by cases e <;> simp [Dd.puts]
theorem xh(s:As)(x:Dd×Nat×Nat):(s.next x).k=s.k+x.1.puts:=by
  show s.k+_=_;rw [Dd.puts_new]
theorem mem_next{s:As}{j:Nat}:j∈(s.next x).ns↔(j∈s.ns/\(j:Int)∉x.1.names)\/(s.k<=j/\j<s.k+x.1.puts):=by
  show j∈z8 s.ns x.1.names++List.range' s.k _↔_;rw [Dd.puts_new,ax,mem_ndrop,cD]
variable {g:Nat->Bo}
theorem vw{k j:Nat}{N:List Bo}(h:j<k):gN g k N j=g j:=by unfold gN; rw [h7 h]
theorem yq{k j:Nat}{N:List Bo}{b:Bo}(h:N[j]?=some b):gN g k N (k+j)=b:=by
  unfold gN;rw [h8 (by lia),dk,h];rfl
theorem Al{s:As}{n m j:Nat}(h:Nms s e n m):(j:Int)∈e.names↔j=n\/(e.two=true/\j=m):=by
  rw [h.nm];cases e.two with
  | true=>simp; lia
  | false=>simp; lia
variable {t:As}{r:Nat->Nat}
theorem Bp{s:As}(hD:1<=D)(st:Stp d tn s x)(so:∀ n∈s.ns,BoD d D M (s.g n))(sn:∀ b∈x.1.new (s.g x.2.1) (s.g x.2.2),BoD d D M b)(sim:Sim r (s.next x) t):(undo s x r).1.new (t.g (undo s x r).2.1) (t.g (undo s x r).2.2)=if x.1.two then [s.g x.2.1,s.g x.2.2] else [s.g x.2.1]:=by
  have hk:∀ j,j<x.1.puts->t.g (r (s.k+j))=gN s.g s.k (x.1.new (s.g x.2.1) (s.g x.2.2)) (s.k+j):=λj hj=>sim.g _ (mem_next.mpr (.inr ⟨by lia,by lia⟩));have o1:=so _ st.nms.hn;have o2:=so _ st.nms.hm;have ft:=st.fit;obtain ⟨e,n,m⟩:=x;dsimp only [undo] at hk o1 o2 ft sn ⊢;generalize s.g n=b at *
  generalize s.g m=c at *
  obtain ⟨bw,bh⟩:=b;obtain ⟨cw,ch⟩:=c;have h0:=hk 0 (by rcases puts_le e with h | h <;> lia);rw [gR] at h0;rw [h0];cases e with
  | cut al n s' =>
    have h1:=hk 1 (by show 1<2; decide);rw [h7 (show (Dd.cut al n s').puts=2 from rfl),h1];cases al with
    | false =>
      rw [yq (j:=1) rfl];rw [show gN s.g s.k (Dd.new ⟨bw,bh⟩ ⟨cw,ch⟩ (.cut false n s')) s.k=⟨s',bh⟩ from yq (j:=0) rfl];show [(⟨adS s' (tkS bw s'),bh⟩:Bo)]=[⟨bw,bh⟩]
      rw [J9 hD o1.1 (sn ⟨s',bh⟩ (by simp [Dd.new])).1]
    | true =>
      rw [yq (j:=1) rfl];rw [show gN s.g s.k (Dd.new ⟨bw,bh⟩ ⟨cw,ch⟩ (.cut true n s')) s.k=⟨bw,s'⟩ from yq (j:=0) rfl];show [(⟨bw,adS s' (tkS bh s')⟩:Bo)]=[⟨bw,bh⟩]
      rw [J9 hD o1.2 (sn ⟨bw,s'⟩ (by simp [Dd.new])).2]
  | glue al n' m' =>
    cases al with
    | false =>
      rw [show gN s.g s.k (Dd.new ⟨bw,bh⟩ ⟨cw,ch⟩ (.glue false n' m')) s.k=⟨adS bw cw,bh⟩ from yq (j:=0) rfl];have e:bh=ch:=ft.1;show [(⟨bw,bh⟩:Bo),⟨tkS (adS bw cw) bw,bh⟩]=[⟨bw,bh⟩,⟨cw,ch⟩]
      rw [IB hD o1.1 o2.1,e]
    | true =>
      rw [show gN s.g s.k (Dd.new ⟨bw,bh⟩ ⟨cw,ch⟩ (.glue true n' m')) s.k=⟨bw,adS bh ch⟩ from yq (j:=0) rfl];have e:bw=cw:=ft.1;show [(⟨bw,bh⟩:Bo),⟨bw,tkS (adS bh ch) bh⟩]=[⟨bw,bh⟩,⟨cw,ch⟩]
      rw [IB hD o1.2 o2.2,e]
  | shift al n' k =>
    have k1:1<=k:=ft.1;cases al with
    | false =>
      rw [show gN s.g s.k (Dd.new ⟨bw,bh⟩ ⟨cw,ch⟩ (.shift false n' k)) s.k=⟨shS bw 1 k,shS bh k 1⟩ from yq (j:=0) rfl];show [(⟨shS (shS bw 1 k) k 1,shS (shS bh k 1) 1 k⟩:Bo)]=[⟨bw,bh⟩]
      rw [(FV hD o1.1 k1).1,(FV hD o1.2 k1).2]
    | true =>
      rw [show gN s.g s.k (Dd.new ⟨bw,bh⟩ ⟨cw,ch⟩ (.shift true n' k)) s.k=⟨shS bw k 1,shS bh 1 k⟩ from yq (j:=0) rfl];show [(⟨shS (shS bw k 1) 1 k,shS (shS bh 1 k) k 1⟩:Bo)]=[⟨bw,bh⟩]
      rw [(FV hD o1.1 k1).2,(FV hD o1.2 k1).1]
  | turn n' =>
    rw [show gN s.g s.k (Dd.new ⟨bw,bh⟩ ⟨cw,ch⟩ (.turn n')) s.k=⟨bh,bw⟩ from yq (j:=0) rfl];rfl
theorem AJ{s:Sd}(hR:Rt d)(z:Sz D K' M)(hw:So d D M w)(hs:So d D M s)(ht:So d D M (tkS w s)):CY d w s:=by
  have hn1:1<=w.z*s.z:=aX (by have:=hw.z1; lia) (by have:=hs.z1; lia);refine ⟨z.sy hw,z.sy hs,by rw [hs.up]; decide,?_⟩;have e:sgn d (tkS w s).x (tkS w s).y=sgn d (w.x*s.z - s.x*w.z) (w.y*s.z - s.y*w.z):=by
    refine (z4 hR hn1).trans ?_;rw [show w.x*s.z+-s.x*w.z=w.x*s.z - s.x*w.z by grind,show w.y*s.z+-s.y*w.z=w.y*s.z - s.y*w.z by grind]
  rw [<-e,ht.up];decide
theorem DP{s:As}{f:Nat->Cell}(hR:Rt d)(z:Sz D K' M)(st:Stp d tn s x)(so:∀ n∈s.ns,BoD d D M (s.g n))(sn:∀ b∈x.1.new (s.g x.2.1) (s.g x.2.2),BoD d D M b)(sim:Sim r (s.next x) t)(hf:∀ n∈t.ns,(f n).b=t.g n):(undo s x r).1.Good d D M t.ns f (undo s x r).2.1 (undo s x r).2.2:=by
  have hD:=z.d1;have nw:=Bp hD st so sn sim;have p1:=puts_le x.1;have i0:s.k∈(s.next x).ns:=mem_next.mpr (.inr ⟨ai _,by lia⟩);have m0:r s.k∈t.ns:=sim.mp _ i0;have f0:(f (undo s x r).2.1).b=t.g (undo s x r).2.1:=hf _ m0;have m1:(undo s x r).2.2∈t.ns:=by
    show (if x.1.puts=2 then r (s.k+1) else r s.k)∈t.ns;split
    . exact sim.mp _ (mem_next.mpr (.inr ⟨by lia,by lia⟩))
    . exact m0
  have hb:∀ b∈(undo s x r).1.new (f (undo s x r).2.1).b (f (undo s x r).2.2).b,BoD d D M b:=by
    rw [f0,hf _ m1,nw];intro b hb;split at hb
    . rcases aK.mp hb with rfl | hb
      . exact so _ st.nms.hn
      . rw [ak.mp hb]; exact so _ st.nms.hm
    . rw [ak.mp hb]; exact so _ st.nms.hn
  have tso:∀ j,j<x.1.puts->BoD d D M (t.g (r (s.k+j))):=λj hj=>by
    rw [sim.g _ (mem_next.mpr (.inr ⟨by lia,by lia⟩))];have hl:=Dd.puts_new x.1 (s.g x.2.1) (s.g x.2.2);have hj':j<(x.1.new (s.g x.2.1) (s.g x.2.2)).length:=by lia
    show BoD d D M (gN s.g s.k _ (s.k+j));rw [yq (ae hj')];exact sn _ (bI hj')
  have t0:=tso 0 (by lia);rw [gR] at t0;have ftx:=st.fit;have okx:=st.ok;have hnn:=st.nms.hn;refine ⟨?_,m0,m1,?_,?_,?_,?_,1,by decide,by decide,λb hb'=>?_⟩
  . show (x.1.und _ _ _).names=_;rw [tU];show _=if (x.1.und _ _ _).two then _ else _
    rw [AX];rcases p1 with h|h
    . rw [h8 (by lia),h8 (by simp [h])];rfl
    . rw [h7 h,h7 (by simp [h])];show _=[_,((if x.1.puts=2 then r (s.k+1) else r s.k:Nat):Int)]
      rw [h7 h];rfl
  . intro h2;have h2:(x.1.und _ _ _).two=true:=h2;rw [AX] at h2;have h2:x.1.puts=2:=by simpa using h2
    show r s.k≠if x.1.puts=2 then r (s.k+1) else r s.k
    rw [h7 h2];intro c;have:=sim.inj _ i0 _ (mem_next.mpr (.inr ⟨by lia,by lia⟩)) c
    lia
  . intro h2;have h2:(x.1.und _ _ _).two=false:=h2;rw [AX] at h2;have h2:¬ x.1.puts=2:=by simpa using h2
    show (if x.1.puts=2 then r (s.k+1) else r s.k)=r s.k;rw [h8 h2]
  . show (x.1.und _ _ _).Ok;have o:=so _ hnn
    revert okx
    cases x.1 with
    | cut al n s'=>exact λ_=>trivial
    | glue al n m =>
      intro _;cases al with
      | false=>exact z.sy o.1
      | true=>exact z.sy o.2
    | shift al n k=>exact id
    | turn n=>exact λ_=>trivial
  . rw [f0,hf _ m1];rw [f0,hf _ m1] at hb;have o:=so _ hnn;have o':=so _ st.nms.hm;have g0:t.g (r s.k)=gN s.g s.k (x.1.new (s.g x.2.1) (s.g x.2.2)) s.k:=sim.g _ i0;have g1:x.1.puts=2->t.g (r (s.k+1))=gN s.g s.k (x.1.new (s.g x.2.1) (s.g x.2.2)) (s.k+1):=λh=>sim.g _ (mem_next.mpr (.inr ⟨by lia,by lia⟩));clear m1 m0 i0 nw f0 hf sim;obtain ⟨e,n,m⟩:=x;dsimp only [undo] at *
    generalize t.g (r s.k)=B at *
    cases e with
    | cut al n' s' =>
      have g1:=g1 rfl;have t1:=tso 1 (by show 1<2; decide);rw [h7 (show (Dd.cut al n' s').puts=2 from rfl)] at hb ⊢;generalize t.g (r (s.k+1))=C at *
      cases al with
      | false =>
        have q0:B=⟨s',(s.g n).h⟩:=g0.trans (yq (j:=0) rfl);have q1:C=⟨tkS (s.g n).w s',(s.g n).h⟩:=g1.trans (yq (j:=1) rfl);subst q0;subst q1;exact ⟨rfl,z.sy t0.1,z.sy t1.1⟩
      | true =>
        have q0:B=⟨(s.g n).w,s'⟩:=g0.trans (yq (j:=0) rfl);have q1:C=⟨(s.g n).w,tkS (s.g n).h s'⟩:=g1.trans (yq (j:=1) rfl);subst q0;subst q1;exact ⟨rfl,z.sy t0.2,z.sy t1.2⟩
    | glue al n' m' =>
      cases al with
      | false =>
        have hb1:=hb _ (ay _ aB);exact AJ hR z t0.1 o.1 hb1.1
      | true =>
        have hb1:=hb _ (ay _ aB);exact AJ hR z t0.2 o.2 hb1.2
    | shift al n' k =>
      cases al with
      | false=>exact ⟨ftx.1,ftx.2.1,z.sy t0.1,z.sy t0.2⟩
      | true=>exact ⟨ftx.1,ftx.2.1,z.sy t0.1,z.sy t0.2⟩
    | turn n'=>exact trivial
  . rw [cJ];exact (hb b hb').mono (by lia)
theorem FC{s:As}(hR:Rt d)(z:Sz D K' M)(st:Stp d tn s x)(so:∀ n∈s.ns,BoD d D M (s.g n))(sn:∀ b∈x.1.new (s.g x.2.1) (s.g x.2.2),BoD d D M b)(sim:Sim r (s.next x) t):Stp d tn t (undo s x r):=by
  have gd:=DP (f:=λn=>⟨0,0,0,t.g n⟩) hR z st so sn sim (λn _=>rfl);exact ⟨⟨gd.nm,gd.hn,gd.hm,gd.ne,gd.eq⟩,gd.ok,gd.fit,λh=>st.tn (by rw [<-h]; exact (Ip _ _ _ _).symm)⟩
theorem Fg{s:As}(hD:1<=D)(st:Stp d tn s x)(so:∀ n∈s.ns,BoD d D M (s.g n))(sn:∀ b∈x.1.new (s.g x.2.1) (s.g x.2.2),BoD d D M b)(sim:Sim r (s.next x) t)(lt:∀ n∈s.ns,n<s.k)(tl:∀ m∈t.ns,m<t.k):Sim (ren r x t.k) s (t.next (undo s x r)):=by
  have nw:=Bp hD st so sn sim;have p1:=puts_le x.1;have nx:∀ j:Nat,(j:Int)∈x.1.names↔j=x.2.1\/(x.1.two=true/\j=x.2.2):=λj=>Al st.nms;have ne:=st.nms.ne;have pu:(undo s x r).1.puts=if x.1.two then 2 else 1:=BP _ _ _ _
  have un:∀ j:Nat,(j:Int)∈(undo s x r).1.names↔∃ i,s.k<=i/\i<s.k+x.1.puts/\r i=j:=λj=>by
    show (j:Int)∈(x.1.und _ _ _).names↔_;rw [tU];rcases p1 with h|h
    . rw [h8 (by lia),ak,h];constructor
      . intro q;exact ⟨s.k,ai _,by lia,by lia⟩
      . rintro ⟨i,h1,h2,rfl⟩;rw [show i=s.k by lia]
    . rw [h7 h,aK,ak,h];constructor
      . rintro (q | q)
        . exact ⟨s.k,ai _,by lia,by lia⟩
        . exact ⟨s.k+1,by lia,by lia,by lia⟩
      . rintro ⟨i,h1,h2,rfl⟩;have:i=s.k\/i=s.k+1:=by lia
        rcases this with rfl|rfl
        . exact .inl rfl
        . exact .inr rfl
  have cs:∀ n∈s.ns,(x.1.two=true/\n=x.2.2/\ren r x t.k n=t.k+1)\/(n=x.2.1/\ren r x t.k n=t.k)\/(n∈(s.next x).ns/\ren r x t.k n=r n/\n<s.k/\r n<t.k):=λn hn=>by
    unfold ren;by_cases c1:x.1.two=true/\n=x.2.2
    . exact .inl ⟨c1.1,c1.2,h7 c1⟩
    . rw [h8 c1];by_cases c2:n=x.2.1
      . exact .inr (.inl ⟨c2,h7 c2⟩)
      . have hm:n∈(s.next x).ns:=mem_next.mpr (.inl ⟨hn,λh=>by
          rcases (nx n).mp h with h|h
          . exact c2 h
          . exact c1 h⟩)
        exact .inr (.inr ⟨hm,h8 c2,lt n hn,tl _ (sim.mp n hm)⟩)
  have tm:∀ j,j∈(t.next (undo s x r)).ns↔(j∈t.ns/\¬ ∃ i,s.k<=i/\i<s.k+x.1.puts/\r i=j)\/(t.k<=j/\j<t.k+if x.1.two then 2 else 1):=λj=>by rw [mem_next,un,pu]
  have tg:∀ j,(t.next (undo s x r)).g j=gN t.g t.k (if x.1.two then [s.g x.2.1,s.g x.2.2] else [s.g x.2.1]) j:=λj=>by rw [<-nw]; rfl
  refine ⟨λn hn=>?_,λm hm=>?_,λn hn m hm e=>?_,λn hn=>?_⟩
  . rw [tm];rcases cs n hn with ⟨h1,h2,h3⟩|⟨h1,h2⟩|⟨h1,h2,h3,h4⟩
    . rw [h3,h7 h1]; exact .inr (by lia)
    . rw [h2];refine .inr ⟨ai _,?_⟩;split <;> lia
    . rw [h2];refine .inl ⟨sim.mp n h1,?_⟩;rintro ⟨i,i1,i2,i3⟩;have:=sim.inj _ (mem_next.mpr (.inr ⟨i1,i2⟩)) _ h1 i3
      lia
  . rw [tm] at hm;rcases hm with ⟨h1,h2⟩|⟨h1,h2⟩
    . obtain ⟨n,hn,e⟩:=sim.on m h1;rcases mem_next.mp hn with ⟨h3,h4⟩|⟨h3,h4⟩
      . refine ⟨n,h3,?_⟩;unfold ren;rw [h8 (λc=>h4 ((nx n).mpr (.inr c))),h8 (λc=>h4 ((nx n).mpr (.inl c)))];exact e
      . exact absurd ⟨n,h3,h4,e⟩ h2
    . by_cases c:m=t.k
      . refine ⟨x.2.1,st.nms.hn,?_⟩;unfold ren;rw [h8 (λq=>ne q.1 q.2),h7 rfl,c]
      . have ht:x.1.two=true:=by
          cases h:x.1.two with
          | true=>rfl
          | false=>rw [h,h8 (by decide)] at h2; lia
        rw [h7 ht] at h2;refine ⟨x.2.2,st.nms.hm,?_⟩;unfold ren;rw [h7 ⟨ht,rfl⟩]
        lia
  . rcases cs n hn with ⟨h1,h2,h3⟩ | ⟨h1,h2⟩ | ⟨h1,h2,h3,h4⟩ <;> rcases cs m hm with ⟨k1,k2,k3⟩ | ⟨k1,k2⟩ | ⟨k1,k2,k3,k4⟩ <;> first | omega | exact sim.inj n h1 m k1 (by lia)
  . rw [tg];rcases cs n hn with ⟨h1,h2,h3⟩|⟨h1,h2⟩|⟨h1,h2,h3,h4⟩
    . rw [h3,h7 h1,yq (j:=1) rfl,h2]
    . rw [h2,h1];split
      . exact yq (j:=0) rfl
      . exact yq (j:=0) rfl
    . rw [h2,vw h4,sim.g n h1];exact vw h3
theorem xv(h:ns.Pairwise (· < ·)):ns.Nodup:=h.imp λhab=>az hab
theorem Be{s:As}(h:Sim r s t)(us:s.ns.Nodup)(ut:t.ns.Nodup):(s.ns.map r).Perm t.ns:=by
  have hn:(s.ns.map r).Nodup:=em.mpr (List.Pairwise.imp_of_mem (λ{a b} ha hb hab e=>hab (h.inj a ha b hb e)) us);refine (fq hn ut).mpr λm=>⟨λhm=>?_,λhm=>?_⟩
  . obtain ⟨n,h1,rfl⟩:=aZ.mp hm;exact h.mp n h1
  . obtain ⟨n,h1,e⟩:=h.on m hm;exact aZ.mpr ⟨n,h1,e⟩
def rk(ts:List Nat)(m:Nat):Nat:=ts.idxOf m
variable {ts:List Nat}
theorem tR{m:Nat}(h:m∈ts):ts[rk ts m]?=some m:=by
  have hl:=dA h;unfold rk;rw [ae hl,List.getElem_idxOf hl]
theorem FU(hn:ts.Nodup){i m:Nat}(h:ts[i]?=some m):rk ts m=i:=by
  have hm:=aq h;have hl:=dA hm;have h1:=tR hm;exact ((dF hl hn).mp (h1.trans h.symm))
theorem Fw(hn:ts.Nodup):ts.map (rk ts)=List.range ts.length:=by
  refine eB λj=>?_;rw [ag];by_cases hj:j<ts.length
  . rw [cK hj,ae hj];exact congrArg some (FU hn (ae hj))
  . rw [bR (by lia),bR (by rw [bf]; lia)];rfl
theorem Hv{ms:List Nat}(hp:ms.Perm ts)(hn:ts.Nodup):(ms.map (rk ts)).Perm (List.range ts.length):=by
  have:=hp.map (rk ts)
  rwa [Fw hn] at this
theorem tt{ms:List Nat}(hp:ms.Perm ts):(ts.map λn:Nat=>(n:Int)).Perm (ms.map λn:Nat=>(n:Int)):=(hp.map _).symm
theorem Ei(h:ts.Pairwise (· < ·)):(ts.map λn:Nat=>(n:Int)).Pairwise (·<=·):=em.mpr (h.imp λ{a b} hab=>Int.ofNat_le.mpr (bn hab))
theorem xm{s:As}:(ends s es).k=s.k+(es.map λx=>x.1.puts).sum:=by
  induction es generalizing s with
  | nil=>rfl
  | cons x es ih =>
    show (ends (s.next x) es).k=_;rw [ih,xh,aU,hV]
    lia
def Rn(kvs:List (Key×V))(ns:List Nat)(r:Nat->Nat):Prop:=∀ n∈ns,valV kvs (.inl (n:Int))=some (.int (r n:Nat))
theorem BY{j n:Nat}(c:j≠n):¬ ((.inl (j:Int):Key)=.inl (n:Int)):=λh=>c (cV (dN h))
def As.sb(bs:List Bo):As:=⟨bs.length,List.range bs.length,λn=>bs[n]?.getD ⟨⟨0,0,1⟩,⟨0,0,1⟩⟩⟩
theorem Cy(L:List Cell):As.st L=As.sb (L.map Cell.b):=by
  unfold As.st As.sb;rw [aa];congr 1;funext n;rw [ag];unfold fL;cases L[n]? <;> rfl
theorem vP{s:As}{n:Nat}(h:n<s.k):(ends s es).g n=s.g n:=by
  induction es generalizing s with
  | nil=>rfl
  | cons x es ih =>
    show (ends (s.next x) es).g n=_;rw [ih (by rw [xh]; lia)];exact vw h
theorem vt{s:As}{i:Nat}:ends s es=ends (ends s (es.take i)) (es.drop i):=by
  conv=>lhs; rw [<-dB i es]
  unfold ends;rw [di]
theorem Ad{s:As}{i:Nat}:(ends s (es.take i)).k<=(ends s es).k:=by
  rw [vt (es:=es) (i:=i),xm (s:=ends s (es.take i))]
  lia
theorem sim0{s:As}(hn:s.ns.Nodup):Sim (rk s.ns) s (As.sb (s.ns.map s.g)):=by
  have hl:∀ n∈s.ns,rk s.ns n<s.ns.length:=λn h=>dA h;refine ⟨λn h=>?_,λm h=>?_,λn h m k e=>?_,λn h=>?_⟩
  . show _∈List.range (s.ns.map s.g).length;rw [aa];exact bG.mpr (hl n h)
  . have h:m∈List.range (s.ns.map s.g).length:=h;rw [aa] at h;have h:=bG.mp h;exact ⟨s.ns[m],bI h,FU hn (ae h)⟩
  . have h1:=tR h;have h2:=tR k;rw [e,h2] at h1;exact (aw h1).symm
  . show ((s.ns.map s.g)[rk s.ns n]?).getD _=_;rw [ag,tR h];rfl
structure Turned(d:Int)(tn:Bool)(D:Int)(M:Nat)(bs0 bs:List Bo)(es:DL)(qs:List Nat):Prop where
  w:Walk d tn (As.sb bs) es
  b:∀ i,i<=es.length->∀ n∈(ends (As.sb bs) (es.take i)).ns,BoD d D M ((ends (As.sb bs) (es.take i)).g n)
  p:qs.Perm (List.range bs0.length)
  l:(ends (As.sb bs) es).ns.length=bs0.length
  g:∀ k q:Nat,qs[k]?=some q->∃ n,(ends (As.sb bs) es).ns[q]?=some n/\bs0[k]?=some ((ends (As.sb bs) es).g n)
theorem ES{bs0 bs:List Bo}(w:Walk d tn (As.sb bs) es)(b:∀ i,i<=es.length->∀ n∈(ends (As.sb bs) (es.take i)).ns,BoD d D M ((ends (As.sb bs) (es.take i)).g n))(sim:Sim r (As.sb bs0) (ends (As.sb bs) es))(ut:(ends (As.sb bs) es).ns.Nodup):Turned d tn D M bs0 bs es (((List.range bs0.length).map r).map (rk (ends (As.sb bs) es).ns)):=by
  have hp:((List.range bs0.length).map r).Perm (ends (As.sb bs) es).ns:=Be sim (gv (n:=bs0.length)) ut;have hl:=hp.length_eq;rw [aa,bf] at hl;refine ⟨w,b,?_,hl.symm,λk q hq=>?_⟩
  . have:=Hv hp ut
    rwa [<-hl] at this
  . rw [ag,ag] at hq;obtain ⟨z,hz,rfl⟩:=ao.mp hq;obtain ⟨j,hj,rfl⟩:=ao.mp hz;have hk:=(af.mp hj).1;rw [bf] at hk;rw [cK hk] at hj;have hj:k=j:=aw hj;subst hj;have hm:k∈(As.sb bs0).ns:=bG.mpr hk;refine ⟨r k,tR (sim.mp k hm),?_⟩;rw [sim.g k hm];show bs0[k]?=some (bs0[k]?.getD _);rw [ae hk];rfl
def deal:List (Key×V)->List Int->Nat->List (Key×V)
  | kvs,[],_=>kvs
  | kvs,m::ms,u=>deal (putK kvs (.inl m) (.int (u:Nat))) ms (u+1)
theorem tw(m:Int):∀ (ms:List Int) (kvs:List (Key×V)) (u:Nat),deal kvs (ms++[m]) u=putK (deal kvs ms u) (.inl m) (.int ((u+ms.length:Nat):Int))
  | [],kvs,u=>rfl
  | a::ms,kvs,u=>by
    show deal (putK kvs (.inl a) (.int (u:Nat))) (ms++[m]) (u+1)=_;rw [tw m ms];show putK (deal (putK kvs (.inl a) (.int (u:Nat))) ms (u+1)) (.inl m) (.int ((u+1+ms.length:Nat):Int))=putK (deal (putK kvs (.inl a) (.int (u:Nat))) ms (u+1)) _ _;rw [show u+1+ms.length=u+(a::ms).length by rw [ar]; lia]
theorem wS:∀ (ms:List Int) (kvs:List (Key×V)) (u:Nat),(deal kvs ms u).length<=kvs.length+ms.length
  | [],kvs,u=>ai _
  | a::ms,kvs,u=>by
    have h1:=wS ms (putK kvs (.inl a) (.int (u:Nat))) (u+1);have h2:=yL kvs (.inl a) (.int (u:Nat));show (deal (putK kvs (.inl a) (.int (u:Nat))) ms (u+1)).length<=_;rw [ar]
    lia
theorem Im{s:As}{u:Nat}(h:Rn kvs (s.next x).ns r)(nm:Nms s x.1 x.2.1 x.2.2):Rn (deal kvs x.1.names u) s.ns (ren r x u):=by
  intro j hj;have ni:=Al (j:=j) nm;unfold ren;have key:(¬ (j=x.2.1\/(x.1.two=true/\j=x.2.2)))->valV kvs (.inl (j:Int))=some (.int (r j:Nat)):=λc=>h j (mem_next.mpr (.inl ⟨hj,λq=>c (ni.mp q)⟩));rw [nm.nm];cases ht:x.1.two with
  | true =>
    rw [ht] at key;have e:valV (deal kvs (if true=true then [(x.2.1:Int),(x.2.2:Int)] else [(x.2.1:Int)]) u) (.inl (j:Int))=if (.inl (j:Int):Key)=.inl (x.2.2:Int) then some (.int ((u+1:Nat):Int)) else if (.inl (j:Int):Key)=.inl (x.2.1:Int) then some (.int (u:Nat)) else valV kvs (.inl (j:Int)):=by
      show valV (putK (putK kvs (.inl (x.2.1:Int)) (.int (u:Nat))) (.inl (x.2.2:Int)) (.int ((u+1:Nat):Int))) _=_;rw [xY,xY]
    rw [e];by_cases c1:j=x.2.2
    . rw [h7 (by rw [c1]),h7 ⟨rfl,c1⟩]
    . rw [h8 (BY c1),h8 (c:=true=true/\j=x.2.2) (λq=>c1 q.2)];by_cases c2:j=x.2.1
      . rw [h7 (by rw [c2]),h7 c2]
      . rw [h8 (BY c2),h8 c2];exact key (λq=>by
          rcases q with q|q
          . exact c2 q
          . exact c1 q.2)
  | false =>
    rw [ht] at key;have e:valV (deal kvs (if false=true then [(x.2.1:Int),(x.2.2:Int)] else [(x.2.1:Int)]) u) (.inl (j:Int))=if (.inl (j:Int):Key)=.inl (x.2.1:Int) then some (.int (u:Nat)) else valV kvs (.inl (j:Int)):=by
      show valV (putK kvs (.inl (x.2.1:Int)) (.int (u:Nat))) _=_;rw [xY]
    rw [e,h8 (c:=false=true/\j=x.2.2) (λq=>by simp at q)];by_cases c2:j=x.2.1
    . rw [h7 (by rw [c2]),h7 c2]
    . rw [h8 (BY c2),h8 c2];exact key (λq=>by
        rcases q with q|q
        . exact c2 q
        . simp at q)
theorem names_len{s:As}{n m:Nat}(h:Nms s e n m):e.names.length=if e.two then 2 else 1:=by
  rw [h.nm];split <;> rfl
def TupK(H H':Hp):Prop:=∀ b xs,H b=some (.tup xs)->H' b=some (.tup xs)
theorem DdAt.tk{p:Addr}(h:DdAt H p e)(s:TupK H H'):DdAt H' p e:=by
  cases e with
  | cut al n t=>obtain ⟨q,h1,h2⟩:=h; exact ⟨q,s _ _ h1,s _ _ h2⟩
  | glue al n m=>exact s _ _ h
  | shift al n k=>exact s _ _ h
  | turn n=>exact s _ _ h
theorem Runs.tk{H H':Hp}{ps:List Addr}{es:DL}(h:Runs H ps es)(s:TupK H H'):Runs H' ps es:=⟨h.1,λi p x h1 h2=>(h.2 i p x h1 h2).tk s⟩
theorem Dr{s:As}(h:Walk d tn s es):Walk d true s es:=λi x hx=>⟨(h i x hx).nms,(h i x hx).ok,(h i x hx).fit,λ_=>rfl⟩
theorem zZ{d:Int}{tn:Bool}{s:As}{es:DL}{B:Nat}(h0:As.Ok B s 0)(hw:Walk d tn s es):∀ i,i<=es.length->As.Ok B (ends s (es.take i)) i
  | 0,_=>h0
  | i+1,h=>by
    have hi:i<es.length:=h;have hx:=ae hi;rw [yo hx];exact (zZ h0 hw i (bn hi)).next (hw i _ hx).nms
theorem vE{bs:List Bo}{B:Nat}(h1:1<=bs.length)(h:bs.length<=B):As.Ok B (As.sb bs) 0 :=
  ⟨b8,λn hn=>bG.mp hn,λh=>by
    have:List.range bs.length=[]:=h;rw [eE] at this; lia,by show (List.range bs.length).length<=_; rw [bf]; lia,by show bs.length<=_; lia⟩
def Ever(d D:Int)(M:Nat)(s:As):Prop:=∀ n,n<s.k->BoD d D M (s.g n)
theorem tz{s:As}(h:Ever d D M (ends s es))(i:Nat):Ever d D M (ends s (es.take i)):=λn hn=>by
  have:=h n (aE hn Ad)
  rwa [vt (es:=es) (i:=i),vP hn] at this
theorem FN{s:As}(h:Ever d D M (s.next x)):∀ b∈x.1.new (s.g x.2.1) (s.g x.2.2),BoD d D M b:=λb hb=>by
  obtain ⟨j,hj⟩:=de hb;have hl:=(af.mp hj).1;rw [Dd.puts_new] at hl;have:=h (s.k+j) (by rw [xh]; lia)
  rwa [show (s.next x).g (s.k+j)=b from yq hj] at this
theorem Cf(es:DL):(es.map λx=>((x.1.puts:Nat):Int)).sum=((es.map λx=>x.1.puts).sum:Nat):=by
  induction es with
  | nil=>rfl
  | cons x es ih =>
    rw [aU,hV,ih,aU,hV]
    lia
theorem GD{n j:Nat}(h:j<n):n - j=(n - 1 - j)+1:=by lia
theorem IO{X:Cx}{b:Addr}{ns:List Int}(ha:H a=some (.lst (ns.map V.int)))(hb:H b=some (.lst (ns.map V.int)))(q:Q (.bl false) H):rNeL X (.ref a) (.ref b) H Q:=by
  obtain ⟨a',b',xs,ys,bs,n,e1,e2,hn,h1,h2,h3,h4⟩:=II (X:=X) (Q:=λv H'=>v=.bl true/\H'=H) ha hb ⟨rfl,rfl⟩;refine ⟨a',b',xs,ys,bs,n,e1,e2,hn,h1,h2,h3,?_⟩;have h5:bs.all id=true:=by
    have:=h4.1;injection this
  rw [h5];exact q
variable {qs:List Nat}
theorem J1{C L:List Cell}{D:List Cell}(hl:D.length=qs.length)(hL:L.length=qs.length)(h:∀ k q:Nat,qs[k]?=some q->∃ c e,D[k]?=some c/\L[k]?=some e/\c.b=e.b):D.map Cell.b=L.map Cell.b:=by
  refine eB λk=>?_;rw [ag,ag];by_cases hk:k<qs.length
  . obtain ⟨c,e,h1,h2,h3⟩:=h k _ (ae hk);rw [h1,h2];exact congrArg some h3
  . rw [bR (by lia),bR (by lia)]
def sdO(D X Y:Int):Sd:=⟨lA X Y D,lB X Y D,lN X Y D⟩
theorem yA(hD:1<=D):Rv D X Y (sdO D X Y):=⟨l_n (by lia),xB (by lia),l_a,l_b⟩
theorem wG{s:Sd}(hD:1<=D)(h:Rv D X Y s):s=sdO D X Y:=h.eq (by lia) (yA hD)
theorem J4(hD:1<=D):adS (sdO D X Y) (sdO D X' Y')=sdO D (X+X') (Y+Y'):=wG hD ((yA hD).ad (yA hD))
theorem J8(hD:1<=D):tkS (sdO D X Y) (sdO D X' Y')=sdO D (X - X') (Y - Y'):=wG hD ((yA hD).tk (yA hD))
theorem Rv.un{k:Int}{s:Sd}(hk:k≠0)(h:Rv (D*k) (X*k) (Y*k) s):Rv D X Y s :=
  ⟨h.z1,h.g,aC hk (by have:=h.x; grind),aC hk (by have:=h.y; grind)⟩
theorem KB(hD:1<=D):shS (sdO D X Y) m 1=sdO D (X*m) (Y*m):=by
  have:=(yA (D:=D) (X:=X) (Y:=Y) hD).sh (m:=m) (k:=1) (by decide);rw [cJ] at this;exact wG hD this
theorem IA(hD:1<=D)(hm:1<=m):shS (sdO D (X*m) (Y*m)) 1 m=sdO D X Y:=by
  have:=(yA (D:=D) (X:=X*m) (Y:=Y*m) hD).sh (m:=1) (k:=m) hm;simp only [cJ] at this;exact wG hD (this.un (by lia))
theorem yW(hR:Rt d)(hD:1<=D)(up:sgn d X Y=1)(bX:Bd M X)(bY:Bd M Y):So d D M (sdO D X Y) :=
  ⟨(yA hD).z1,(yA hD).g,(z4 hR hD).trans up,X,Y,bX,bY,(yA hD).x,(yA hD).y⟩
structure Pc where
  n:Nat
  m:Int
  x:Int
  y:Int
def accX:List Pc->Int
  | []=>0
  | p::ps=>p.m*p.x+accX ps
def accY:List Pc->Int
  | []=>0
  | p::ps=>p.m*p.y+accY ps
theorem yX(p:Pc):∀ ps,accX (ps++[p])=accX ps+p.m*p.x
  | []=>by show p.m*p.x+0=0+_; lia
  | q::ps=>by
    show q.m*q.x+accX (ps++[p])=q.m*q.x+accX ps+_;rw [yX p ps]; lia
theorem yZ(p:Pc):∀ ps,accY (ps++[p])=accY ps+p.m*p.y
  | []=>by show p.m*p.y+0=0+_; lia
  | q::ps=>by
    show q.m*q.y+accY (ps++[p])=q.m*q.y+accY ps+_;rw [yZ p ps]; lia
def gd1(u t:Nat)(p:Pc):DL:=(Dd.shift false p.n p.m,p.n,p.n)::(if t=0 then [] else [(Dd.glue true ((u+2*t - 1:Nat):Int) ((u+2*t - 2:Nat):Int),u+2*t - 1,u+2*t - 2)])
def gth(u:Nat)(pc:List Pc):Nat->DL
  | 0=>[]
  | t+1=>gth u pc t++(match pc[t]? with | some p=>gd1 u t p | none=>[])
theorem wt{u:Nat}{pc:List Pc}:∀ {t:Nat},t<=pc.length->(gth u pc t).length=2*t - 1
  | 0,_=>rfl
  | t+1,h=>by
    have ht:t<pc.length:=h;show (gth u pc t++_).length=_;rw [ae ht,ah,wt (bn ht)];show _+(gd1 u t pc[t]).length=_;unfold gd1;by_cases c:t=0
    . subst c; rfl
    . rw [h8 c];simp only [ar,aP]
      lia
structure PcOk(d D px py:Int)(M:Nat)(s:As)(p:Pc):Prop where
  hn:p.n∈s.ns
  m1:1<=p.m
  mb:Bd 1024 p.m
  g:s.g p.n=⟨sdO D (px*p.m) (py*p.m),sdO D p.x p.y⟩
  up:sgn d p.x p.y=1
  bw:Bd M (px*p.m)/\Bd M (py*p.m)
  bh:Bd M p.x/\Bd M p.y
  bm:Bd M (p.m*p.x)/\Bd M (p.m*p.y)
variable {y:Int}
theorem yU{x:Int}(hR:Rt d)(hm:1<=m)(h:sgn d x y=1):sgn d (m*x) (m*y)=1:=(xg hR (k:=1) (m:=m) (by decide) (by lia) (by grind) (by grind)).trans h
theorem BJ{d:Int}(hR:Rt d):∀ {ps:List Pc},ps≠[]->(∀ p∈ps,1<=p.m/\sgn d p.x p.y=1)->sgn d (accX ps) (accY ps)=1
  | [p],_,h=>by
    have:=h p aB;show sgn d (p.m*p.x+0) (p.m*p.y+0)=1;rw [cq,cq];exact yU hR this.1 this.2
  | p::q::ps,_,h=>by
    have h1:=h p aB;have h2:=BJ hR (ps:=q::ps) (by simp) (λr hr=>h r (ay _ hr));exact uO hR (yU hR h1.1 h1.2) h2
theorem Dy{s:As}{n:Nat}(z:Sz D K' M)(hn:n∈s.ns)(m1:1<=m)(mb:Bd 1024 m)(ow:So d D M (s.g n).w)(oh:So d D M (s.g n).h):Stp d tn s (.shift al n m,n,n) :=
  ⟨⟨rfl,hn,hn,(λh=>nomatch h),λ_=>rfl⟩,⟨m1,mb⟩,⟨m1,mb,z.sy ow,z.sy oh⟩,(λh=>nomatch h)⟩
theorem Fh{s:As}{n m:Nat}(z:Sz D K' M)(hn:n∈s.ns)(hm:m∈s.ns)(nm:n≠m)(ew:(s.g n).w=(s.g m).w)(oh:So d D M (s.g n).h)(oh':So d D M (s.g m).h):Stp d tn s (.glue true n m,n,m) :=
  ⟨⟨rfl,hn,hm,λ_=>nm,(λh=>nomatch h)⟩,trivial,⟨ew,z.sy oh,z.sy oh'⟩,(λh=>nomatch h)⟩
theorem yv{s:As}{fs:DL}:ends s (es++fs)=ends (ends s es) fs:=by unfold ends; rw [di]
structure Stq(d D:Int)(M:Nat)(tn:Bool)(s:As)(x:Dd×Nat×Nat):Prop where
  st:Stp d tn s x
  nw:∀ b∈x.1.new (s.g x.2.1) (s.g x.2.2),BoD d D M b
def WalkB(d D:Int)(M:Nat)(tn:Bool)(s:As)(es:DL):Prop:=∀ (i:Nat) (x:Dd×Nat×Nat),es[i]?=some x->Stq d D M tn (ends s (es.take i)) x
theorem WalkB.walk{s:As}(h:WalkB d D M tn s es):Walk d tn s es:=λi x hx=>(h i x hx).st
theorem xT{s:As}{fs:DL}(h:WalkB d D M tn s es)(g:WalkB d D M tn (ends s es) fs):WalkB d D M tn s (es++fs):=λi x hx=>by
  by_cases c:i<es.length
  . rw [aM c] at hx;rw [cB (by lia)];exact h i x hx
  . rw [aG (by lia)] at hx;have e:(es++fs).take i=es++fs.take (i - es.length):=by rw [gw,bJ (by lia)]
    rw [e,yv];exact g _ x hx
theorem wA{s:As}(h:WalkB d D M tn s es)(g:Stq d D M tn (ends s es) x):WalkB d D M tn s (es++[x]):=xT h λi y hy=>by
  have:i=0:=by
    have:=(af.mp hy).1;simp only [ar,aP] at this
    lia
  subst this;have e:x=y:=aw hy;subst e;exact g
structure Gst(d D px py:Int)(M:Nat)(tn:Bool)(s0:As)(pc:List Pc)(t:Nat):Prop where
  w:WalkB d D M tn s0 (gth s0.k pc t)
  k:(ends s0 (gth s0.k pc t)).k=s0.k+(2*t - 1)
  mem:∀ j,j∈(ends s0 (gth s0.k pc t)).ns↔(j∈s0.ns/\∀ i p,i<t->pc[i]?=some p->p.n≠j)\/(0<t/\j=s0.k+2*t - 2)
  g:0<t->(ends s0 (gth s0.k pc t)).g (s0.k+2*t - 2)=⟨sdO D px py,sdO D (accX (pc.take t)) (accY (pc.take t))⟩
theorem Dl{d D px py:Int}{M K':Nat}{tn:Bool}{s0:As}{pc:List Pc}(hR:Rt d)(z:Sz D K' M)(lt:∀ n∈s0.ns,n<s0.k)(hp:∀ p∈pc,PcOk d D px py M s0 p)(nd:(pc.map Pc.n).Nodup)(up:sgn d px py=1)(bp:Bd M px/\Bd M py) (ba:∀ t,Bd M (accX (pc.take t))/\Bd M (accY (pc.take t))):∀ t,t<=pc.length->Gst d D px py M tn s0 pc t
  | 0,_=>⟨λi x h=>by simp [gth] at h,rfl,λj=>by
      show j∈s0.ns↔_;constructor
      . exact λh=>.inl ⟨h,λi p hi=>absurd hi (by lia)⟩
      . rintro (h | h)
        . exact h.1
        . lia,λh=>absurd h (by lia)⟩
  | t+1,ht=>by
    have ih:=Dl (tn:=tn) hR z lt hp nd up bp ba t (bn ht);have ht':t<pc.length:=ht;have hD:=z.d1;obtain ⟨p,hpt⟩:∃ p,pc[t]?=some p:=⟨_,ae ht'⟩
    have hpm:=aq hpt;have pk:=hp p hpm;have eg:gth s0.k pc (t+1)=gth s0.k pc t++gd1 s0.k t p:=by
      show gth s0.k pc t++_=_;rw [hpt]
    have acx:accX (pc.take (t+1))=accX (pc.take t)+p.m*p.x:=by rw [a8,hpt]; exact yX p _
    have acy:accY (pc.take (t+1))=accY (pc.take t)+p.m*p.y:=by rw [a8,hpt]; exact yZ p _
    obtain ⟨w,k,mem,g⟩:=ih;have gk:∀ n,n<s0.k->(ends s0 (gth s0.k pc t)).g n=s0.g n:=λn h=>vP h;generalize hs:ends s0 (gth s0.k pc t)=s at *
    have pnk:=lt p.n pk.hn;have hn:p.n∈s.ns:=(mem p.n).mpr (.inl ⟨pk.hn,λi q hi hq c=>by
      have h1:(pc.map Pc.n)[i]?=some p.n:=by rw [ag,hq,<-c]; rfl
      have h2:(pc.map Pc.n)[t]?=some p.n:=by rw [ag,hpt]; rfl
      have:=(dF (i:=i) (by rw [aa]; lia) nd).mp (h1.trans h2.symm)
      lia⟩)
    have hg:s.g p.n=⟨sdO D (px*p.m) (py*p.m),sdO D p.x p.y⟩:=(gk _ pnk).trans pk.g;have upw:sgn d (px*p.m) (py*p.m)=1:=by rw [av px,av py]; exact yU hR pk.m1 up
    have st1:Stp d tn s (.shift false p.n p.m,p.n,p.n):=Dy z hn pk.m1 pk.mb (by rw [hg]; exact yW hR hD upw pk.bw.1 pk.bw.2) (by rw [hg]; exact yW hR hD pk.up pk.bh.1 pk.bh.2);have nw1:(Dd.shift false p.n p.m).new (s.g p.n) (s.g p.n)=[⟨sdO D px py,sdO D (p.m*p.x) (p.m*p.y)⟩]:=by
      show [(⟨shS (s.g p.n).w 1 p.m,shS (s.g p.n).h p.m 1⟩:Bo)]=_;rw [hg,av p.m,av p.m];show [(⟨shS (sdO D (px*p.m) (py*p.m)) 1 p.m,shS (sdO D p.x p.y) p.m 1⟩:Bo)]=_;rw [IA hD pk.m1,KB hD]
    have w1:WalkB d D M tn s0 (gth s0.k pc t++[(.shift false p.n p.m,p.n,p.n)]):=wA w (by
      rw [hs];refine ⟨st1,λb hb=>?_⟩;have hb:b∈(Dd.shift false p.n p.m).new (s.g p.n) (s.g p.n):=hb;rw [nw1] at hb;rw [ak.mp hb];exact ⟨yW hR hD up bp.1 bp.2,yW hR hD (yU hR pk.m1 pk.up) pk.bm.1 pk.bm.2⟩)
    have e1:ends s0 (gth s0.k pc t++[(Dd.shift false p.n p.m,p.n,p.n)])=s.next (.shift false p.n p.m,p.n,p.n):=by rw [wU,hs]
    have g1:(s.next (.shift false p.n p.m,p.n,p.n)).g s.k=⟨sdO D px py,sdO D (p.m*p.x) (p.m*p.y)⟩:=by
      exact yq (j:=0) (by show ((Dd.shift false p.n p.m).new (s.g p.n) (s.g p.n))[0]?=_; rw [nw1]; rfl)
    have k1:(s.next (.shift false p.n p.m,p.n,p.n)).k=s.k+1:=xh s _;have m1:∀ j,j∈(s.next (.shift false p.n p.m,p.n,p.n)).ns↔(j∈s.ns/\j≠p.n)\/j=s.k:=λj=>by
      rw [mem_next];show (j∈s.ns/\(j:Int)∉[(p.n:Int)])\/(s.k<=j/\j<s.k+1)↔_;rw [ak];constructor
      . rintro (⟨h1,h2⟩ | h)
        . exact .inl ⟨h1,λc=>h2 (by rw [c])⟩
        . exact .inr (by lia)
      . rintro (⟨h1,h2⟩ | h)
        . exact .inl ⟨h1,λc=>h2 (by lia)⟩
        . exact .inr (by lia)
    have lt':∀ i q,i<t+1->pc[i]?=some q->i<t\/q=p:=λi q hi hq=>by
      by_cases c:i<t
      . exact .inl c
      . have:i=t:=by lia
        subst this;exact .inr (aw (hq.symm.trans hpt))
    by_cases c0:t=0
    . subst c0;have eg':gth s0.k pc (0+1)=gth s0.k pc 0++[(.shift false p.n p.m,p.n,p.n)]:=eg;have ss:s=s0:=hs.symm;refine ⟨by rw [eg']; exact w1,by rw [eg',e1,k1,ss],λj=>?_,λ_=>?_⟩
      . rw [eg',e1,m1,ss];constructor
        . rintro (⟨h1,h2⟩ | h)
          . exact .inl ⟨h1,λi q hi hq c=>by
              rcases lt' i q hi hq with h|h
              . lia
              . exact h2 (by rw [<-c,h])⟩
          . exact .inr ⟨by lia,by lia⟩
        . rintro (⟨h1,h2⟩ | ⟨_,h⟩)
          . exact .inl ⟨h1,λc=>h2 0 p (by lia) hpt c.symm⟩
          . exact .inr (by lia)
      . rw [eg',e1,show s0.k+2*(0+1) - 2=s.k by rw [ss]; lia,g1,acx,acy];rw [show accX (pc.take 0)=0 from rfl,show accY (pc.take 0)=0 from rfl,dj,dj]
    . have eg':gth s0.k pc (t+1)=gth s0.k pc t++[(Dd.shift false p.n p.m,p.n,p.n)]++[(Dd.glue true ((s0.k+2*t - 1:Nat):Int) ((s0.k+2*t - 2:Nat):Int),s0.k+2*t - 1,s0.k+2*t - 2)]:=by
        rw [eg];unfold gd1;rw [h8 c0,bB];rfl
      have sk:s.k=s0.k+2*t - 1:=by lia
      have hacc:=g (by lia);generalize hs1:s.next (.shift false p.n p.m,p.n,p.n)=s1 at *
      have n1:s0.k+2*t - 1∈s1.ns:=(m1 _).mpr (.inr sk.symm);have n2:s0.k+2*t - 2∈s1.ns:=(m1 _).mpr (.inl ⟨(mem _).mpr (.inr ⟨by lia,rfl⟩),by lia⟩);have g1':s1.g (s0.k+2*t - 1)=⟨sdO D px py,sdO D (p.m*p.x) (p.m*p.y)⟩:=by rw [<-sk]; exact g1
      have g2':s1.g (s0.k+2*t - 2)=⟨sdO D px py,sdO D (accX (pc.take t)) (accY (pc.take t))⟩:=by
        rw [<-hs1];exact (vw (by lia)).trans hacc
      have upa:sgn d (accX (pc.take t)) (accY (pc.take t))=1:=BJ hR (λc=>by
        have:=congrArg List.length c;rw [aJ,aP] at this
        lia) λq hq=>⟨(hp q (bO hq)).m1,(hp q (bO hq)).up⟩
      have st2:Stp d tn s1 (.glue true ((s0.k+2*t - 1:Nat):Int) ((s0.k+2*t - 2:Nat):Int),s0.k+2*t - 1,s0.k+2*t - 2) :=
        Fh z n1 n2 (by lia) (by rw [g1',g2']) (by rw [g1']; exact yW hR hD (yU hR pk.m1 pk.up) pk.bm.1 pk.bm.2) (by rw [g2']; exact yW hR hD upa (ba t).1 (ba t).2)
      have nw2:(Dd.glue true ((s0.k+2*t - 1:Nat):Int) ((s0.k+2*t - 2:Nat):Int)).new (s1.g (s0.k+2*t - 1)) (s1.g (s0.k+2*t - 2))=[⟨sdO D px py,sdO D (accX (pc.take (t+1))) (accY (pc.take (t+1)))⟩]:=by
        show [(⟨(s1.g (s0.k+2*t - 1)).w,adS (s1.g (s0.k+2*t - 1)).h (s1.g (s0.k+2*t - 2)).h⟩:Bo)]=_;rw [g1',g2',acx,acy];show [(⟨sdO D px py,adS (sdO D (p.m*p.x) (p.m*p.y)) (sdO D (accX (pc.take t)) (accY (pc.take t)))⟩:Bo)]=_;rw [J4 hD,fF (p.m*p.x),fF (p.m*p.y)]
      have upb:sgn d (accX (pc.take (t+1))) (accY (pc.take (t+1)))=1:=BJ hR (λc=>by
        have:=congrArg List.length c;rw [aJ,aP] at this
        lia) λq hq=>⟨(hp q (bO hq)).m1,(hp q (bO hq)).up⟩
      have w2:=wA w1 (by
        rw [e1];refine ⟨st2,λb hb=>?_⟩;have hb:b∈(Dd.glue true ((s0.k+2*t - 1:Nat):Int) ((s0.k+2*t - 2:Nat):Int)).new (s1.g (s0.k+2*t - 1)) (s1.g (s0.k+2*t - 2)):=hb;rw [nw2] at hb;rw [ak.mp hb];exact ⟨yW hR hD up bp.1 bp.2,yW hR hD upb (ba (t+1)).1 (ba (t+1)).2⟩)
      have e2:=wU (s:=s0) (es:=gth s0.k pc t++[(Dd.shift false p.n p.m,p.n,p.n)]) (x:=(Dd.glue true ((s0.k+2*t - 1:Nat):Int) ((s0.k+2*t - 2:Nat):Int),s0.k+2*t - 1,s0.k+2*t - 2));rw [e1] at e2;have k2:=xh s1 (Dd.glue true ((s0.k+2*t - 1:Nat):Int) ((s0.k+2*t - 2:Nat):Int),s0.k+2*t - 1,s0.k+2*t - 2);have k2:(s1.next (Dd.glue true ((s0.k+2*t - 1:Nat):Int) ((s0.k+2*t - 2:Nat):Int),s0.k+2*t - 1,s0.k+2*t - 2)).k=s1.k+1:=k2;refine ⟨by rw [eg']; exact w2,by rw [eg',e2,k2]; lia,λj=>?_,λ_=>?_⟩
      . rw [eg',e2,mem_next];show (j∈s1.ns/\(j:Int)∉[((s0.k+2*t - 1:Nat):Int),((s0.k+2*t - 2:Nat):Int)])\/(s1.k<=j/\j<s1.k+1)↔_;rw [aK,ak,m1,mem];constructor
        . rintro (⟨h1,h2⟩ | h)
          . rcases h1 with ⟨h1 | h1,h3⟩ | h1
            . exact .inl ⟨h1.1,λi q hi hq c=>by
                rcases lt' i q hi hq with h|h
                . exact h1.2 i q h hq c
                . exact h3 (by rw [<-c,h])⟩
            . exact absurd (.inr (by lia)) h2
            . exact absurd (.inl (by lia)) h2
          . exact .inr ⟨by lia,by lia⟩
        . rintro (⟨h1,h2⟩ | ⟨_,h⟩)
          . have hj:=lt j h1;exact .inl ⟨.inl ⟨.inl ⟨h1,λi q hi hq=>h2 i q (by lia) hq⟩,λc=>h2 t p (by lia) hpt c.symm⟩,by lia⟩
          . exact .inr (by lia)
      . rw [eg',e2,show s0.k+2*(t+1) - 2=s1.k by lia];exact yq (j:=0) (by rw [nw2]; rfl)
theorem Gs{a:Nat}{xs ys:List Nat}(h:(xs++ys).Nodup)(n:a∉xs++ys):(xs++([a]++ys)).Nodup:=by
  have hp:(xs++([a]++ys)).Perm (a::(xs++ys)):=by
    rw [List.singleton_append];exact List.perm_middle
  exact hp.nodup_iff.mpr (df.mpr ⟨n,h⟩)
theorem Gz{a:Nat}{xs:List Nat}(h:xs.Nodup)(n:a∉xs):(xs++[a]).Nodup:=by
  have hp:(xs++[a]).Perm (a::xs):=List.perm_append_singleton a xs;exact hp.nodup_iff.mpr (df.mpr ⟨n,h⟩)
structure Bx where
  i:Int
  j:Int
  x:Int
  y:Int
structure Bas(d:Int)(M:Nat)(px py qx qy:Int):Prop where
  up:sgn d px py=1
  uq:sgn d qx qy=1
  bp:Bd M px/\Bd M py
  bq:Bd M qx/\Bd M qy
structure BxOk(d px py qx qy:Int)(M0 M:Nat)(b:Bx):Prop where
  i0:0<=b.i
  j0:0<=b.j
  ne:b.i≠0\/b.j≠0
  bi:Bd 1024 b.i
  bj:Bd 1024 b.j
  up:sgn d b.x b.y=1
  bh:Bd M b.x/\Bd M b.y
  bpi:Bd M (px*b.i)/\Bd M (py*b.i)
  bqj:Bd M (qx*b.j)/\Bd M (qy*b.j)
  bw:Bd M (px*b.i+qx*b.j)/\Bd M (py*b.i+qy*b.j)
  bxi:Bd M0 (b.i*b.x)/\Bd M0 (b.i*b.y)
  bxj:Bd M0 (b.j*b.x)/\Bd M0 (b.j*b.y)
def Bx.bo(D px py qx qy:Int)(b:Bx):Bo:=⟨sdO D (px*b.i+qx*b.j) (py*b.i+qy*b.j),sdO D b.x b.y⟩
structure Np where
  ds:DL
  F:List Pc
  O:List Pc
  u:Nat
def np1(D px py:Int)(n:Nat)(hb:List Bx):Nat->Np
  | 0=>⟨[],[],[],n⟩
  | t+1=>match hb[t]? with
    | none=>np1 D px py n hb t
    | some b=>if b.j=0 then ⟨(np1 D px py n hb t).ds,(np1 D px py n hb t).F++[⟨t,b.i,b.x,b.y⟩],(np1 D px py n hb t).O,(np1 D px py n hb t).u⟩
      else if b.i=0 then ⟨(np1 D px py n hb t).ds,(np1 D px py n hb t).F,(np1 D px py n hb t).O++[⟨t,b.j,b.x,b.y⟩],(np1 D px py n hb t).u⟩
      else ⟨(np1 D px py n hb t).ds++[(.cut false t (sdO D (px*b.i) (py*b.i)),t,t)],(np1 D px py n hb t).F++[⟨(np1 D px py n hb t).u,b.i,b.x,b.y⟩],(np1 D px py n hb t).O++[⟨(np1 D px py n hb t).u+1,b.j,b.x,b.y⟩],(np1 D px py n hb t).u+2⟩
def sI(f:Bx->Int):List Bx->Int
  | []=>0
  | b::l=>f b+sI f l
theorem yp(f:Bx->Int)(b:Bx):∀ l,sI f (l++[b])=sI f l+f b
  | []=>by show f b+0=0+_; lia
  | c::l=>by
    show f c+sI f (l++[b])=f c+sI f l+_;rw [yp f b l]; lia
structure PcG(d D px py:Int)(M0 M:Nat)(s:As)(p:Pc):Prop where
  m1:1<=p.m
  mb:Bd 1024 p.m
  lt:p.n<s.k
  g:s.g p.n=⟨sdO D (px*p.m) (py*p.m),sdO D p.x p.y⟩
  up:sgn d p.x p.y=1
  bw:Bd M (px*p.m)/\Bd M (py*p.m)
  bh:Bd M p.x/\Bd M p.y
  bm:Bd M0 (p.m*p.x)/\Bd M0 (p.m*p.y)
theorem PcG.next{d D px py:Int}{M0 M:Nat}{s:As}{p:Pc}(h:PcG d D px py M0 M s p)(x:Dd×Nat×Nat):PcG d D px py M0 M (s.next x) p :=
  ⟨h.m1,h.mb,by rw [xh]; have:=h.lt; lia,(show gN s.g s.k _ p.n=_ from vw h.lt).trans h.g,h.up,h.bw,h.bh,h.bm⟩
theorem PcG.ends{d D px py:Int}{M0 M:Nat}{s:As}{p:Pc}(h:PcG d D px py M0 M s p)(es:DL):PcG d D px py M0 M (ends s es) p :=
  ⟨h.m1,h.mb,by rw [xm]; have:=h.lt; lia,(vP h.lt).trans h.g,h.up,h.bw,h.bh,h.bm⟩
variable {px py:Int}{M0:Nat}
theorem PcG.ok{s:As}{p:Pc}(h:PcG d D px py M0 M s p)(hM:M0<=M)(hn:p.n∈s.ns):PcOk d D px py M s p:=⟨hn,h.m1,h.mb,h.g,h.up,h.bw,h.bh,h.bm.1.mono hM,h.bm.2.mono hM⟩
structure N1(d D px py qx qy:Int)(M0 M:Nat)(tn:Bool)(s0:As)(n:Nat)(hb:List Bx)(t:Nat)(r:Np):Prop where
  w:WalkB d D M tn s0 r.ds
  k:(ends s0 r.ds).k=r.u
  nu:n<=r.u
  mem:∀ j,j∈(ends s0 r.ds).ns↔(t<=j/\j<n)\/j∈r.F.map Pc.n\/j∈r.O.map Pc.n
  nd:(r.F.map Pc.n++r.O.map Pc.n).Nodup
  ap:∀ j∈r.F.map Pc.n++r.O.map Pc.n,j<r.u/\(j<t\/n<=j)
  okF:∀ p∈r.F,PcG d D px py M0 M (ends s0 r.ds) p
  okO:∀ p∈r.O,PcG d D qx qy M0 M (ends s0 r.ds) p
  aF:accX r.F=sI (λb=>b.i*b.x) (hb.take t)/\accY r.F=sI (λb=>b.i*b.y) (hb.take t)
  aO:accX r.O=sI (λb=>b.j*b.x) (hb.take t)/\accY r.O=sI (λb=>b.j*b.y) (hb.take t)
  len:r.ds.length<=t/\r.F.length<=t/\r.O.length<=t
theorem GC{d D px py qx qy:Int}{M0 M K':Nat}{tn:Bool}{s0:As}{hb:List Bx}(hR:Rt d)(z:Sz D K' M)(bs:Bas d M px py qx qy)(hk:s0.k=hb.length)(hns:s0.ns=List.range hb.length)(hg:∀ (k:Nat) (b:Bx),hb[k]?=some b->s0.g k=b.bo D px py qx qy) (ok:∀ b∈hb,BxOk d px py qx qy M0 M b):∀ t,t<=hb.length->N1 d D px py qx qy M0 M tn s0 hb.length hb t (np1 D px py hb.length hb t)
  | 0,_=>⟨λi x h=>by simp [np1] at h,hk,ai _,λj=>by
      show j∈s0.ns↔_;rw [hns,bG];simp [np1],by simp [np1],λj hj=>by simp [np1] at hj,λp hp=>by simp [np1] at hp,λp hp=>by simp [np1] at hp,⟨rfl,rfl⟩,⟨rfl,rfl⟩,⟨ai _,ai _,ai _⟩⟩
  | t+1,ht=>by
    have ht':t<hb.length:=ht;have ih:=GC (tn:=tn) hR z bs hk hns hg ok t (bn ht);obtain ⟨b,hbt⟩:∃ b,hb[t]?=some b:=⟨_,ae ht'⟩
    have bk:=ok b (aq hbt);have hD:=z.d1;have e:np1 D px py hb.length hb (t+1)=if b.j=0 then ⟨(np1 D px py hb.length hb t).ds,(np1 D px py hb.length hb t).F++[⟨t,b.i,b.x,b.y⟩],(np1 D px py hb.length hb t).O,(np1 D px py hb.length hb t).u⟩
      else if b.i=0 then ⟨(np1 D px py hb.length hb t).ds,(np1 D px py hb.length hb t).F,(np1 D px py hb.length hb t).O++[⟨t,b.j,b.x,b.y⟩],(np1 D px py hb.length hb t).u⟩
      else ⟨(np1 D px py hb.length hb t).ds++[(.cut false t (sdO D (px*b.i) (py*b.i)),t,t)],(np1 D px py hb.length hb t).F++[⟨(np1 D px py hb.length hb t).u,b.i,b.x,b.y⟩],(np1 D px py hb.length hb t).O++[⟨(np1 D px py hb.length hb t).u+1,b.j,b.x,b.y⟩],(np1 D px py hb.length hb t).u+2⟩:=by
      show (match hb[t]? with | none=>_ | some b=>_)=_;rw [hbt]
    rw [e];generalize np1 D px py hb.length hb t=r at ih;have tk:hb.take (t+1)=hb.take t++[b]:=by rw [a8,hbt]; rfl
    have tmem:t∈(ends s0 r.ds).ns:=(ih.mem t).mpr (.inl ⟨ai _,ht'⟩);have tnot:t∉r.F.map Pc.n++r.O.map Pc.n:=λh=>by have:=(ih.ap t h).2; lia
    have gt:(ends s0 r.ds).g t=b.bo D px py qx qy:=(vP (by lia)).trans (hg t b hbt);have tku:t<(ends s0 r.ds).k:=by rw [ih.k]; have:=ih.nu; lia
    obtain ⟨l1,l2,l3⟩:=ih.len;by_cases cj:b.j=0
    . rw [h7 cj];have bi1:1<=b.i:=by have:=bk.i0; have:=bk.ne; lia
      refine ⟨ih.w,ih.k,ih.nu,λj=>?_,?_,λj hj=>?_,λp hp=>?_,ih.okO,⟨?_,?_⟩,⟨?_,?_⟩,⟨by show r.ds.length<=_; lia,by show (r.F++_).length<=_; rw [ah]; simp only [ar,aP]; lia,by show r.O.length<=_; lia⟩⟩
      . show j∈(ends s0 r.ds).ns↔_\/j∈(r.F++[_]).map Pc.n\/_;rw [ih.mem,aj,ax,aU,cL,ak];show _↔_\/(_\/j=t)\/_;constructor
        . rintro (h | h | h)
          . by_cases c:j=t
            . exact .inr (.inl (.inr c))
            . exact .inl (by lia)
          . exact .inr (.inl (.inl h))
          . exact .inr (.inr h)
        . rintro (h | (h | h) | h)
          . exact .inl (by lia)
          . exact .inr (.inl h)
          . exact .inl (by lia)
          . exact .inr (.inr h)
      . show ((r.F++[_]).map Pc.n++r.O.map Pc.n).Nodup;rw [aj,bB];exact Gs ih.nd tnot
      . have hj:j∈(r.F++[_]).map Pc.n++r.O.map Pc.n:=hj;rw [aj,bB,ax,ax,aU,cL,ak] at hj;have hj:j∈r.F.map Pc.n\/j=t\/j∈r.O.map Pc.n:=hj;rcases hj with h|h|h
        . have:=ih.ap j (bU _ h); exact ⟨this.1,by lia⟩
        . have:=ih.nu; exact ⟨by show j<r.u; lia,by lia⟩
        . have:=ih.ap j (aV _ h); exact ⟨this.1,by lia⟩
      . rcases ax.mp hp with h | h
        . exact ih.okF p h
        . rw [ak.mp h];refine ⟨bi1,bk.bi,tku,?_,bk.up,bk.bpi,bk.bh,bk.bxi⟩;rw [gt];show (⟨sdO D (px*b.i+qx*b.j) (py*b.i+qy*b.j),sdO D b.x b.y⟩:Bo)=_;rw [cj,cM,cM,cq,cq]
      . show accX (r.F++[_])=_;rw [yX,ih.aF.1,tk,yp]
      . show accY (r.F++[_])=_;rw [yZ,ih.aF.2,tk,yp]
      . show accX r.O=_;rw [ih.aO.1,tk,yp,cj,bV,cq]
      . show accY r.O=_;rw [ih.aO.2,tk,yp,cj,bV,cq]
    . rw [h8 cj];have bj1:1<=b.j:=by have:=bk.j0; lia
      by_cases ci:b.i=0
      . rw [h7 ci];refine ⟨ih.w,ih.k,ih.nu,λj=>?_,?_,λj hj=>?_,ih.okF,λp hp=>?_,⟨?_,?_⟩,⟨?_,?_⟩,⟨by show r.ds.length<=_; lia,by show r.F.length<=_; lia,by show (r.O++_).length<=_; rw [ah]; simp only [ar,aP]; lia⟩⟩
        . show j∈(ends s0 r.ds).ns↔_\/_\/j∈(r.O++[_]).map Pc.n;rw [ih.mem,aj,ax,aU,cL,ak];show _↔_\/_\/_\/j=t;constructor
          . rintro (h | h | h)
            . by_cases c:j=t
              . exact .inr (.inr (.inr c))
              . exact .inl (by lia)
            . exact .inr (.inl h)
            . exact .inr (.inr (.inl h))
          . rintro (h | h | h | h)
            . exact .inl (by lia)
            . exact .inr (.inl h)
            . exact .inr (.inr h)
            . exact .inl (by lia)
        . show (r.F.map Pc.n++(r.O++[_]).map Pc.n).Nodup;rw [aj,<-bB];exact Gz ih.nd tnot
        . have hj:j∈r.F.map Pc.n++(r.O++[_]).map Pc.n:=hj;rw [aj,<-bB,ax,aU,cL,ak] at hj;have hj:j∈r.F.map Pc.n++r.O.map Pc.n\/j=t:=hj;rcases hj with h|h
          . have:=ih.ap j h; exact ⟨this.1,by lia⟩
          . have:=ih.nu; exact ⟨by show j<r.u; lia,by lia⟩
        . rcases ax.mp hp with h | h
          . exact ih.okO p h
          . rw [ak.mp h];refine ⟨bj1,bk.bj,tku,?_,bk.up,bk.bqj,bk.bh,bk.bxj⟩;rw [gt];show (⟨sdO D (px*b.i+qx*b.j) (py*b.i+qy*b.j),sdO D b.x b.y⟩:Bo)=_;rw [ci,cM,cM,dj,dj]
        . show accX r.F=_;rw [ih.aF.1,tk,yp,ci,bV,cq]
        . show accY r.F=_;rw [ih.aF.2,tk,yp,ci,bV,cq]
        . show accX (r.O++[_])=_;rw [yX,ih.aO.1,tk,yp]
        . show accY (r.O++[_])=_;rw [yZ,ih.aO.2,tk,yp]
      . rw [h8 ci];have bi1:1<=b.i:=by have:=bk.i0; lia
        have upi:sgn d (px*b.i) (py*b.i)=1:=by rw [av px,av py]; exact yU hR bi1 bs.up
        have uqj:sgn d (qx*b.j) (qy*b.j)=1:=by rw [av qx,av qy]; exact yU hR bj1 bs.uq
        have upw:sgn d (px*b.i+qx*b.j) (py*b.i+qy*b.j)=1:=uO hR upi uqj;have so_w:=yW (D:=D) hR hD upw bk.bw.1 bk.bw.2;have so_s:=yW (D:=D) hR hD upi bk.bpi.1 bk.bpi.2;have so_t:=yW (D:=D) hR hD uqj bk.bqj.1 bk.bqj.2;have tke:tkS (sdO D (px*b.i+qx*b.j) (py*b.i+qy*b.j)) (sdO D (px*b.i) (py*b.i))=sdO D (qx*b.j) (qy*b.j):=by
          rw [J8 hD];congr 1 <;> lia
        have stp:Stp d tn (ends s0 r.ds) (.cut false t (sdO D (px*b.i) (py*b.i)),t,t):=by
          refine ⟨⟨rfl,tmem,tmem,(λh=>nomatch h),λ_=>rfl⟩,z.sy so_s,?_,(λh=>nomatch h)⟩;show CY d ((ends s0 r.ds).g t).w _;rw [gt];exact AJ hR z so_w so_s (by show So d D M (tkS (sdO D _ _) _); rw [tke]; exact so_t)
        have e1:ends s0 (r.ds++[(Dd.cut false t (sdO D (px*b.i) (py*b.i)),t,t)])=(ends s0 r.ds).next (.cut false t (sdO D (px*b.i) (py*b.i)),t,t):=wU;have nw:(Dd.cut false t (sdO D (px*b.i) (py*b.i))).new ((ends s0 r.ds).g t) ((ends s0 r.ds).g t)=[⟨sdO D (px*b.i) (py*b.i),sdO D b.x b.y⟩,⟨sdO D (qx*b.j) (qy*b.j),sdO D b.x b.y⟩]:=by
          rw [gt];show [(⟨_,sdO D b.x b.y⟩:Bo),⟨tkS (sdO D (px*b.i+qx*b.j) (py*b.i+qy*b.j)) (sdO D (px*b.i) (py*b.i)),sdO D b.x b.y⟩]=_;rw [tke]
        have w1:=wA ih.w ⟨stp,λc hc=>by
          have hc:c∈(Dd.cut false t (sdO D (px*b.i) (py*b.i))).new ((ends s0 r.ds).g t) ((ends s0 r.ds).g t):=hc;rw [nw] at hc;have so_h:=yW (D:=D) hR hD bk.up bk.bh.1 bk.bh.2;rcases aK.mp hc with rfl|hc
          . exact ⟨so_s,so_h⟩
          . rw [ak.mp hc];exact ⟨so_t,so_h⟩⟩
        have k1:=xh (ends s0 r.ds) (Dd.cut false t (sdO D (px*b.i) (py*b.i)),t,t);rw [ih.k] at k1;have k1:((ends s0 r.ds).next (Dd.cut false t (sdO D (px*b.i) (py*b.i)),t,t)).k=r.u+2:=k1;have g0:((ends s0 r.ds).next (Dd.cut false t (sdO D (px*b.i) (py*b.i)),t,t)).g r.u=⟨sdO D (px*b.i) (py*b.i),sdO D b.x b.y⟩:=by
          rw [<-ih.k];exact yq (j:=0) (by rw [nw]; rfl)
        have g1:((ends s0 r.ds).next (Dd.cut false t (sdO D (px*b.i) (py*b.i)),t,t)).g (r.u+1)=⟨sdO D (qx*b.j) (qy*b.j),sdO D b.x b.y⟩:=by
          rw [<-ih.k];exact yq (j:=1) (by rw [nw]; rfl)
        have nu:=ih.nu;have unot:∀ j,r.u<=j->j∉r.F.map Pc.n++r.O.map Pc.n:=λj hj h=>by have:=(ih.ap j h).1; lia
        refine ⟨w1,by show (ends s0 (r.ds++_)).k=_; rw [e1,k1],by show _<=r.u+2; lia,λj=>?_,?_,λj hj=>?_,λp hp=>?_,λp hp=>?_,⟨?_,?_⟩,⟨?_,?_⟩,⟨by show (r.ds++_).length<=_; rw [ah]; simp only [ar,aP]; lia,by show (r.F++_).length<=_; rw [ah]; simp only [ar,aP]; lia,by show (r.O++_).length<=_; rw [ah]; simp only [ar,aP]; lia⟩⟩
        . show j∈(ends s0 (r.ds++_)).ns↔_\/j∈(r.F++[_]).map Pc.n\/j∈(r.O++[_]).map Pc.n;rw [e1,mem_next,ih.k,aj,aj,ax,ax,aU,cL,ak,aU,cL,ak,ih.mem];show (_/\(j:Int)∉[(t:Int)])\/(r.u<=j/\j<r.u+2)↔_\/(_\/j=r.u)\/_\/j=r.u+1;rw [ak];constructor
          . rintro (⟨h1 | h1 | h1,h2⟩ | h)
            . exact .inl (by lia)
            . exact .inr (.inl (.inl h1))
            . exact .inr (.inr (.inl h1))
            . by_cases c:j=r.u
              . exact .inr (.inl (.inr c))
              . exact .inr (.inr (.inr (by lia)))
          . rintro (h | (h | h) | h | h)
            . exact .inl ⟨.inl (by lia),by lia⟩
            . exact .inl ⟨.inr (.inl h),λc=>tnot (bU _ (by rw [<-cV c]; exact h))⟩
            . exact .inr (by lia)
            . exact .inl ⟨.inr (.inr h),λc=>tnot (aV _ (by rw [<-cV c]; exact h))⟩
            . exact .inr (by lia)
        . show ((r.F++[_]).map Pc.n++(r.O++[_]).map Pc.n).Nodup;rw [aj,aj];have h1:(r.F.map Pc.n++([r.u]++r.O.map Pc.n)).Nodup:=Gs ih.nd (unot _ (ai _));have h2:=Gz (a:=r.u+1) h1 (λh=>by
            rcases ax.mp h with h|h
            . exact unot _ (by lia) (bU _ h)
            . rcases ax.mp h with h | h
              . rw [ak] at h; lia
              . exact unot _ (by lia) (aV _ h))
          simp only [bB] at h2 ⊢;exact h2
        . have hj:j∈(r.F++[_]).map Pc.n++(r.O++[_]).map Pc.n:=hj;rw [aj,aj,ax,ax,ax,aU,cL,ak,aU,cL,ak] at hj;have hj:(j∈r.F.map Pc.n\/j=r.u)\/j∈r.O.map Pc.n\/j=r.u+1:=hj;show j<r.u+2/\_;rcases hj with (h|h)|h|h
          . have:=ih.ap j (bU _ h); lia
          . lia
          . have:=ih.ap j (aV _ h); lia
          . lia
        . show PcG d D px py M0 M (ends s0 (r.ds++_)) p;rw [e1];rcases ax.mp hp with h|h
          . exact (ih.okF p h).next _
          . rw [ak.mp h];exact ⟨bi1,bk.bi,by rw [k1]; show r.u<_; lia,g0,bk.up,bk.bpi,bk.bh,bk.bxi⟩
        . show PcG d D qx qy M0 M (ends s0 (r.ds++_)) p;rw [e1];rcases ax.mp hp with h|h
          . exact (ih.okO p h).next _
          . rw [ak.mp h];exact ⟨bj1,bk.bj,by rw [k1]; show r.u+1<_; lia,g1,bk.up,bk.bqj,bk.bh,bk.bxj⟩
        . show accX (r.F++[_])=_;rw [yX,ih.aF.1,tk,yp]
        . show accY (r.F++[_])=_;rw [yZ,ih.aF.2,tk,yp]
        . show accX (r.O++[_])=_;rw [yX,ih.aO.1,tk,yp]
        . show accY (r.O++[_])=_;rw [yZ,ih.aO.2,tk,yp]
theorem Ed{M0:Nat}:∀ {ps:List Pc},(∀ p∈ps,Bd M0 (p.m*p.x)/\Bd M0 (p.m*p.y))->Bd (M0+ps.length) (accX ps)/\Bd (M0+ps.length) (accY ps)
  | [],_=>⟨gP _,gP _⟩
  | p::ps,h=>by
    have h1:=h p aB;have h2:=Ed (ps:=ps) λq hq=>h q (ay _ hq);rw [ar,<-gj];exact ⟨Bd.add (h1.1.mono (dm _ _)) h2.1,Bd.add (h1.2.mono (dm _ _)) h2.2⟩
def hp1(D px py X Y:Int):List Bo:=if X=0/\Y=0 then [] else [⟨sdO D px py,sdO D X Y⟩]
theorem EQ(hR:Rt d){ps:List Pc}(h:∀ p∈ps,1<=p.m/\sgn d p.x p.y=1):hp1 D px py (accX ps) (accY ps)=if ps=[] then [] else [⟨sdO D px py,sdO D (accX ps) (accY ps)⟩]:=by
  unfold hp1;by_cases c:ps=[]
  . subst c;rw [h7 ⟨rfl,rfl⟩,h7 rfl]
  . rw [h8 c,h8];rintro ⟨h1,h2⟩;have:=BJ hR c h;rw [h1,h2] at this;exact absurd this (by unfold sgn; simp)
def npl(D px py:Int)(hb:List Bx):DL:=(np1 D px py hb.length hb hb.length).ds++(gth (np1 D px py hb.length hb hb.length).u (np1 D px py hb.length hb hb.length).F (np1 D px py hb.length hb hb.length).F.length++gth ((np1 D px py hb.length hb hb.length).u+(2*(np1 D px py hb.length hb hb.length).F.length - 1)) (np1 D px py hb.length hb hb.length).O (np1 D px py hb.length hb hb.length).O.length)
theorem B0:∀ {xs ys:List Nat},xs.Pairwise (· < ·)->ys.Pairwise (· < ·)->(∀ j,j∈xs↔j∈ys)->xs=ys:=λ{xs ys} hx hy h =>
  dO (λa b _ _ h k=>Nat.le_antisymm h k) (hx.imp bn) (hy.imp bn) ((fq (xv hx) (xv hy)).mpr h)
theorem JQ{qx qy:Int}{s0:As}{hb:List Bx}(hR:Rt d)(z:Sz D K' M)(bs:Bas d M px py qx qy)(hk:s0.k=hb.length)(hns:s0.ns=List.range hb.length)(hg:∀ (k:Nat) (b:Bx),hb[k]?=some b->s0.g k=b.bo D px py qx qy)(ok:∀ b∈hb,BxOk d px py qx qy M0 M b)(hM:M0+hb.length<=M)(h1:1<=hb.length):WalkB d D M tn s0 (npl D px py hb)/\(npl D px py hb).length<=5*hb.length /\
      (ends s0 (npl D px py hb)).ns.map (ends s0 (npl D px py hb)).g=hp1 D px py (sI (λb=>b.i*b.x) hb) (sI (λb=>b.i*b.y) hb)++hp1 D qx qy (sI (λb=>b.j*b.x) hb) (sI (λb=>b.j*b.y) hb):=by
  have n1:=GC (tn:=tn) hR z bs hk hns hg ok hb.length (ai _);unfold npl;generalize np1 D px py hb.length hb hb.length=r at n1;obtain ⟨w,k,nu,mem,nd,ap,okF,okO,aF,aO,l1,l2,l3⟩:=n1;rw [au] at aF aO;have ok0:As.Ok hb.length s0 0:=⟨by rw [hns]; exact b8,λn hn=>by rw [hns] at hn; rw [hk]; exact bG.mp hn,by rw [hns]; intro h; rw [eE] at h; lia,by rw [hns,bf]; lia,by rw [hk]; lia⟩
  have oks:=zZ ok0 w.walk r.ds.length (ai _);rw [au] at oks;generalize hs:ends s0 r.ds=s at *
  have ndF:(r.F.map Pc.n).Nodup:=(f8.mp nd).1;have ndO:(r.O.map Pc.n).Nodup:=(f8.mp nd).2.1;have dis:∀ j,j∈r.F.map Pc.n->j∈r.O.map Pc.n->False:=λj a b=>(f8.mp nd).2.2 j a j b rfl;have memF:∀ p∈r.F,p.n∈s.ns:=λp hp=>(mem _).mpr (.inr (.inl (bC hp)));have memO:∀ p∈r.O,p.n∈s.ns:=λp hp=>(mem _).mpr (.inr (.inr (bC hp)));have hM0:M0<=M:=by lia
  have accb:∀ (L:List Pc),L.length<=hb.length->(∀ p∈L,Bd M0 (p.m*p.x)/\Bd M0 (p.m*p.y))->∀ t,Bd M (accX (L.take t))/\Bd M (accY (L.take t)):=λL hl h t=>by
    have:=Ed (M0:=M0) (ps:=L.take t) λp hp=>h p (bO hp);have hl2:(L.take t).length<=hb.length:=by rw [aJ]; lia
    exact ⟨this.1.mono (by lia),this.2.mono (by lia)⟩
  have G1:=Dl (tn:=tn) hR z oks.lt (λp hp=>(okF p hp).ok hM0 (memF p hp)) ndF bs.up bs.bp (accb r.F l2 λp hp=>(okF p hp).bm) r.F.length (ai _);obtain ⟨w1,k1,mem1,g1⟩:=G1;rw [k] at w1 k1 mem1 g1;rw [au] at g1;have w01:WalkB d D M tn s0 (r.ds++gth r.u r.F r.F.length):=xT w (by rw [hs]; exact w1);have ok1:=zZ ok0 w01.walk _ (ai _);rw [au,yv,hs] at ok1;have okO1:∀ p∈r.O,PcG d D qx qy M0 M (ends s (gth r.u r.F r.F.length)) p:=λp hp=>(okO p hp).ends _;generalize hs1:ends s (gth r.u r.F r.F.length)=s1 at *
  have memO1:∀ p∈r.O,p.n∈s1.ns:=λp hp=>(mem1 _).mpr (.inl ⟨memO p hp,λi q hi hq c=>dis p.n (by rw [<-c]; exact bC (aq hq)) (bC hp)⟩);have G2:=Dl (tn:=tn) hR z ok1.lt (λp hp=>(okO1 p hp).ok hM0 (memO1 p hp)) ndO bs.uq bs.bq (accb r.O l3 λp hp=>(okO p hp).bm) r.O.length (ai _);obtain ⟨w2,k2,mem2,g2⟩:=G2;rw [k1] at w2 k2 mem2 g2;rw [au] at g2;have e:ends s0 (r.ds++(gth r.u r.F r.F.length++gth (r.u+(2*r.F.length - 1)) r.O r.O.length))=ends s1 (gth (r.u+(2*r.F.length - 1)) r.O r.O.length):=by rw [yv,hs,yv,hs1]
  have W:=xT w (by rw [hs]; exact xT w1 (by rw [hs1]; exact w2));have okT:=zZ ok0 W.walk _ (ai _);rw [au,e] at okT;refine ⟨W,?_,?_⟩
  . rw [ah,ah,wt (ai _),wt (ai _)]
    lia
  rw [e];have gst:∀ n,n<s1.k->(ends s1 (gth (r.u+(2*r.F.length - 1)) r.O r.O.length)).g n=s1.g n:=λn h=>vP h;generalize hs2:ends s1 (gth (r.u+(2*r.F.length - 1)) r.O r.O.length)=s2 at *
  have notin:∀ (L:List Pc) (j:Nat),(∀ i p,i<L.length->L[i]?=some p->p.n≠j)->j∉L.map Pc.n:=λL j h hj=>by
    obtain ⟨p,hp,e⟩:=aZ.mp hj;obtain ⟨i,hi⟩:=de hp;exact h i p (af.mp hi).1 hi e
  have char:∀ j,j∈s2.ns↔(0<r.F.length/\j=r.u+2*r.F.length - 2)\/(0<r.O.length/\j=r.u+(2*r.F.length - 1)+2*r.O.length - 2):=λj=>by
    rw [mem2,mem1,mem];constructor
    . rintro (⟨⟨(h | h | h),h2⟩ | h1,h3⟩ | h)
      . lia
      . exact absurd h (notin r.F j h2)
      . exact absurd h (notin r.O j h3)
      . exact .inl h1
      . exact .inr h
    . rintro (h | h)
      . refine .inl ⟨.inr h,λi p hi hp c=>?_⟩;have:=(ap p.n (aV _ (bC (aq hp)))).1
        lia
      . exact .inr h
  have hF:∀ p∈r.F,1<=p.m/\sgn d p.x p.y=1:=λp hp=>⟨(okF p hp).m1,(okF p hp).up⟩
  have hO:∀ p∈r.O,1<=p.m/\sgn d p.x p.y=1:=λp hp=>⟨(okO p hp).m1,(okO p hp).up⟩
  rw [<-aF.1,<-aF.2,<-aO.1,<-aO.2,EQ hR hF,EQ hR hO];by_cases cF:r.F=[]
  . by_cases cO:r.O=[]
    . have:s2.ns=[]:=B0 okT.up List.Pairwise.nil λj=>by rw [char,cF,cO]; simp
      exact absurd this okT.ne
    . have lO:=bA.mpr cO;have lF:r.F.length=0:=by rw [cF]; rfl
      have:s2.ns=[r.u+(2*r.F.length - 1)+2*r.O.length - 2]:=B0 okT.up (gu _ _) λj=>by
        rw [char,ak]
        lia
      rw [this,h7 cF,h8 cO];show [s2.g _]=_;rw [g2 lO];rfl
  . have lF:=bA.mpr cF;have ga:s2.g (r.u+2*r.F.length - 2)=⟨sdO D px py,sdO D (accX r.F) (accY r.F)⟩:=(gst _ (by rw [k1]; lia)).trans (g1 lF);by_cases cO:r.O=[]
    . have lO:r.O.length=0:=by rw [cO]; rfl
      have:s2.ns=[r.u+2*r.F.length - 2]:=B0 okT.up (gu _ _) λj=>by
        rw [char,ak]
        lia
      rw [this,h8 cF,h7 cO];show [s2.g _]=_;rw [ga];rfl
    . have lO:=bA.mpr cO;have:s2.ns=[r.u+2*r.F.length - 2,r.u+(2*r.F.length - 1)+2*r.O.length - 2]:=B0 okT.up (by simp; lia) λj=>by
        rw [char,aK,ak]
        lia
      rw [this,h8 cF,h8 cO];show [s2.g _,s2.g _]=_;rw [ga,g2 lO];rfl
def PcAt(H:Hp)(us:List Addr)(pc:List Pc):Prop:=us.length=pc.length/\∀ (i:Nat) (q:Addr) (p:Pc),us[i]?=some q->pc[i]?=some p->H q=some (.tup [.int (p.n:Int),.int p.m])
variable {us:List Addr}{pc:List Pc}
theorem PcAt.tk(h:PcAt H us pc)(s:TupK H H'):PcAt H' us pc:=⟨h.1,λi q p h1 h2=>s _ _ (h.2 i q p h1 h2)⟩
theorem PcAt.snoc{q:Addr}{p:Pc}(h:PcAt H us pc)(e:H q=some (.tup [.int (p.n:Int),.int p.m])):PcAt H (us++[q]) (pc++[p]):=⟨by rw [ah,ah,h.1]; rfl,λi q' p' h1 h2=>by
  by_cases c:i<us.length
  . rw [aM c] at h1;rw [aM (by rw [<-h.1]; exact c)] at h2;exact h.2 i q' p' h1 h2
  . have hl:=(af.mp h1).1;rw [ah] at hl;have:i=us.length:=by simp only [ar,aP] at hl; lia
    subst this;rw [aG (ai _),dz] at h1;rw [h.1,aG (ai _),dz] at h2;have e1:q=q':=aw h1;have e2:p=p':=aw h2;subst e1;subst e2;exact e⟩
theorem B1{qs:List Addr}{fs:DL}(h:Runs H ps es)(g:Runs H qs fs):Runs H (ps++qs) (es++fs):=⟨by rw [ah,ah,h.1,g.1],λi p x h1 h2=>by
  by_cases c:i<ps.length
  . rw [aM c] at h1;rw [aM (by rw [<-h.1]; exact c)] at h2;exact h.2 i p x h1 h2
  . rw [aG (by lia)] at h1;rw [aG (by rw [<-h.1]; lia),<-h.1] at h2;exact g.2 _ p x h1 h2⟩
theorem IW(hD:1<=D):tmS m (sdO D X Y)=sdO D (X*m) (Y*m):=by
  have r:=yA (D:=D) (X:=X) (Y:=Y) hD;have z:=r.z1;have n0:(sdO D X Y).z≠0:=by lia
  obtain ⟨r1,r2⟩:=xK (a:=m*(sdO D X Y).x) (b:=m*(sdO D X Y).y) (n:=(sdO D X Y).z) (D:=D) (X:=X*m) (Y:=Y*m) n0 (by have:=r.x; grind) (by have:=r.y; grind);exact wG hD ⟨l_n n0,xB n0,r1,r2⟩
theorem Gw{b:Addr}{xs zs:List V}(h1:H l=some (.lst xs))(h2:H b=some (.lst zs))(hz:xs.length+zs.length<=1000)(h:∀ p H2,H p=none->Same H H2->H2 p=some (.lst (xs++zs))->Q (.ref p) H2):rCat (.ref l) (.ref b) H Q :=
  ⟨l,b,xs,zs,rfl,rfl,h1,h2,yO hz,λp hp=>h p _ hp (zA hp _) zf⟩
theorem Jj(hD:1<=D)(bX:Bd M X)(bY:Bd M Y)(bD:Bd K' D):SK M K' (sdO D X Y):=⟨(yA hD).z1,(yA hD).g,Bd.fdiv bX _,Bd.fdiv bY _,Bd.fdiv bD _⟩
theorem FD(hD:1<=D):sdO D 0 0=⟨0,0,1⟩:=(wG hD ⟨by decide,by decide +kernel,by simp,by simp⟩).symm
def cn(pl:Nat)(b:Bx):Int:=if pl=0 then b.i else b.j
def hX(pl:Nat)(l:List Bx):Int:=sI (λb=>cn pl b*b.x) l
def hY(pl:Nat)(l:List Bx):Int:=sI (λb=>cn pl b*b.y) l
def bwq(s:B4)(N:Int)(pl:Nat):Sd:=if pl=0 then bw1 s N else bw2 s N
def nrx(s:B4)(N D:Int)(l:List Bx):Nat->List Bo
  | 0=>[]
  | k+1=>nrx s N D l k++(if hX k l=0/\hY k l=0 then [] else [⟨bwq s N k,sdO D (hX k l) (hY k l)⟩])
theorem Ez{k:Int}(hD:1<=D)(hk:1<=k):sdO (D*k) (X*k) (Y*k)=sdO D X Y :=
  (wG (aX (by lia) (by lia)) (yA hD).sc).symm
theorem Dp{s:Sd}{N:Int}(z1:1<=s.z)(g:g3 s.x s.y s.z=1)(hN:1<=N)(dv:s.z∣N):s=sdO N (N / s.z*s.x) (N / s.z*s.y):=by
  obtain ⟨t,ht⟩:=dv;have et:N / s.z=t:=by rw [ht]; exact cG _ (by lia)
  rw [et];refine wG hN ⟨z1,g,?_,?_⟩
  . rw [ht]; grind
  . rw [ht]; grind
theorem IK{s:B4}{N E:Int}(hN:1<=N)(hE:1<=E):bw1 s N=sdO (N*E) (s.a*E) (s.b*E)/\bw2 s N=sdO (N*E) (s.c*E) (s.e*E):=⟨(Ez hN hE).symm,(Ez hN hE).symm⟩
theorem J0{s:B4}{N E:Int}(hN:1<=N)(hE:1<=E)(l:List Bx):nrx s N (N*E) l 2=hp1 (N*E) (s.a*E) (s.b*E) (sI (λb=>b.i*b.x) l) (sI (λb=>b.i*b.y) l)++hp1 (N*E) (s.c*E) (s.e*E) (sI (λb=>b.j*b.x) l) (sI (λb=>b.j*b.y) l):=by
  obtain ⟨b1,b2⟩:=IK (s:=s) hN hE;show (([]:List Bo)++(if hX 0 l=0/\hY 0 l=0 then [] else [(⟨bwq s N 0,sdO (N*E) (hX 0 l) (hY 0 l)⟩:Bo)]))++(if hX 1 l=0/\hY 1 l=0 then [] else [(⟨bwq s N 1,sdO (N*E) (hX 1 l) (hY 1 l)⟩:Bo)])=_;rw [List.nil_append,show bwq s N 0=bw1 s N from rfl,show bwq s N 1=bw2 s N from rfl,b1,b2];rfl
theorem tM{E:Int}{k:Nat}(z1:1<=z)(hE:1<=E)(bE:Bd k E)(dv:z∣E):1<=E / z/\Bd k (E / z):=by
  obtain ⟨t,ht⟩:=dv;have et:E / z=t:=by rw [ht]; exact cG _ (by lia)
  have t1:1<=t:=by
    refine eU.mp λq=>?_;have:=bL (show (0:Int)<=z by lia) (show t<=0 by lia)
    lia
  rw [et];exact ⟨t1,bE.of_le (by rw [ht,cf]; exact d8 _ (by lia))⟩
theorem EW{s:B4}{N:Int}{l m:List Bx}(h0:hX 0 l=hX 0 m/\hY 0 l=hY 0 m)(h1:hX 1 l=hX 1 m/\hY 1 l=hY 1 m):nrx s N D l 2=nrx s N D m 2:=by
  show (([]:List Bo)++(if hX 0 l=0/\hY 0 l=0 then [] else [(⟨bwq s N 0,sdO D (hX 0 l) (hY 0 l)⟩:Bo)]))++(if hX 1 l=0/\hY 1 l=0 then [] else [(⟨bwq s N 1,sdO D (hX 1 l) (hY 1 l)⟩:Bo)])=_;rw [h0.1,h0.2,h1.1,h1.2];rfl
def bxD(s:B4)(N D:Int)(b:Bo):Bx:=⟨mny s N 0 b.w,mny s N 1 b.w,D / b.h.z*b.h.x,D / b.h.z*b.h.y⟩
structure BK(d:Int)(s:B4)(N E:Int)(M0 M:Nat)(b:Bo):Prop where
  w:∃ X Y,b.w=sdO N X Y/\Bd 900 X/\Bd 900 Y/\(bxD s N (N*E) b).i=s.i X Y/\(bxD s N (N*E) b).j=s.j X Y
  bo:b=(bxD s N (N*E) b).bo (N*E) (s.a*E) (s.b*E) (s.c*E) (s.e*E)
  ok:BxOk d (s.a*E) (s.b*E) (s.c*E) (s.e*E) M0 M (bxD s N (N*E) b)
theorem IN{N E i j:Int}{k:Nat}{s:B4}(g:GB d k s)(e:w=sdO N X Y)(hN:1<=N)(hE:1<=E)(hi:i=s.i X Y)(hj:j=s.j X Y):w=sdO (N*E) (s.a*E*i+s.c*E*j) (s.b*E*i+s.e*E*j):=by
  obtain ⟨c1,c2⟩:=AL g X Y;rw [hi,hj];refine e.trans ((Ez hN hE).symm.trans ?_);congr 1
  . conv=>lhs; rw [<-c1]
    grind
  . conv=>lhs; rw [<-c2]
    grind
variable {kE:Nat}
theorem BK.gen{N E:Int}{k kw kh:Nat}{s:B4}{b:Bo}(hR:Rt d)(g:GB d k s)(hN:1<=N)(hE:1<=E)(w1:1<=b.w.z)(wg:g3 b.w.x b.w.y b.w.z=1)(wu:sgn d b.w.x b.w.y=1)(wd:b.w.z∣N)(h1:1<=b.h.z)(hg:g3 b.h.x b.h.y b.h.z=1)(hu:sgn d b.h.x b.h.y=1)(hd:b.h.z∣N*E)(nn:∀ pl,0<=mny s N pl b.w)(bE:Bd kE E)(bwx:Bd kw (N / b.w.z*b.w.x))(bwy:Bd kw (N / b.w.z*b.w.y))(bhx:Bd kh (N*E / b.h.z*b.h.x))(bhy:Bd kh (N*E / b.h.z*b.h.y))(l1:kw<=900)(l2:kw+k+2<=1024)(l3:kh<=M)(l4:k+kE+(kw+k+2)+1<=M)(l5:kw+k+2+kh<=M0):BK d s N E M0 M b:=by
  have hD:1<=N*E:=aX (by lia) (by lia);have e0:=Dp w1 wg hN wd;have eh:=Dp h1 hg hD hd;have m0:(bxD s N (N*E) b).i=s.i (N / b.w.z*b.w.x) (N / b.w.z*b.w.y):=by show mny s N 0 b.w=_; unfold mny; rw [h7 rfl]
  have m1:(bxD s N (N*E) b).j=s.j (N / b.w.z*b.w.x) (N / b.w.z*b.w.y):=by show mny s N 1 b.w=_; unfold mny; rw [h8 (by decide)]
  obtain ⟨c1,c2⟩:=Jy g bwx bwy;have bi:Bd (kw+k+2) (bxD s N (N*E) b).i:=by rw [m0]; exact c1.mono (by lia)
  have bj:Bd (kw+k+2) (bxD s N (N*E) b).j:=by rw [m1]; exact c2.mono (by lia)
  have ew:=IN (E:=E) g e0 hN hE m0 m1;have p1:Bd (k+kE+(kw+k+2)) (s.a*E*(bxD s N (N*E) b).i):=(g.ba.mul bE).mul bi;have p2:Bd (k+kE+(kw+k+2)) (s.b*E*(bxD s N (N*E) b).i):=(g.bb.mul bE).mul bi;have p3:Bd (k+kE+(kw+k+2)) (s.c*E*(bxD s N (N*E) b).j):=(g.bc.mul bE).mul bj;have p4:Bd (k+kE+(kw+k+2)) (s.e*E*(bxD s N (N*E) b).j):=(g.be.mul bE).mul bj;refine ⟨⟨_,_,e0,bwx.mono l1,bwy.mono l1,m0,m1⟩,?_,nn 0,nn 1,?_,bi.mono l2,bj.mono l2,?_,⟨bhx.mono l3,bhy.mono l3⟩,⟨p1.mono (by lia),p2.mono (by lia)⟩,⟨p3.mono (by lia),p4.mono (by lia)⟩,⟨(Bd.add p1 p3).mono (by lia),(Bd.add p2 p4).mono (by lia)⟩,⟨(bi.mul bhx).mono l5,(bi.mul bhy).mono l5⟩,⟨(bj.mul bhx).mono l5,(bj.mul bhy).mono l5⟩⟩
  . show b=⟨_,_⟩
    rw [<-ew];show b=⟨b.w,sdO (N*E) (N*E / b.h.z*b.h.x) (N*E / b.h.z*b.h.y)⟩
    rw [<-eh]
  . refine Classical.or_iff_not_imp_left.mpr λc1 c2=>?_;have c1:(bxD s N (N*E) b).i=0:=Classical.not_not.mp c1;rw [c1,c2] at ew;simp only [cM,cq] at ew;rw [FD hD] at ew;rw [ew] at wu;exact absurd wu (by unfold sgn; simp)
  . show sgn d (N*E / b.h.z*b.h.x) (N*E / b.h.z*b.h.y)=1;obtain ⟨t,ht⟩:=hd;have et:N*E / b.h.z=t:=by rw [ht]; exact cG _ (by lia)
    have t1:1<=t:=by
      refine eU.mp λq=>?_;have:=bL (show (0:Int)<=b.h.z by lia) (show t<=0 by lia)
      lia
    rw [et];exact yU hR t1 hu
theorem HD{E:Int}{k:Nat}{s:B4}(hR:Rt d)(g:GB d k s)(hE:1<=E)(bE:Bd kE E)(l:k+kE<=M):Bas d M (s.a*E) (s.b*E) (s.c*E) (s.e*E) :=
  ⟨by rw [av s.a,av s.b]; exact yU hR hE g.p1,by rw [av s.c,av s.e]; exact yU hR hE g.q1,⟨(g.ba.mul bE).mono l,(g.bb.mul bE).mono l⟩,⟨(g.bc.mul bE).mono l,(g.be.mul bE).mono l⟩⟩
def nrmD(s:B4)(N E:Int)(L:List Bo):List Bo:=nrx s N (N*E) (L.map (bxD s N (N*E))) 2
theorem Jt{N E:Int}{s:B4}{L:List Bo}(h:∀ b∈L,BK d s N E M0 M b):∀ x∈L.map (bxD s N (N*E)),BxOk d (s.a*E) (s.b*E) (s.c*E) (s.e*E) M0 M x:=λx hx=>by
  obtain ⟨b,hb,rfl⟩:=aZ.mp hx;exact (h b hb).ok
theorem F5{k:Nat}(h:C[k]?=some c):(fL C k)=c:=by
  unfold fL;rw [h];rfl
theorem Ca{N E:Int}{s:B4}(tn:Bool)(hR:Rt d)(z:Sz (N*E) K' M)(hN:1<=N)(hE:1<=E)(bas:Bas d M (s.a*E) (s.b*E) (s.c*E) (s.e*E))(hC:∀ c∈C,BK d s N E M0 M c.b)(hM:M0+C.length<=M)(h1:1<=C.length) : WalkB d (N*E) M tn (As.st C) (npl (N*E) (s.a*E) (s.b*E) ((C.map Cell.b).map (bxD s N (N*E))))/\(npl (N*E) (s.a*E) (s.b*E) ((C.map Cell.b).map (bxD s N (N*E)))).length<=5*C.length /\
      (ends (As.st C) (npl (N*E) (s.a*E) (s.b*E) ((C.map Cell.b).map (bxD s N (N*E))))).ns.map (ends (As.st C) (npl (N*E) (s.a*E) (s.b*E) ((C.map Cell.b).map (bxD s N (N*E))))).g=nrmD s N E (C.map Cell.b)/\nrmD s N E (C.map Cell.b)≠[]:=by
  have hB:∀ b∈C.map Cell.b,BK d s N E M0 M b:=λb hb=>by
    obtain ⟨c,hc,rfl⟩:=aZ.mp hb;exact hC c hc
  have hl:((C.map Cell.b).map (bxD s N (N*E))).length=C.length:=by rw [aa,aa]
  have st:=JQ (tn:=tn) (s0:=As.st C) hR z bas (hb:=(C.map Cell.b).map (bxD s N (N*E))) hl.symm (by rw [hl]; rfl) (λk x hx=>by
    rw [ag,ag] at hx;obtain ⟨b,hb,rfl⟩:=ao.mp hx;obtain ⟨c,hc,rfl⟩:=ao.mp hb;show (fL C k).b=_;rw [F5 hc];exact (hC c (aq hc)).bo) (Jt hB) (by rw [hl]; exact hM) (by rw [hl]; exact h1)
  rw [hl] at st;obtain ⟨w,len,en⟩:=st;rw [<-J0 hN hE] at en;refine ⟨w,len,en,λc=>?_⟩;have ok0:As.Ok C.length (As.st C) 0:=⟨b8,λn hn=>bG.mp hn,λh=>by have h:List.range C.length=[]:=h; rw [eE] at h; lia,by show (List.range C.length).length<=_; rw [bf]; lia,by show C.length<=_; lia⟩
  have okT:=zZ ok0 w.walk _ (ai _);rw [au] at okT;have:(ends (As.st C) (npl (N*E) (s.a*E) (s.b*E) ((C.map Cell.b).map (bxD s N (N*E))))).ns.map (ends (As.st C) (npl (N*E) (s.a*E) (s.b*E) ((C.map Cell.b).map (bxD s N (N*E))))).g=[]:=en.trans c;exact okT.ne (List.map_eq_nil_iff.mp this)
theorem wY{g:Nat->Bo}{n:Nat}:∀ {ns:List Nat},ns.Pairwise (· < ·)->n∈ns->tbs (ns.map g)=(tbs ((ns.filter λk:Nat=>decide ((k:Int)≠(n:Int))).map g)).add (g n).tb
  | k::ns,h,hn=>by
    have h2:=List.pairwise_cons.mp h;by_cases e:k=n
    . subst e;have f:(k::ns).filter (λj:Nat=>decide ((j:Int)≠(k:Int)))=ns:=by
        rw [cI,h8 (by simp)];refine List.filter_eq_self.mpr λj hj=>?_;have:=h2.1 j hj;simp
        lia
      rw [f];show (g k).tb.add (tbs (ns.map g))=_;exact Tb.add_comm ..
    . have hn':n∈ns:=by simpa [ca e] using hn
      rw [cI,h7 (by simp; lia)];show (g k).tb.add (tbs (ns.map g))=((g k).tb.add (tbs _)).add (g n).tb;rw [wY h2.2 hn',Tb.add_assoc]
theorem Hr{k:Nat}{N:List Bo}:(List.range' k N.length).map (gN g k N)=N:=by
  refine eR (by simp) λi h1 h2=>?_;rw [c9,fj];unfold gN;rw [h8 (by lia),show k+1*i - k=i by lia,ae h2];rfl
theorem Gy{s:As}(h:Stp d tn s x)(ht:x.1.isT=false)(up:s.ns.Pairwise (· < ·))(lt:∀ n∈s.ns,n<s.k)(ob:∀ n∈s.ns,BoD d D M (s.g n)):tbs ((s.next x).ns.map (s.next x).g)=tbs (s.ns.map s.g):=by
  obtain ⟨e,n,m⟩:=x;have h0:=h.nms;have on:=ob n h0.hn;have om:=ob m h0.hm;have key:tbs ((s.next (e,n,m)).ns.map (s.next (e,n,m)).g)=(tbs ((z8 s.ns e.names).map s.g)).add (tbs (e.new (s.g n) (s.g m))):=by
    show tbs ((z8 s.ns e.names++List.range' s.k (e.new (s.g n) (s.g m)).length).map (gN s.g s.k (e.new (s.g n) (s.g m))))=_;rw [aj,vU,Hr,fi (g:=s.g) λj hj=>vw (lt j (mem_ndrop.mp hj).1)]
  rw [key];clear key;have one:∀ l:List Bo,tbs l=(s.g n).tb->(tbs ((z8 s.ns [(n:Int)]).map s.g)).add (tbs l)=tbs (s.ns.map s.g):=λl hl=>by
    rw [hl];exact (wY (g:=s.g) up h0.hn).symm
  have two:∀ b1 b2:Bo,tbs [b1,b2]=b1.tb.add b2.tb:=λb1 b2=>by
    show b1.tb.add (b2.tb.add Tb.zero)=_;rw [Tb.add_comm b2.tb,Tb.zero_add]
  have hnm:=h0.nm;have hfit:=h.fit;have ht:e.isT=false:=ht;have hnm:e.names=if e.two then [(n:Int),(m:Int)] else [(n:Int)]:=hnm
  have hfit:e.Fit d (s.g n) (s.g m):=hfit;cases e with
  | cut al a t =>
    rw [hnm];refine one _ ?_;cases al with
    | false =>
      obtain ⟨_,ss,_,_⟩:=hfit;exact (two _ _).trans (La on.1.ne ss.ne)
    | true =>
      obtain ⟨_,ss,_,_⟩:=hfit;exact (two _ _).trans (KQ on.2.ne ss.ne)
  | shift al a k =>
    rw [hnm];have hk:k≠0:=by have:=hfit.1; lia
    refine one _ ?_;cases al with
    | false=>exact (vb _).trans (Ld on.1.ne on.2.ne hk)
    | true=>exact (vb _).trans (KR on.1.ne on.2.ne hk)
  | turn a=>exact nomatch ht
  | glue al a b =>
    rw [hnm];have nm:n≠m:=h0.ne rfl;have up2:(s.ns.filter λk:Nat=>decide ((k:Int)≠(n:Int))).Pairwise (· < ·):=up.filter _;have hm2:m∈s.ns.filter λk:Nat=>decide ((k:Int)≠(n:Int)):=dR.mpr ⟨h0.hm,by simp; lia⟩;have e1:=wY (g:=s.g) up h0.hn;have e2:=wY (g:=s.g) up2 hm2;show (tbs ((((s.ns.filter λk:Nat=>decide ((k:Int)≠(n:Int))).filter λk:Nat=>decide ((k:Int)≠(m:Int)))).map s.g)).add _=_;rw [e1,e2,Tb.add_assoc];congr 1;rw [Tb.add_comm];cases al with
    | false =>
      obtain ⟨eh,_,_⟩:=hfit;refine (vb _).trans ((Lh on.1.ne om.1.ne).trans ?_);show (Bo.tb _).add (⟨(s.g m).w,(s.g n).h⟩:Bo).tb=(s.g n).tb.add (s.g m).tb;rw [show (⟨(s.g m).w,(s.g n).h⟩:Bo)=s.g m from by rw [eh]]
    | true =>
      obtain ⟨eh,_,_⟩:=hfit;refine (vb _).trans ((LA on.2.ne om.2.ne).trans ?_);show (Bo.tb _).add (⟨(s.g n).w,(s.g m).h⟩:Bo).tb=(s.g n).tb.add (s.g m).tb;rw [show (⟨(s.g n).w,(s.g m).h⟩:Bo)=s.g m from by rw [eh]]
theorem Cd{d D:Int}{M c:Nat}{s:As}{es:DL}(h:WalkB d D M false s es)(ok:As.Ok c s 0)(ob:∀ n∈s.ns,BoD d D M (s.g n)):∀ t,t<=es.length->(∀ n∈(ends s (es.take t)).ns,BoD d D M ((ends s (es.take t)).g n))/\tbs ((ends s (es.take t)).ns.map (ends s (es.take t)).g)=tbs (s.ns.map s.g)
  | 0,_=>⟨ob,rfl⟩
  | t+1,ht=>by
    obtain ⟨ih1,ih2⟩:=Cd h ok ob t (bn ht);have ht':t<es.length:=ht;have hx:es[t]?=some es[t]:=ae ht';have st:=h t _ hx;have okt:=zZ ok h.walk t (bn ht);rw [yo hx];generalize ends s (es.take t)=s1 at *
    generalize es[t]=x at *
    refine ⟨λn hn=>?_,?_⟩
    . rcases mem_next.mp hn with ⟨h1,_⟩ | ⟨h1,h2⟩
      . have:(s1.next x).g n=s1.g n:=vw (okt.lt n h1);rw [this];exact ih1 n h1
      . obtain ⟨j,rfl⟩:∃ j,n=s1.k+j:=⟨n - s1.k,by lia⟩
        have hj:j<(x.1.new (s1.g x.2.1) (s1.g x.2.2)).length:=by rw [Dd.puts_new]; lia
        have e:(s1.next x).g (s1.k+j)=(x.1.new (s1.g x.2.1) (s1.g x.2.2))[j]:=yq (ae hj);rw [e];exact st.nw _ (bI hj)
    . refine (Gy (D:=D) (M:=M) st.st ?_ okt.up okt.lt ih1).trans ih2;cases e:x.1.isT with
      | false=>rfl
      | true=>exact nomatch st.st.tn e
theorem JN(h1:1<=C.length):As.Ok C.length (As.st C) 0:=⟨b8,λn hn=>bG.mp hn,λh=>by have h:List.range C.length=[]:=h; rw [eE] at h; lia,by show (List.range C.length).length<=_; rw [bf]; lia,by show C.length<=_; lia⟩
theorem Kl(C:List Cell):(As.st C).ns.map (As.st C).g=C.map Cell.b:=by
  show (List.range C.length).map (λn=>(fL C n).b)=C.map Cell.b;refine eR (by simp) λi h1 h2=>?_;have hi:i<C.length:=by rw [aa] at h2; exact h2
  rw [c9,List.getElem_range,c9,F5 (ae hi)]
theorem BK.bod{N E:Int}{s:B4}{b:Bo}(hR:Rt d)(hD:1<=N*E)(h:BK d s N E M0 M b)(wu:sgn d b.w.x b.w.y=1):BoD d (N*E) M b:=by
  have ew:b.w=sdO (N*E) (s.a*E*(bxD s N (N*E) b).i+s.c*E*(bxD s N (N*E) b).j) (s.b*E*(bxD s N (N*E) b).i+s.e*E*(bxD s N (N*E) b).j):=congrArg Bo.w h.bo;have eh:b.h=sdO (N*E) (bxD s N (N*E) b).x (bxD s N (N*E) b).y:=congrArg Bo.h h.bo;have r:=yA (D:=N*E) (X:=s.a*E*(bxD s N (N*E) b).i+s.c*E*(bxD s N (N*E) b).j) (Y:=s.b*E*(bxD s N (N*E) b).i+s.e*E*(bxD s N (N*E) b).j) hD;rw [<-ew] at r;refine ⟨⟨r.z1,r.g,wu,_,_,h.ok.bw.1,h.ok.bw.2,r.x,r.y⟩,?_⟩;rw [eh];exact yW hR hD h.ok.up h.ok.bh.1 h.ok.bh.2
theorem Bj(hD:1<=D):(sdO D X Y).p=Rat.divInt X D/\(sdO D X Y).q=Rat.divInt Y D:=by
  have r:=yA (D:=D) (X:=X) (Y:=Y) hD;have z:=r.z1;exact ⟨yj (by lia) (by lia) r.x,yj (by lia) (by lia) r.y⟩
def TbX(s:B4)(E D:Int)(l:List Bx):Tb:=⟨Rat.divInt (s.a*E*hX 0 l+s.c*E*hX 1 l) (D*D),Rat.divInt (s.a*E*hY 0 l+s.c*E*hY 1 l) (D*D),Rat.divInt (s.b*E*hX 0 l+s.e*E*hX 1 l) (D*D),Rat.divInt (s.b*E*hY 0 l+s.e*E*hY 1 l) (D*D)⟩
theorem Et{d N E:Int}{s:B4}{M0 M:Nat}(hD:1<=N*E):∀ {L:List Bo},(∀ b∈L,BK d s N E M0 M b)->tbs L=TbX s E (N*E) (L.map (bxD s N (N*E)))
  | [],_=>by
    unfold TbX;show Tb.zero=_;simp only [hX,hY,sI,cL,cM,cq,Rat.zero_divInt];rfl
  | b::L,h=>by
    have hb:=h b aB;have ih:=Et hD (L:=L) λc hc=>h c (ay _ hc);have n0:N*E*(N*E)≠0:=aH (by lia) (by lia);have ew:b.w=sdO (N*E) (s.a*E*(bxD s N (N*E) b).i+s.c*E*(bxD s N (N*E) b).j) (s.b*E*(bxD s N (N*E) b).i+s.e*E*(bxD s N (N*E) b).j):=congrArg Bo.w hb.bo;have eh:b.h=sdO (N*E) (bxD s N (N*E) b).x (bxD s N (N*E) b).y:=congrArg Bo.h hb.bo;have e1:b.w.p=_:=(congrArg Sd.p ew).trans (Bj hD).1;have e2:b.w.q=_:=(congrArg Sd.q ew).trans (Bj hD).2;have e3:b.h.p=_:=(congrArg Sd.p eh).trans (Bj hD).1;have e4:b.h.q=_:=(congrArg Sd.q eh).trans (Bj hD).2;show b.tb.add (tbs L)=_;rw [ih];unfold TbX;show (⟨b.w.p*b.h.p+_,b.w.p*b.h.q+_,b.w.q*b.h.p+_,b.w.q*b.h.q+_⟩:Tb)=_;rw [e1,e2,e3,e4,<-wL,<-wL,<-wL,<-wL,xp n0,xp n0,xp n0,xp n0];have cx:∀ pl,hX pl ((b::L).map (bxD s N (N*E)))=cn pl (bxD s N (N*E) b)*(bxD s N (N*E) b).x+hX pl (L.map (bxD s N (N*E))):=λpl=>rfl;have cy:∀ pl,hY pl ((b::L).map (bxD s N (N*E)))=cn pl (bxD s N (N*E) b)*(bxD s N (N*E) b).y+hY pl (L.map (bxD s N (N*E))):=λpl=>rfl;rw [cx,cx,cy,cy,show cn 0 (bxD s N (N*E) b)=(bxD s N (N*E) b).i from rfl,show cn 1 (bxD s N (N*E) b)=(bxD s N (N*E) b).j from rfl];generalize (bxD s N (N*E) b).i=i;generalize (bxD s N (N*E) b).j=j;generalize (bxD s N (N*E) b).x=x;generalize (bxD s N (N*E) b).y=y;generalize hX 0 (L.map (bxD s N (N*E)))=x0;generalize hX 1 (L.map (bxD s N (N*E)))=x1;generalize hY 0 (L.map (bxD s N (N*E)))=y0;generalize hY 1 (L.map (bxD s N (N*E)))=y1;clear cx cy e1 e2 e3 e4 ew eh hb h ih;refine Tb.ext ?_ ?_ ?_ ?_ <;> (dsimp only; congr 1; grind)
variable {x' y':Int}
theorem lin2{k:Nat}{s:B4}{E x:Int}(g:GB d k s)(hE:1<=E)(h1:s.a*E*x+s.c*E*y=s.a*E*x'+s.c*E*y')(h2:s.b*E*x+s.e*E*y=s.b*E*x'+s.e*E*y'):x=x'/\y=y':=by
  have n:E≠0:=by lia
  have a1:s.a*(x - x')+s.c*(y - y')=0:=by
    have:E*(s.a*(x - x')+s.c*(y - y'))=0:=by grind
    rcases fk.mp this with z|z
    . exact absurd z n
    . exact z
  have a2:s.b*(x - x')+s.e*(y - y')=0:=by
    have:E*(s.b*(x - x')+s.e*(y - y'))=0:=by grind
    rcases fk.mp this with z|z
    . exact absurd z n
    . exact z
  have dt:s.a*s.e - s.b*s.c≠0:=by
    rcases g.det with z|z <;> lia
  have b1:(s.a*s.e - s.b*s.c)*(x - x')=0:=by grind
  have b2:(s.a*s.e - s.b*s.c)*(y - y')=0:=by grind
  constructor
  . rcases fk.mp b1 with z | z
    . exact absurd z dt
    . lia
  . rcases fk.mp b2 with z | z
    . exact absurd z dt
    . lia
theorem CN{N E:Int}{s:B4}{k M0':Nat}{L L':List Bo}(g:GB d k s)(hN:1<=N)(hE:1<=E)(h:∀ b∈L,BK d s N E M0 M b)(h':∀ b∈L',BK d s N E M0' M' b)(e:tbs L=tbs L'):nrmD s N E L=nrmD s N E L':=by
  have hD:1<=N*E:=aX (by lia) (by lia);have n0:N*E*(N*E)≠0:=aH (by lia) (by lia);rw [Et hD h,Et hD h'] at e;have cut:∀ {a b:Int},Rat.divInt a (N*E*(N*E))=Rat.divInt b (N*E*(N*E))->a=b:=λz=>aC n0 ((cR n0 n0).mp z);obtain ⟨x0,x1⟩:=lin2 g hE (cut (congrArg Tb.a e)) (cut (congrArg Tb.c e));obtain ⟨y0,y1⟩:=lin2 g hE (cut (congrArg Tb.b e)) (cut (congrArg Tb.e e));exact EW ⟨x0,y0⟩ ⟨x1,y1⟩
theorem ub{d D:Int}{M c:Nat}{tn:Bool}{s:As}{es:DL}(h:WalkB d D M tn s es)(ev:Ever d D M s):∀ t,t<=es.length->Ever d D M (ends s (es.take t))
  | 0,_=>ev
  | t+1,ht=>by
    have ih:=ub (c:=c) h ev t (bn ht);have ht':t<es.length:=ht;have hx:es[t]?=some es[t]:=ae ht';have st:=h t _ hx;rw [yo hx];intro n hn;rw [xh] at hn;generalize ends s (es.take t)=s1 at *
    generalize es[t]=x at *
    by_cases c:n<s1.k
    . have:(s1.next x).g n=s1.g n:=vw c;rw [this];exact ih n c
    . obtain ⟨j,rfl⟩:∃ j,n=s1.k+j:=⟨n - s1.k,by lia⟩
      have hj:j<(x.1.new (s1.g x.2.1) (s1.g x.2.2)).length:=by rw [Dd.puts_new]; lia
      have e:(s1.next x).g (s1.k+j)=(x.1.new (s1.g x.2.1) (s1.g x.2.2))[j]:=yq (ae hj);rw [e];exact st.nw _ (bI hj)
def Dd.rn(r:Nat->Nat):Dd->Dd
  | .cut al n s=>.cut al (r n.toNat:Nat) s
  | .glue al n m=>.glue al (r n.toNat:Nat) (r m.toNat:Nat)
  | .shift al n k=>.shift al (r n.toNat:Nat) k
  | .turn n=>.turn (r n.toNat:Nat)
def rnx(r:Nat->Nat)(x:Dd×Nat×Nat):Dd×Nat×Nat:=(x.1.rn r,r x.2.1,r x.2.2)
structure Led(r:Nat->Nat)(s t:As):Prop where
  mono:∀ i j,i<j->r i<r j
  ns:t.ns=s.ns.map r
  g:∀ n,n<s.k->t.g (r n)=s.g n
  k:∀ i,r (s.k+i)=t.k+i
theorem Led.inj{s:As}(h:Led r s t){i j:Nat}(e:r i=r j):i=j:=by
  rcases f6 i j with c|c|c
  . have:=h.mono i j c; lia
  . exact c
  . have:=h.mono j i c; lia
theorem Dt(r:Nat->Nat)(e:Dd):(e.rn r).two=e.two:=by cases e <;> rfl
theorem JZ(r:Nat->Nat)(e:Dd):(e.rn r).isT=e.isT:=by cases e <;> rfl
theorem KD(r:Nat->Nat)(e:Dd)(b c:Bo):(e.rn r).new b c=e.new b c:=by
  cases e with
  | cut al n s=>cases al <;> rfl
  | glue al n m=>cases al <;> rfl
  | shift al n k=>cases al <;> rfl
  | turn n=>rfl
theorem BE{s:As}{n m:Nat}(h:Nms s e n m):(e.rn r).names=if e.two then [((r n:Nat):Int),((r m:Nat):Int)] else [((r n:Nat):Int)]:=by
  have hn:=h.nm;cases e with
  | glue al a b =>
    simp [Dd.names,Dd.two] at hn;obtain ⟨rfl,rfl⟩:=hn;rfl
  | cut al a t =>
    simp [Dd.names,Dd.two,Dd.n] at hn;subst hn;rfl
  | shift al a t =>
    simp [Dd.names,Dd.two,Dd.n] at hn;subst hn;rfl
  | turn a =>
    simp [Dd.names,Dd.two,Dd.n] at hn;subst hn;rfl
theorem uv{s:As}(h:Led r s t)(ns:List Nat)(n:Nat):(ns.map r).filter (λk:Nat=>decide ((k:Int)≠((r n:Nat):Int)))=(ns.filter λk:Nat=>decide ((k:Int)≠(n:Int))).map r:=by
  rw [List.filter_map];congr 1;refine List.filter_congr λk _=>?_;show decide (((r k:Nat):Int)≠((r n:Nat):Int))=decide ((k:Int)≠(n:Int));by_cases c:k=n
  . subst c; simp
  . have:r k≠r n:=λz=>c (h.inj z);rw [iu (by lia),iu (by lia)]
theorem Ht{s:As}{n m:Nat}(h:Led r s t)(hn:Nms s e n m):z8 t.ns (e.rn r).names=(z8 s.ns e.names).map r:=by
  rw [BE hn,hn.nm,h.ns];cases e.two with
  | true =>
    show ((s.ns.map r).filter _).filter _=((s.ns.filter _).filter _).map r;rw [uv h,uv h]
  | false =>
    show (s.ns.map r).filter _=(s.ns.filter _).map r;rw [uv h]
theorem Led.step{s:As}(h:Led r s t)(lt:∀ n∈s.ns,n<s.k)(st:Stp d tn s x):Stp d tn t (rnx r x)/\Led r (s.next x) (t.next (rnx r x)):=by
  obtain ⟨e,n,m⟩:=x;have n0:=st.nms;have gn:t.g (r n)=s.g n:=h.g n (lt n n0.hn);have gm:t.g (r m)=s.g m:=h.g m (lt m n0.hm);have nw:(rnx r (e,n,m)).1.new (t.g (r n)) (t.g (r m))=e.new (s.g n) (s.g m):=by
    show (e.rn r).new _ _=_;rw [KD,gn,gm]
  refine ⟨⟨⟨?_,?_,?_,?_,?_⟩,?_,?_,?_⟩,h.mono,?_,?_,?_⟩
  . show (e.rn r).names=if (e.rn r).two then _ else _
    rw [Dt];exact BE n0
  . show r n∈t.ns;rw [h.ns]; exact bC n0.hn
  . show r m∈t.ns;rw [h.ns]; exact bC n0.hm
  . intro z c;exact n0.ne (by rw [<-z]; exact (Dt r e).symm) (h.inj c)
  . intro z;show r m=r n;exact congrArg r (n0.eq (by rw [<-z]; exact (Dt r e).symm))
  . have:=st.ok;show (e.rn r).Ok;cases e <;> exact this
  . have:=st.fit;show (e.rn r).Fit d (t.g (r n)) (t.g (r m));rw [gn,gm];cases e with
    | cut al a s=>cases al <;> exact this
    | glue al a b=>cases al <;> exact this
    | shift al a k=>cases al <;> exact this
    | turn a=>exact this
  . intro z;exact st.tn (by rw [<-z]; exact (JZ r e).symm)
  . show z8 t.ns (e.rn r).names++List.range' t.k ((e.rn r).new (t.g (r n)) (t.g (r m))).length=(z8 s.ns e.names++List.range' s.k (e.new (s.g n) (s.g m)).length).map r;rw [Ht h n0,aj,show (e.rn r).new (t.g (r n)) (t.g (r m))=e.new (s.g n) (s.g m) from nw];congr 1;refine eR (by simp) λi h1 h2=>?_;rw [fj,c9,fj,Nat.one_mul,h.k]
  . intro j hj;show gN t.g t.k ((e.rn r).new (t.g (r n)) (t.g (r m))) (r j)=gN s.g s.k (e.new (s.g n) (s.g m)) j;rw [show (e.rn r).new (t.g (r n)) (t.g (r m))=e.new (s.g n) (s.g m) from nw];have hj:j<s.k+(e.new (s.g n) (s.g m)).length:=hj;have k0:=h.k 0;simp only [gR] at k0;by_cases c:j<s.k
    . have:=h.mono j s.k c;rw [vw c,vw (by lia),h.g j c]
    . obtain ⟨i,rfl⟩:∃ i,j=s.k+i:=⟨j - s.k,by lia⟩
      have hi:i<(e.new (s.g n) (s.g m)).length:=by lia
      rw [h.k,yq (ae hi),yq (ae hi)]
  . intro i;show r (s.k+(e.new (s.g n) (s.g m)).length+i)=t.k+((e.rn r).new (t.g (r n)) (t.g (r m))).length+i;rw [show (e.rn r).new (t.g (r n)) (t.g (r m))=e.new (s.g n) (s.g m) from nw,gj,h.k,gj]
theorem F9{s:As}{fs:DL}{B:Nat}(h:Led r s t)(ok:As.Ok B s 0)(w:Walk d tn s fs):Walk d tn t (fs.map (rnx r))/\∀ i,i<=fs.length->Led r (ends s (fs.take i)) (ends t ((fs.map (rnx r)).take i)):=by
  have key:∀ i,i<=fs.length->Led r (ends s (fs.take i)) (ends t ((fs.map (rnx r)).take i)):=λi=>by
    induction i with
    | zero=>exact λ_=>h
    | succ i ih =>
      intro hi;have hi':i<fs.length:=hi;have hx:fs[i]?=some fs[i]:=ae hi';have hx':(fs.map (rnx r))[i]?=some (rnx r fs[i]):=by rw [ag,hx]; rfl
      rw [yo hx,yo hx'];exact ((ih (bn hi)).step (zZ ok w i (bn hi)).lt (w i _ hx)).2
  refine ⟨λi y hy=>?_,key⟩;rw [ag] at hy;obtain ⟨x,hx,rfl⟩:=ao.mp hy;have hi:=(af.mp hx).1;exact ((key i (bn hi)).step (zZ ok w i (bn hi)).lt (w i x hx)).1
theorem Fk{s:As}{fs:DL}(h:Walk d tn s es)(g:Walk d tn (ends s es) fs):Walk d tn s (es++fs):=λi x hx=>by
  by_cases c:i<es.length
  . rw [aM c] at hx;rw [cB (by lia)];exact h i x hx
  . rw [aG (by lia)] at hx;have e:(es++fs).take i=es++fs.take (i - es.length):=by rw [gw,bJ (by lia)]
    rw [e,yv];exact g _ x hx
def nmr(s:As)(i:Nat):Nat:=if i<s.ns.length then s.ns[i]?.getD 0 else s.k+(i - s.ns.length)
theorem led0{s:As}{bs:List Bo}(up:s.ns.Pairwise (· < ·))(lt:∀ n∈s.ns,n<s.k)(hb:s.ns.map s.g=bs):Led (nmr s) (As.sb bs) s:=by
  have hl:bs.length=s.ns.length:=by rw [<-hb,aa]
  have at':∀ i (h:i<s.ns.length),nmr s i=s.ns[i]:=λi h=>by unfold nmr; rw [h7 h,ae h]; rfl
  refine ⟨λi j hij=>?_,?_,λn hn=>?_,λi=>?_⟩
  . by_cases cj:j<s.ns.length
    . rw [at' i (by lia),at' j cj];exact fR.mp up i j (by lia) cj hij
    . by_cases ci:i<s.ns.length
      . rw [at' i ci];have:=lt _ (bI ci);unfold nmr;rw [h8 cj]
        lia
      . unfold nmr;rw [h8 ci,h8 cj]
        lia
  . show s.ns=(List.range bs.length).map (nmr s);rw [hl];refine eR (by simp) λi h1 h2=>?_;rw [c9,List.getElem_range,at' i h1]
  . have hn:n<bs.length:=hn;show s.g (nmr s n)=bs[n]?.getD _;rw [at' n (by lia),ae hn];subst hb;show _=(s.ns.map s.g)[n]
    rw [c9]
  . show nmr s (bs.length+i)=s.k+i;unfold nmr;rw [h8 (by lia)]
    lia
structure Plan(d:Int)(tn:Bool)(D:Int)(M:Nat)(bs bs':List Bo)(es:DL)(qs:List Nat):Prop where
  w:Walk d tn (As.sb bs) es
  b:∀ i,i<=es.length->∀ n∈(ends (As.sb bs) (es.take i)).ns,BoD d D M ((ends (As.sb bs) (es.take i)).g n)
  p:qs.Perm (List.range bs'.length)
  l:(ends (As.sb bs) es).ns.length=bs'.length
  g:∀ k q:Nat,qs[k]?=some q->∃ n,(ends (As.sb bs) es).ns[q]?=some n/\bs'[k]?=some ((ends (As.sb bs) es).g n)
theorem HP{B:Nat}{bs bs' F:List Bo}{fs:DL}(h1:1<=bs.length)(hB:bs.length<=B)(w:Walk d tn (As.sb bs) es)(wb:∀ i,i<=es.length->∀ n∈(ends (As.sb bs) (es.take i)).ns,BoD d D M ((ends (As.sb bs) (es.take i)).g n))(e:(ends (As.sb bs) es).ns.map (ends (As.sb bs) es).g=F)(T:Turned d tn D M bs' F fs qs) : Plan d tn D M bs bs' (es++fs.map (rnx (nmr (ends (As.sb bs) es)))) qs:=by
  have ok:=zZ (vE h1 hB) w es.length (ai _);rw [au] at ok;have l0:=led0 ok.up ok.lt e;have F1:1<=F.length:=by
    rw [<-e,aa];exact bA.mpr ok.ne
  obtain ⟨w2,key⟩:=F9 l0 (vE F1 (ai _)) T.w;have kN:=key fs.length (ai _);rw [au,show (fs.map (rnx (nmr (ends (As.sb bs) es)))).take fs.length=fs.map (rnx (nmr (ends (As.sb bs) es))) by rw [<-aa (f:=rnx (nmr (ends (As.sb bs) es))),au]] at kN;have okF:=zZ (vE F1 (ai _)) T.w fs.length (ai _);rw [au] at okF;refine ⟨Fk w w2,λi hi n hn=>?_,T.p,?_,λk q hq=>?_⟩
  . by_cases c:i<=es.length
    . rw [cB c] at hn ⊢;exact wb i c n hn
    . have et:(es++fs.map (rnx (nmr (ends (As.sb bs) es)))).take i=es++(fs.map (rnx (nmr (ends (As.sb bs) es)))).take (i - es.length):=by rw [gw,bJ (by lia)]
      rw [ah,aa] at hi;have hj:i - es.length<=fs.length:=by lia
      have kj:=key (i - es.length) hj;have okj:=zZ (vE F1 (ai _)) T.w (i - es.length) hj;rw [et,yv] at hn ⊢;rw [kj.ns] at hn;obtain ⟨m,hm,rfl⟩:=aZ.mp hn;rw [kj.g m (okj.lt m hm)];exact T.b _ hj m hm
  . rw [yv,kN.ns,aa];exact T.l
  . obtain ⟨n,h1,h2⟩:=T.g k q hq;rw [yv];refine ⟨nmr (ends (As.sb bs) es) n,?_,?_⟩
    . rw [kN.ns,ag,h1]; rfl
    . rw [h2,kN.g n (okF.lt n (aq h1))]
theorem Ft{f:Int}(hf:1<=f)(hz:1<=z)(h1:f∣D)(h2:z∣D):lcmI f z∣D:=by
  obtain ⟨s,u,v,hs,s1,u1,v1,ez,ez',fu,fv,guv⟩:=EI hf hz;unfold lcmI;rw [<-hs,fu];obtain ⟨t,ht⟩:=h2;have h3:u∣v*t:=by
    obtain ⟨w,hw⟩:=h1;refine ⟨w,dJ (show s≠0 by lia) ?_⟩;have e1:s*(v*t)=D:=by rw [ht,ez',am]
    have e2:s*(u*w)=D:=by rw [hw,ez,am]
    rw [e1,e2]
  have h4:u∣t:=bQ.mp (Nat.Coprime.dvd_of_dvd_mul_left (show Nat.gcd u.natAbs v.natAbs=1 from guv) (by rw [<-cf]; exact bQ.mpr h3));obtain ⟨w,hw⟩:=h4;exact ⟨w,by rw [ht,hw]; grind⟩
theorem DR{D:Int}:∀ (zs:List Int) (f:Int),1<=f->f∣D->(∀ z∈zs,1<=z/\z∣D)->zs.foldl lcmI f∣D
  | [],_,_,h,_=>h
  | z::zs,f,hf,h,hz=>by
    have h1:=hz z aB;exact DR zs _ (ww hf h1.1).1 (Ft hf h1.1 h h1.2) λu hu=>hz u (ay _ hu)
theorem uV:∀ (zs:List Int) (f:Int),1<=f->(∀ z∈zs,1<=z)->1<=zs.foldl lcmI f/\f∣zs.foldl lcmI f/\∀ z∈zs,z∣zs.foldl lcmI f
  | [],_,h,_=>⟨h,dy _,λz hz=>absurd hz (by simp)⟩
  | z::zs,f,hf,h=>by
    obtain ⟨a1,a2,a3,_⟩:=ww hf (h z aB);obtain ⟨b1,b2,b3⟩:=uV zs (lcmI f z) a1 λu hu=>h u (ay _ hu);exact ⟨b1,aW a2 b2,λu hu=>by
      rcases aK.mp hu with e|e
      . subst e; exact aW a3 b2
      . exact b3 u e⟩
theorem So.dvd{s:Sd}(h:So d D M s)(hD:1<=D):s.z∣D:=by
  obtain ⟨X,Y,_,_,hx,hy⟩:=h.r;rw [(yi h.z1 h.g (show D≠0 by lia) hx hy).2.2];exact ⟨gd X Y D,lN_mul.symm⟩
theorem Bd.dvd_le{k:Nat}{a b:Int}(h:Bd k b)(hb:1<=b)(d:a∣b):Bd k a:=by
  obtain ⟨t,ht⟩:=d;refine h.of_le ?_;rw [ht,cf];refine d7 _ ?_;have:t≠0:=λz=>by rw [z,cM] at ht; lia
  lia
theorem So.num{N:Int}{s:Sd}(h:So d D M s)(hD:1<=D)(ND:N∣D)(zN:s.z∣N):Bd M (N / s.z*s.x)/\Bd M (N / s.z*s.y):=by
  obtain ⟨X,Y,bX,bY,hx,hy⟩:=h.r;obtain ⟨t,ht⟩:=ND;obtain ⟨u,hu⟩:=zN;have z1:=h.z1;have eu:N / s.z=u:=by rw [hu]; exact cG _ (by lia)
  have t0:t≠0:=λz=>by rw [z,cM] at ht; lia
  have ex:u*s.x*t=X:=aC (show s.z≠0 by lia) (by rw [<-hx,ht,hu]; grind);have ey:u*s.y*t=Y:=aC (show s.z≠0 by lia) (by rw [<-hy,ht,hu]; grind);rw [eu];exact ⟨bX.of_le (by rw [<-ex,cf (u*s.x)]; exact d7 _ (by lia)),bY.of_le (by rw [<-ey,cf (u*s.y)]; exact d7 _ (by lia))⟩
variable {kN:Nat}
theorem So.num2{N E:Int}{s:Sd}(h:So d E M s)(hE:1<=E)(bN:Bd kN N):Bd (kN+M) (N*E / s.z*s.x)/\Bd (kN+M) (N*E / s.z*s.y):=by
  obtain ⟨X,Y,bX,bY,hx,hy⟩:=h.r;obtain ⟨u,hu⟩:=h.dvd hE;have z1:=h.z1;have eu:N*E / s.z=N*u:=by rw [hu,show N*(s.z*u)=s.z*(N*u) by grind]; exact cG _ (by lia)
  have ex:u*s.x=X:=aC (show s.z≠0 by lia) (by rw [<-hx,hu]; grind);have ey:u*s.y=Y:=aC (show s.z≠0 by lia) (by rw [<-hy,hu]; grind);rw [eu,am,am,ex,ey];exact ⟨bN.mul bX,bN.mul bY⟩
theorem BK.so{N E:Int}{k Mw Mh:Nat}{s:B4}{b:Bo}(hR:Rt d)(g:GB d k s)(hN:1<=N)(hE:1<=E)(hD:1<=D)(ow:So d D Mw b.w)(wd:b.w.z∣N)(ND:N∣D)(oh:So d E Mh b.h)(sv:s.srv b.w.x b.w.y)(bN:Bd kN N)(bE:Bd kE E)(l1:Mw<=900)(l2:Mw+k+2<=1024)(l3:kN+Mh<=M)(l4:k+kE+(Mw+k+2)+1<=M)(l5:Mw+k+2+(kN+Mh)<=M0):BK d s N E M0 M b:=by
  obtain ⟨n1,n2⟩:=ow.num hD ND wd;obtain ⟨m1,m2⟩:=oh.num2 hE bN;obtain ⟨t1,_⟩:=tM ow.z1 hN bN wd;exact BK.gen (k:=k) (kw:=Mw) (kh:=kN+Mh) (kE:=kE) hR g hN hE ow.z1 ow.g ow.up wd oh.z1 oh.g oh.up (aW (oh.dvd hE) (bT _ _)) (λpl=>by
    have:=(Ej t1).mpr sv;unfold mny;split
    . exact this.1
    . exact this.2) bE n1 n2 m1 m2 l1 l2 l3 l4 l5
theorem FP{s:As}(lt:∀ n∈s.ns,n<s.k)(ob:∀ n∈s.ns,BoD d D M (s.g n))(nb:∀ b∈x.1.new (s.g x.2.1) (s.g x.2.2),BoD d D M b):∀ n∈(s.next x).ns,BoD d D M ((s.next x).g n):=λn hn=>by
  rcases mem_next.mp hn with ⟨h1,_⟩|⟨h1,h2⟩
  . have:(s.next x).g n=s.g n:=vw (lt n h1);rw [this];exact ob n h1
  . obtain ⟨j,rfl⟩:∃ j,n=s.k+j:=⟨n - s.k,by lia⟩
    have hj:j<(x.1.new (s.g x.2.1) (s.g x.2.2)).length:=by rw [Dd.puts_new]; lia
    have e:(s.next x).g (s.k+j)=(x.1.new (s.g x.2.1) (s.g x.2.2))[j]:=yq (ae hj);rw [e];exact nb _ (bI hj)
theorem Ee{K:iB}{b:Addr}{xs:List V}(h:H a=some (.tup xs))(h':H b=some (.tup ys))(n:xs≠[])(n':ys≠[])(z:xs.length+ys.length<=1000)(q:∀ (p:Addr) (H2:Hp),H p=none->Same H H2->H2 p=some (.tup (xs++ys))->Q (.ref p) H2):KC K (.ref a) (.ref b) H Q :=
  ⟨a,b,_,_,rfl,rfl,SqT.of h,SqT.of h',n,ET z,λe=>absurd e n',λ_ p hp=>q p _ hp (zA hp _) zf⟩
theorem Gi{K:iB}{x y z:V}(h:H a=some (.tup [x,y,z]))(q:∀ (p:Addr) (H2:Hp),Same H H2->H2 p=some (.tup [z])->Q (.ref p) H2):rSlT K (.ref a) (some 2) none H Q :=
  ⟨a,_,rfl,SqT.of h,show ¬ (HT.sIx 3 0 (some 2)=0/\HT.sIx 3 3 none=3) by decide,λp hp=>q p _ (zA hp _) zf⟩
theorem Do(e:Dd):inV (.str e.wd) [.str (Str.ofString "beside"),.str (Str.ofString "atop")]=e.two:=by
  cases e with
  | cut al n s =>
    cases al
    . exact (show inV (V.str (Str.ofString "across")) [.str (Str.ofString "beside"),.str (Str.ofString "atop")]=false by decide +kernel)
    . exact (show inV (V.str (Str.ofString "along")) [.str (Str.ofString "beside"),.str (Str.ofString "atop")]=false by decide +kernel)
  | glue al n m =>
    cases al
    . exact (show inV (V.str (Str.ofString "beside")) [.str (Str.ofString "beside"),.str (Str.ofString "atop")]=true by decide +kernel)
    . exact (show inV (V.str (Str.ofString "atop")) [.str (Str.ofString "beside"),.str (Str.ofString "atop")]=true by decide +kernel)
  | shift al n k =>
    cases al
    . exact (show inV (V.str (Str.ofString "stack")) [.str (Str.ofString "beside"),.str (Str.ofString "atop")]=false by decide +kernel)
    . exact (show inV (V.str (Str.ofString "spread")) [.str (Str.ofString "beside"),.str (Str.ofString "atop")]=false by decide +kernel)
  | turn n=>exact (show inV (V.str (Str.ofString "turn")) [.str (Str.ofString "beside"),.str (Str.ofString "atop")]=false by decide +kernel)
def nmI(r:Nat->Nat)(k:Nat):List V:=((List.range k).map λj=>((r j:Nat):Int)).map V.int
theorem BQ{k n:Nat}(h:n<k):atI (nmI r k) (n:Int)=some (.int ((r n:Nat):Int)):=zF (by
  unfold nmI;rw [ag,ag,cK h];rfl)
theorem Ga{k:Nat}:nmI r (k+1)=nmI r k++[.int ((r k:Nat):Int)]:=by
  unfold nmI;rw [d4,aj,aj];rfl
def cmT(k:Nat)(t:Tb):Rat:=if k=0 then t.a else if k=1 then t.b else if k=2 then t.c else t.e
theorem Io{s t:Tb}(h:∀ k,k<4->cmT k s=cmT k t):s=t:=Tb.ext (h 0 (by decide)) (h 1 (by decide)) (h 2 (by decide)) (h 3 (by decide))
theorem ID{p:Addr}{t:Tb}(h:TbAt H p t){i j:Nat}(hi:i<2)(hj:j<2):∃ (xs ys:List V) (rr ff:Addr),H p=some (.tup xs)/\atI xs (0+(i:Int))=some (.ref rr)/\H rr=some (.tup ys)/\atI ys (0+(j:Int))=some (.ref ff)/\H ff=some (.tup [.int (cmT (2*i+j) t).num,.int (cmT (2*i+j) t).den]):=by
  obtain ⟨r0,r1,f0,f1,f2,f3,hp,h0,h1,g0,g1,g2,g3⟩:=h;have i2:i=0\/i=1:=by lia
  have j2:j=0\/j=1:=by lia
  rcases i2 with rfl|rfl <;> rcases j2 with rfl|rfl
  . exact ⟨_,_,r0,f0,hp,rfl,h0,rfl,g0⟩
  . exact ⟨_,_,r0,f1,hp,rfl,h0,rfl,g1⟩
  . exact ⟨_,_,r1,f2,hp,rfl,h1,rfl,g2⟩
  . exact ⟨_,_,r1,f3,hp,rfl,h1,rfl,g3⟩
structure Fu(s t:Tb)(i j:Nat):Prop where
  i2:i<2
  j2:j<2
  eq:∀ k,k<2*i+j->cmT k s=cmT k t
  ne:cmT (2*i+j) s≠cmT (2*i+j) t
theorem skp{k j:Nat}{s:Sd}(h:SK k j s):Br k j s.p:=vV h.ne h.bx h.bz
theorem skq{k j:Nat}{s:Sd}(h:SK k j s):Br k j s.q:=vV h.ne h.by' h.bz
structure HpD(d D:Int)(M n:Nat)(H:Hp)(p:Addr)(L:List Cell):Prop where
  l:H p=some (.lst (L.map Cell.v))
  at':∀ c∈L,c.At H
  ok:∀ c∈L,BoD d D M c.b
  ne:L≠[]
  len:L.length<=n
theorem HpD.sk{d D:Int}{M K n:Nat}{H:Hp}{p:Addr}{L:List Cell}(h:HpD d D M n H p L)(hD:1<=D)(bD:Bd K D)(hK:K<=340)(hM:M<=430):∀ c∈L,SK 430 340 c.b.w/\SK 430 340 c.b.h:=λc hc=>⟨((h.ok c hc).1.sk hD bD).mono hM hK,((h.ok c hc).2.sk hD bD).mono hM hK⟩
theorem Lo{p q:Prop}[Decidable p]{A B:Prop}(hB:¬ (p/\q)->B)(hA:p->(¬ (p/\q)->B)->A):if decide p=true then A else B:=by
  by_cases h:p
  . rw [h7 (iu h)]; exact hA h hB
  . rw [h8 (by rw [hZ h]; decide)]; exact hB (λz=>h z.1)
theorem IS{K:iB}{xs:List V}{k:Nat}(h:H a=some (.lst xs))(q:∀ (p:Addr) (H2:Hp),Same H H2->H2 p=some (.lst (xs.take k))->Q (.ref p) H2):rSlL K (.ref a) none (some (k:Int)) H Q:=by
  refine ⟨a,_,rfl,SqL.of h,λp hp=>?_⟩;refine q p _ (zA hp _) ?_;rw [zf];unfold cutV;rw [HT.sIx_none,HT.sIx_nat,List.drop_zero,gS];congr 2;rcases gL k xs.length with z|z
  . rw [d6 z]
  . rw [eQ z,au,bJ z]
theorem fN_b{f:Nat->Cell}{k:Nat}{N:List Cell}{j:Nat}:(fN f k N j).b=gN (λn=>(f n).b) k (N.map Cell.b) j:=by
  unfold fN gN fL;by_cases c:j<k
  . rw [h7 c,h7 c]
  . rw [h8 c,h8 c,ag];cases N[j - k]? <;> rfl
theorem So.low{a b:Nat}{s:Sd}(hD:1<=D)(z1:1<=s.z)(g:g3 s.x s.y s.z=1)(up:sgn d s.x s.y=1)(dv:s.z∣D)(bx:Bd a s.x)(by':Bd a s.y)(bD:Bd b D):So d D (b+a) s:=by
  obtain ⟨_,tb⟩:=tM z1 hD bD dv;obtain ⟨t,ht⟩:=dv;have et:D / s.z=t:=by rw [ht]; exact cG _ (by lia)
  rw [et] at tb;exact ⟨z1,g,up,t*s.x,t*s.y,tb.mul bx,tb.mul by',by rw [ht]; grind,by rw [ht]; grind⟩
theorem BB{l m:List Bo}(h:l.Perm m):tbs l=tbs m:=by
  induction h with
  | nil=>rfl
  | cons b _ ih=>show b.tb.add _=b.tb.add _; rw [ih]
  | swap a b l=>show b.tb.add (a.tb.add _)=a.tb.add (b.tb.add _); rw [<-Tb.add_assoc,<-Tb.add_assoc,Tb.add_comm b.tb]
  | trans _ _ h1 h2=>exact h1.trans h2
structure LOb(d:Int)(k:Nat)(s:Sd):Prop where
  z1:1<=s.z
  g:g3 s.x s.y s.z=1
  up:sgn d s.x s.y=1
  bx:Bd k s.x
  by':Bd k s.y
  bz:Bd 890 s.z
structure LsB(d:Int)(k:Nat)(H:Hp)(p:Addr)(L:List Ln):Prop where
  l:H p=some (.lst (L.map Ln.v))
  at':∀ c∈L,SdAt H c.p c.s
  ok:∀ c∈L,LOb d k c.s
theorem LsB.same{k:Nat}{p:Addr}{L:List Ln}(h:LsB d k H p L)(s:Same H H'):LsB d k H' p L:=⟨s _ _ h.l,λc hc=>s _ _ (h.at' c hc),h.ok⟩
theorem Ke{k:Nat}{L:List Ln}(ok:∀ c∈L,LOb d k c.s):∀ z∈L.map (λc=>c.s.z),1<=z/\Bd 890 z:=λz hz=>by
  obtain ⟨c,hc,e⟩:=aZ.mp hz;subst e;exact ⟨(ok c hc).z1,(ok c hc).bz⟩
theorem FJ{k:Nat}{L:List Ln}(ok:∀ c∈L,LOb d k c.s)(hb:Bd 890 (cbs (L.map λc=>c.s.z)))(i:Nat):1<=cbs ((L.take i).map λc=>c.s.z)/\Bd 890 (cbs ((L.take i).map λc=>c.s.z)):=by
  have z1:∀ z∈L.map (λc=>c.s.z),1<=z:=λz hz=>(Ke ok z hz).1;have a:1<=cbs ((L.take i).map λc:Ln=>c.s.z):=(uV ((L.take i).map λc:Ln=>c.s.z) 1 (by decide) λz hz=>z1 z (by rw [hJ] at hz; exact bO hz)).1;have e:cbs (L.map λc=>c.s.z)=((L.drop i).map λc=>c.s.z).foldl lcmI (cbs ((L.take i).map λc=>c.s.z)):=by
    conv=>lhs; rw [<-dB i L,aj]
    unfold cbs;rw [di]
  obtain ⟨b1,b2,_⟩:=uV ((L.drop i).map λc:Ln=>c.s.z) (cbs ((L.take i).map λc:Ln=>c.s.z)) a λz hz=>z1 z (by rw [gq] at hz; exact dG hz);rw [<-e] at b1 b2;exact ⟨a,Bd.dvd_le hb b1 b2⟩
theorem HS{k:Nat}{L:List Ln}(ok:∀ c∈L,LOb d k c.s):(∀ u∈L.map Ln.u,sgn d u.1 u.2=1)/\∀ u∈L.map Ln.u,Bd k u.1/\Bd k u.2:=by
  constructor
  . intro u hu;obtain ⟨c,hc,e⟩:=aZ.mp hu;subst e;exact (ok c hc).up
  . intro u hu;obtain ⟨c,hc,e⟩:=aZ.mp hu;subst e;exact ⟨(ok c hc).bx,(ok c hc).by'⟩
theorem HE{k:Nat}{L:List Ln}(ok:∀ c∈L,LOb d k c.s)(i:Nat):∀ c∈L.take i,LOb d k c.s:=λc hc=>ok c (bO hc)
theorem HX{i j:Int}(h:m=i\/m=j)(h1:m<=i)(h2:m<=j):m<0↔¬ (0<=i/\0<=j):=by lia
inductive P0(vs:List V)(H:Hp)(Q:VK)(E:XK):Prop
  | mk (i:Int) (_:vs=[.int i]) (_:Q (.bl true) H):P0 vs H Q E
theorem CI{i:Int}(q:Q (.bl true) H):P0 ([.int i]++[]) H Q E:=⟨i,rfl,q⟩
local macro_rules | `(tactic| walk_at "rd")=>`(tactic| with_reducible refine CI ?_)
inductive P1(vs:List V)(H:Hp)(Q:VK)(E:XK):Prop
  | mk (a b:Int) (_:vs=[.int a,.int b]) (_:Bd 8192 b) (_:Q (.int (Int.gcd a b:Nat)) H):P1 vs H Q E
theorem wM{a b:Int}(hb:Bd 8192 b)(q:Q (.int (Int.gcd a b:Nat)) H):P1 ([.int a,.int b]++[]) H Q E:=⟨a,b,rfl,hb,q⟩
local macro_rules | `(tactic| walk_at "rd")=>`(tactic| ((with_reducible refine wM ?_ ?_); focus (walk_at "b8")))
inductive P2(vs:List V)(H:Hp)(Q:VK)(E:XK):Prop
  | mk (g n:Int) (_:vs=[.int g,.int n]) (_:Q (.int (if n<0 then -g else g)) H):P2 vs H Q E
theorem vN{g n:Int}(q:Q (.int (if n<0 then -g else g)) H):P2 ([.int g,.int n]++[]) H Q E:=⟨g,n,rfl,q⟩
local macro_rules | `(tactic| walk_at "rd")=>`(tactic| with_reducible refine vN ?_)
inductive P3(vs:List V)(H:Hp)(Q:VK)(E:XK):Prop
  | mk {d a b:Int} (_:vs=[.int d,.int a,.int b]) (_:Bd 64 d) (_:Bd 8000 a) (_:Bd 8000 b) (_:Q (.bl (decide (0<sgn d a b))) H):P3 vs H Q E
abbrev wC:=@P3.mk
inductive P4(vs:List V)(H:Hp)(Q:VK)(E:XK):Prop
  | mk (p p':Addr) (x y z x' y' z':Int) (_:vs=[.ref p,.ref p']) (_:H p=some (.tup [.int x,.int y,.int z])) (_:H p'=some (.tup [.int x',.int y',.int z'])) (_:(Bd 900 x/\Bd 900 y/\Bd 900 x'/\Bd 900 y')) (_:Q (.int (x*y' - y*x')) H):P4 vs H Q E
variable {p':Addr}{z':Int}
theorem vm{p:Addr}{x:Int}(h1:H p=some (.tup [.int x,.int y,.int z]))(h2:H p'=some (.tup [.int x',.int y',.int z']))(b1:Bd 900 x)(b2:Bd 900 y)(b3:Bd 900 x')(b4:Bd 900 y')(q:Q (.int (x*y' - y*x')) H):P4 ([.ref p,.ref p']++[]) H Q E:=⟨p,p',x,y,z,x',y',z',rfl,h1,h2,⟨b1,b2,b3,b4⟩,q⟩
inductive P6(vs:List V)(H:Hp)(Q:VK)(E:XK):Prop
  | mk {a:Addr} {us:List Addr} {pc:List Pc} {u:Nat} (_:vs=[.ref a,.int (u:Int)]) (_:H a=some (.lst (us.map V.ref))) (_:PcAt H us pc) (_:pc.length<=100) (_:u<=1000) (_:(∀ (r:Addr) (ps:List Addr) (H':Hp),Same H H'->H r=none->H' r=some (.lst (ps.map V.ref))->Runs H' ps (gth u pc pc.length)->Q (.ref r) H')):P6 vs H Q E
abbrev vn:=@P6.mk
inductive P7(vs:List V)(H:Hp)(Q:VK)(E:XK):Prop
  | mk {p:Addr} {e:Dd} (_:vs=[.ref p]) (_:DdAt H p e) (_:∀ (r:Addr) (H':Hp),Same H H'->H r=none->H' r=some (.lst (e.names.map V.int))->Q (.ref r) H'):P7 vs H Q E
abbrev xc:=@P7.mk
inductive P8(vs:List V)(H:Hp)(Q:VK)(E:XK):Prop
  | mk {p:Addr} {e:Dd} (_:vs=[.ref p]) (_:DdAt H p e) (_:Q (.int (e.puts:Nat)) H):P8 vs H Q E
abbrev yd:=@P8.mk
inductive P9(vs:List V)(H:Hp)(Q:VK)(E:XK):Prop
  | mk {c:Cell} (_:vs=[.ref c.p]) (_:c.At H) (_:∀ (r:Addr) (H':Hp),Same H H'->H r=none->Cell.At H' ⟨r,c.ph,c.pw,⟨c.b.h,c.b.w⟩⟩->Q (.ref r) H'):P9 vs H Q E
abbrev yQ:=@P9.mk
inductive P10(vs:List V)(H:Hp)(Q:VK)(E:XK):Prop
  | mk {a:Addr} {ms ts:List Nat} (_:vs=[.ref a]) (_:H a=some (.lst ((ms.map λn:Nat=>(n:Int)).map V.int))) (_:ms.Perm ts) (_:ts.Pairwise (· < ·)) (_:ts.length<64) (_:(∀ (r:Addr) (H':Hp),Same H H'->H r=none->H' r=some (.lst (((ms.map (rk ts)).map λn:Nat=>(n:Int)).map V.int))->Q (.ref r) H')):P10 vs H Q E
abbrev Au:=@P10.mk
inductive P11(vs:List V)(H:Hp)(Q:VK)(E:XK):Prop
  | mk {p a:Addr} {e:Dd} {r:Nat->Nat} {k:Nat} (_:vs=[.ref p,.ref a]) (_:DdAt H p e) (_:e.isT=false) (_:H a=some (.lst (nmI r k))) (_:(∀ m∈e.names,∃ n,n<k/\m=((n:Nat):Int))) (_:(∀ (b:Addr) (H':Hp),Same H H'->H b=none->DdAt H' b (e.rn r)->Q (.ref b) H')):P11 vs H Q E
abbrev Ak:=@P11.mk
inductive P12(vs:List V)(H:Hp)(Q:VK)(E:XK):Prop
  | mk {p p':Addr} {s t:Tb} (_:vs=[.ref p,.ref p']) (_:TbAt H p s) (_:TbAt H p' t) (_:(s=t->Q .non H)) (_:(∀ (r:Addr) (H':Hp) (i j:Nat),Same H H'->H' r=some (.tup [.int (i:Int),.int (j:Int)])->Fu s t i j->Q (.ref r) H')):P12 vs H Q E
abbrev vH:=@P12.mk
inductive P13(K:iB)(vs:List V)(H:Hp)(Q:VK)(E:XK):Prop
  | mk {p:Addr} {ns:List Int} {k:Int} (_:vs=[.ref p,.int k]) (_:SqL K H p (ns.map V.int)) (_:0<=k) (_:(∀ x∈ns,Bd 1048576 x)) (_:∀ c:Int,Bd 1048576 c->Q (.int c) H):P13 K vs H Q E
abbrev ye:=@P13.mk
inductive P14(vs:List V)(H:Hp)(Q:VK)(E:XK):Prop
  | mk {c k:Int} (_:vs=[.int c,.int k]) (_:Bd 1048576 c) (_:Bd 64 k) (_:∀ r:Int,0<=r->r<170141183460469231731687303715884105727->Q (.int r) H):P14 vs H Q E
abbrev yg:=@P14.mk
inductive P15(vs:List V)(H:Hp)(Q:VK)(E:XK):Prop
  | mk (a b:Int) (_:vs=[.int a,.int b]) (_:Q (.int (Int.gcd a b:Nat)) H):P15 vs H Q E
theorem vM{a b:Int}(q:Q (.int (Int.gcd a b:Nat)) H):P15 ([.int a,.int b]++[]) H Q E:=⟨a,b,rfl,q⟩
local macro_rules | `(tactic| walk_at "rd")=>`(tactic| with_reducible refine vM ?_)
inductive P16(vs:List V)(H:Hp)(Q:VK)(E:XK):Prop
  | mk {d a b:Int} (_:vs=[.int d,.int a,.int b]) (_:Bd 64 d) (_:Bd 8000 a) (_:Bd 8000 b) (_:∀ H',Same H H'->Q (.int (sgn d a b)) H'):P16 vs H Q E
abbrev vq:=@P16.mk
inductive P17(vs:List V)(H:Hp)(Q:VK)(E:XK):Prop
  | mk {l:Addr} {L:List Cell} (_:vs=[.ref l]) (_:H l=some (.lst (L.map Cell.v))) (_:(∀ c∈L,c.At H)) (_:L.length<=60) (_:(∀ (r a:Addr) (H':Hp),Same H H'->H a=none->H' r=some (.tup [.ref a,.int (L.length:Int)])->Ly H' a (List.range L.length) (fL L)->Q (.ref r) H')):P17 vs H Q E
abbrev u5:=@P17.mk
inductive P18(cs:Cs)(vs:List V)(H:Hp)(Q:VK)(E:XK):Prop
  | mk (p dx hp:Addr) (d:Int) (tn:Bool) (cl:List Cell) (_:vs=[.ref p,.int d,.ref hp,.bl tn]) (_:H p=some (.ins cs.Yard dx [])) (_:H hp=some (.lst (cl.map Cell.v))) (_:(∀ c∈cl,c.At H)) (_:cl.length<=60) (_:∀ (y:Yd) (H':Hp),y.p=p->y.dx=dx->(∀ b o,H b=some o->b≠p->H' b=some o)->YdAt cs.Yard H' y d tn cl (List.range cl.length) []->H y.k=none->H y.l=none->H y.t=none->Q .non H'):P18 cs vs H Q E
variable {vs:List V}
theorem wZ{cs:Cs}{x hp:Addr}{H1:Hp}(hv:vs=[.ref x,.int d,.ref hp,.bl tn])(n1:H1 x=none)(n2:H1 dx=none)(hh:H1 hp=some (.lst (cl.map Cell.v)))(hat:∀ c∈cl,c.At H1)(hl:cl.length<=60)(q:∀ (y:Yd) (H':Hp),y.p=x->Same H1 H'->YdAt cs.Yard H' y d tn cl (List.range cl.length) []->H1 y.k=none->H1 y.l=none->H1 y.t=none->Q .non H') : P18 cs vs (upd (upd H1 dx (.own x)) x (.ins cs.Yard dx [])) Q E:=by
  subst hv;have k:∀ b o,H1 b=some o->(upd (upd H1 dx (.own x)) x (.ins cs.Yard dx [])) b=some o:=λb o e=>by
    rw [zj (zb e n1),zj (zb e n2)]; exact e
  have nn:∀ b,(upd (upd H1 dx (.own x)) x (.ins cs.Yard dx [])) b=none->H1 b=none:=λb h=>by
    cases e:H1 b with
    | none=>rfl
    | some o=>rw [k b o e] at h; cases h
  exact ⟨x,dx,hp,d,tn,cl,rfl,zf,k _ _ hh,λc hc=>⟨k _ _ (hat c hc).t,k _ _ (hat c hc).w,k _ _ (hat c hc).h⟩,hl,λy H' e1 _ fr hy h1 h2 h3=>q y H' e1 (λb o e=>fr b o (k b o e) (zb e n1)) hy (nn _ h1) (nn _ h2) (nn _ h3)⟩
inductive P19(cs:Cs)(vs:List V)(H:Hp)(Q:VK)(E:XK):Prop
  | mk {y:Yd} {d:Int} {tn:Bool} {cl:List Cell} {ns:List Nat} {lg:List V} {n:Nat} {c:Cell} (_:vs=[.ref y.p,.int (n:Int)]) (_:YdAt cs.Yard H y d tn cl ns lg) (_:cl[n]?=some c) (_:Q (.ref c.p) H):P19 cs vs H Q E
abbrev y6:=@P19.mk
inductive P20(cs:Cs)(vs:List V)(H:Hp)(Q:VK)(E:XK):Prop
  | mk {y:Yd} {d:Int} {tn:Bool} {cl:List Cell} {ns:List Nat} {lg:List V} (_:vs=[.ref y.p]) (_:YdAt cs.Yard H y d tn cl ns lg) (_:∀ (r:Addr) (H':Hp) (ps:List Addr),Same H H'->H r=none->H' r=some (.lst (ps.map V.ref))->Prs cl ns H' ps->Q (.ref r) H'):P20 cs vs H Q E
abbrev ue:=@P20.mk
inductive P21(cs:Cs)(vs:List V)(H:Hp)(Q:VK)(E:XK):Prop
  | mk {y:Yd} {d:Int} {tn:Bool} {cl:List Cell} {ns:List Nat} {lg:List V} (_:vs=[.ref y.p]) (_:YdAt cs.Yard H y d tn cl ns lg) (_:∀ (r:Addr) (H':Hp),Same H H'->H r=none->H' r=some (.lst ((pick cl ns).map Cell.v))->Q (.ref r) H'):P21 cs vs H Q E
abbrev A1:=@P21.mk
inductive P22(vs:List V)(H:Hp)(Q:VK)(E:XK):Prop
  | mk (a b n:Int) (_:vs=[.int a,.int b,.int n]) (_:n≠0) (_:Bd 8000 n) (_:(Bd 8192 a/\Bd 8192 b)) (_:∀ p H',Same H H'->H' p=some (.tup [.int (lA a b n),.int (lB a b n),.int (lN a b n)])->Q (.ref p) H'):P22 vs H Q E
theorem yR{a b n:Int}(e:vs=[.int a,.int b,.int n])(hn:n≠0)(hb:Bd 8000 n)(q:∀ p H',Same H H'->H' p=some (.tup [.int (lA a b n),.int (lB a b n),.int (lN a b n)])->Q (.ref p) H')(ha8:Bd 8192 a:=by walk_at "b8")(hb8:Bd 8192 b:=by walk_at "b8"):P22 vs H Q E:=⟨a,b,n,e,hn,hb,⟨ha8,hb8⟩,q⟩
inductive P23(vs:List V)(H:Hp)(Q:VK)(E:XK):Prop
  | mk (t b:Int) (_:vs=[.int t,.int b]) (_:b≠0) (_:Bd 8000 b) (_:∀ (r:Addr) (H':Hp),Same H H'->H' r=some (.tup [.int (fT t b),.int (fB t b)])->Q (.ref r) H'):P23 vs H Q E
theorem ud{t b:Int}(e:vs=[.int t,.int b])(hn:b≠0)(hb:Bd 8000 b)(q:∀ (r:Addr) (H':Hp),Same H H'->H' r=some (.tup [.int (fT t b),.int (fB t b)])->Q (.ref r) H'):P23 vs H Q E:=⟨t,b,e,hn,hb,q⟩
inductive P24(K:iB)(vs:List V)(H:Hp)(Q:VK)(E:XK):Prop
  | mk (p q:Addr) (x y z x' y' z':Int) (_:vs=[.ref p,.ref q]) (_:SqT K H p [.int x,.int y,.int z]) (_:H q=some (.tup [.int x',.int y',.int z'])) (_:1<=z) (_:1<=z') (_:g3 x y z=1) (_:g3 x' y' z'=1) (_:(Bd 3900 x/\Bd 3900 y/\Bd 3900 z/\Bd 3900 x'/\Bd 3900 y'/\Bd 3900 z')) (_:∀ (r:Addr) (H':Hp),Same H H'->H' r=some (.tup [.int (lA (x*z'+x'*z) (y*z'+y'*z) (z*z')),.int (lB (x*z'+x'*z) (y*z'+y'*z) (z*z')),.int (lN (x*z'+x'*z) (y*z'+y'*z) (z*z'))])->Q (.ref r) H'):P24 K vs H Q E
theorem DC{K:iB}{p:Addr}{x:Int}(h1:SqT K H p [.int x,.int y,.int z])(h2:H p'=some (.tup [.int x',.int y',.int z']))(n1:1<=z)(n2:1<=z')(k1:g3 x y z=1)(k2:g3 x' y' z'=1)(b1:Bd 3900 x)(b2:Bd 3900 y)(b3:Bd 3900 z)(b4:Bd 3900 x')(b5:Bd 3900 y')(b6:Bd 3900 z')(q:∀ (r:Addr) (H':Hp),Same H H'->H' r=some (.tup [.int (lA (x*z'+x'*z) (y*z'+y'*z) (z*z')),.int (lB (x*z'+x'*z) (y*z'+y'*z) (z*z')),.int (lN (x*z'+x'*z) (y*z'+y'*z) (z*z'))])->Q (.ref r) H'):P24 K ([.ref p,.ref p']++[]) H Q E:=⟨p,p',x,y,z,x',y',z',rfl,h1,h2,n1,n2,k1,k2,⟨b1,b2,b3,b4,b5,b6⟩,q⟩
inductive P25(K:iB)(vs:List V)(H:Hp)(Q:VK)(E:XK):Prop
  | mk (d:Int) (p p':Addr) (x y z x' y' z':Int) (_:vs=[.int d,.ref p,.ref p']) (_:SqT K H p [.int x,.int y,.int z]) (_:H p'=some (.tup [.int x',.int y',.int z'])) (_:Bd 64 d) (_:(Bd 2500 x/\Bd 2500 y/\Bd 2500 z/\Bd 2500 x'/\Bd 2500 y'/\Bd 2500 z')) (_:Q (.bl (decide (0<sgn d (x'*z - x*z') (y'*z - y*z')))) H):P25 K vs H Q E
theorem AI{K:iB}{p:Addr}{x:Int}(h1:SqT K H p [.int x,.int y,.int z])(h2:H p'=some (.tup [.int x',.int y',.int z']))(hd:Bd 64 d)(b1:Bd 2500 x)(b2:Bd 2500 y)(b3:Bd 2500 z)(b4:Bd 2500 x')(b5:Bd 2500 y')(b6:Bd 2500 z')(q:Q (.bl (decide (0<sgn d (x'*z - x*z') (y'*z - y*z')))) H):P25 K ([.int d,.ref p,.ref p']++[]) H Q E:=⟨d,p,p',x,y,z,x',y',z',rfl,h1,h2,hd,⟨b1,b2,b3,b4,b5,b6⟩,q⟩
inductive P26(vs:List V)(H:Hp)(Q:VK)(E:XK):Prop
  | mk (d d':Int) (p r1 r2 o:Addr) (s:B4) (N x y:Int) (_:vs=[.int d,.ref p,.ref o]) (_:BsAt H p r1 r2 s N) (_:H o=some (.tup [.int (lA x y N),.int (lB x y N),.int (lN x y N)])) (_:1<=N) (_:Bd 900 N) (_:GB d' 900 s) (_:(Bd 900 x/\Bd 900 y)) (_:∀ (r:Addr) (H':Hp),Same H H'->H' r=some (.tup [.int (s.i x y),.int (s.j x y)])->Q (.ref r) H'):P26 vs H Q E
variable {r1 r2:Addr}
theorem BD{d':Int}{p o:Addr}{s:B4}{N x:Int}(h:BsAt H p r1 r2 s N)(ho:H o=some (.tup [.int (lA x y N),.int (lB x y N),.int (lN x y N)]))(hN:1<=N)(hb:Bd 900 N)(g:GB d' 900 s)(bx:Bd 900 x)(by':Bd 900 y)(q:∀ (r:Addr) (H':Hp),Same H H'->H' r=some (.tup [.int (s.i x y),.int (s.j x y)])->Q (.ref r) H'):P26 ([.int d,.ref p,.ref o]++[]) H Q E:=⟨d,d',p,r1,r2,o,s,N,x,y,rfl,h,ho,hN,hb,g,⟨bx,by'⟩,q⟩
inductive P27(K:iB)(vs:List V)(H:Hp)(Q:VK)(E:XK):Prop
  | mk {d:Int} {k:Nat} {p:Addr} {L:List Ln} (_:vs=[.ref p]) (_:LsB d k H p L) (_:L.length<=40) (_:Bd 890 (cbs (L.map λc=>c.s.z))) (_:Q (.int (cbs (L.map λc=>c.s.z))) H):P27 K vs H Q E
abbrev vd:=@P27.mk
inductive P28(cs:Cs)(vs:List V)(H:Hp)(Q:VK)(E:XK):Prop
  | mk {y:Yd} {d:Int} {tn:Bool} {cl:List Cell} {ns:List Nat} {lg:List V} {p a:Addr} {e:Dd} {n:Nat} {c:Cell} {m m':Int} (_:vs=[.ref y.p,.ref p,.ref a]) (_:YdAt cs.Yard H y d tn cl ns lg) (_:DdAt H p e) (_:H a=some (.lst (if e.puts=2 then [.int m,.int m'] else [.int m]))) (_:e.n=(n:Int)) (_:cl[n]?=some c) (_:(∀ (r:Addr) (H':Hp),Same H H'->H r=none->DdAt H' r (e.und m m' c.b)->Q (.ref r) H')):P28 cs vs H Q E
abbrev DT:=@P28.mk
inductive P29(vs:List V)(H:Hp)(Q:VK)(E:XK):Prop
  | mk {pl:Addr} {ps:List Addr} {bs:List Bo} {es:DL} {d:Int} {tn:Bool} (_:vs=[.int ((bs.length:Nat):Int),.ref pl]) (_:1<=bs.length) (_:bs.length<=30) (_:H pl=some (.lst (ps.map V.ref))) (_:ps.length<=150) (_:Runs H ps es) (_:Walk d tn (As.sb bs) es) (_:(∀ (r:Addr) (H':Hp),Same H H'->H r=none->H' r=some (.lst (((ends (As.sb bs) es).ns.map λn:Nat=>(n:Int)).map V.int))->Q (.ref r) H')):P29 vs H Q E
abbrev vG:=@P29.mk
inductive P30(K:iB)(vs:List V)(H:Hp)(Q:VK)(E:XK):Prop
  | mk (p p':Addr) (x y:Rat) (_:vs=[.ref p,.ref p']) (_:Fs K H p x) (_:Fq H p' y) (_:(Bq 8000 x/\Bq 8000 y)) (_:∀ (r:Addr) (H':Hp),Same H H'->Fq H' r (x+y)->Q (.ref r) H'):P30 K vs H Q E
theorem uU{K:iB}{p:Addr}{x y:Rat}(h1:Fs K H p x)(h2:Fq H p' y)(b1:Bq 8000 x)(b2:Bq 8000 y)(q:∀ (r:Addr) (H':Hp),Same H H'->Fq H' r (x+y)->Q (.ref r) H'):P30 K ([.ref p,.ref p']++[]) H Q E:=⟨p,p',x,y,rfl,h1,h2,⟨b1,b2⟩,q⟩
inductive P31(vs:List V)(H:Hp)(Q:VK)(E:XK):Prop
  | mk (p p':Addr) (x y:Rat) (_:vs=[.ref p,.ref p']) (_:Fq H p x) (_:Fq H p' y) (_:(Bq 8000 x/\Bq 8000 y)) (_:∀ (r:Addr) (H':Hp),Same H H'->Fq H' r (x*y)->Q (.ref r) H'):P31 vs H Q E
theorem uk{p:Addr}{x y:Rat}(h1:Fq H p x)(h2:Fq H p' y)(b1:Bq 8000 x)(b2:Bq 8000 y)(q:∀ (r:Addr) (H':Hp),Same H H'->Fq H' r (x*y)->Q (.ref r) H'):P31 ([.ref p,.ref p']++[]) H Q E:=⟨p,p',x,y,rfl,h1,h2,⟨b1,b2⟩,q⟩
inductive P32(vs:List V)(H:Hp)(Q:VK)(E:XK):Prop
  | mk (c m:Int) (_:vs=[.int c,.int m]) (_:Bd 1048576 c) (_:(0<=m/\m<=20)) (_:∀ (l:Addr) (H':Hp) (ds:List Int),Same H H'->H' l=some (.lst (ds.map V.int))->(ds.length:Int)=m->(∀ x∈ds,0<=x/\x<1000000)->Q (.ref l) H'):P32 vs H Q E
theorem yC{c:Int}(hc:Bd 1048576 c)(m0:0<=m)(m1:m<=20)(q:∀ (l:Addr) (H':Hp) (ds:List Int),Same H H'->H' l=some (.lst (ds.map V.int))->(ds.length:Int)=m->(∀ x∈ds,0<=x/\x<1000000)->Q (.ref l) H'):P32 ([.int c,.int m]++[]) H Q E:=⟨c,m,rfl,hc,⟨m0,m1⟩,q⟩
inductive P33(vs:List V)(H:Hp)(Q:VK)(E:XK):Prop
  | mk {a b n:Int} (_:vs=[.int a,.int b,.int n]) (_:n≠0) (_:Bd 8000 n) (_:∀ (r:Addr) (H':Hp),Same H H'->H' r=some (.tup [.int (lA a b n),.int (lB a b n),.int (lN a b n)])->Q (.ref r) H'):P33 vs H Q E
abbrev xb:=@P33.mk
inductive P34(vs:List V)(H:Hp)(Q:VK)(E:XK):Prop
  | mk {c k:Int} (_:vs=[.int c,.int k]) (_:Bd 1048576 c) (_:Bd 64 k) (_:∀ (d:Int) (H':Hp),Rt d->Same H H'->Q (.int d) H'):P34 vs H Q E
abbrev Aw:=@P34.mk
inductive P35(cs:Cs)(vs:List V)(H:Hp)(Q:VK)(E:XK):Prop
  | mk {y:Yd} {d:Int} {tn:Bool} {cl:List Cell} {ns:List Nat} {lg:List V} {a:Addr} {ms:List Int} (_:vs=[.ref y.p,.ref a]) (_:YdAt cs.Yard H y d tn cl ns lg) (_:H a=some (.lst (ms.map V.int))) (_:(∀ m∈ms,∃ n∈ns,m=(n:Int))) (_:ms.Nodup) (_:ms.length<=2) (_:Q .non H):P35 cs vs H Q E
abbrev xX:=@P35.mk
inductive P36(vs:List V)(H:Hp)(Q:VK)(E:XK):Prop
  | mk {p:Addr} {a b n:Int} (_:vs=[.ref p]) (_:H p=some (.tup [.int a,.int b,.int n])) (_:n≠0) (_:Bd 8000 n) (_:∀ (r r1 r2:Addr) (H':Hp),Same H H'->H' r=some (.tup [.ref r1,.ref r2])->H' r1=some (.tup [.int (fT a n),.int (fB a n)])->H' r2=some (.tup [.int (fT b n),.int (fB b n)])->Q (.ref r) H'):P36 vs H Q E
abbrev Dj:=@P36.mk
inductive P37(vs:List V)(H:Hp)(Q:VK)(E:XK):Prop
  | mk (p q:Addr) (x y z x' y' z':Int) (_:vs=[.ref p,.ref q]) (_:H p=some (.tup [.int x,.int y,.int z])) (_:H q=some (.tup [.int x',.int y',.int z'])) (_:1<=z) (_:1<=z') (_:g3 x y z=1) (_:g3 x' y' z'=1) (_:(Bd 3900 x/\Bd 3900 y/\Bd 3900 z/\Bd 3900 x'/\Bd 3900 y'/\Bd 3900 z')) (_:∀ (r:Addr) (H':Hp),Same H H'->H' r=some (.tup [.int (lA (x*z'+-x'*z) (y*z'+-y'*z) (z*z')),.int (lB (x*z'+-x'*z) (y*z'+-y'*z) (z*z')),.int (lN (x*z'+-x'*z) (y*z'+-y'*z) (z*z'))])->Q (.ref r) H'):P37 vs H Q E
theorem AR{p:Addr}{x:Int}(h1:H p=some (.tup [.int x,.int y,.int z]))(h2:H p'=some (.tup [.int x',.int y',.int z']))(n1:1<=z)(n2:1<=z')(k1:g3 x y z=1)(k2:g3 x' y' z'=1)(b1:Bd 3900 x)(b2:Bd 3900 y)(b3:Bd 3900 z)(b4:Bd 3900 x')(b5:Bd 3900 y')(b6:Bd 3900 z')(q:∀ (r:Addr) (H':Hp),Same H H'->H' r=some (.tup [.int (lA (x*z'+-x'*z) (y*z'+-y'*z) (z*z')),.int (lB (x*z'+-x'*z) (y*z'+-y'*z) (z*z')),.int (lN (x*z'+-x'*z) (y*z'+-y'*z) (z*z'))])->Q (.ref r) H'):P37 ([.ref p,.ref p']++[]) H Q E:=⟨p,p',x,y,z,x',y',z',rfl,h1,h2,n1,n2,k1,k2,⟨b1,b2,b3,b4,b5,b6⟩,q⟩
inductive P38(vs:List V)(H:Hp)(Q:VK)(E:XK):Prop
  | mk (d:Int) (p p':Addr) (x y z x' y' z':Int) (_:vs=[.int d,.ref p,.ref p']) (_:H p=some (.tup [.int x,.int y,.int z])) (_:H p'=some (.tup [.int x',.int y',.int z'])) (_:Bd 64 d) (_:(Bd 1990 x/\Bd 1990 y/\Bd 1990 z/\Bd 1990 x'/\Bd 1990 y'/\Bd 1990 z')) (_:z≠0) (_:z'≠0) (_:∀ (r:Addr) (H':Hp),Same H H'->H' r=some (.tup [.int (lA (x*x'+d*y*y') (x*y'+y*x') (z*z')),.int (lB (x*x'+d*y*y') (x*y'+y*x') (z*z')),.int (lN (x*x'+d*y*y') (x*y'+y*x') (z*z'))])->Q (.ref r) H'):P38 vs H Q E
theorem Hy{p:Addr}{x:Int}(h1:H p=some (.tup [.int x,.int y,.int z]))(h2:H p'=some (.tup [.int x',.int y',.int z']))(hd:Bd 64 d)(b1:Bd 1990 x)(b2:Bd 1990 y)(b3:Bd 1990 z)(b4:Bd 1990 x')(b5:Bd 1990 y')(b6:Bd 1990 z')(n1:z≠0)(n2:z'≠0)(q:∀ (r:Addr) (H':Hp),Same H H'->H' r=some (.tup [.int (lA (x*x'+d*y*y') (x*y'+y*x') (z*z')),.int (lB (x*x'+d*y*y') (x*y'+y*x') (z*z')),.int (lN (x*x'+d*y*y') (x*y'+y*x') (z*z'))])->Q (.ref r) H'):P38 ([.int d,.ref p,.ref p']++[]) H Q E:=⟨d,p,p',x,y,z,x',y',z',rfl,h1,h2,hd,⟨b1,b2,b3,b4,b5,b6⟩,n1,n2,q⟩
inductive P39(vs:List V)(H:Hp)(Q:VK)(E:XK):Prop
  | mk {d N:Int} (_:vs=[.int d,.int N]) (_:1<=N) (_:Bd 900 N) (_:∀ (p' r1' r2':Addr) (H':Hp),Same H H'->BsAt H' p' r1' r2' b4 N->Q (.ref p') H'):P39 vs H Q E
abbrev Ah:=@P39.mk
inductive P40(vs:List V)(H:Hp)(Q:VK)(E:XK):Prop
  | mk {p:Addr} {s:Sd} (_:vs=[.ref p]) (_:SdAt H p s) (_:SK 2400 2100 s) (_:∀ H',Same H H'->Q (.bl true) H'):P40 vs H Q E
abbrev vf:=@P40.mk
inductive P41(vs:List V)(H:Hp)(Q:VK)(E:XK):Prop
  | mk {c c':Cell} (_:vs=[.ref c.p,.ref c'.p]) (_:c.At H) (_:c'.At H) (_:c.b.h=c'.b.h) (_:SY c.b.w) (_:SY c'.b.w) (_:∀ (c1:Cell) (H':Hp),Same H H'->H c1.p=none->c1.At H'->c1.b=⟨adS c.b.w c'.b.w,c.b.h⟩->Q (.ref c1.p) H'):P41 vs H Q E
abbrev xF:=@P41.mk
inductive P42(vs:List V)(H:Hp)(Q:VK)(E:XK):Prop
  | mk {c:Cell} {k:Int} (_:vs=[.ref c.p,.int k]) (_:c.At H) (_:1<=k) (_:Bd 1024 k) (_:SY c.b.w) (_:SY c.b.h) (_:∀ (c1:Cell) (H':Hp),Same H H'->H c1.p=none->c1.At H'->c1.b=⟨shS c.b.w 1 k,shS c.b.h k 1⟩->Q (.ref c1.p) H'):P42 vs H Q E
abbrev tI:=@P42.mk
inductive P43(vs:List V)(H:Hp)(Q:VK)(E:XK):Prop
  | mk {pl ml:Addr} {ps ms:List Addr} {bs F:List Bo} {es fs:DL} {d:Int} {tn:Bool} (_:vs=[.int ((bs.length:Nat):Int),.ref pl,.ref ml]) (_:1<=bs.length) (_:bs.length<=30) (_:H pl=some (.lst (ps.map V.ref))) (_:ps.length<=150) (_:Runs H ps es) (_:Walk d tn (As.sb bs) es) (_:H ml=some (.lst (ms.map V.ref))) (_:ms.length<=150) (_:Runs H ms fs) (_:(ends (As.sb bs) es).ns.map (ends (As.sb bs) es).g=F) (_:Walk d false (As.sb F) fs) (_:(∀ (b:Addr) (qs:List Addr) (H':Hp),Same H H'->H b=none->H' b=some (.lst ((ps++qs).map V.ref))->Runs H' (ps++qs) (es++fs.map (rnx (nmr (ends (As.sb bs) es))))->Q (.ref b) H')):P43 vs H Q E
abbrev Cm:=@P43.mk
inductive P44(K:iB)(vs:List V)(H:Hp)(Q:VK)(E:XK):Prop
  | mk {p p':Addr} {s t:Tb} (_:vs=[.ref p,.ref p']) (_:(∃ r0 r1 f0 f1 f2 f3:Addr,TbS K H p r0 r1 f0 f1 f2 f3 s)) (_:TbAt H p' t) (_:s.Bt 4000 4000) (_:t.Bt 4000 4000) (_:∀ (r:Addr) (H':Hp),Same H H'->TbAt H' r (s.add t)->Q (.ref r) H'):P44 K vs H Q E
abbrev CC:=@P44.mk
inductive P45(vs:List V)(H:Hp)(Q:VK)(E:XK):Prop
  | mk {p p':Addr} {s t:Sd} {g:Int} (_:vs=[.ref p,.ref p',.int g]) (_:SdAt H p s) (_:SdAt H p' t) (_:SY s) (_:SY t) (_:Bd 60 g) (_:(∀ (r:Addr) (H':Hp),Same H H'->SdAt H' r (plS s t g)->Q (.ref r) H')):P45 vs H Q E
abbrev yJ:=@P45.mk
inductive P46(vs:List V)(H:Hp)(Q:VK)(E:XK):Prop
  | mk {p:Addr} {s:Sd} {m k:Int} (_:vs=[.ref p,.int m,.int k]) (_:SdAt H p s) (_:SY s) (_:Bd 1024 m) (_:k≠0) (_:Bd 1024 k) (_:(∀ (r:Addr) (H':Hp),Same H H'->SdAt H' r (shS s m k)->Q (.ref r) H')):P46 vs H Q E
abbrev yf:=@P46.mk
inductive P47(vs:List V)(H:Hp)(Q:VK)(E:XK):Prop
  | mk {d c:Int} {k:Nat} (_:vs=[.int d,.int c,.int (k:Int)]) (_:Rt d) (_:Bd 1048576 c) (_:k<=10) (_:(∀ (r:Addr) (H':Hp) (s:Sd),Same H H'->SdAt H' r s->Dw d s->Q (.ref r) H')):P47 vs H Q E
abbrev xN:=@P47.mk
inductive P48(vs:List V)(H:Hp)(Q:VK)(E:XK):Prop
  | mk {d:Int} {p r1 r2:Addr} {s:B4} {N:Int} (_:vs=[.int d,.ref p]) (_:BsAt H p r1 r2 s N) (_:Rt d) (_:1<=N) (_:Bd 900 N) (_:GB d 900 s) (_:∀ (p' r1' r2':Addr) (H':Hp),Same H H'->BsAt H' p' r1' r2' (s.nx d) N->Q (.ref p') H'):P48 vs H Q E
abbrev AS:=@P48.mk
inductive P49(vs:List V)(H:Hp)(Q:VK)(E:XK):Prop
  | mk {d m:Int} {p:Addr} {s:Sd} (_:vs=[.int d,.int m,.ref p]) (_:SdAt H p s) (_:Bd 64 d) (_:Bd 1024 m) (_:SK 900 900 s) (_:∀ (r:Addr) (H':Hp),Same H H'->SdAt H' r (tmS m s)->Q (.ref r) H'):P49 vs H Q E
abbrev Ab:=@P49.mk
inductive P50(vs:List V)(H:Hp)(Q:VK)(E:XK):Prop
  | mk {p:Addr} {e:Dd} (_:vs=[.ref p]) (_:DdAt H p e) (_:e.Ok) (_:∀ H',Same H H'->Q (.bl true) H'):P50 vs H Q E
abbrev Ev:=@P50.mk
inductive P51(vs:List V)(H:Hp)(Q:VK)(E:XK):Prop
  | mk {d:Int} {c:Cell} {p:Addr} {s:Sd} (_:vs=[.int d,.ref c.p,.ref p]) (_:c.At H) (_:SdAt H p s) (_:Bd 64 d) (_:SY c.b.w) (_:SY s) (_:0<sgn d s.x s.y) (_:0<sgn d (c.b.w.x*s.z - s.x*c.b.w.z) (c.b.w.y*s.z - s.y*c.b.w.z)) (_:∀ (r:Addr) (c1 c2:Cell) (H':Hp),Same H H'->H r=none->H' r=some (.lst [.ref c1.p,.ref c2.p])->c1.At H'->c2.At H'->c1.b=⟨s,c.b.h⟩->c2.b=⟨tkS c.b.w s,c.b.h⟩->Q (.ref r) H'):P51 vs H Q E
abbrev wK:=@P51.mk
inductive P52(vs:List V)(H:Hp)(Q:VK)(E:XK):Prop
  | mk {c:Cell} (_:vs=[.ref c.p]) (_:c.At H) (_:(SK 430 340 c.b.w/\SK 430 340 c.b.h)) (_:∀ (r:Addr) (H':Hp),Same H H'->TbAt H' r (c.b.tb)->Q (.ref r) H'):P52 vs H Q E
abbrev uT:=@P52.mk
inductive P53(vs:List V)(H:Hp)(Q:VK)(E:XK):Prop
  | mk {d:Int} {p p':Addr} {s t:Sd} (_:vs=[.int d,.ref p,.ref p']) (_:SdAt H p s) (_:SdAt H p' t) (_:SY s) (_:SY t) (_:Bd 64 d) (_:(∀ H',Same H H'->Q (.bl (decide (sgn d (tkS s t).x (tkS s t).y<0))) H')):P53 vs H Q E
abbrev t9:=@P53.mk
inductive P54(K:iB)(vs:List V)(H:Hp)(Q:VK)(E:XK):Prop
  | mk {p:Addr} {ns:List Int} {d:Int} {ft:Nat} (_:vs=[.ref p,.int d,.int (ft:Int)]) (_:ft<=30) (_:SqL K H p (ns.map V.int)) (_:(∀ x∈ns,Bd 1048576 x)) (_:Rt d) (_:(∀ (r qa l:Addr) (H':Hp) (P:PL) (L:List Cell),Same H H'->H' r=some (.tup [.ref qa,.ref l])->Pl H' qa P->H' l=some (.lst (L.map Cell.v))->(∀ c∈L,c.At H')->(∀ x∈P,Dw d x.2)->(∀ c∈L,Dw d c.b.w/\Dw d c.b.h)->1<=L.length->L.length<=6->Q (.ref r) H')):P54 K vs H Q E
abbrev vB:=@P54.mk
inductive P55(vs:List V)(H:Hp)(Q:VK)(E:XK):Prop
  | mk {p a:Addr} {d:Int} {e:Dd} {c c':Cell} (_:vs=[.ref p,.ref a]) (_:DdAt H p e) (_:H a=some (.lst (if e.two then [.ref c.p,.ref c'.p] else [.ref c.p]))) (_:c.At H) (_:c'.At H) (_:e.Fit d c.b c'.b) (_:(∀ (r:Addr) (N:List Cell) (H':Hp),Same H H'->H r=none->H' r=some (.lst (N.map Cell.v))->(∀ x∈N,x.At H')->N.map Cell.b=e.new c.b c'.b->Q (.ref r) H')):P55 vs H Q E
abbrev CJ:=@P55.mk
inductive P56(K:iB)(vs:List V)(H:Hp)(Q:VK)(E:XK):Prop
  | mk {d:Int} {p:Addr} {L:List Ln} {k:Nat} (_:vs=[.int d,.ref p]) (_:LsB d 700 H p L) (_:Rt d) (_:L.length<=40) (_:Fst d (L.map Ln.u) k) (_:Bd 890 (cbs (L.map λc=>c.s.z))) (_:∀ (p' r1 r2:Addr) (H':Hp),Same H H'->BsAt H' p' r1 r2 (st d k) (cbs (L.map λc=>c.s.z))->Q (.ref p') H'):P56 K vs H Q E
abbrev EU:=@P56.mk
inductive P57(vs:List V)(H:Hp)(Q:VK)(E:XK):Prop
  | mk {d d':Int} {p pb r1 r2:Addr} {s':B4} {N D px py:Int} {C:List Cell} {hb:List Bx} (_:vs=[.int d,.ref p,.ref pb]) (_:H p=some (.lst (C.map Cell.v))) (_:(∀ c∈C,c.At H)) (_:BsAt H pb r1 r2 s' N) (_:1<=N) (_:Bd 900 N) (_:GB d' 900 s') (_:C.length=hb.length) (_:hb.length<=60) (_:Bd 64 d) (_:1<=D) (_:bw1 s' N=sdO D px py) (_:SK 900 900 (bw1 s' N)) (_:(∀ (k:Nat) (c:Cell) (b:Bx),C[k]?=some c->hb[k]?=some b->∃ X Y,c.b.w=sdO N X Y/\Bd 900 X/\Bd 900 Y/\b.i=s'.i X Y/\b.j=s'.j X Y/\Bd 1024 b.i)) (_:(∀ (r:Addr) (ps:List Addr) (H':Hp),Same H H'->H r=none->H' r=some (.lst (ps.map V.ref))->Runs H' ps (npl D px py hb)->Q (.ref r) H')):P57 vs H Q E
abbrev uj:=@P57.mk
inductive P58(K:iB)(vs:List V)(H:Hp)(Q:VK)(E:XK):Prop
  | mk {p:Addr} {L:List Cell} {d D:Int} {M n K':Nat} (_:vs=[.ref p]) (_:HpD d D M n H p L) (_:n<=40) (_:(1<=D/\Bd K' D/\K'<=340/\M<=430)) (_:∀ (r:Addr) (H':Hp),Same H H'->TbAt H' r (tbs (L.map Cell.b))->Q (.ref r) H'):P58 K vs H Q E
abbrev D7:=@P58.mk
inductive P59(vs:List V)(H:Hp)(Q:VK)(E:XK):Prop
  | mk {d:Int} {l p qa:Addr} {ds:List Int} {s:Sd} {P:PL} {D:Int} {M K':Nat} (_:vs=[.int d,.ref l,.ref p,.ref qa]) (_:H l=some (.lst (ds.map V.int))) (_:(ds.length:Int)=8) (_:(∀ x∈ds,0<=x/\x<1000000)) (_:SdAt H p s) (_:So d D M s) (_:Pl H qa P) (_:(∀ x∈P,So d D M x.2)) (_:Sz D K' M) (_:Rt d) (_:(∀ (r:Addr) (H':Hp) (f:Sd) (k:Int),Same H H'->SdAt H' r f->1<=k->Bd 6 k->So d (D*k) (M+6) f->sgn d (tkS s f).x (tkS s f).y=1->Q (.ref r) H')):P59 vs H Q E
abbrev u8:=@P59.mk
inductive P60(vs:List V)(H:Hp)(Q:VK)(E:XK):Prop
  | mk {a p:Addr} {ns:List Nat} {f:Nat->Cell} {k:Nat} {d D:Int} {M:Nat} {e:Dd} {n m:Nat} (_:vs=[.ref a,.int (k:Int),.ref p]) (_:Ly H a ns f) (_:(∀ n∈ns,n<k)) (_:ns.length<64) (_:DdAt H p e) (_:e.Good d D M ns f n m) (_:(∀ (r a':Addr) (N:List Cell) (H':Hp),Same H H'->H a'=none->H' r=some (.tup [.ref a',.int ((k+N.length:Nat):Int)])->N.map Cell.b=(e.new (f n).b (f m).b)->Ly H' a' (z8 ns e.names++List.range' k N.length) (fN f k N)->Q (.ref r) H')):P60 vs H Q E
abbrev AU:=@P60.mk
inductive P61(cs:Cs)(vs:List V)(H:Hp)(Q:VK)(E:XK):Prop
  | mk {y:Yd} {d:Int} {tn:Bool} {cl:List Cell} {ns:List Nat} {lg:List V} {p a:Addr} {e:Dd} {c c':Cell} (_:vs=[.ref y.p,.ref p,.ref a]) (_:YdAt cs.Yard H y d tn cl ns lg) (_:DdAt H p e) (_:H a=some (.lst (if e.two then [.ref c.p,.ref c'.p] else [.ref c.p]))) (_:c.At H) (_:c'.At H) (_:Bd 64 d) (_:e.Fit d c.b c'.b) (_:(∀ (r:Addr) (N:List Cell) (H':Hp),Same H H'->H r=none->H' r=some (.lst (N.map Cell.v))->(∀ x∈N,x.At H')->N.map Cell.b=e.new c.b c'.b->Q (.ref r) H')):P61 cs vs H Q E
abbrev uE:=@P61.mk
inductive P62(K:iB)(vs:List V)(H:Hp)(Q:VK)(E:XK):Prop
  | mk {d c:Int} {a qa:Addr} {ns:List Nat} {f:Nat->Cell} {P:PL} {D:Int} {M K':Nat} (_:vs=[.int d,.int c,.ref a,.ref qa]) (_:Bd 1048576 c) (_:Ly H a ns f) (_:ns.Pairwise (· < ·)) (_:ns.length<64) (_:ns≠[]) (_:(∀ n∈ns,BoD d D M (f n).b)) (_:Pl H qa P) (_:(∀ x∈P,So d D M x.2)) (_:Sz D K' M) (_:Rt d) (_:(∀ (p:Addr) (e:Dd) (n m:Nat) (H':Hp),Same H H'->DdAt H' p e->e.Good d D M ns f n m->e.isT=false->Q (.ref p) H')):P62 K vs H Q E
abbrev AQ:=@P62.mk
inductive P63(cs:Cs)(vs:List V)(H:Hp)(Q:VK)(E:XK):Prop
  | mk {y:Yd} {d:Int} {tn:Bool} {cl:List Cell} {ns:List Nat} {lg:List V} {p:Addr} {e:Dd} {c c':Cell} (_:vs=[.ref y.p,.ref p]) (_:YdAt cs.Yard H y d tn cl ns lg) (_:DdAt H p e) (_:e.Ok) (_:(∀ m∈e.names,∃ n∈ns,m=(n:Int))) (_:e.names.Nodup) (_:(e.isT=true->tn=true)) (_:CellsOf cl e c c') (_:e.Fit d c.b c'.b) (_:Bd 64 d) (_:cl.length<=398) (_:lg.length<=199) (_:(∀ (N:List Cell) (H':Hp),YdAt cs.Yard H' y d tn (cl++N) (z8 ns e.names++List.range' cl.length N.length) (lg++[.ref p])->N.map Cell.b=e.new c.b c'.b->(∀ b o,H b=some o->b≠y.k->b≠y.l->b≠y.t->H' b=some o)->Q .non H')):P63 cs vs H Q E
abbrev Ew:=@P63.mk
inductive P64(cs:Cs)(vs:List V)(H:Hp)(Q:VK)(E:XK):Prop
  | mk {hp pl:Addr} {d:Int} {tn:Bool} {L:List Cell} {ps:List Addr} {es:DL} (_:vs=[.int d,.ref hp,.ref pl,.bl tn]) (_:H hp=some (.lst (L.map Cell.v))) (_:(∀ c∈L,c.At H)) (_:L.length<=30) (_:H pl=some (.lst (ps.map V.ref))) (_:ps.length<=150) (_:Bd 64 d) (_:Runs H ps es) (_:Walk d tn (As.st L) es) (_:(∀ (y:Yd) (H':Hp),Same H H'->YdS cs.Yard H' y d tn (ends (As.st L) es) (ps.map V.ref)->Q (.ref y.p) H')):P64 cs vs H Q E
abbrev wm:=@P64.mk
inductive P65(K:iB)(vs:List V)(H:Hp)(Q:VK)(E:XK):Prop
  | mk {d D:Int} {a l qa:Addr} {ns:List Int} {L:List Cell} {P:PL} {ft M K':Nat} (_:vs=[.int d,.ref a,.ref l,.ref qa,.int (ft:Int),.int ((ft+6:Nat):Int)]) (_:SqL K H a (ns.map V.int)) (_:(∀ x∈ns,Bd 1048576 x)) (_:H l=some (.lst (L.map Cell.v))) (_:(∀ c∈L,c.At H)) (_:Pl H qa P) (_:Rt d) (_:1<=L.length) (_:L.length<=20) (_:(∀ c∈L,BoD d D M c.b)) (_:(∀ x∈P,Dw d x.2/\x.2.z∣D)) (_:Sz D K' M) (_:K'<=1000) (_:(K'+13<=M/\M<=1000)) (_:(∀ (r:Addr) (H':Hp) (O:List Cell) (D':Int),Same H H'->H r=none->H' r=some (.lst (O.map Cell.v))->(∀ c∈O,c.At H')->D∣D'->1<=D'->Bd (K'+6*6) D'->(∀ c∈O,BoD d D' (M+13*6) c.b)->tbs (O.map Cell.b)=tbs (L.map Cell.b)->1<=O.length->O.length<=L.length+6->Q (.ref r) H')):P65 K vs H Q E
abbrev xV:=@P65.mk
inductive P66(cs:Cs)(vs:List V)(H:Hp)(Q:VK)(E:XK):Prop
  | mk {hp pl:Addr} {d:Int} {tn:Bool} {L:List Cell} {ps:List Addr} {es:DL} (_:vs=[.int d,.ref hp,.ref pl,.bl tn]) (_:H hp=some (.lst (L.map Cell.v))) (_:(∀ c∈L,c.At H)) (_:L.length<=30) (_:H pl=some (.lst (ps.map V.ref))) (_:ps.length<=150) (_:Bd 64 d) (_:Runs H ps es) (_:Walk d tn (As.st L) es) (_:(∀ (r:Addr) (C:List Cell) (H':Hp),Same H H'->H r=none->H' r=some (.lst (C.map Cell.v))->(∀ c∈C,c.At H')->C.map Cell.b=(ends (As.st L) es).ns.map (ends (As.st L) es).g->Q (.ref r) H')):P66 cs vs H Q E
abbrev FT:=@P66.mk
inductive P67(cs:Cs)(vs:List V)(H:Hp)(Q:VK)(E:XK):Prop
  | mk {hp pl:Addr} {d:Int} {tn:Bool} {L:List Cell} {ps:List Addr} {es:DL} {D0:Int} {K' M:Nat} (_:vs=[.int d,.ref hp,.ref pl]) (_:H hp=some (.lst (L.map Cell.v))) (_:(∀ c∈L,c.At H)) (_:1<=L.length) (_:L.length<=20) (_:H pl=some (.lst (ps.map V.ref))) (_:ps.length<=100) (_:Rt d) (_:Runs H ps es) (_:Walk d tn (As.st L) es) (_:Sz D0 K' M) (_:Ever d D0 M (ends (As.st L) es)) (_:(∀ (r a b:Addr) (ps':List Addr) (es':DL) (qs:List Nat) (H':Hp),Same H H'->H' r=some (.tup [.ref a,.ref b])->H a=none->H b=none->a≠b->H' a=some (.lst (ps'.map V.ref))->H' b=some (.lst ((qs.map λn:Nat=>(n:Int)).map V.int))->Runs H' ps' es'->es'.length=es.length->Turned d tn D0 M (L.map Cell.b) ((ends (As.st L) es).ns.map (ends (As.st L) es).g) es' qs->Q (.ref r) H')):P67 cs vs H Q E
abbrev Ji:=@P67.mk
inductive P68(cs:Cs)(vs:List V)(H:Hp)(Q:VK)(E:XK):Prop
  | mk {d D:Int} {p1 p2:Addr} {C1 C2:List Cell} (_:vs=[.int d,.ref p1,.ref p2]) (_:H p1=some (.lst (C1.map Cell.v))) (_:H p2=some (.lst (C2.map Cell.v))) (_:(∀ c∈C1,c.At H)) (_:(∀ c∈C2,c.At H)) (_:(∀ c∈C1,BoD d D 330 c.b)) (_:(∀ c∈C2,BoD d D 330 c.b)) (_:1<=D) (_:Bd 330 D) (_:(1<=C1.length/\C1.length<=20)) (_:(1<=C2.length/\C2.length<=20)) (_:Rt d) (_:(tbs (C1.map Cell.b)=tbs (C2.map Cell.b)->∀ (r pl pp:Addr) (H':Hp) (ps:List Addr) (es:DL) (qs:List Nat) (D':Int),Same H H'->H' r=some (.tup [.str (Str.ofString "plan"),.ref pl,.ref pp])->H pl=none->H pp=none->pl≠pp->H' pl=some (.lst (ps.map V.ref))->Runs H' ps es->ps.length<=5*(C1.length+C2.length)->H' pp=some (.lst ((qs.map λn:Nat=>(n:Int)).map V.int))->Sz D' 660 1400->Plan d false D' 1400 (C1.map Cell.b) (C2.map Cell.b) es qs->Q (.ref r) H')) (_:(∀ (r:Addr) (H':Hp) (i j:Nat),Same H H'->H' r=some (.tup [.str (Str.ofString "apart"),.int (i:Int),.int (j:Int)])->Fu (tbs (C1.map Cell.b)) (tbs (C2.map Cell.b)) i j->Q (.ref r) H')):P68 cs vs H Q E
abbrev B3:=@P68.mk
inductive P69(K:iB)(cs:Cs)(vs:List V)(H:Hp)(Q:VK)(E:XK):Prop
  | mk {d D:Int} {p1 p2:Addr} {C1 C2:List Cell} (_:vs=[.int d,.ref p1,.ref p2]) (_:H p1=some (.lst (C1.map Cell.v))) (_:H p2=some (.lst (C2.map Cell.v))) (_:(∀ c∈C1,c.At H)) (_:(∀ c∈C2,c.At H)) (_:(∀ c∈C1,BoD d D 330 c.b)) (_:(∀ c∈C2,BoD d D 330 c.b)) (_:1<=D) (_:Bd 330 D) (_:(1<=C1.length/\C1.length<=20)) (_:(1<=C2.length/\C2.length<=20)) (_:Rt d) (_:C1.length+C2.length<=30) (_:tbs (C1.map Cell.b)=tbs (C2.map Cell.b)) (_:(∀ (r:Addr) (H':Hp) (W:List Cell),Same H H'->H' r=some (.lst (W.map Cell.v))->(∀ c∈W,c.At H')->(W.map Cell.b).Perm (C2.map Cell.b)->Q (.ref r) H')):P69 K cs vs H Q E
abbrev y8:=@P69.mk
theorem C0:FnScope ["thing"] ["thing"] (defScope S0):=by walk_at "sc"
theorem C4:FnScope ["one","other","pair","rest"] ["one","other"] (defScope S1):=by walk_at "sc"
theorem C5:FnScope ["divisor","bottom"] ["divisor","bottom"] (defScope S2):=by walk_at "sc"
theorem C6:FnScope ["d","a","b"] ["d","a","b"] (defScope S9):=by walk_at "sc"
theorem C7:FnScope ["one","other"] ["one","other"] (defScope S13):=by walk_at "sc"
theorem C8:FnScope ["pieces","unused","deeds","place","piece","fresh"] ["pieces","unused"] (defScope S19):=by walk_at "sc"
theorem C9:FnScope ["deed"] ["deed"] (defScope S22):=by walk_at "sc"
theorem C10:FnScope ["deed"] ["deed"] (defScope S23):=by walk_at "sc"
theorem C11:FnScope ["one"] ["one"] (defScope S24):=by walk_at "sc"
theorem C12:FnScope ["names","places","place","name"] ["names"] (defScope S31):=by walk_at "sc"
theorem C13:FnScope ["deed","names"] ["deed","names"] (defScope S34):=by walk_at "sc"
theorem C14:FnScope ["one","other","row","column"] ["one","other"] (defScope S41):=by walk_at "sc"
theorem C15:FnScope ["_law_script","_law_k"] ["_law_script","_law_k"] (defScope S43):=by walk_at "sc"
theorem C16:FnScope ["_law_cell_here","_law_k","_law_number"] ["_law_cell_here","_law_k"] (defScope S44):=by walk_at "sc"
theorem C17:FnScope ["_law_one","_law_other"] ["_law_one","_law_other"] (defScope S46):=by walk_at "sc"
theorem C18:FnScope ["_law_d","_law_a","_law_b"] ["_law_d","_law_a","_law_b"] (defScope S48):=by walk_at "sc"
theorem C19:FnScope ["_law_heap_here","_law_lying","_law_k"] ["_law_heap_here"] (defScope S59):=by walk_at "sc"
theorem C20:FnScope ["self","d","heap","turning"] ["self","d","heap","turning"] (defScope S63):=by walk_at "sc"
theorem C21:FnScope ["self","name"] ["self","name"] (defScope S67):=by walk_at "sc"
theorem C22:FnScope ["self"] ["self"] (defScope S68):=by walk_at "sc"
theorem C23:FnScope ["self"] ["self"] (defScope S69):=by walk_at "sc"
theorem C24:FnScope ["a","b","n","divisor"] ["a","b","n"] (defScope S3):=by walk_at "sc"
theorem C25:FnScope ["top","bottom","divisor"] ["top","bottom"] (defScope S4):=by walk_at "sc"
theorem C26:FnScope ["one","other","shared","ahead","behind","a","b","left"] ["one","other"] (defScope S6):=by walk_at "sc"
theorem C27:FnScope ["d","one","other"] ["d","one","other"] (defScope S10):=by walk_at "sc"
theorem C28:FnScope ["d","base","one","p","q","bottom"] ["d","base","one"] (defScope S14):=by walk_at "sc"
theorem C29:FnScope ["lengths","bottom","one"] ["lengths"] (defScope S15):=by walk_at "sc"
theorem C30:FnScope ["yard","deed","names","word"] ["yard","deed","names"] (defScope S30):=by walk_at "sc"
theorem C31:FnScope ["many","plan","lying","unused","deed","name"] ["many","plan"] (defScope S33):=by walk_at "sc"
theorem C32:FnScope ["one","other","shared","top","left"] ["one","other"] (defScope S36):=by walk_at "sc"
theorem C33:FnScope ["one","other","first","second"] ["one","other"] (defScope S37):=by walk_at "sc"
theorem C34:FnScope ["_law_cell_here","_law_many","_law_found","_law_number","_law_k"] ["_law_cell_here","_law_many"] (defScope S45):=by walk_at "sc"
theorem C35:FnScope ["_law_a","_law_b","_law_n","_law_share_here"] ["_law_a","_law_b","_law_n"] (defScope S47):=by walk_at "sc"
theorem C36:FnScope ["_law_cell_here","_law_k","_law_some"] ["_law_cell_here","_law_k"] (defScope S52):=by walk_at "sc"
theorem C37:FnScope ["self","names","name"] ["self","names"] (defScope S65):=by walk_at "sc"
theorem C38:FnScope ["one"] ["one"] (defScope S5):=by walk_at "sc"
theorem C39:FnScope ["one","other"] ["one","other"] (defScope S7):=by walk_at "sc"
theorem C40:FnScope ["d","one","other"] ["d","one","other"] (defScope S8):=by walk_at "sc"
theorem C41:FnScope ["d","n"] ["d","n"] (defScope S11):=by walk_at "sc"
theorem C42:FnScope ["thing"] ["thing"] (defScope S20):=by walk_at "sc"
theorem C43:FnScope ["one","other"] ["one","other"] (defScope S26):=by walk_at "sc"
theorem C44:FnScope ["one","many","width","height"] ["one","many"] (defScope S27):=by walk_at "sc"
theorem C45:FnScope ["many","plan","more","names","unused","deeds","deed","name"] ["many","plan","more"] (defScope S35):=by walk_at "sc"
theorem C46:FnScope ["one","other"] ["one","other"] (defScope S40):=by walk_at "sc"
theorem C47:FnScope ["_law_one","_law_other","_law_sign_here","_law_a","_law_b"] ["_law_one","_law_other","_law_sign_here"] (defScope S49):=by walk_at "sc"
theorem C48:FnScope ["_law_one","_law_top","_law_bottom"] ["_law_one","_law_top","_law_bottom"] (defScope S50):=by walk_at "sc"
theorem C49:FnScope ["_law_d","_law_cell_here","_law_at_here","_law_digits_here","_law_a","_law_b","_law_n","_law_sign_here"] ["_law_d","_law_cell_here","_law_at_here"] (defScope S53):=by walk_at "sc"
theorem C50:FnScope ["d","base","p","q"] ["d","base"] (defScope S12):=by walk_at "sc"
theorem C51:FnScope ["d","many","one"] ["d","many","one"] (defScope S17):=by walk_at "sc"
theorem C52:FnScope ["thing"] ["thing"] (defScope S21):=by walk_at "sc"
theorem C53:FnScope ["d","one","at"] ["d","one","at"] (defScope S25):=by walk_at "sc"
theorem C54:FnScope ["one","widths","heights"] ["one"] (defScope S39):=by walk_at "sc"
theorem C55:FnScope ["_law_d","_law_one","_law_other","_law_left"] ["_law_d","_law_one","_law_other"] (defScope S51):=by walk_at "sc"
theorem C56:FnScope ["_law_script","_law_d","_law_first","_law_pool","_law_heap_here","_law_k","_law_cell_here","_law_digits_here","_law_width","_law_height"] ["_law_script","_law_d","_law_first"] (defScope S54):=by walk_at "sc"
theorem C57:FnScope ["_law_deed_here","_law_some","_law_width","_law_height"] ["_law_deed_here","_law_some"] (defScope S55):=by walk_at "sc"
theorem C58:FnScope ["d","lengths","base","one","tops","bottom"] ["d","lengths"] (defScope S16):=by walk_at "sc"
theorem C59:FnScope ["d","heap","base","deeds","firsts","others","unused","name","one","pair","stacking"] ["d","heap","base"] (defScope S18):=by walk_at "sc"
theorem C60:FnScope ["heap","whole","one"] ["heap"] (defScope S38):=by walk_at "sc"
theorem C61:FnScope ["_law_d","_law_digits_here","_law_side_here","_law_pool","_law_at_here","_law_bottom"] ["_law_d","_law_digits_here","_law_side_here","_law_pool"] (defScope S56):=by walk_at "sc"
theorem C62:FnScope ["_law_lying","_law_used","_law_deed_here","_law_names","_law_new_here","_law_left","_law_name","_law_k"] ["_law_lying","_law_used","_law_deed_here"] (defScope S58):=by walk_at "sc"
theorem C63:FnScope ["self","deed","boards","word"] ["self","deed","boards"] (defScope S66):=by walk_at "sc"
theorem C64:FnScope ["_law_d","_law_cell_here","_law_lying","_law_pool","_law_digits_here","_law_names","_law_name","_law_way","_law_side_here","_law_others"] ["_law_d","_law_cell_here","_law_lying","_law_pool"] (defScope S57):=by walk_at "sc"
theorem C65:FnScope ["self","deed","names","fresh","name","one"] ["self","deed"] (defScope S64):=by walk_at "sc"
theorem C66:FnScope ["d","heap","plan","turning","yard","deed"] ["d","heap","plan","turning"] (defScope S28):=by walk_at "sc"
theorem C67:FnScope ["_law_d","_law_script","_law_heap_here","_law_pool","_law_first","_law_last","_law_lying","_law_used","_law_cell_here","_law_deed_here","_law_found","_law_turn"] ["_law_d","_law_script","_law_heap_here","_law_pool","_law_first","_law_last"] (defScope S60):=by walk_at "sc"
theorem C68:FnScope ["d","heap","plan","turning"] ["d","heap","plan","turning"] (defScope S29):=by walk_at "sc"
theorem C69:FnScope ["d","heap","plan","yard","ends","renamed","place","named","unused","behind","deeds","deed","ahead","name"] ["d","heap","plan"] (defScope S32):=by walk_at "sc"
theorem C70:FnScope ["d","one","other","place","base","returning","plan"] ["d","one","other"] (defScope S42):=by walk_at "sc"
theorem C71:FnScope ["_law_d","_law_one","_law_other","_law_found","_law_ended"] ["_law_d","_law_one","_law_other"] (defScope S61):=by walk_at "sc"
theorem C72:FnScope ["_law_script","_law_d","_law_pool","_law_heap_here","_law_second","_law_third","_law_ended","_law_found"] ["_law_script"] (defScope S62):=by walk_at "sc"
variable {f:Addr}{fd:FuncData}{its:List Value}
section
variable {P:Program}{w:World}{K:iB}{mg:Str->Option Value}{base:Heap}{cs:Cs}
theorem K0(F:Fun K "is_whole" "is_whole" S0 f fd)(B:Bl mg)  :FnOk P w K mg base CX0 1 f fd ["thing"] P0:=by
  refine F.okA C0 λcdv A outer s H vs Q E hr h=>?_;obtain ⟨i,rfl,q⟩:=h;refine ⟨_,(zc (zh (u9 (zn yG rfl B.isinstance yn (pa2 (pv 0) (vk (v:=.ty "int") rfl B.int Bf rfl))) (vX (IU (zn yG rfl B.isinstance yn (pa2 (pv 0) (vk (v:=.ty "bool") rfl B.bool Ho rfl)))))))),?_⟩;walk_at "s";walk_at "r";exact q
theorem K1(F:Fun K "common_divisor" "common_divisor" S1 f fd)(B:Bl mg)(g_GREAT_BITS:TopI mg "GREAT_BITS" (8192)) :FnOk P w K mg base CX0 1 f fd ["one","other"] P1:=by
  obtain ⟨u_GREAT_BITS,m_GREAT_BITS,r_GREAT_BITS⟩:=g_GREAT_BITS;refine F.okA C4 λcdv A outer s H vs Q E hr h=>?_;obtain ⟨a,b,rfl,hb,q⟩:=h;refine ⟨_,(za (zx (zi wy (GO PySem.F.plainAttrs_int PySem.F.slot_int_bit_length PySem.F.type_int_bit_length Hw (pv 1)) (yI (v:=.int (8192)) rfl m_GREAT_BITS r_GREAT_BITS) (zk _)) CV zl) (za (uL PassesOwn.never (zi Ay (pv 1) zd (zk _)) (za (ps_s 3 C4.nd (zg Hx (pv 0) (pv 1))) (za (ps_s 0 C4.nd (pv 1)) (zc (ps_s 1 C4.nd (pv 3)))))) (zc (zh (zn vA rfl B.abs Dk (pa1 (pv 0))))))),?_⟩;walk_at "s";exists if_d (λc=>absurd c (HG hb)) (λ_=>?_);exists B8 (λσ' H'=>E3 λ(x y:Int) (r:Option V)=>A3 (σ'=[some (.int x),some (.int y),none,r]) (H'=H) (Int.gcd x y=Int.gcd a b)) (λσ' _=>match σ' with | [_,some (.int y),_,_]=>y.natAbs | _=>0) ⟨a,b,none,rfl,rfl,rfl⟩ ?_ ?_
  . rintro σ' H' ⟨x,y,r,rfl,rfl,hg⟩;exists A9 (λc=>?_) (λc=>?_)
    . walk_at "r";exact ⟨⟨y,x.fmod y,_,rfl,rfl,(Fe x y).trans hg⟩,Ik c⟩
    . walk_at "r";have e:(if x<0 then -x else x)=((Int.gcd a b:Nat):Int):=by
        rw [<-hg,c,Int.gcd_zero_right];split <;> lia
      rw [e];exact q
  . intro σ H Q Q' hq h;obtain ⟨v,e,hs,k,e2,z⟩:=h;exact ⟨v,e,hs,k,e2,hq _ _ z⟩
theorem K2(F:Fun K "with_sign_of" "with_sign_of" S2 f fd)(B:Bl mg)  :FnOk P w K mg base CX0 1 f fd ["divisor","bottom"] P2:=by
  refine F.okA C5 λcdv A outer s H vs Q E hr h=>?_;obtain ⟨g,n,rfl,q⟩:=h;refine ⟨_,(zc (zh (uR (zi uu (pv 1) zd (zk _)) (uN wa (pv 0)) (pv 0)))),?_⟩;walk_at "s";exists if_d (λc=>?_) (λc=>?_)
  . walk_at "r";rw [h7 c] at q;exact q
  . walk_at "r";rw [h8 c] at q;exact q
theorem K3(F:Fun K "is_above_nought" "is_above_nought" S9 f fd)(B:Bl mg)  :FnOk P w K mg base CX0 1 f fd ["d","a","b"] P3:=by
  refine F.okA C6 λcdv A outer s H vs Q E hr h=>?_;obtain @⟨d,a,b,rfl,hd,ha,hb,q⟩:=h;refine ⟨_,(za (zx (PW.pt (xa (zi DN (pv 1) zd (zk _)) (yB (zi DN (pv 2) zd (zk _))))) (zc (zh (Lp (zW wy (pv 1) zd (zk _)) (vX (zW wy (pv 2) zd (zk _)))))) zl) (za (zx (PW.pt (xa (zi FW (pv 1) zd (zk _)) (yB (zi FW (pv 2) zd (zk _))))) (zc (zh wO)) zl) (za (zx (zi wy (pv 1) zd (zk _)) (zc (zh (zW wy (zg zm (pv 1) (pv 1)) (zg zm (zg zm (pv 0) (pv 2)) (pv 2)) (zk _)))) zl) (zc (zh (zW wy (zg zm (zg zm (pv 0) (pv 2)) (pv 2)) (zg zm (pv 1) (pv 1)) (zk _))))))),?_⟩;walk_at "s";exists if_d (λc1=>?_) (λc1=>?_)
  . exists if_d (λc2=>?_) (λc2=>?_)
    . exists if_d (λc3=>?_) (λc3=>?_)
      . exact bl_q (Eq.symm (iu (by unfold sgn; rw [h7 ⟨c1,c2⟩,h7 (by lia)]; decide))) q
      . walk_at "r";exact bl_q (decide_eq_decide.mpr (by unfold sgn; rw [h7 ⟨c1,c2⟩]; split <;> lia)) q
    . exists if_d (λc3=>?_) (λc3=>?_)
      . exists if_d (λc4=>?_) (λc4=>?_)
        . walk_at "r";exact bl_q (Eq.symm (hZ (by unfold sgn; rw [h8 (by lia),h7 ⟨c3,c4⟩]; decide))) q
        . lia
      . exists if_d (λc4=>?_) (λc4=>?_)
        . walk_at "r";exact bl_q (decide_eq_decide.mpr (by unfold sgn; rw [h8 (by lia),h8 (by lia),h7 c4]; split <;> lia)) q
        . lia
  . exists if_d (λc3=>?_) (λc3=>?_)
    . exists if_d (λc4=>?_) (λc4=>?_)
      . walk_at "r";exact bl_q (Eq.symm (hZ (by unfold sgn; rw [h8 (by lia),h7 ⟨c3,c4⟩]; decide))) q
      . exists if_d (λc5=>?_) (λc5=>?_)
        . lia
        . walk_at "r";exact bl_q (decide_eq_decide.mpr (by unfold sgn; rw [h8 (by lia),h8 (by lia),h8 c5]; split <;> lia)) q
    . lia
theorem K4(F:Fun K "crossed" "crossed" S13 f fd)(B:Bl mg)  :FnOk P w K mg base CX0 1 f fd ["one","other"] P4:=by
  refine F.okA C7 λcdv A outer s H vs Q E hr h=>?_;obtain ⟨p,p',x,y,z,x',y',z',rfl,h1,h2,⟨b1,b2,b3,b4⟩,q⟩:=h;refine ⟨_,(zc (zh (zg yP (zg zm (pit 0) (pit 1)) (zg zm (pit 0) (pit 1))))),?_⟩;walk_at "s";walk_at "r";exact q
theorem K5(F:Fun K "gathering" "gathering" S19 f fd)(B:Bl mg)  :FnOk P w K mg base CX0 1 f fd ["pieces","unused"] P6:=by
  refine F.okA C8 λcdv A outer s H vs Q E hr h=>?_;obtain @⟨a,us,pc,u,rfl,ha,hp,hl,hu,q⟩:=h;refine ⟨_,(za (ps_s 2 C8.nd (zH yz)) (za (zP PassesOwn.never rfl (uF rfl B.enumerate (pa1 (pv 0))) (wF (n:=2) rfl (zO (pg_n 3 C8.nd) (zO (pg_n 4 C8.nd) xj))) (za (zK (xC aN aQ aR zB (pv 2) (pa1 (zo (pa3 zy (pit 4) (pit 4)))))) (zc (zx (zi wy (pv 3) zd (zk _)) (za (ps_s 5 C8.nd (zg yP (zg zD (pv 1) (zn zt rfl B.len aY (pa1 (pv 2)))) zd)) (zc (zK (xC aN aQ aR zB (pv 2) (pa1 (zo (pa3 zy (pv 5) (zg yP (pv 5) zd)))))))) zl)))) (zc (zh (pv 2))))),?_⟩;walk_at "s";exists zv (by simp) λD H1 nD s1 e1=>?_;have ha1:=s1 _ _ ha;have aD:a≠D:=zb ha nD;exists B6 ?_;exists ⟨a,_,rfl,SqL.of ha1,wT (K:=K) (a:=a) (xs:=us.map V.ref) (λi σ H'=>E4 λv1 v2 v3 ps=>A4 (σ=[some (.ref a),some (.int (u:Int)),some (.ref D),v1,v2,v3]) (H' D=some (.lst (ps.map V.ref))) (Runs H' ps (gth u pc i)) (∀ b o,H1 b=some o->b≠D->H' b=some o)) ⟨_,_,_,[],rfl,e1,⟨rfl,λi p x h=>by simp at h⟩,λb o e _=>e⟩ (λi σ H' _ z'=>by obtain ⟨_,_,_,_,_,_,_,z⟩:=z'; exact SqL.of (z _ _ ha1 aD)) ?_ ?_⟩
  . rintro i x T σ H' hi hT ⟨v1,v2,v3,ps,rfl,eD,hrun,fr⟩;have hi':=(af.mp hi).1;rw [aa,hp.1] at hi';rw [ag] at hi;obtain ⟨qa,hq,rfl⟩:=ao.mp hi;obtain ⟨p,hpi⟩:∃ p,pc[i]?=some p:=⟨_,ae hi'⟩
    have hqt:=s1 _ _ (hp.2 i qa p hq hpi);have hqt3:=fr _ _ hqt (zX hqt e1 (λz=>nomatch z));have hgl:=wt (u:=u) (pc:=pc) (t:=i) (bn hi');have hpl:ps.length=2*i - 1:=hrun.1.trans hgl;have eg:gth u pc (i+1)=gth u pc i++gd1 u i p:=by
      show gth u pc i++_=_;rw [hpi]
    rw [eg];have tkT:TupK H' (upd H' T (.tup [.int (i:Int),.ref qa])):=λb xs e=>by rw [zj (zb e hT)]; exact e
    have eD':(upd H' T (.tup [.int (i:Int),.ref qa])) D=some (.lst (ps.map V.ref)):=by rw [zj (zb eD hT)]; exact eD
    have eT:(upd H' T (.tup [.int (i:Int),.ref qa])) T=some (.tup [.int (i:Int),.ref qa]):=zf;have hqt4:=tkT _ _ hqt3;have frT:∀ b o,H1 b=some o->b≠D->(upd H' T (.tup [.int (i:Int),.ref qa])) b=some o:=λb o e n=>by rw [zj (zb (fr b o e n) hT)]; exact fr b o e n
    have hrunT:=hrun.tk tkT;generalize upd H' T (.tup [.int (i:Int),.ref qa])=G at eT eD' frT hqt4 hrunT ⊢;exists zr (by simp) λt1 G1 n1 g1 f1=>?_;have eD1:=g1 _ _ eD';exists zp eD1 (by rw [aa]; lia) λG2 x2 e2=>?_;have f2:=x2.tup f1 eD1;have hrun2:Runs G2 (ps++[t1]) (gth u pc i++[(Dd.shift false p.n p.m,p.n,p.n)]):=xi ((hrunT.same g1).sameX x2 eD1) f2;have fr2:∀ b o,H1 b=some o->b≠D->G2 b=some o:=λb o e n=>x2 _ _ (g1 _ _ (frT b o e n)) n;have e2:G2 D=some (.lst ((ps++[t1]).map V.ref)):=by rw [aj]; exact e2
    walk_at "r";by_cases c0:i=0
    . refine if_d (λc=>absurd c (by lia)) (λ_=>?_);exists ⟨_,_,_,ps++[t1],rfl,e2,?_,fr2⟩;unfold gd1;rw [h7 c0];exact hrun2
    . refine if_d (λ_=>?_) (λc=>absurd (by lia) c);have hlen:((((ps++[t1]).map V.ref).length:Nat):Int)=((2*i:Nat):Int):=by
        rw [aa,ah,hpl];simp only [ar,aP]
        lia
      walk_at "r";rw [hlen];exists zr (by simp) λt2 G3 n3 g3 f3=>?_;have e23:=g3 _ _ e2;exists zp e23 (by rw [aa,ah]; simp only [ar,aP]; lia) λG4 x4 e4=>?_;have f4:=x4.tup f3 e23;exists ⟨_,_,_,ps++[t1]++[t2],rfl,by rw [aj]; exact e4,?_,λb o e n=>x4 _ _ (g3 _ _ (fr2 b o e n)) n⟩;have:gth u pc i++gd1 u i p=gth u pc i++[(Dd.shift false p.n p.m,p.n,p.n)]++[(Dd.glue true ((u+2*i - 1:Nat):Int) ((u+2*i - 2:Nat):Int),u+2*i - 1,u+2*i - 2)]:=by
        unfold gd1;rw [h8 c0,bB];rfl
      rw [this];refine xi ((hrun2.same g3).sameX x4 e23) ?_;rw [show (u:Int)+((2*i:Nat):Int) - 1=((u+2*i - 1:Nat):Int) by lia,show ((u+2*i - 1:Nat):Int) - 1=((u+2*i - 2:Nat):Int) by lia] at f4;exact f4
  rintro σ H5 ⟨v1,v2,v3,ps,rfl,eD,hrun,fr⟩;rw [aa,hp.1] at hrun;walk_at "r";exact q D ps H5 (λb o e=>fr _ _ (s1 _ _ e) (zb e nD)) nD eD hrun
theorem K6(F:Fun K "names_taken" "names_taken" S22 f fd)(B:Bl mg)(g_GLUINGS:TopT K mg "GLUINGS" [.str "beside",.str "atop"]) :FnOk P w K mg base CX0 1 f fd ["deed"] P7:=by
  obtain ⟨a_GLUINGS,m_GLUINGS,q_GLUINGS⟩:=g_GLUINGS;refine F.okA C9 λcdv A outer s H vs Q E hr h=>?_;obtain @⟨p,e,rfl,he,q⟩:=h;refine ⟨_,(zc (zh (uR (zi yF (pit 0) (yI (v:=.ref a_GLUINGS) rfl m_GLUINGS rfl) (by with_unfolding_all rfl)) (zH (pa2 (pit 0) (pit 0))) (zH (pa1 (pit 0)))))),?_⟩;walk_at "s";cases e with
  | cut al n s =>
    obtain ⟨pq,h0,hs⟩:=he;cases al with
    | false =>
      have h0:H p=some (.tup [.str (Str.ofString "across"),.int n,.ref pq]):=h0;exists ⟨_,_,rfl,.inr (q_GLUINGS H),rfl,rfl,?_⟩;rw [show (if false=true then !inV _ _ else inV _ _)=false from by decide +kernel];exists zv (by simp) λr H1 hr s1 e1=>?_;exact q r H1 s1 hr e1
    | true =>
      have h0:H p=some (.tup [.str (Str.ofString "along"),.int n,.ref pq]):=h0;exists ⟨_,_,rfl,.inr (q_GLUINGS H),rfl,rfl,?_⟩;rw [show (if false=true then !inV _ _ else inV _ _)=false from by decide +kernel];exists zv (by simp) λr H1 hr s1 e1=>?_;exact q r H1 s1 hr e1
  | glue al n m =>
    have h0:=he;cases al with
    | false =>
      have h0:H p=some (.tup [.str (Str.ofString "beside"),.int n,.int m]):=h0;exists ⟨_,_,rfl,.inr (q_GLUINGS H),rfl,rfl,?_⟩;rw [show (if false=true then !inV _ _ else inV _ _)=true from by decide +kernel];exists zv (by simp) λr H1 hr s1 e1=>?_;exact q r H1 s1 hr e1
    | true =>
      have h0:H p=some (.tup [.str (Str.ofString "atop"),.int n,.int m]):=h0;exists ⟨_,_,rfl,.inr (q_GLUINGS H),rfl,rfl,?_⟩;rw [show (if false=true then !inV _ _ else inV _ _)=true from by decide +kernel];exists zv (by simp) λr H1 hr s1 e1=>?_;exact q r H1 s1 hr e1
  | shift al n k =>
    have h0:=he;cases al with
    | false =>
      have h0:H p=some (.tup [.str (Str.ofString "stack"),.int n,.int k]):=h0;exists ⟨_,_,rfl,.inr (q_GLUINGS H),rfl,rfl,?_⟩;rw [show (if false=true then !inV _ _ else inV _ _)=false from by decide +kernel];exists zv (by simp) λr H1 hr s1 e1=>?_;exact q r H1 s1 hr e1
    | true =>
      have h0:H p=some (.tup [.str (Str.ofString "spread"),.int n,.int k]):=h0;exists ⟨_,_,rfl,.inr (q_GLUINGS H),rfl,rfl,?_⟩;rw [show (if false=true then !inV _ _ else inV _ _)=false from by decide +kernel];exists zv (by simp) λr H1 hr s1 e1=>?_;exact q r H1 s1 hr e1
  | turn n =>
    have h0:=he;have h0:H p=some (.tup [.str (Str.ofString "turn"),.int n]):=h0;exists ⟨_,_,rfl,.inr (q_GLUINGS H),rfl,rfl,?_⟩;rw [show (if false=true then !inV _ _ else inV _ _)=false from by decide +kernel];exists zv (by simp) λr H1 hr s1 e1=>?_;exact q r H1 s1 hr e1
theorem K7(F:Fun K "count_put" "count_put" S23 f fd)(B:Bl mg)(g_CUTS:TopT K mg "CUTS" [.str "across",.str "along"]) :FnOk P w K mg base CX0 1 f fd ["deed"] P8:=by
  obtain ⟨a_CUTS,m_CUTS,q_CUTS⟩:=g_CUTS;refine F.okA C10 λcdv A outer s H vs Q E hr h=>?_;obtain @⟨p,e,rfl,he,q⟩:=h;refine ⟨_,(zc (zh (uR (zi yF (pit 0) (yI (v:=.ref a_CUTS) rfl m_CUTS rfl) (by with_unfolding_all rfl)) zd zd))),?_⟩;walk_at "s";cases e with
  | cut al n s =>
    obtain ⟨pq,h0,hs⟩:=he;cases al with
    | false =>
      have h0:H p=some (.tup [.str (Str.ofString "across"),.int n,.ref pq]):=h0;exists ⟨_,_,rfl,.inr (q_CUTS H),rfl,rfl,?_⟩;rw [show (if false=true then !inV _ _ else inV _ _)=true from by decide +kernel];walk_at "r";exact q
    | true =>
      have h0:H p=some (.tup [.str (Str.ofString "along"),.int n,.ref pq]):=h0;exists ⟨_,_,rfl,.inr (q_CUTS H),rfl,rfl,?_⟩;rw [show (if false=true then !inV _ _ else inV _ _)=true from by decide +kernel];walk_at "r";exact q
  | glue al n m =>
    have h0:=he;cases al with
    | false =>
      have h0:H p=some (.tup [.str (Str.ofString "beside"),.int n,.int m]):=h0;exists ⟨_,_,rfl,.inr (q_CUTS H),rfl,rfl,?_⟩;rw [show (if false=true then !inV _ _ else inV _ _)=false from by decide +kernel];walk_at "r";exact q
    | true =>
      have h0:H p=some (.tup [.str (Str.ofString "atop"),.int n,.int m]):=h0;exists ⟨_,_,rfl,.inr (q_CUTS H),rfl,rfl,?_⟩;rw [show (if false=true then !inV _ _ else inV _ _)=false from by decide +kernel];walk_at "r";exact q
  | shift al n k =>
    have h0:=he;cases al with
    | false =>
      have h0:H p=some (.tup [.str (Str.ofString "stack"),.int n,.int k]):=h0;exists ⟨_,_,rfl,.inr (q_CUTS H),rfl,rfl,?_⟩;rw [show (if false=true then !inV _ _ else inV _ _)=false from by decide +kernel];walk_at "r";exact q
    | true =>
      have h0:H p=some (.tup [.str (Str.ofString "spread"),.int n,.int k]):=h0;exists ⟨_,_,rfl,.inr (q_CUTS H),rfl,rfl,?_⟩;rw [show (if false=true then !inV _ _ else inV _ _)=false from by decide +kernel];walk_at "r";exact q
  | turn n =>
    have h0:=he;have h0:H p=some (.tup [.str (Str.ofString "turn"),.int n]):=h0;exists ⟨_,_,rfl,.inr (q_CUTS H),rfl,rfl,?_⟩;rw [show (if false=true then !inV _ _ else inV _ _)=false from by decide +kernel];walk_at "r";exact q
theorem K8(F:Fun K "turned" "turned" S24 f fd)(B:Bl mg)  :FnOk P w K mg base CX0 1 f fd ["one"] P9:=by
  refine F.okA C11 λcdv A outer s H vs Q E hr h=>?_;obtain @⟨c,rfl,hc,q⟩:=h;refine ⟨_,(zc (zh (zo (pa2 (pit 0) (pit 0))))),?_⟩;walk_at "s";have ct:=hc.t;exists zr (by simp) λr H1 hr s1 e1=>?_;exact q r H1 s1 hr ⟨e1,s1 _ _ hc.h,s1 _ _ hc.w⟩
theorem K9(F:Fun K "places_of" "places_of" S31 f fd)(B:Bl mg)  :FnOk P w K mg base CX0 1 f fd ["names"] P10:=by
  refine F.okA C12 λcdv A outer s H vs Q E hr h=>?_;obtain @⟨a,ms,ts,rfl,ha,hp,up,hl,q⟩:=h;refine ⟨_,(za (ps_s 1 C12.nd uw) (za (zP PassesOwn.never rfl (uF rfl B.enumerate (pa1 (zn ua rfl B.sorted wc (pa1 (pv 0))))) (wF (n:=2) rfl (zO (pg_n 2 C12.nd) (zO (pg_n 3 C12.nd) xj))) (zc (xI (xA hr) (pv 1) (pv 3) (pv 2) rfl))) (zc (zh (yl ["name"] [1] rfl (zI (pv 0)) (λ_ _ _ _ _=>(pg_n 0 (show List.Nodup (α:=Str) ["name","places"] by decide +kernel))) (λ_ _ _ _ _=>zJ) (λ_ _ _ _ _=>(xn (xA hr) (pv 1) (pv 0) (λ_ _=>rfl)))))))),?_⟩;walk_at "s";have hml:=hp.length_eq;have hnd:=xv up;exists Bb λD H1 nD s1 e1=>?_;exists B6 ?_;exists E5 (s1 _ _ ha) (tt hp) (Ei up) (by rw [aa]; lia) λb H2 nb s2 e2=>?_;have e12:=s2 _ _ e1;have bD:b≠D:=ca (zb e1 nb);exists ⟨b,_,rfl,SqL.of e2,wT (K:=K) (a:=b) (xs:=(ts.map λn:Nat=>(n:Int)).map V.int) (λi σ H'=>E3 λv1 v2 kvs=>A5 (σ=[some (.ref a),some (.ref D),v1,v2]) (H' D=some (.dK kvs)) (kvs.length<=i) (Rn kvs (ts.take i) (rk ts)) (∀ b o,H2 b=some o->b≠D->H' b=some o)) ⟨_,_,[],rfl,e12,ai _,λn hn=>by simp at hn,λb o e _=>e⟩ (λi σ H' _ z'=>by obtain ⟨_,_,_,_,_,_,_,z⟩:=z'; exact SqL.of (z _ _ e2 bD)) ?_ ?_⟩
  . rintro i x T σ H' hi hT ⟨v1,v2,kvs,rfl,eD,hkl,hR,fr⟩;have hi':=(af.mp hi).1;rw [ag,ag] at hi;obtain ⟨z,hz,rfl⟩:=ao.mp hi;obtain ⟨n,hn,rfl⟩:=ao.mp hz;have eD':(upd H' T (.tup [.int (i:Int),.int (n:Int)])) D=some (.dK kvs):=by rw [zj (zb eD hT)]; exact eD
    have eT:(upd H' T (.tup [.int (i:Int),.int (n:Int)])) T=some (.tup [.int (i:Int),.int (n:Int)]):=zf;have frT:∀ b o,H2 b=some o->b≠D->(upd H' T (.tup [.int (i:Int),.int (n:Int)])) b=some o:=λb o e n=>by rw [zj (zb (fr b o e n) hT)]; exact fr b o e n
    generalize upd H' T (.tup [.int (i:Int),.int (n:Int)])=G at eT eD' frT ⊢;exists ⟨D,_,rfl,DPut.k (k:=.inl (n:Int)) eD' (aE (show _<1000 by simp only [aa] at hi'; lia) (by decide +kernel)),?_⟩;refine ⟨_,_,_,rfl,zf,bK (yL ..) (by lia),λj hj=>?_,λb o e n=>by rw [zj n]; exact frT b o e n⟩;rw [xY];rw [a8,hn] at hj;by_cases c:j=n
    . subst c;rw [h7 rfl,FU hnd hn]
    . have cj:¬ ((.inl (j:Int):Key)=.inl (n:Int)):=λh=>c (cV (dN h));rw [h8 cj];refine hR j ?_;rcases ax.mp hj with h|h
      . exact h
      . exact absurd (by simpa using h) c
  rintro σ H3 ⟨v1,v2,kvs,rfl,eD,hkl,hR,fr⟩;rw [aa,aa,au] at hR;have s3:Same H H3:=λb o e=>fr _ _ (s2 _ _ (s1 _ _ e)) (zb e nD);exists yK ?_;walk_at "r";have ha3:=s3 _ _ ha;refine ⟨a,rfl,⟨_,SqL.of ha3⟩,λO hO=>zV (K:=K) (a:=a) (ys:=(ms.map λn:Nat=>(n:Int)).map V.int) (λi xs σ' H'=>E1 λ(v:Option V)=>A4 (σ'=[v,some (.ref D)]) (xs=(((ms.take i).map (rk ts)).map λn:Nat=>(n:Int)).map V.int) (H' O=some (.lst xs)) (SameX O H3 H')) ⟨none,rfl,rfl,zf,λb o e n=>by rw [zj n]; exact e⟩ (λi xs σ' H' _ z=>by obtain ⟨v,_,_,_,z⟩:=z; exact SqL.of (z _ _ ha3 (zb ha3 hO))) ?_ ?_⟩
  . rintro i x xs σ' H' hi ⟨v,rfl,rfl,eO,sx⟩;have hi':=(af.mp hi).1;rw [ag,ag] at hi;obtain ⟨z,hz,rfl⟩:=ao.mp hi;obtain ⟨n,hn,rfl⟩:=ao.mp hz;have hD':=sx _ _ eD (zb eD hO);have hmt:=hp.mem_iff.mp (aq hn);exists ⟨D,_,rfl,DGet.k (k:=.inl (n:Int)) hD' |> (λz=>by rw [hR n hmt] at z; exact z),?_⟩;exists zp eO (by simp only [aa,aJ] at hi' ⊢; lia) λH5 x5 e5=>?_;refine yr hi' ⟨_,rfl,rfl,?_,sx.trans x5⟩;rw [a8,hn,aj,aj,aj];exact e5
  rintro xs σ' H5 ⟨v,rfl,rfl,eO,sx⟩;rw [aa,aa,au] at eO;refine q O H5 (λb o e=>sx _ _ (s3 _ _ e) (zb (s3 _ _ e) hO)) ?_ eO;exact Same.nn s3 hO
theorem K10(F:Fun K "with_names" "with_names" S34 f fd)(B:Bl mg)(g_GLUINGS:TopT K mg "GLUINGS" [.str "beside",.str "atop"]) :FnOk P w K mg base CX0 1 f fd ["deed","names"] P11:=by
  obtain ⟨a_GLUINGS,m_GLUINGS,q_GLUINGS⟩:=g_GLUINGS;refine F.okA C13 λcdv A outer s H vs Q E hr h=>?_;obtain @⟨p,a,e,r,k,rfl,he,nT,ha,hn,q⟩:=h;refine ⟨_,(za (zx (zi yF (pit 0) (yI (v:=.ref a_GLUINGS) rfl m_GLUINGS rfl) (by with_unfolding_all rfl)) (zc (zh (zo (pa3 (pit 0) (pe_i zE (pv 1) (pit 0)) (pe_i zE (pv 1) (pit 0)))))) zl) (zc (zh (zg Hn (zo (pa2 (pit 0) (pe_i zE (pv 1) (pit 0)))) (xt Gn (pv 0) (xJ zd) va))))),?_⟩;walk_at "s";cases e with
  | glue al n m =>
    have h0:H p=some (.tup [.str (Dd.glue al n m).wd,.int n,.int m]):=he;obtain ⟨n',n1,rfl⟩:=hn n (by simp [Dd.names]);obtain ⟨m',m1,rfl⟩:=hn m (by simp [Dd.names]);exists ⟨_,_,rfl,.inr (q_GLUINGS H),rfl,rfl,?_⟩;rw [show (if false=true then !inV _ _ else inV _ _)=true from Do (.glue al n' m')];exists zw ha (BQ n1) ?_;exists zw ha (BQ m1) ?_;exists zr (by simp) λb H1 nb s1 e1=>?_;exact q b H1 s1 nb e1
  | cut al n s =>
    obtain ⟨pq,h0,hs⟩:=he;obtain ⟨n',n1,rfl⟩:=hn n (by simp [Dd.names,Dd.n]);exists ⟨_,_,rfl,.inr (q_GLUINGS H),rfl,rfl,?_⟩;rw [show (if false=true then !inV _ _ else inV _ _)=false from Do (.cut al n' s)];exists zw ha (BQ n1) ?_;exists zC (by simp) λt1 H1 s1 e1=>?_;have h1:=s1 _ _ h0;exists Gi h1 λt2 H2 s2 e2=>?_;refine Ee (s2 _ _ e1) e2 (by simp) (by simp) (by simp) λb H3 nb s3 e3=>?_;exact q b H3 ((s1.trans s2).trans s3) (Same.nn (s1.trans s2) nb) ⟨pq,e3,((s1.trans s2).trans s3) _ _ hs⟩
  | shift al n k' =>
    have h0:H p=some (.tup [.str (Dd.shift al n k').wd,.int n,.int k']):=he;obtain ⟨n',n1,rfl⟩:=hn n (by simp [Dd.names,Dd.n]);exists ⟨_,_,rfl,.inr (q_GLUINGS H),rfl,rfl,?_⟩;rw [show (if false=true then !inV _ _ else inV _ _)=false from Do (.shift al n' k')];exists zw ha (BQ n1) ?_;exists zC (by simp) λt1 H1 s1 e1=>?_;have h1:=s1 _ _ h0;exists Gi h1 λt2 H2 s2 e2=>?_;refine Ee (s2 _ _ e1) e2 (by simp) (by simp) (by simp) λb H3 nb s3 e3=>?_;exact q b H3 ((s1.trans s2).trans s3) (Same.nn (s1.trans s2) nb) e3
  | turn n=>exact nomatch nT
theorem K11(F:Fun K "first_unlike" "first_unlike" S41 f fd)(B:Bl mg)  :FnOk P w K mg base CX0 1 f fd ["one","other"] P12:=by
  refine F.okA C14 λcdv A outer s H vs Q E hr h=>?_;obtain @⟨p,p',s,t,rfl,h1,h2,qn,q⟩:=h;refine ⟨_,(za (zP PassesOwn.never rfl (ya rfl B.range (pa1 zd)) (pg_n 2 C14.nd) (zc (zP PassesOwn.never rfl (ya rfl B.range (pa1 zd)) (pg_n 3 C14.nd) (zc (zx (zi (EM hr.units) (pe_i zT (pe_i zT (pv 0) (pv 2)) (pv 3)) (pe_i zT (pe_i zT (pv 1) (pv 2)) (pv 3)) (zk _)) (zc (zh (zo (pa2 (pv 2) (pv 3))))) zl))))) (zc (zh xE))),?_⟩;walk_at "s";exists wx ?_;exists ⟨2,rfl,by decide,by decide,yw (lo:=0) (n:=2) (λi σ H'=>E2 λv v'=>A3 (σ=[some (.ref p),some (.ref p'),v,v']) (H'=H) (∀ k,k<2*i->cmT k s=cmT k t)) ⟨_,_,rfl,rfl,λk hk=>absurd hk (by lia)⟩ ?_ ?_⟩
  . rintro i σ H' hi ⟨v,v',rfl,rfl,eqs⟩;exists wx ?_;exists ⟨2,rfl,by decide,by decide,yw (lo:=0) (n:=2) (λj σ H2=>E1 λv'=>A3 (σ=[some (.ref p),some (.ref p'),some (.int (0+(i:Int))),v']) (H2=H') (∀ k,k<2*i+j->cmT k s=cmT k t)) ⟨_,rfl,rfl,eqs⟩ ?_ ?_⟩
    . rintro j σ H2 hj ⟨v',rfl,rfl,eqs⟩;obtain ⟨xs,ys,rr,ff,a1,a2,a3,a4,a5⟩:=ID h1 hi hj;obtain ⟨xs',ys',rr',ff',b1,b2,b3,b4,b5⟩:=ID h2 hi hj;exists wD a1 a2 ?_;exists wD a3 a4 ?_;exists wD b1 b2 ?_;exists wD b3 b4 ?_;exists JJ a5 b5 ?_;exists A9 (λc=>?_) (λc=>?_)
      . exists zC (by simp) λr H3 s3 e3=>?_;rw [dj,dj] at e3;exact q r H3 i j s3 e3 ⟨hi,hj,eqs,λz=>c (by rw [z]; exact ⟨rfl,rfl⟩)⟩
      . exists ⟨_,rfl,rfl,λk hk=>?_⟩;by_cases z:k<2*i+j
        . exact eqs k z
        . rw [show k=2*i+j by lia];exact Rat.ext c.1 (cV c.2)
    . rintro σ H2 ⟨v',rfl,rfl,eqs⟩;walk_at "r";exact ⟨_,_,rfl,rfl,λk hk=>eqs k (by lia)⟩
  rintro σ H' ⟨v,v',rfl,rfl,eqs⟩;walk_at "r";exact qn (Io λk hk=>eqs k (by lia))
theorem K12(F:Fun K "_law_cell" "_law_cell" S43 f fd)(B:Bl mg)  :FnOk P w K mg base CX0 1 f fd ["_law_script","_law_k"] (P13 K):=by
  refine F.okA C15 λcdv A outer s H vs Q E hr h=>?_;obtain @⟨p,ns,k,rfl,hS,hk,hb,q⟩:=h;refine ⟨_,(za (zx (zi uu (pv 1) (zn zt rfl B.len aY (pa1 (pv 0))) (zk _)) (zc (zh (pe_i zE (pv 0) (pv 1)))) zl) (zc (zh zd))),?_⟩;walk_at "s";exists ⟨p,_,rfl,.inl hS,?_⟩;exists if_d (λc=>?_) (λc=>?_)
  . walk_at "r";rw [aa] at c;obtain ⟨d,hd,e⟩:=BM (xs:=ns) (i:=k) hk c;exact ⟨p,_,_,_,rfl,rfl,hS,e,q d (hb d hd)⟩
  . walk_at "r";exact q 0 (by exact (DV 0).mono (by decide +kernel))
theorem K13(F:Fun K "_law_great" "_law_great" S44 f fd)(B:Bl mg)  :FnOk P w K mg base CX0 1 f fd ["_law_cell_here","_law_k"] P14:=by
  refine F.okA C16 λcdv A outer s H vs Q E hr h=>?_;obtain @⟨c,k,rfl,hc,hk,q⟩:=h;refine ⟨_,(za (ps_s 2 C16.nd (zg zm (zg zD (zg zD (zg zD (pv 0) (zg zm (zg zm zd (pv 1)) (pv 1))) (pv 1)) zd) zd)) (za (ps_s 2 C16.nd (zg zG (pv 2) zd)) (zc (zh (zg zG (zg zm (pv 2) (pv 2)) zd))))),?_⟩;walk_at "s";walk_at "r";exact q _ (ce _ (by decide)) (cg _ (by decide))
theorem K14(F:Fun K "_law_divisor" "_law_divisor" S46 f fd)(B:Bl mg)  :FnOk P w K mg base CX0 1 f fd ["_law_one","_law_other"] P15:=by
  refine F.okA C17 λcdv A outer s H vs Q E hr h=>?_;obtain ⟨a,b,rfl,q⟩:=h;refine ⟨_,(za (ps_s 0 C17.nd (zn vA rfl B.abs Dk (pa1 (pv 0)))) (za (ps_s 1 C17.nd (zn vA rfl B.abs Dk (pa1 (pv 1)))) (za (uL PassesOwn.never (zi wy (pv 1) zd (zk _)) (zc (IT (i:=0) (j:=1) rfl C17.nd rfl rfl (by decide) rfl rfl (pa2 (pv 1) (zg zG (pv 0) (pv 1))) rfl))) (zc (zh (pv 0)))))),?_⟩;walk_at "s";exists B8 (λσ' H'=>E2 λ(x y:Int)=>A5 (σ'=[some (.int x),some (.int y)]) (H'=H) (0<=x) (0<=y) (Int.gcd x y=Int.gcd a b)) (λσ' _=>match σ' with | [_,some (.int y)]=>y.natAbs | _=>0) ⟨_,_,rfl,rfl,?_,?_,?_⟩ ?_ ?_
  . split <;> lia
  . split <;> lia
  . exact Fp a b
  . rintro σ' H' ⟨x,y,rfl,rfl,hx,hy,hg⟩;exists if_d (λc=>?_) (λc=>?_)
    . walk_at "r";exact ⟨⟨y,x % y,rfl,rfl,hy,ce _ (by lia),(Fm x y).trans hg⟩,by
        have h1:=ce x (show y≠0 by lia);have h2:=cg x c;show (x % y).natAbs<y.natAbs
        lia⟩
    . walk_at "r";have hy0:y=0:=by lia
      have e:x=((Int.gcd a b:Nat):Int):=by
        rw [<-hg,hy0,Int.gcd_zero_right]
        lia
      rw [e];exact q
  . intro σ H Q Q' hq h;obtain ⟨v,e,i,j,e1,e2,k,e3,z⟩:=h;exact ⟨v,e,i,j,e1,e2,k,e3,hq _ _ z⟩
theorem JW{k:Bool}:atI [V.int (-1),V.int 1] (if k=true then 1 else 0)=some (.int (if k=true then 1 else -1)):=by cases k <;> rfl
theorem K15(F:Fun K "_law_sign" "_law_sign" S48 f fd)(B:Bl mg)  :FnOk P w K mg base CX0 1 f fd ["_law_d","_law_a","_law_b"] P16:=by
  refine F.okA C18 λcdv A outer s H vs Q E hr h=>?_;obtain @⟨d,a,b,rfl,hd,ha,hb,q⟩:=h;refine ⟨_,(za (zx (PW.pt (xa (zi DN (pv 1) zd (zk _)) (yB (zi DN (pv 2) zd (zk _))))) (zc (zh (z9 vh rfl B.int Bf (pa1 (zW wy (zg zD (pv 1) (pv 2)) zd (zk _)))))) zl) (za (zx (PW.pt (xa (zi FW (pv 1) zd (zk _)) (yB (zi FW (pv 2) zd (zk _))))) (zc (zh (uN wa zd))) zl) (za (zx (zi wy (pv 1) zd (zk _)) (zc (zh (pe_i zE (zH (pa2 (uN wa zd) zd)) (z9 vh rfl B.int Bf (pa1 (zW wy (zg zm (pv 1) (pv 1)) (zg zm (zg zm (pv 0) (pv 2)) (pv 2)) (zk _))))))) zl) (zc (zh (pe_i zE (zH (pa2 (uN wa zd) zd)) (z9 vh rfl B.int Bf (pa1 (zW wy (zg zm (zg zm (pv 0) (pv 2)) (pv 2)) (zg zm (pv 1) (pv 1)) (zk _)))))))))),?_⟩;walk_at "s";exists if_d (λc1=>?_) (λc1=>?_)
  . exists if_d (λc2=>?_) (λc2=>?_)
    . walk_at "r";exact Df (by rw [vZ c1 c2]; simp only [iA]) (q H (Same.refl H))
    . exists if_d (λc3=>?_) (λc3=>?_)
      . exists if_d (λc4=>?_) (λc4=>?_)
        . walk_at "r";exact Df (by unfold sgn; rw [h8 (by lia),h7 ⟨c3,c4⟩]) (q H (Same.refl H))
        . lia
      . exists if_d (λc4=>?_) (λc4=>?_)
        . exists GH (by simp) λp H2 s2 e2=>?_;exists zw e2 JW ?_;exact Df (by rw [DI c4 (by lia)]; simp only [iA]) (q H2 s2)
        . lia
  . exists if_d (λc3=>?_) (λc3=>?_)
    . exists if_d (λc4=>?_) (λc4=>?_)
      . walk_at "r";exact Df (by unfold sgn; rw [h8 (by lia),h7 ⟨c3,c4⟩]) (q H (Same.refl H))
      . exists if_d (λc5=>?_) (λc5=>?_)
        . lia
        . exists GH (by simp) λp H2 s2 e2=>?_;exists zw e2 JW ?_;exact Df (by rw [DX (by lia) (by lia)]; simp only [iA]) (q H2 s2)
    . lia
theorem K16(F:Fun K "_law_begin" "_law_begin" S59 f fd)(B:Bl mg)  :FnOk P w K mg base CX0 1 f fd ["_law_heap_here"] P17:=by
  refine F.okA C19 λcdv A outer s H vs Q E hr h=>?_;obtain @⟨l,L,rfl,hl,hA,h6,q⟩:=h;refine ⟨_,(za (ps_s 1 C19.nd uw) (za (zP PassesOwn.never rfl (ya rfl B.range (pa1 (zn zt rfl B.len aY (pa1 (pv 0))))) (pg_n 2 C19.nd) (zc (xI (xA hr) (pv 1) (pv 2) (pe_i zE (pv 0) (pv 2)) rfl))) (zc (zh (zo (pa2 (pv 1) (zn zt rfl B.len aY (pa1 (pv 0))))))))),?_⟩;walk_at "s";exists Bb λA H1 n1 s1 e1=>?_;have lA:l≠A:=zb hl n1;have hl1:=s1 _ _ hl;exists wx ?_;walk_at "r";rw [aa];refine ⟨(L.length:Int),rfl,by lia,by lia,yw (lo:=0) (n:=(L.length:Int).toNat) (λi σ H'=>E1 λv=>A3 (σ=[some (.ref l),some (.ref A),v]) (H' A=some (.dK (cdK (List.range i) (fL L)))) (SameX A H1 H')) ⟨_,rfl,e1,λb o e _=>e⟩ ?_ ?_⟩
  . rintro i σ H' hi ⟨v,rfl,el,sx⟩;have hi':i<L.length:=by lia
    have hl':=sx _ _ hl1 lA;obtain ⟨cx,hcx⟩:∃ c,L[i]?=some c:=⟨_,ae hi'⟩
    exists zw hl' (v:=cx.v) (by rw [show (0:Int)+(i:Int)=((i:Nat):Int) by lia]; exact zF (by rw [ag,hcx]; rfl)) ?_;walk_at "r";rw [show (0:Int)+(i:Int)=((i:Nat):Int) by lia];refine ⟨A,_,rfl,DPut.k (k:=.inl ((i:Nat):Int)) el (by rw [AD,bf]; exact aE (show _<1000 by lia) (by decide +kernel)),?_⟩;refine ⟨_,rfl,?_,λb o e n=>by rw [zj n]; exact sx b o e n⟩;rw [zf,wR _ (xQ (λj hj=>bG.mp hj)),d4,B7,tY hcx]
  rintro σ H2 ⟨v,rfl,el,sx⟩;have s2:Same H H2:=λb o e=>sx b o (s1 b o e) (zb e n1);rw [fV] at el;have hl2:=s2 _ _ hl;walk_at "r";rw [aa];exists zr (by simp) λr H3 n3 s3 e3=>?_;refine q r A H3 (s2.trans s3) n1 e3 ⟨s3 _ _ el,λj hj=>?_⟩;have hj:=bG.mp hj;rw [tY (ae hj)];exact ((hA _ (bI hj)).same s2).same s3
theorem K17(F:FunD K "__init__" "Yard.__init__" S63 f fd its)(B:Bl mg)(X:Xs K mg cs) :FnOk P w K mg base CX0 1 f fd ["self","d","heap","turning"] (P18 cs):=by
  refine F.okA C20 λcdv A outer s H vs Q E hr h=>?_;obtain ⟨p,dx,hp,d,tn,cl,rfl,h0,hh,hat,hlen,q⟩:=h;refine ⟨_,(za (Af (pv 0) (pv 1) rfl) (za (Af (pv 0) (pv 3) rfl) (za (Af (pv 0) (z9 uW rfl B.list uf (pa1 (pv 2))) rfl) (za (Af (pv 0) (z9 (uc rfl) rfl B.dict AW (pa1 (yl ["name"] [] rfl (ya rfl B.range (pa1 (zn zt rfl B.len aY (pa1 (pv 2))))) (λ_ _ _ _ _=>(pg_n 0 (show List.Nodup (α:=Str) ["name"] by decide +kernel))) (λ_ _ _ _ _=>zJ) (λ_ _ _ _ _=>(zo (pa2 (pv 0) wO)))))) rfl) (zc (Af (pv 0) (zH yz) rfl)))))),?_⟩;walk_at "s";exists tE h0 X.c_Yard X.n_Yard_root (by simp) λH1 x1 e1=>?_;exists tE e1 X.c_Yard X.n_Yard_turning (yV (by simp)) λH2 x2 e2=>?_;have np:hp≠p:=zX hh h0 (λz=>nomatch z);have hh2:=x2 _ _ (x1 _ _ hh np) np;exists Dm hh2 λk H3 nk s3 ek=>?_;have e3:=s3 _ _ e2;have kp:k≠p:=zX ek e3 (λz=>nomatch z);exists tE e3 X.c_Yard X.n_Yard_known (yV (yV (by simp))) λH4 x4 e4=>?_;have ek4:=x4 _ _ ek kp;have hh4:=x4 _ _ (s3 _ _ hh2) np;exists wX ?_;exists ⟨_,rfl,by simp only [aa]; lia,by simp only [aa]; lia,λD hD=>yD (lo:=0) (n:=((cl.map Cell.v).length:Int).toNat) (λi xs σ' H'=>E2 λ(v:Option V) (ps:List Addr)=>A6 (σ'=[v]) (xs=ps.map V.ref) (ps.length=i) (H' D=some (.lst xs)) (SameX D H4 H') (∀ (j:Nat) (p':Addr),ps[j]?=some p'->H' p'=some (.tup [.int (j:Int),.bl true]))) ⟨none,[],rfl,rfl,rfl,zf,λb o e n=>by rw [zj n]; exact e,by simp⟩ ?_ ?_⟩
  . rintro i xs σ' H' hi ⟨v,ps,rfl,rfl,hl,eD,sx,hps⟩;exists zr (by simp) λr H5 hr s5 e5=>?_;walk_at "r";have hi':i<61:=by simp only [aa] at hi; lia
    refine zp (s5 _ _ eD) (by rw [aa]; lia) λH6 x6 e6=>?_;have rD:r≠D:=zX e5 (s5 _ _ eD) (λz=>nomatch z);refine yr hi ⟨_,ps++[r],rfl,rfl,by rw [ah,hl]; rfl,by rw [aj]; exact e6,sx.trans ((SameX.of s5).trans x6),?_⟩;intro j p' hj;by_cases c:j<ps.length
    . rw [aM c] at hj;have:=hps j p' hj;exact x6.tup (s5 _ _ this) (s5 _ _ eD)
    . rw [aG (by lia)] at hj;have hj1:=(af.mp hj).1;have j0:j - ps.length=0:=by simpa using hj1
      rw [j0] at hj;injection hj with hj;subst hj;have:j=i:=by lia
      subst this;have:=x6.tup e5 (s5 _ _ eD);simpa using this
  . rintro xs σ' H' ⟨v,ps,rfl,rfl,hl,eD,sx,hps⟩;have s5:Same H4 H':=λb o e=>sx b o e (zb e hD);have hl:ps.length=cl.length:=by rw [hl]; simp
    exists EO (kvs:=nmK (List.range cl.length)) eD (by simp [nmK,hl]) (λi p' kv h1 h2=>?_) (Aq b8) (by simp [nmK]; lia) λl H6 nl s6 el=>?_
    . have h3:=hps i p' h1;have hi:=(af.mp h1).1;rw [nmK,ag,cK (by lia)] at h2;injection h2 with h2;rw [<-h2];exact h3
    have e6:=s6 _ _ (s5 _ _ e4);have lp:l≠p:=zX el e6 (λz=>nomatch z);exists tE e6 X.c_Yard X.n_Yard_lying (yV (yV (yV (by simp)))) λH7 x7 e7=>?_;exists zv (by simp) λt H8 nt s8 et=>?_;have e8:=s8 _ _ e7;have tp:t≠p:=zX et e8 (λz=>nomatch z);exists tE e8 X.c_Yard X.n_Yard_done (yV (yV (yV (yV (by simp))))) λH9 x9 e9=>?_;have ek7:=x7 _ _ (s6 _ _ (s5 _ _ ek4)) kp;have xx:SameX p H H9:=x1.trans (x2.trans ((SameX.of s3).trans (x4.trans ((SameX.of (s5.trans s6)).trans (x7.trans ((SameX.of s8).trans x9))))));have pn:∀ {b:Addr} {G:Hp},SameX p H G->b≠p->G b=none->H b=none:=λ{b G} x n g=>by
      cases e:H b with
      | none=>rfl
      | some o=>rw [x _ _ e n] at g; cases g
    refine q ⟨p,dx,k,l,t⟩ H9 rfl rfl xx ⟨e9,x9 _ _ (s8 _ _ ek7) kp,x9 _ _ (s8 _ _ (x7 _ _ el lp)) lp,x9 _ _ et tp,zb ek7 nt,λc hc=>?_,b8,λn hn=>bG.mp hn,by lia,by simp⟩ (pn (x1.trans x2) kp nk) (pn (x1.trans (x2.trans ((SameX.of s3).trans (x4.trans (SameX.of s5))))) lp nl) (pn (x1.trans (x2.trans ((SameX.of s3).trans (x4.trans ((SameX.of (s5.trans s6)).trans x7))))) tp nt);have hc:=hat c hc;exact ⟨xx _ _ hc.t (zX hc.t h0 (λz=>nomatch z)),xx _ _ hc.w (zX hc.w h0 (λz=>nomatch z)),xx _ _ hc.h (zX hc.h h0 (λz=>nomatch z))⟩
theorem K18(F:Fun K "board_ever" "Yard.board_ever" S67 f fd)(B:Bl mg)(X:Xs K mg cs) :FnOk P w K mg base CX0 1 f fd ["self","name"] (P19 cs):=by
  refine F.okA C21 λcdv A outer s H vs Q E hr h=>?_;obtain @⟨y,d,tn,cl,ns,lg,n,c,rfl,hy,hc,q⟩:=h;refine ⟨_,(zc (zh (pe_i zE (yc (K:=K) rfl (pv 0) rfl) (pv 1)))),?_⟩;walk_at "s";exists ⟨_,_,_,_,_,rfl,hy.o,X.c_Yard,X.n_Yard_known,rfl,?_⟩;exists zw hy.k (v:=c.v) (zF (by rw [ag,hc]; rfl)) ?_;walk_at "r";exact q
theorem K19(F:Fun K "boards" "Yard.boards" S68 f fd)(B:Bl mg)(X:Xs K mg cs) :FnOk P w K mg base CX0 1 f fd ["self"] (P20 cs):=by
  refine F.okA C22 λcdv A outer s H vs Q E hr h=>?_;obtain @⟨y,d,tn,cl,ns,lg,rfl,hy,q⟩:=h;refine ⟨_,(zc (zh (Ce ["name"] [0] rfl (Eo (yc (K:=K) rfl (pv 0) rfl)) (λ_ _ _ _ _=>(pg_n 0 (show List.Nodup (α:=Str) ["name","self"] by decide +kernel))) (λ_ _ _ _ _=>zJ) (λ_ _ _ _ _=>(zo (pa2 (pv 0) (pe_i (r:=rIxL K) zE (yc (K:=K) rfl (pv 1) rfl) (pv 0)))))))),?_⟩;walk_at "s";refine i_ret ?_;refine Dc ?_;exists ⟨_,_,_,_,_,rfl,hy.o,X.c_Yard,X.n_Yard_lying,rfl,?_⟩;refine ⟨y.l,nmK ns,rfl,hy.l,λob nf D hD=>tj (d:=y.l) (ob:=ob) (kvs:=nmK ns) (λi xs σ' H'=>E1 λ(v:Option V)=>A5 (σ'=[v,some (.ref y.p)]) ((∃ ps:List Addr,xs=ps.map V.ref/\ps.length=i/\∀ (j:Nat) (p:Addr),ps[j]?=some p->∃ n c,ns[j]?=some n/\cl[n]?=some c/\H' p=some (.tup [.int (n:Int),.ref c.p]))) (H' D=some (.lst xs)) (H' y.l=some (.frz ob (.dK (nmK ns)))) (∀ b o,H b=some o->b≠y.l->H' b=some o)) ?_ (λi xs σ' H' _ z=>by obtain ⟨_,_,_,_,z,_⟩:=z; exact z) ?_ ?_⟩
  . have nl:D≠y.l:=λc=>by rw [c,zf] at hD; cases hD
    have hD':H D=none:=by rw [zj nl] at hD; exact hD
    exact ⟨none,rfl,⟨[],rfl,rfl,by simp⟩,zf,by rw [zj (ca nl),zf],λb o e n=>by rw [zj (zb e hD'),zj n]; exact e⟩
  . rintro i kv xs σ' H' hi ⟨v,rfl,⟨ps,rfl,hl,hps⟩,eD,el,sx⟩;have nl0:D≠y.l:=λc=>by rw [c,zf] at hD; cases hD
    have hD':H D=none:=by rw [zj nl0] at hD; exact hD
    rw [nmK,ag] at hi;obtain ⟨n,hn,rfl⟩:=ao.mp hi;have hlt:=hy.lt n (aq hn);obtain ⟨c,hc⟩:∃ c,cl[n]?=some c:=⟨_,ae hlt⟩
    have nl:∀ {b:Addr} {o:HO},H b=some o->(∀ k,o≠.dK k)->b≠y.l:=λe h z=>by rw [z,hy.l] at e; injection e with e; exact h _ e.symm
    have eo:=sx _ _ hy.o (nl hy.o (λ_ z=>nomatch z));have ek:=sx _ _ hy.k (nl hy.k (λ_ z=>nomatch z));exists ⟨_,_,_,_,_,rfl,eo,X.c_Yard,X.n_Yard_known,rfl,?_⟩;exists zw ek (v:=c.v) (zF (by rw [ag,hc]; rfl)) ?_;have hi3:=(af.mp hn).1;have l1:=Ch hy.up hy.lt;have l2:=hy.lc;exists zr (by simp) λr H5 hr s5 e5=>?_;walk_at "r";have eD5:=s5 _ _ eD;refine zp eD5 (by rw [aa]; lia) λH3 x3 e3=>?_;refine yr (by simp only [nmK,aa]; exact hi3) ⟨_,rfl,⟨ps++[r],rfl,by rw [ah,hl]; rfl,?_⟩,by rw [aj]; exact e3,x3 _ _ (s5 _ _ el) (zX (s5 _ _ el) eD5 (λz=>nomatch z)),λb o e n=>x3 _ _ (s5 _ _ (sx b o e n)) (zb e hD')⟩;intro j p' hj;by_cases cj:j<ps.length
    . rw [aM cj] at hj;obtain ⟨n',c',h1,h2,h3⟩:=hps j p' hj;exact ⟨n',c',h1,h2,x3.tup (s5 _ _ h3) eD5⟩
    . rw [aG (by lia)] at hj;have hj1:=(af.mp hj).1;have j0:j - ps.length=0:=by simpa using hj1
      rw [j0] at hj;injection hj with hj;subst hj;have:j=i:=by lia
      subst this;exact ⟨n,c,hn,hc,x3.tup e5 eD5⟩
  . rintro xs σ' H' ⟨v,rfl,⟨ps,rfl,hl,hps⟩,eD,el,sx⟩;have nl0:D≠y.l:=λc=>by rw [c,zf] at hD; cases hD
    have hD':H D=none:=by rw [zj nl0] at hD; exact hD
    refine ⟨y.l,ob,nmK ns,nf,el,?_⟩;refine q D _ ps (λb o e=>?_) hD' (by rw [zj nl0]; exact eD) ⟨by rw [hl,nmK,aa],λj p' hj=>?_⟩;rotate_left
    . obtain ⟨n',c',h1,h2,h3⟩:=hps j p' hj;exact ⟨n',c',h1,h2,by rw [zj (zX h3 el (λz=>nomatch z))]; exact h3⟩
    by_cases c:b=y.l
    . rw [c,zf]; rw [c,hy.l] at e; exact e
    . rw [zj c]; exact sx b o e c
theorem K20(F:Fun K "heap" "Yard.heap" S69 f fd)(B:Bl mg)(X:Xs K mg cs) :FnOk P w K mg base CX0 1 f fd ["self"] (P21 cs):=by
  refine F.okA C23 λcdv A outer s H vs Q E hr h=>?_;obtain @⟨y,d,tn,cl,ns,lg,rfl,hy,q⟩:=h;refine ⟨_,(zc (zh (Ce ["name"] [0] rfl (Eo (yc (K:=K) rfl (pv 0) rfl)) (λ_ _ _ _ _=>(pg_n 0 (show List.Nodup (α:=Str) ["name","self"] by decide +kernel))) (λ_ _ _ _ _=>zJ) (λ_ _ _ _ _=>(pe_i (r:=rIxL K) zE (yc (K:=K) rfl (pv 1) rfl) (pv 0)))))),?_⟩;walk_at "s";refine i_ret ?_;refine Dc ?_;exists ⟨_,_,_,_,_,rfl,hy.o,X.c_Yard,X.n_Yard_lying,rfl,?_⟩;refine ⟨y.l,nmK ns,rfl,hy.l,λob nf D hD=>tj (d:=y.l) (ob:=ob) (kvs:=nmK ns) (λi xs σ' H'=>E1 λ(v:Option V)=>A5 (σ'=[v,some (.ref y.p)]) (xs=(pick cl (ns.take i)).map Cell.v) (H' D=some (.lst xs)) (H' y.l=some (.frz ob (.dK (nmK ns)))) (∀ b o,H b=some o->b≠y.l->H' b=some o)) ?_ (λi xs σ' H' _ z=>by obtain ⟨_,_,_,_,z,_⟩:=z; exact z) ?_ ?_⟩
  . have nl:D≠y.l:=λc=>by rw [c,zf] at hD; cases hD
    have hD':H D=none:=by rw [zj nl] at hD; exact hD
    exact ⟨none,rfl,rfl,zf,by rw [zj (ca nl),zf],λb o e n=>by rw [zj (zb e hD'),zj n]; exact e⟩
  . rintro i kv xs σ' H' hi ⟨v,rfl,rfl,eD,el,sx⟩;have nl0:D≠y.l:=λc=>by rw [c,zf] at hD; cases hD
    have hD':H D=none:=by rw [zj nl0] at hD; exact hD
    rw [nmK,ag] at hi;obtain ⟨n,hn,rfl⟩:=ao.mp hi;have hlt:=hy.lt n (aq hn);obtain ⟨c,hc⟩:∃ c,cl[n]?=some c:=⟨_,ae hlt⟩
    have nl:∀ {b:Addr} {o:HO},H b=some o->(∀ k,o≠.dK k)->b≠y.l:=λe h z=>by rw [z,hy.l] at e; injection e with e; exact h _ e.symm
    have eo:=sx _ _ hy.o (nl hy.o (λ_ z=>nomatch z));have ek:=sx _ _ hy.k (nl hy.k (λ_ z=>nomatch z));exists ⟨_,_,_,_,_,rfl,eo,X.c_Yard,X.n_Yard_known,rfl,?_⟩;exists zw ek (v:=c.v) (zF (by rw [ag,hc]; rfl)) ?_;have hi3:=(af.mp hn).1;have l1:=Ch hy.up hy.lt;have l2:=hy.lc;have l3:=B9 (cl:=cl) (ns:=ns.take i);rw [aJ] at l3;exists zp eD (by rw [aa]; lia) λH3 x3 e3=>?_;refine yr (by simp only [nmK,aa]; exact hi3) ⟨_,rfl,rfl,by rw [EH hn hc,aj]; exact e3,x3 _ _ el (zX el eD (λz=>nomatch z)),λb o e n=>x3 _ _ (sx b o e n) (zb e hD')⟩
  . rintro xs σ' H' ⟨v,rfl,rfl,eD,el,sx⟩;have nl0:D≠y.l:=λc=>by rw [c,zf] at hD; cases hD
    have hD':H D=none:=by rw [zj nl0] at hD; exact hD
    refine ⟨y.l,ob,nmK ns,nf,el,?_⟩;rw [show ns.take (nmK ns).length=ns by rw [nmK,aa,au]] at eD;refine q D _ (λb o e=>?_) hD' (by rw [zj nl0]; exact eD);by_cases c:b=y.l
    . rw [c,zf]; rw [c,hy.l] at e; exact e
    . rw [zj c]; exact sx b o e c
theorem K21(F:FunD K "length" "length" S3 f fd its)(B:Bl mg)(o2x:Own P w K mg base 1 "with_sign_of" ["divisor","bottom"] [] P2)(o1x:Own P w K mg base 1 "common_divisor" ["one","other"] [] P1)(o0x:Own P w K mg base 1 "is_whole" ["thing"] [] P0):FnOk P w K mg base CX0 2 f fd ["a","b","n"] P22:=by
  refine F.okA C24 λcdv A outer s H vs Q E hr h=>?_;obtain ⟨a,b,n,rfl,hn,hb,⟨ha8,hb8⟩,q⟩:=h;refine ⟨_,(za (zx (wn (PW.pt (xa (yM (ze o0x hr rfl (pa1 (pv 0)))) (xa (yM (ze o0x hr rfl (pa1 (pv 1)))) (yB (yM (ze o0x hr rfl (pa1 (pv 2))))))))) (zc yN) zl) (za (zx (zi zU (pv 2) zd (zk _)) (zc yN) zl) (za (ps_s 3 C24.nd (ze o2x hr rfl (pa2 (ze o1x hr rfl (pa2 (ze o1x hr rfl (pa2 (pv 2) (pv 0))) (pv 1))) (pv 2)))) (zc (zh (zo (pa3 (zg zM (pv 0) (pv 3)) (zg zM (pv 1) (pv 3)) (zg zM (pv 2) (pv 3))))))))),?_⟩;walk_at "s";have hc:∀ x,CFd x (gd a b n):=λx=>⟨Ij hn,br (HZ hn hb).log (by decide)⟩
  exists if_d (λc=>absurd c hn) (λ_=>?_);walk_at "r"
  . exact zC (by simp) λp H' s e=>q p H' s e
  all_goals exact hc _
theorem K22(F:FunD K "fraction" "fraction" S4 f fd its)(B:Bl mg)(o2x:Own P w K mg base 1 "with_sign_of" ["divisor","bottom"] [] P2)(o1x:Own P w K mg base 1 "common_divisor" ["one","other"] [] P1):FnOk P w K mg base CX0 2 f fd ["top","bottom"] P23:=by
  refine F.okA C25 λcdv A outer s H vs Q E hr h=>?_;obtain ⟨t,b,rfl,hn,hb,q⟩:=h;refine ⟨_,(za (ps_s 2 C25.nd (ze o2x hr rfl (pa2 (ze o1x hr rfl (pa2 (pv 0) (pv 1))) (pv 1)))) (zc (zh (zo (pa2 (zg zM (pv 0) (pv 2)) (zg zM (pv 1) (pv 2))))))),?_⟩;walk_at "s";have hc:∀ x,CFd x (fg t b):=λx=>⟨Lj hn,br (KW hn hb).log (by decide)⟩
  walk_at "r"
  . exact zC (by simp) λp H' s e=>q p H' s e
  all_goals exact hc _
theorem K23(F:Fun K "added" "added" S6 f fd)(B:Bl mg)(o1x:Own P w K mg base 1 "common_divisor" ["one","other"] [] P1):FnOk P w K mg base CX0 2 f fd ["one","other"] (P24 K):=by
  refine F.okA C26 λcdv A outer s H vs Q E hr h=>?_;obtain ⟨p,p',x,y,z,x',y',z',rfl,h1,h2,n1,n2,k1,k2,⟨b1,b2,b3,b4,b5,b6⟩,q⟩:=h;refine ⟨_,(za (ps_s 2 C26.nd (ze o1x hr rfl (pa2 (pit 0) (pit 1)))) (za (ps_s 3 C26.nd (zg zM (pit 1) (pv 2))) (za (ps_s 4 C26.nd (zg zM (pit 0) (pv 2))) (za (ps_s 5 C26.nd (zg zD (zg zm (pit 0) (pv 3)) (zg zm (pit 1) (pv 4)))) (za (ps_s 6 C26.nd (zg zD (zg zm (pit 0) (pv 3)) (zg zm (pit 1) (pv 4)))) (za (ps_s 7 C26.nd (ze o1x hr rfl (pa2 (ze o1x hr rfl (pa2 (pv 2) (pv 5))) (pv 6)))) (zc (zh (zo (pa3 (zg zM (pv 5) (pv 7)) (zg zM (pv 6) (pv 7)) (zg zm (pv 4) (zg zM (pit 1) (pv 7))))))))))))),?_⟩;walk_at "s";obtain ⟨as1,al1,ea,eb,en⟩:=Ii n1 n2 k1 k2;have gb:Bd 3900 (aS z z'):=uS (by lia) b3;have lb:Bd 3900 (aL x y z x' y' z'):=uS (by have:=cH (aA x z x' z') (show aS z z'≠0 by lia); lia) (uS (by lia) gb);have ba8:Bd 8192 (aA x z x' z'):=Bd.mono (Bd.add (k:=7800) (b1.mul (b6.fdiv _)) (b4.mul (b3.fdiv _))) (by decide);have bb8:Bd 8192 (aA y z y' z'):=Bd.mono (Bd.add (k:=7800) (b2.mul (b6.fdiv _)) (b5.mul (b3.fdiv _))) (by decide);have hs:∀ t,CFd t (aS z z'):=λt=>⟨by lia,br gb.log (by decide)⟩
  have hl:∀ t,CFd t (aL x y z x' y' z'):=λt=>⟨by lia,br lb.log (by decide)⟩
  rw [<-ea,<-eb,<-en] at q;walk_at "r"
  . exact zC (by simp) λr H' s e=>q r H' s e
  all_goals first | exact hs _ | exact hl _
theorem K24(F:Fun K "under" "under" S10 f fd)(B:Bl mg)(o9x:Own P w K mg base 1 "is_above_nought" ["d","a","b"] [] P3):FnOk P w K mg base CX0 2 f fd ["d","one","other"] (P25 K):=by
  refine F.okA C27 λcdv A outer s H vs Q E hr h=>?_;obtain ⟨d,p,p',x,y,z,x',y',z',rfl,h1,h2,hd,⟨b1,b2,b3,b4,b5,b6⟩,q⟩:=h;refine ⟨_,(zc (zh (ze o9x hr rfl (pa3 (pv 0) (zg yP (zg zm (pit 2) (pit 1)) (zg zm (pit 1) (pit 2))) (zg yP (zg zm (pit 2) (pit 1)) (zg zm (pit 1) (pit 2))))))),?_⟩;walk_at "s";walk_at "r";exact wC rfl hd ((Bd.sub (b4.mul b3) (b1.mul b6)).mono (by decide)) ((Bd.sub (b5.mul b3) (b2.mul b6)).mono (by decide)) q
theorem K25(F:Fun K "counts" "counts" S14 f fd)(B:Bl mg)(o13x:Own P w K mg base 1 "crossed" ["one","other"] [] P4):FnOk P w K mg base CX0 2 f fd ["d","base","one"] P26:=by
  refine F.okA C28 λcdv A outer s H vs Q E hr h=>?_;obtain ⟨d,d',p,r1,r2,o,s,N,x,y,rfl,⟨h0,h1,h2⟩,ho,hN,hb,g,⟨bx,by'⟩,q⟩:=h;refine ⟨_,(za (ps_s 3 C28.nd (pit 1)) (za (ps_s 4 C28.nd (pit 1)) (za (ps_s 5 C28.nd (zg zm (pit 2) (ze o13x hr rfl (pa2 (pv 3) (pv 4))))) (zc (zh (zo (pa2 (zg zM (zg zm (ze o13x hr rfl (pa2 (pv 2) (pv 4))) (pit 3)) (pv 5)) (zg zM (zg zm (ze o13x hr rfl (pa2 (pv 3) (pv 2))) (pit 4)) (pv 5))))))))),?_⟩;walk_at "s";obtain ⟨b0,ci,cj⟩:=KJ (x:=x) (y:=y) g hN;have k1:Bd 900 (lA s.a s.b N):=g.ba.fdiv _;have k2:Bd 900 (lB s.a s.b N):=g.bb.fdiv _;have k3:Bd 900 (lN s.a s.b N):=hb.fdiv _;have k4:Bd 900 (lA s.c s.e N):=g.bc.fdiv _;have k5:Bd 900 (lB s.c s.e N):=g.be.fdiv _;have k6:Bd 900 (lN s.c s.e N):=hb.fdiv _;have k7:Bd 900 (lA x y N):=bx.fdiv _;have k8:Bd 900 (lB x y N):=by'.fdiv _;have k9:Bd 900 (lN x y N):=hb.fdiv _;have bb:Bd 4000 (lN x y N*(lA s.a s.b N*lB s.c s.e N - lB s.a s.b N*lA s.c s.e N)):=Bd.mono (k9.mul ((k1.mul k5).sub (k2.mul k4))) (by decide);have hc:∀ t,CFd t (lN x y N*(lA s.a s.b N*lB s.c s.e N - lB s.a s.b N*lA s.c s.e N)):=λt=>⟨b0,br bb.log (by decide)⟩
  rw [<-ci,<-cj] at q;exists vm h1 h2 k1 k2 k4 k5 ?_;exists vm ho h2 k7 k8 k4 k5 ?_;walk_at "r"
  . refine vm h1 ho k1 k2 k7 k8 ?_;walk_at "r"
    . exact zC (by simp) λr H' s' e=>q r H' s' e
    exact hc _
  all_goals exact hc _
theorem K26(F:Fun K "common_bottom" "common_bottom" S15 f fd)(B:Bl mg)(o1x:Own P w K mg base 1 "common_divisor" ["one","other"] [] P1):FnOk P w K mg base CX0 2 f fd ["lengths"] (P27 K):=by
  refine F.okA C29 λcdv A outer s H vs Q E hr h=>?_;obtain @⟨d,k,p,L,rfl,hL,hlen,hNb,q⟩:=h;refine ⟨_,(za (ps_s 1 C29.nd zd) (za (zP PassesOwn.never rfl (zI (pv 0)) (pg_n 2 C29.nd) (zc (ps_s 1 C29.nd (zg zm (zg zM (pv 1) (ze o1x hr rfl (pa2 (pv 1) (pit 2)))) (pit 2))))) (zc (zh (pv 1))))),?_⟩;walk_at "s";exists y9 ?_;exists ⟨p,rfl,⟨_,SqL.of hL.l⟩,z6 (K:=K) (a:=p) (xs:=L.map Ln.v) (λi σ H'=>∃ (v:Option V),σ=[some (.ref p),some (.int (cbs ((L.take i).map λc=>c.s.z))),v]/\H'=H) ⟨none,rfl,rfl⟩ (λi σ H' _ z'=>by obtain ⟨_,_,e⟩:=z'; exact by rw [e]; exact SqL.of hL.l) ?_ ?_⟩
  . rintro i y σ H' hi ⟨v,rfl,rfl⟩;obtain ⟨c,rfl,hc,hic⟩:=Jb hi;have e0:=hL.at' c hc;have ok:=hL.ok c hc;have bz:=ok.bz;have z1:=ok.z1;obtain ⟨f1,fb⟩:=FJ hL.ok hNb i;have hn:0<Int.gcd (cbs ((L.take i).map λc=>c.s.z)) c.s.z:=cH _ (by lia);have gb:Bd 890 ((Int.gcd (cbs ((L.take i).map λc=>c.s.z)) c.s.z:Nat):Int):=uS (by lia) fb;have hcf:∀ t,CFd t ((Int.gcd (cbs ((L.take i).map λc=>c.s.z)) c.s.z:Nat):Int):=λt=>⟨by lia,br gb.log (by decide)⟩
    walk_at "r"
    . exact ⟨some (.ref c.p),by rw [Bc hic,FE]; rfl,rfl⟩
    all_goals exact hcf _
  . rintro σ H' ⟨v,rfl,rfl⟩;rw [aa,au];walk_at "r";exact q
theorem K27(F:Fun K "undoing" "undoing" S30 f fd)(B:Bl mg)(o68x:OwnM P w K mg base CX0 cs.Yard 1 "board_ever" ["self","name"] [] (P19 cs)):FnOk P w K mg base CX0 2 f fd ["yard","deed","names"] (P28 cs):=by
  refine F.okA C30 λcdv A outer s H vs Q E hr h=>?_;obtain @⟨y,d,tn,cl,ns,lg,p,a,e,n,c,m,m',rfl,hy,he,ha,hn,hc,q⟩:=h;refine ⟨_,(za (ps_s 3 C30.nd (pit 1)) (za (zx (zi zU (pv 3) zy (zk _)) (zc (zh (zo (pa3 zy (pil 2) (pil 2))))) zl) (za (zx (zi zU (pv 3) zy (zk _)) (zc (zh (zo (pa3 zy (pil 2) (pil 2))))) zl) (za (zx (zi zU (pv 3) zy (zk _)) (zc (zh (zo (pa3 zy (pil 2) (pe_i zT (vg o68x uG hr (pv 0) (pa1 (pit 1))) zd))))) zl) (za (zx (zi zU (pv 3) zy (zk _)) (zc (zh (zo (pa3 zy (pil 2) (pe_i zT (vg o68x uG hr (pv 0) (pa1 (pit 1))) zd))))) zl) (za (zx (zi zU (pv 3) zy (zk _)) (zc (zh (zo (pa3 zy (pil 2) (pit 1))))) zl) (za (zx (zi zU (pv 3) zy (zk _)) (zc (zh (zo (pa3 zy (pil 2) (pit 1))))) zl) (zc (zh (zo (pa2 zy (pil 2)))))))))))),?_⟩;walk_at "s";cases e with
  | cut al n1 s' =>
    obtain ⟨pq,h0,hs⟩:=he;cases al with
    | false =>
      have h0:H p=some (.tup [.str (Str.ofString "across"),.int n1,.ref pq]):=h0;have ha:H a=some (.lst [.int m,.int m']):=ha;exists if_d (λ_=>?_) (λc=>absurd rfl c);exists zr (by simp) λr H1 nr s1 e1=>?_;exact q r H1 s1 nr e1
    | true =>
      have h0:H p=some (.tup [.str (Str.ofString "along"),.int n1,.ref pq]):=h0;have ha:H a=some (.lst [.int m,.int m']):=ha;exists ifn ?_;exists if_d (λ_=>?_) (λc=>absurd rfl c);exists zr (by simp) λr H1 nr s1 e1=>?_;exact q r H1 s1 nr e1
  | glue al n1 m1 =>
    have h0:=he;cases al with
    | false =>
      have h0:H p=some (.tup [.str (Str.ofString "beside"),.int n1,.int m1]):=h0;have ha:H a=some (.lst [.int m]):=ha;exists ifn ?_;exists ifn ?_;exists if_d (λ_=>?_) (λc=>absurd rfl c);walk_at "r";have hn:n1=(n:Int):=hn;subst hn;refine ⟨_,_,_,rfl,hy.o,rfl,?_⟩;exists y6 rfl hy hc ?_;have hc':=hy.at' c (aq hc);have ht:=hc'.t;exists zr (by simp) λr H1 nr s1 e1=>?_;exact q r H1 s1 nr ⟨c.pw,e1,s1 _ _ hc'.w⟩
    | true =>
      have h0:H p=some (.tup [.str (Str.ofString "atop"),.int n1,.int m1]):=h0;have ha:H a=some (.lst [.int m]):=ha;exists ifn ?_;exists ifn ?_;exists ifn ?_;exists if_d (λ_=>?_) (λc=>absurd rfl c);walk_at "r";have hn:n1=(n:Int):=hn;subst hn;refine ⟨_,_,_,rfl,hy.o,rfl,?_⟩;exists y6 rfl hy hc ?_;have hc':=hy.at' c (aq hc);have ht:=hc'.t;exists zr (by simp) λr H1 nr s1 e1=>?_;exact q r H1 s1 nr ⟨c.ph,e1,s1 _ _ hc'.h⟩
  | shift al n1 k =>
    have h0:=he;cases al with
    | false =>
      have h0:H p=some (.tup [.str (Str.ofString "stack"),.int n1,.int k]):=h0;have ha:H a=some (.lst [.int m]):=ha;exists ifn ?_;exists ifn ?_;exists ifn ?_;exists ifn ?_;exists if_d (λ_=>?_) (λc=>absurd rfl c);exists zr (by simp) λr H1 nr s1 e1=>?_;exact q r H1 s1 nr e1
    | true =>
      have h0:H p=some (.tup [.str (Str.ofString "spread"),.int n1,.int k]):=h0;have ha:H a=some (.lst [.int m]):=ha;exists ifn ?_;exists ifn ?_;exists ifn ?_;exists ifn ?_;exists ifn ?_;exists if_d (λ_=>?_) (λc=>absurd rfl c);exists zr (by simp) λr H1 nr s1 e1=>?_;exact q r H1 s1 nr e1
  | turn n1 =>
    have h0:=he;have h0:H p=some (.tup [.str (Str.ofString "turn"),.int n1]):=h0;have ha:H a=some (.lst [.int m]):=ha;exists ifn ?_;exists ifn ?_;exists ifn ?_;exists ifn ?_;exists ifn ?_;exists ifn ?_;exists zr (by simp) λr H1 nr s1 e1=>?_;exact q r H1 s1 nr e1
theorem K28(F:Fun K "names_behind" "names_behind" S33 f fd)(B:Bl mg)(o22x:Own P w K mg base 1 "names_taken" ["deed"] [] P7)(o23x:Own P w K mg base 1 "count_put" ["deed"] [] P8):FnOk P w K mg base CX0 2 f fd ["many","plan"] P29:=by
  refine F.okA C31 λcdv A outer s H vs Q E hr h=>?_;obtain @⟨pl,ps,bs,es,d,tn,rfl,b1,b30,hpl,plen,hr',hw,q⟩:=h;refine ⟨_,(za (ps_s 2 C31.nd (z9 (uc rfl) rfl B.dict AW (pa1 (yl ["name"] [] rfl (ya rfl B.range (pa1 (pv 0))) (λ_ _ _ _ _=>(pg_n 0 (show List.Nodup (α:=Str) ["name"] by decide +kernel))) (λ_ _ _ _ _=>zJ) (λ_ _ _ _ _=>(zo (pa2 (pv 0) wO))))))) (za (ps_s 3 C31.nd (pv 0)) (za (zP PassesOwn.never rfl (zI (pv 1)) (pg_n 4 C31.nd) (za (zP PassesOwn.never rfl (zI (ze o22x hr rfl (pa1 (pv 4)))) (pg_n 5 C31.nd) (zc (zK (uP (pv 2) (pv 5) ⟨rfl,rfl,rfl,rfl⟩)))) (za (zP PassesOwn.never rfl (wp rfl B.range (pa2 (pv 3) (zg zD (pv 3) (ze o23x hr rfl (pa1 (pv 4)))))) (pg_n 5 C31.nd) (zc (xI (xA hr) (pv 2) (pv 5) wO rfl))) (zc (ps_s 3 C31.nd (zg zD (pv 3) (ze o23x hr rfl (pa1 (pv 4))))))))) (zc (zh (z9 (Eg rfl) rfl B.list uf (pa1 (pv 2)))))))),?_⟩;walk_at "s";exists wX ?_;exists ⟨_,rfl,by lia,by lia,λD hD=>yD (lo:=0) (n:=((bs.length:Nat):Int).toNat) (λi xs σ' H'=>E2 λ(v:Option V) (zs:List Addr)=>A6 (σ'=[v]) (xs=zs.map V.ref) (zs.length=i) (H' D=some (.lst xs)) (SameX D H H') (∀ (j:Nat) (p':Addr),zs[j]?=some p'->H' p'=some (.tup [.int (j:Int),.bl true]))) ⟨none,[],rfl,rfl,rfl,zf,λb o e n=>by rw [zj n]; exact e,by simp⟩ ?_ ?_⟩
  . rintro i xs σ' H' hi ⟨v,zs,rfl,rfl,hl,eD,sx,hzs⟩;exists zr (by simp) λr H5 hr s5 e5=>?_;walk_at "r";have hi':i<61:=by lia
    refine zp (s5 _ _ eD) (by rw [aa]; lia) λH6 x6 e6=>?_;have rD:r≠D:=zX e5 (s5 _ _ eD) (λz=>nomatch z);refine yr hi ⟨_,zs++[r],rfl,rfl,by rw [ah,hl]; rfl,by rw [aj]; exact e6,sx.trans ((SameX.of s5).trans x6),?_⟩;intro j p' hj;by_cases c:j<zs.length
    . rw [aM c] at hj;have:=hzs j p' hj;exact x6.tup (s5 _ _ this) (s5 _ _ eD)
    . rw [aG (by lia)] at hj;have hj1:=(af.mp hj).1;have j0:j - zs.length=0:=by simpa using hj1
      rw [j0] at hj;injection hj with hj;subst hj;have:j=i:=by lia
      subst this;have:=x6.tup e5 (s5 _ _ eD);simpa using this
  . rintro xs σ' H' ⟨v,zs,rfl,rfl,hl,eD,sx,hzs⟩;have s5:Same H H':=λb o e=>sx b o e (zb e hD);have hl:zs.length=bs.length:=by rw [hl]; lia
    exists EO (kvs:=nmK (List.range bs.length)) eD (by simp [nmK,hl]) (λi p' kv h1 h2=>?_) (Aq b8) (by simp [nmK]; lia) λl H6 nl s6 el=>?_
    . have h3:=hzs i p' h1;have hi:=(af.mp h1).1;rw [nmK,ag,cK (by lia)] at h2;injection h2 with h2;rw [<-h2];exact h3
    have hpl6:=(s5.trans s6) _ _ hpl;have npl:pl≠l:=zb (s5 _ _ hpl) nl;have hn0:H l=none:=Same.nn s5 nl;have oks:=zZ (vE b1 b30) hw;have hel:es.length<=150:=by rw [<-hr'.1]; exact plen
    exists y9 ?_;exists ⟨pl,rfl,⟨_,SqL.of hpl6⟩,z6 (K:=K) (a:=pl) (xs:=ps.map V.ref) (λi σ G=>E2 λv4 v5=>A3 (σ=[some (.int ((bs.length:Nat):Int)),some (.ref pl),some (.ref l),some (.int ((ends (As.sb bs) (es.take i)).k:Nat)),v4,v5]) (G l=some (.dK (nmK (ends (As.sb bs) (es.take i)).ns))) (∀ b o,H6 b=some o->b≠l->G b=some o)) ⟨_,_,rfl,el,λb o e _=>e⟩ (λi σ G _ z'=>by obtain ⟨_,_,_,_,z⟩:=z'; exact SqL.of (z _ _ hpl6 npl)) ?_ ?_⟩
    . rintro i x σ G hi ⟨v4,v5,rfl,elG,fr⟩;rw [ag] at hi;obtain ⟨p,hp',rfl⟩:=ao.mp hi;have hie:i<es.length:=by rw [<-hr'.1]; exact (af.mp hp').1
      obtain ⟨e,n,m,hx⟩:∃ e n m,es[i]?=some (e,n,m):=⟨_,_,_,ae hie⟩
      have st:=hw i _ hx;have sG:Same H G:=λb o z=>fr _ _ ((s5.trans s6) _ _ z) (zb z hn0);have he:=(hr'.2 i p _ hp' hx).same sG;have oki:=oks i (bn hie);have klb:=oki.kl;have nk:=xh (ends (As.sb bs) (es.take i)) (e,n,m);rw [yo hx];have hsn:(ends (As.sb bs) (es.take i)).next (e,n,m)=⟨(ends (As.sb bs) (es.take i)).k+e.puts,z8 (ends (As.sb bs) (es.take i)).ns e.names++List.range' (ends (As.sb bs) (es.take i)).k e.puts,((ends (As.sb bs) (es.take i)).next (e,n,m)).g⟩:=by
        show (⟨_,_,_⟩:As)=_;rw [Dd.puts_new];rfl
      rw [hsn];generalize ((ends (As.sb bs) (es.take i)).next (e,n,m)).g=gg at *
      generalize ends (As.sb bs) (es.take i)=s at *
      have pu:=puts_le e;have he:DdAt G p e:=he;exists y9 ?_;exists xc rfl he λa H2 s2 na ea=>?_;have el2:=s2 _ _ elG;have al:a≠l:=ca (zb elG na);exists ⟨a,rfl,⟨_,SqL.of ea⟩,z6 (K:=K) (a:=a) (xs:=e.names.map V.int) (λj σ G2=>E1 λv5=>A3 (σ=[some (.int ((bs.length:Nat):Int)),some (.ref pl),some (.ref l),some (.int (s.k:Nat)),some (.ref p),v5]) (G2 l=some (.dK (nmK (z8 s.ns (e.names.take j))))) (SameX l H2 G2)) ⟨_,rfl,el2,λb o e _=>e⟩ (λj σ G2 _ z'=>by obtain ⟨_,_,_,z⟩:=z'; exact SqL.of (z _ _ ea al)) ?_ ?_⟩
      . rintro j y σ G2 hj ⟨w5,rfl,elj,sxj⟩;rw [ag] at hj;obtain ⟨nm,hm',rfl⟩:=ao.mp hj;obtain ⟨n',hn',rfl⟩:=st.nms.names_in nm (aq hm');have hn':n'∈s.ns:=hn';have hnd:e.names.Nodup:=st.nms.nodup;have hni:(n':Int)∉e.names.take j:=by
          intro hh;obtain ⟨k,hk⟩:=de hh;have hk1:=(af.mp hk).1;rw [aJ] at hk1;rw [dg (by lia)] at hk;have:=(dF (i:=k) (by lia) hnd).mp (hk.trans hm'.symm)
          lia
        exists ⟨l,rfl,.inl ⟨_,.inl elj⟩,?_⟩;exists ⟨_,.inl (n':Int),_,elj,rfl,wV (mem_ndrop.mpr ⟨hn',hni⟩),?_⟩;refine ⟨_,rfl,?_,λb o e n=>by rw [zj n]; exact sxj b o e n⟩;rw [zf,vp,a8,hm',show ((some (n':Int)).toList)=[(n':Int)] from rfl,xu]
      rintro σ H3 ⟨w5,rfl,el3,sx3⟩;rw [aa,au] at el3;have fr3:∀ b o,G b=some o->b≠l->H3 b=some o:=λb o z n=>sx3 _ _ (s2 _ _ z) n;have he3:DdAt H3 p e:=he.tk λb xs z=>fr3 _ _ z (zX z elG (λq=>nomatch q));have dl:=Ch (xq (ms:=e.names) oki.up) (λn h=>oki.lt n (mem_ndrop.mp h).1);exists DH ?_;exists yd rfl he3 ?_;exists ⟨(s.k:Int),(s.k:Int)+(e.puts:Nat),rfl,⟨by lia,by lia,by lia,by lia⟩,yw (lo:=(s.k:Int)) (n:=((s.k:Int)+(e.puts:Nat) - (s.k:Int)).toNat) (λj σ G2=>E1 λv5=>A3 (σ=[some (.int ((bs.length:Nat):Int)),some (.ref pl),some (.ref l),some (.int (s.k:Nat)),some (.ref p),v5]) (G2 l=some (.dK (nmK (z8 s.ns e.names++List.range' s.k j)))) (SameX l H3 G2)) ⟨_,rfl,by simpa using el3,λb o e _=>e⟩ ?_ ?_⟩
      . rintro j σ G2 hj ⟨w6,rfl,elj,sxj⟩;walk_at "r";rw [show (s.k:Int)+(j:Int)=((s.k+j:Nat):Int) by lia];refine ⟨l,_,rfl,DPut.k (k:=.inl ((s.k+j:Nat):Int)) elj (by simp only [nmK,aa,ah,dq]; exact aE (show _<1000 by lia) (by decide +kernel)),?_⟩;refine ⟨_,rfl,?_,λb o e n=>by rw [zj n]; exact sxj b o e n⟩;rw [zf,wR _ (wB (λn hn=>?_))]
        . rw [fG,<-bB];simp [nmK]
        . rcases ax.mp hn with hn | hn
          . have:=oki.lt n (mem_ndrop.mp hn).1
            lia
          . have:=cD.mp hn
            lia
      rintro σ H4 ⟨w6,rfl,el4,sx4⟩;rw [show ((s.k:Int)+(e.puts:Nat) - (s.k:Int)).toNat=e.puts by lia] at el4;have he4:DdAt H4 p e:=he3.tk λb xs z=>sx4 _ _ z (zX z el3 (λq=>nomatch q));exists yd rfl he4 ?_;walk_at "r";exact ⟨_,_,by rw [show (s.k:Int)+(e.puts:Nat)=((s.k+e.puts:Nat):Int) by lia],el4,λb o z n=>sx4 _ _ (fr3 _ _ (fr _ _ z n) n) n⟩
    rintro σ G ⟨v4,v5,rfl,elG,fr⟩;rw [aa,hr'.1,au] at elG;have okN:=oks es.length (ai _);rw [au] at okN;have nlN:=okN.nl;exists J3 (ns:=(ends (As.sb bs) es).ns.map λn:Nat=>(n:Int)) elG (by simp [nmK]) (by simp only [nmK,aa]; lia) λr H7 nr s7 e7=>?_;exact q r H7 (λb o z=>s7 _ _ (fr _ _ ((s5.trans s6) _ _ z) (zb z hn0))) (by
      cases z:H r with
      | none=>rfl
      | some o=>rw [fr _ _ ((s5.trans s6) _ _ z) (zb z hn0)] at nr; cases nr) e7
theorem K29(F:Fun K "plus" "plus" S36 f fd)(B:Bl mg)(o1x:Own P w K mg base 1 "common_divisor" ["one","other"] [] P1):FnOk P w K mg base CX0 2 f fd ["one","other"] (P30 K):=by
  refine F.okA C32 λcdv A outer s H vs Q E hr h=>?_;obtain ⟨p,p',x,y,rfl,h1,h2,⟨⟨b1,b2⟩,⟨b3,b4⟩⟩,q⟩:=h;refine ⟨_,(za (ps_s 2 C32.nd (ze o1x hr rfl (pa2 (pit 0) (pit 1)))) (za (ps_s 3 C32.nd (zg zD (zg zm (pit 0) (zg zS (pit 1) (pv 2))) (zg zm (pit 1) (zg zS (pit 0) (pv 2))))) (za (ps_s 4 C32.nd (ze o1x hr rfl (pa2 (pv 3) (pv 2)))) (zc (zh (zo (pa2 (zg zS (pv 3) (pv 4)) (zg zm (zg zS (pit 0) (pv 2)) (zg zS (pit 1) (pv 4)))))))))),?_⟩;walk_at "s";have hs:(0:Int)<(Int.gcd x.den y.den:Nat):=yk (a:=(x.den:Int)) (den_pos y);have hl:(0:Int)<(Int.gcd (plT x.num x.den y.num y.den) (Int.gcd x.den y.den:Nat):Nat):=yk (by lia);have ks:Bd 8000 ((Int.gcd x.den y.den:Nat):Int):=BX (xD y) b4;have kl:Bd 8000 ((Int.gcd (plT x.num x.den y.num y.den) (Int.gcd x.den y.den:Nat):Nat):Int):=BX (by lia) ks;have hcs:∀ z,CFp z ((Int.gcd x.den y.den:Nat):Int):=λz=>⟨hs,br ks.log (by decide)⟩
  have hcl:∀ z,CFp z ((Int.gcd (plT x.num x.den y.num y.den) (Int.gcd x.den y.den:Nat):Nat):Int):=λz=>⟨hl,br kl.log (by decide)⟩
  unfold plT at hcl;have c1:=hcs y.den;have c2:=hcl y.den;walk_at "r";exact zC (by simp) λr H' s e=>q r H' s (HB e)
theorem K30(F:Fun K "times" "times" S37 f fd)(B:Bl mg)(o1x:Own P w K mg base 1 "common_divisor" ["one","other"] [] P1):FnOk P w K mg base CX0 2 f fd ["one","other"] P31:=by
  refine F.okA C33 λcdv A outer s H vs Q E hr h=>?_;obtain ⟨p,p',x,y,rfl,h1,h2,⟨⟨b1,b2⟩,⟨b3,b4⟩⟩,q⟩:=h;refine ⟨_,(za (ps_s 2 C33.nd (ze o1x hr rfl (pa2 (pit 0) (pit 1)))) (za (ps_s 3 C33.nd (ze o1x hr rfl (pa2 (pit 1) (pit 0)))) (zc (zh (zo (pa2 (zg zm (zg zS (pit 0) (pv 2)) (zg zS (pit 1) (pv 3))) (zg zm (zg zS (pit 0) (pv 3)) (zg zS (pit 1) (pv 2))))))))),?_⟩;walk_at "s";have hs:(0:Int)<(Int.gcd x.num y.den:Nat):=yk (den_pos y);have hl:(0:Int)<(Int.gcd y.num x.den:Nat):=yk (den_pos x);have ks:Bd 8000 ((Int.gcd x.num y.den:Nat):Int):=BX (xD y) b4;have kl:Bd 8000 ((Int.gcd y.num x.den:Nat):Int):=BX (xD x) b2;have hcs:∀ z,CFp z ((Int.gcd x.num y.den:Nat):Int):=λz=>⟨hs,br ks.log (by decide)⟩
  have hcl:∀ z,CFp z ((Int.gcd y.num x.den:Nat):Int):=λz=>⟨hl,br kl.log (by decide)⟩
  have c1:=hcs y.den;have c2:=hcl y.den;walk_at "r";exact zC (by simp) λr H' s e=>q r H' s (Fl e)
theorem dig{ds:List Int}(hl:(ds.length:Int)=m)(hd:∀ x∈ds,0<=x/\x<1000000)(i:Int)(h0:0<=i)(h1:i<m):∃ x:Int,atI (ds.map V.int) i=some (.int x)/\0<=x/\x<1000000:=by
  obtain ⟨x,hx,e⟩:=BM (xs:=ds) (i:=i) h0 (by lia);exact ⟨x,e,hd x hx⟩
theorem K31(F:Fun K "_law_digits" "_law_digits" S45 f fd)(B:Bl mg)(o45x:Own P w K mg base 1 "_law_great" ["_law_cell_here","_law_k"] [] P14):FnOk P w K mg base CX0 2 f fd ["_law_cell_here","_law_many"] P32:=by
  refine F.okA C34 λcdv A outer s H vs Q E hr h=>?_;obtain ⟨c,m,rfl,hc,⟨m0,m1⟩,q⟩:=h;refine ⟨_,(za (ps_s 2 C34.nd (zH yz)) (za (ps_s 3 C34.nd (zg zS (pv 0) zd)) (za (zP PassesOwn.never rfl (ya rfl B.range (pa1 (pv 1))) (pg_n 4 C34.nd) (zc (zx (PW.pt (xa (zi zU (zg zG (pv 0) zd) zd (zk _)) (yB (zi wy (pv 3) zd (zk _))))) (za (zK (xC aN aQ aR zB (pv 2) (pa1 (zg zG (pv 3) (zg Ar zd zd))))) (zc (ps_s 3 C34.nd (zg zS (pv 3) (zg Ar zd zd))))) (zc (zK (xC aN aQ aR zB (pv 2) (pa1 (zg zG (ze o45x hr rfl (pa2 (pv 0) (pv 4))) (zg Ar zd zd))))))))) (zc (zh (pv 2)))))),?_⟩;walk_at "s";have e6:(10:Int) ^ (6:Int).toNat=1000000:=by decide +kernel
  exists zv (by simp) λl H1 hl s1 e1=>?_;exists wx ?_;exists ⟨m,rfl,by lia,by lia,yw (lo:=0) (n:=m.toNat) (λi σ H'=>E3 λ(n:Int) (v:Option V) (ds:List Int)=>A6 (σ=[some (.int c),some (.int m),some (.ref l),some (.int n),v]) (SameX l H1 H') (H' l=some (.lst (ds.map V.int))) (ds.length=i) ((∀ x∈ds,0<=x/\x<1000000)) (Bd 1048576 n)) ⟨_,_,[],rfl,λb o e _=>e,e1,rfl,λx hx=>absurd hx (by simp),AK hc⟩ ?_ ?_⟩
  . rintro i σ H' hi ⟨n,v,ds,rfl,sx,el,hlen,hds,nb⟩;exists if_d (λc1=>?_) (λc1=>?_)
    . exists if_d (λc2=>?_) (λc2=>?_)
      . walk_at "r";rw [e6];refine zp el (by rw [aa]; lia) λH2 sx2 e2=>?_;walk_at "r";rw [e6];refine ⟨n / 1000000,_,ds++[n % 1000000],rfl,sx.trans sx2,by rw [aj]; exact e2,by rw [ah,hlen]; rfl,λx hx=>?_,AK nb⟩;rcases ax.mp hx with h|h
        . exact hds x h
        . have:x=n % 1000000:=by simpa using h
          subst this
          lia
      . exists yg rfl hc (xr 64 (by lia) (by lia) (by decide)) λr r0 r1=>?_;walk_at "r";rw [e6];refine zp el (by rw [aa]; lia) λH2 sx2 e2=>?_;exists ⟨n,_,ds++[r % 1000000],rfl,sx.trans sx2,by rw [aj]; exact e2,by rw [ah,hlen]; rfl,λx hx=>?_,nb⟩;rcases ax.mp hx with h|h
        . exact hds x h
        . have:x=r % 1000000:=by simpa using h
          subst this
          lia
    . exists yg rfl hc (xr 64 (by lia) (by lia) (by decide)) λr r0 r1=>?_;walk_at "r";rw [e6];refine zp el (by rw [aa]; lia) λH2 sx2 e2=>?_;exists ⟨n,_,ds++[r % 1000000],rfl,sx.trans sx2,by rw [aj]; exact e2,by rw [ah,hlen]; rfl,λx hx=>?_,nb⟩;rcases ax.mp hx with h|h
      . exact hds x h
      . have:x=r % 1000000:=by simpa using h
        subst this
        lia
  . rintro σ H' ⟨n,v,ds,rfl,sx,el,hlen,hds,nb⟩;walk_at "r";exact q l H' ds (λb o e=>sx b o (s1 b o e) (zb e hl)) el (by lia) hds
theorem K32(F:Fun K "_law_lowest" "_law_lowest" S47 f fd)(B:Bl mg)(o47x:Own P w K mg base 1 "_law_divisor" ["_law_one","_law_other"] [] P15):FnOk P w K mg base CX0 2 f fd ["_law_a","_law_b","_law_n"] P33:=by
  refine F.okA C35 λcdv A outer s H vs Q E hr h=>?_;obtain @⟨a,b,n,rfl,hn,hb,q⟩:=h;refine ⟨_,(za (ps_s 3 C35.nd (ze o47x hr rfl (pa2 (ze o47x hr rfl (pa2 (pv 0) (pv 1))) (pv 2)))) (za (wH (zx (zi uu (pv 2) zd (zk _)) (zc (ps_s 3 C35.nd (zg yP zd (pv 3)))) zl)) (zc (zh (zo (pa3 (zg zM (pv 0) (pv 3)) (zg zM (pv 1) (pv 3)) (zg zM (pv 2) (pv 3)))))))),?_⟩;walk_at "s";have hc:∀ x,CFd x (gd a b n):=λx=>⟨Ij hn,br (HZ hn hb).log (by decide)⟩
  exists tN (T:=λσ' H'=>σ'=[some (.int a),some (.int b),some (.int n),some (.int (gd a b n))]/\H'=H) ?_ ?_
  . exists if_d (λc=>?_) (λc=>?_)
    . exists ⟨?_,rfl⟩;have e:(0:Int) - ((Int.gcd (Int.gcd a b) n:Nat):Int)=gd a b n:=by
        unfold gd;rw [h7 c,IH]
        lia
      rw [e]
    . exists ⟨?_,rfl⟩;have e:((Int.gcd (Int.gcd a b) n:Nat):Int)=gd a b n:=by
        unfold gd;rw [h8 c,IH]
      rw [e]
  rintro σ' H' ⟨rfl,rfl⟩;walk_at "r"
  . exact zC (by simp) λp H' s e=>q p H' s e
  all_goals exact hc _
theorem K33(F:Fun K "_law_root" "_law_root" S52 f fd)(B:Bl mg)(o45x:Own P w K mg base 1 "_law_great" ["_law_cell_here","_law_k"] [] P14):FnOk P w K mg base CX0 2 f fd ["_law_cell_here","_law_k"] P34:=by
  refine F.okA C36 λcdv A outer s H vs Q E hr h=>?_;obtain @⟨c,k,rfl,hc,hk,q⟩:=h;refine ⟨_,(za (uD (i:=2) C36.nd rfl rfl ["_law_d"] [] rfl (wp rfl B.range (pa2 zd zd)) (λ_ _ _ _ _=>(pg_n 0 (show List.Nodup (α:=Str) ["_law_d"] by decide +kernel))) (λ_ _ _ _ _=>(Bs (zi (r:=rIn K true) tD (pv 0) (zo (zu zd (zu zd (zu zd (zu zd (zu zd (zu zd (zu zd (zu zd yz))))))))) (by with_unfolding_all rfl)))) (λ_ _ _ _ _=>(pv 0))) (zc (zh (pe_i zE (pv 2) (zg zG (zg zS (ze o45x hr rfl (pa2 (pv 0) (pv 1))) zd) (zn zt rfl B.len aY (pa1 (pv 2)))))))),?_⟩;walk_at "s";exists BS ?_;exists ⟨2,100,rfl,by decide,λD hD=>yD (λi xs σ' H'=>(∃ v,σ'=[v])/\xs=(yH i).map V.int/\H' D=some (.lst xs)/\SameX D H H') ⟨⟨none,rfl⟩,rfl,zf,λb o e n=>by rw [zj n]; exact e⟩ ?_ ?_⟩
  . rintro i xs σ' H' hi ⟨⟨v,rfl⟩,rfl,eD,sx⟩;have hi:i<98:=hi;exists zC (by simp) λp H2 s2 e2=>?_;refine FL e2 rfl rfl ?_;rw [Ib];walk_at "r";have hlen:(yH i).length<=i:=bK (eI ..) (by simp);by_cases hs:sqs.contains ((2:Int)+(i:Int))=true
    . rw [hs];exists yr hi ⟨⟨_,rfl⟩,rfl,?_,sx.trans (s2.sameX D)⟩;rw [wJ,h7 hs,dS];exact s2 _ _ eD
    . rw [Bool.not_eq_true _ |>.mp hs];exists zp (s2 _ _ eD) (by rw [aa]; lia) λH3 sx3 e3=>?_;refine yr hi ⟨⟨_,rfl⟩,rfl,?_,(sx.trans (s2.sameX D)).trans sx3⟩;rw [wJ,h8 hs,aj];exact e3
  . rintro xs σ' H' ⟨_,rfl,eD,sx⟩;have eD:H' D=some (.lst ((yH 98).map V.int)):=eD;have s':Same H H':=λb o e=>sx b o e (zb e hD);exists yg rfl hc hk λr r0 r1=>?_;walk_at "r";have hl:((List.map V.int (yH 98)).length:Int)=90:=by rw [aa,tJ]; rfl
    rw [hl];walk_at "r";obtain ⟨d,hd,e⟩:=BM (xs:=yH 98) (i:=r / 7 % 90) (by lia) (by rw [tJ]; lia);exact zw eD e (q d H' (Ck (ai _) hd) s')
theorem K34(F:Fun K "check_names" "Yard.check_names" S65 f fd)(B:Bl mg)(X:Xs K mg cs)(o0x:Own P w K mg base 1 "is_whole" ["thing"] [] P0):FnOk P w K mg base CX0 2 f fd ["self","names"] (P35 cs):=by
  refine F.okA C37 λcdv A outer s H vs Q E hr h=>?_;obtain @⟨y,d,tn,cl,ns,lg,a,ms,rfl,hy,ha,hm,hn,hl,q⟩:=h;refine ⟨_,(za (zP PassesOwn.never rfl (zI (pv 1)) (pg_n 2 C37.nd) (zc (zx (PW.pt (tK (wn (yM (ze o0x hr rfl (pa1 (pv 2))))) (vR (IX (Es (xA hr) (pv 2) (yc (K:=K) rfl (pv 0) rfl)))))) (zc yN) zl))) (zc (zx (PW.pt (xa (zi zU (zn zt rfl B.len aY (pa1 (pv 1))) zd (zk _)) (yB (zi zU (pil 1) (pil 1) (zk _))))) (zc yN) zl))),?_⟩;walk_at "s";refine Ll ?_;refine y9 ?_;exists ⟨a,rfl,⟨_,SqL.of ha⟩,z6 (K:=K) (a:=a) (xs:=ms.map V.int) (λi σ H'=>∃ v,σ=[some (.ref y.p),some (.ref a),v]/\H'=H) ⟨none,rfl,rfl⟩ (λi σ H' _ z'=>by obtain ⟨_,_,e⟩:=z'; exact by rw [e]; exact SqL.of ha) ?_ ?_⟩
  . rintro i x σ H' hi ⟨v,rfl,rfl⟩;obtain ⟨m,hm',rfl⟩:=aZ.mp (aq hi);obtain ⟨n,hn',rfl⟩:=hm m hm';exists ⟨_,_,_,_,_,rfl,hy.o,X.c_Yard,X.n_Yard_lying,rfl,?_⟩;refine ⟨y.l,_,rfl,DGet.k (k:=.inl (n:Int)) hy.l,?_⟩;rw [wV hn',show (!(some (V.bl true)).isSome)=false from rfl];walk_at "r";exact ⟨_,rfl,rfl⟩
  . rintro σ H' ⟨v,rfl,rfl⟩;walk_at "r";rcases ms with _|⟨m1,_|⟨m2,_|⟨m3,ms⟩⟩⟩
    . refine if_d (λc=>absurd c (by simp)) (λ_=>?_);walk_at "r";exact q
    . refine if_d (λc=>absurd c (by simp)) (λ_=>?_);walk_at "r";exact q
    . have ha:H' a=some (.lst [.int m1,.int m2]):=ha;refine if_d (λ_=>?_) (λc=>absurd (by simp) c);walk_at "r";have ne:m1≠m2:=by simpa using hn
      refine if_d (λc=>absurd c ne) (λ_=>?_);walk_at "r";exact q
    . simp at hl
theorem K35(F:Fun K "parts" "parts" S5 f fd)(B:Bl mg)(o4x:Own P w K mg base 2 "fraction" ["top","bottom"] [] P23):FnOk P w K mg base CX0 3 f fd ["one"] P36:=by
  refine F.okA C38 λcdv A outer s H vs Q E hr h=>?_;obtain @⟨p,a,b,n,rfl,h1,hn,hb,q⟩:=h;refine ⟨_,(zc (zh (zo (pa2 (ze o4x hr rfl (pa2 (pit 0) (pit 0))) (ze o4x hr rfl (pa2 (pit 0) (pit 0))))))),?_⟩;walk_at "s";exists ud rfl hn hb λr1 H1 s1 e1=>?_;have h1':=s1 _ _ h1;exists ud rfl hn hb λr2 H2 s2 e2=>?_;walk_at "r";exact zC (by simp) λr H' s e=>q r r1 r2 H' ((s1.trans s2).trans s) e (s _ _ (s2 _ _ e1)) (s _ _ e2)
theorem K36(F:Fun K "taken" "taken" S7 f fd)(B:Bl mg)(o6x:Own P w K mg base 2 "added" ["one","other"] [] (P24 K)):FnOk P w K mg base CX0 3 f fd ["one","other"] P37:=by
  refine F.okA C39 λcdv A outer s H vs Q E hr h=>?_;obtain ⟨p,p',x,y,z,x',y',z',rfl,h1,h2,n1,n2,k1,k2,⟨b1,b2,b3,b4,b5,b6⟩,q⟩:=h;refine ⟨_,(zc (zh (ze o6x hr rfl (pa2 (pv 0) (zo (pa3 (uN wa (pit 1)) (uN wa (pit 1)) (pit 1))))))),?_⟩;walk_at "s";exists zC (by simp) λt H2 s2 e2=>?_;walk_at "r";exact DC (K:=K) (SqT.of (s2 _ _ h1)) e2 n1 n2 k1 (by rw [KF]; exact k2) b1 b2 b3 b4.neg b5.neg b6 λr H' s' e'=>q r H' (s2.trans s') e'
theorem K37(F:Fun K "timed" "timed" S8 f fd)(B:Bl mg)(o3x:Own P w K mg base 2 "length" ["a","b","n"] [] P22):FnOk P w K mg base CX0 3 f fd ["d","one","other"] P38:=by
  refine F.okA C40 λcdv A outer s H vs Q E hr h=>?_;obtain ⟨d,p,p',x,y,z,x',y',z',rfl,h1,h2,hd,⟨b1,b2,b3,b4,b5,b6⟩,n1,n2,q⟩:=h;refine ⟨_,(zc (zh (ze o3x hr rfl (pa3 (zg zD (zg zm (pit 1) (pit 2)) (zg zm (zg zm (pv 0) (pit 1)) (pit 2))) (zg zD (zg zm (pit 1) (pit 2)) (zg zm (pit 1) (pit 2))) (zg zm (pit 1) (pit 2)))))),?_⟩;walk_at "s";walk_at "r";exact yR rfl (aH n1 n2) (Bd.mono (b3.mul b6) (by decide)) q (LC hd b1 b2 b4 b5 (by decide)) (Lb b1 b2 b4 b5 (by decide))
theorem K38(F:Fun K "first_base" "first_base" S11 f fd)(B:Bl mg)(o3x:Own P w K mg base 2 "length" ["a","b","n"] [] P22):FnOk P w K mg base CX0 3 f fd ["d","n"] P39:=by
  refine F.okA C41 λcdv A outer s H vs Q E hr h=>?_;obtain @⟨d,N,rfl,hN,hb,q⟩:=h;refine ⟨_,(zc (zh (zo (pa2 (ze o3x hr rfl (pa3 zd zd (pv 1))) (ze o3x hr rfl (pa3 zd zd (pv 1))))))),?_⟩;walk_at "s";exists yR rfl (by lia) (hb.mono (by decide)) λr1 H1 s1 e1=>?_;exists yR rfl (by lia) (hb.mono (by decide)) λr2 H2 s2 e2=>?_;walk_at "r";exact zC (by simp) λp H' s e=>q p r1 r2 H' ((s1.trans s2).trans s) ⟨e,s _ _ (s2 _ _ e1),s _ _ e2⟩
theorem K39(F:Fun K "is_length" "is_length" S20 f fd)(B:Bl mg)(o3x:Own P w K mg base 2 "length" ["a","b","n"] [] P22)(o0x:Own P w K mg base 1 "is_whole" ["thing"] [] P0):FnOk P w K mg base CX0 3 f fd ["thing"] P40:=by
  refine F.okA C42 λcdv A outer s H vs Q E hr h=>?_;obtain @⟨p,s,rfl,h1,ok,q⟩:=h;refine ⟨_,(za (zx (PW.pt (tK (wn (yM (zn yG rfl B.isinstance yn (pa2 (pv 0) (vk (v:=.ty "tuple") rfl B.tuple uQ rfl))))) (vR (zi Ay (zn zt rfl B.len aY (pa1 (pv 0))) zd (zk _))))) (zc (zh wO)) zl) (za (zx (PW.pt (tK (wn (yM (zn (Dv rfl) rfl B.all Jf (pa1 (yl ["number"] [] rfl (GE (pv 0)) (λ_ _ _ _ _=>(pg_n 0 (show List.Nodup (α:=Str) ["number"] by decide +kernel))) (λ_ _ _ _ _=>zJ) (λ_ _ _ _ _=>(ze o0x hr rfl (pa1 (pv 0))))))))) (vR (zi uu (pit 0) zd (zk _))))) (zc (zh wO)) zl) (zc (zh (zW (BI hr.units) (ze o3x hr rfl (pa3 (pit 0) (pit 0) (pit 0))) (pv 0) (zk _)))))),?_⟩;walk_at "s";have z1:=ok.z1;exists vO (by rfl) ?_;exists EF ?_;exists ⟨p,rfl,⟨_,SqT.of h1⟩,λD hD=>Bu (ys:=[V.int s.x,V.int s.y,V.int s.z]) (λi ys σ' H'=>(∃ v,σ'=[v])/\ys=([V.int s.x,V.int s.y,V.int s.z].take i).map (λ_=>V.bl true)/\H' D=some (.lst ys)/\SameX D H H') ⟨⟨none,rfl⟩,rfl,zf,λb o e n=>by rw [zj n]; exact e⟩ (λi ys σ' H' _ p=>SqT.of (p.2.2.2 _ _ h1 (zb h1 hD))) ?_ ?_⟩
  . rintro i x ys σ' H' hi ⟨⟨v,rfl⟩,rfl,eD,sx⟩;obtain ⟨n,rfl⟩:∃ n:Int,x=.int n:=by
      have:=aq hi;simp only [aK,List.not_mem_nil,or_false] at this;rcases this with rfl|rfl|rfl <;> exact ⟨_,rfl⟩
    have hi3:=(af.mp hi).1;exists zp eD (by rw [aa,aJ]; simp only [ar,aP] at hi3 ⊢; lia) λH3 sx3 e3=>?_;refine yr hi3 ⟨⟨_,rfl⟩,rfl,?_,sx.trans sx3⟩;rw [a8,hi,aj];exact e3
  . rintro ys σ' H' ⟨_,rfl,eD,sx⟩;have s':Same H H':=λb o e=>sx b o e (zb e hD);have h1':=s' _ _ h1;have eD':H' D=some (.lst ([true,true,true].map V.bl)):=eD;exists Iz (SqL.of eD') ?_;rw [show ([true,true,true]:List Bool).all id=true from rfl];exists if_d (λc=>absurd c (by lia)) (λ_=>?_);exists yR rfl ok.ne (ok.bz.mono (by decide)) (λr H2 s2 e2=>?_) (ok.bx.mono (by decide)) (ok.by'.mono (by decide));exists Lk e2 (s2 _ _ h1') ?_;exact bl_q (iu (FA ok.z1 ok.g)) (q H2 (s'.trans s2))
theorem K40(F:Fun K "glued_beside" "glued_beside" S26 f fd)(B:Bl mg)(o6x:Own P w K mg base 2 "added" ["one","other"] [] (P24 K)):FnOk P w K mg base CX0 3 f fd ["one","other"] P41:=by
  refine F.okA C43 λcdv A outer s H vs Q E hr h=>?_;obtain @⟨c,c',rfl,hc,hc',eh,okw,oks,q⟩:=h;refine ⟨_,(za (zx (zi (EM hr.units) (pit 0) (pit 1) (zk _)) (zc yN) zl) (zc (zh (zo (pa2 (ze o6x hr rfl (pa2 (pit 0) (pit 1))) (pit 0)))))),?_⟩;walk_at "s";have ct:=hc.t;have ct':=hc'.t;have cw:H c.pw=some (.tup [.int c.b.w.x,.int c.b.w.y,.int c.b.w.z]):=hc.w;have cw':H c'.pw=some (.tup [.int c'.b.w.x,.int c'.b.w.y,.int c'.b.w.z]):=hc'.w;have ch:H c.ph=some (.tup [.int c.b.h.x,.int c.b.h.y,.int c.b.h.z]):=hc.h;have ch':H c'.ph=some (.tup [.int c'.b.h.x,.int c'.b.h.y,.int c'.b.h.z]):=hc'.h;exists LO ch ch' ?_;rw [eh];exists A9 (λc=>absurd ⟨rfl,rfl,rfl⟩ c) (λ_=>?_);exists DC (K:=K) (SqT.of cw) cw' okw.z1 oks.z1 okw.g oks.g (okw.bx.mono (by decide)) (okw.by'.mono (by decide)) (okw.bz.mono (by decide)) (oks.bx.mono (by decide)) (oks.by'.mono (by decide)) (oks.bz.mono (by decide)) λr2 H2 s2 e2=>?_;have ct2:=s2 _ _ ct;exists zr (by simp) λr3 H3 hr3 s3 e3=>?_;exact q ⟨r3,r2,c.ph,⟨adS c.b.w c'.b.w,c.b.h⟩⟩ H3 (s2.trans s3) (Same.nn s2 hr3) ⟨e3,s3 _ _ e2,s3 _ _ (s2 _ _ hc.h)⟩ rfl
theorem K41(F:Fun K "stacked" "stacked" S27 f fd)(B:Bl mg)(o3x:Own P w K mg base 2 "length" ["a","b","n"] [] P22):FnOk P w K mg base CX0 3 f fd ["one","many"] P42:=by
  refine F.okA C44 λcdv A outer s H vs Q E hr h=>?_;obtain @⟨c,k,rfl,hc,k1,bk,okw,okh,q⟩:=h;refine ⟨_,(za (ps_s 2 C44.nd (pit 0)) (za (ps_s 3 C44.nd (pit 0)) (zc (zh (zo (pa2 (ze o3x hr rfl (pa3 (pit 2) (pit 2) (zg zm (pit 2) (pv 1)))) (ze o3x hr rfl (pa3 (zg zm (pit 3) (pv 1)) (zg zm (pit 3) (pv 1)) (pit 3))))))))),?_⟩;walk_at "s";have ct:=hc.t;have cw:H c.pw=some (.tup [.int c.b.w.x,.int c.b.w.y,.int c.b.w.z]):=hc.w;have ch:H c.ph=some (.tup [.int c.b.h.x,.int c.b.h.y,.int c.b.h.z]):=hc.h;have m1:IntMulOk c.b.w.z k:=Bd.ok okw.bz bk (by decide +kernel);have m2:IntMulOk c.b.h.x k:=Bd.ok okh.bx bk (by decide +kernel);have m3:IntMulOk c.b.h.y k:=Bd.ok okh.by' bk (by decide +kernel);have bz:Bd 3124 (c.b.w.z*k):=okw.bz.mul bk;have bx:Bd 3424 (c.b.h.x*k):=okh.bx.mul bk;have by2:Bd 3424 (c.b.h.y*k):=okh.by'.mul bk;exists yR rfl (aH okw.ne (by lia)) (bz.mono (by decide)) (λr1 H1 s1 e1=>?_) (okw.bx.mono (by decide)) (okw.by'.mono (by decide));have ch1:=s1 _ _ ch;exists yR rfl okh.ne (okh.bz.mono (by decide)) (λr2 H2 s2 e2=>?_) (bx.mono (by decide)) (by2.mono (by decide));exists zr (by simp) λr3 H3 hr3 s3 e3=>?_;refine q ⟨r3,r1,r2,⟨shS c.b.w 1 k,shS c.b.h k 1⟩⟩ H3 ((s1.trans s2).trans s3) (Same.nn (s1.trans s2) hr3) ⟨e3,?_,?_⟩ rfl
  . have:=s3 _ _ (s2 _ _ e1);simpa only [SdAt,shS,cJ] using this
  . have:=s3 _ _ e2;simpa only [SdAt,shS,cJ] using this
theorem K42(F:Fun K "followed" "followed" S35 f fd)(B:Bl mg)(o33x:Own P w K mg base 2 "names_behind" ["many","plan"] [] P29)(o34x:Own P w K mg base 1 "with_names" ["deed","names"] [] P11)(o23x:Own P w K mg base 1 "count_put" ["deed"] [] P8):FnOk P w K mg base CX0 3 f fd ["many","plan","more"] P43:=by
  refine F.okA C45 λcdv A outer s H vs Q E hr h=>?_;obtain @⟨pl,ml,ps,ms,bs,F,es,fs,d,tn,rfl,b1,b30,hpl,plen,hr',hw,hml,mlen,hm,eF,hwF,q⟩:=h;refine ⟨_,(za (ps_s 3 C45.nd (ze o33x hr rfl (pa2 (pv 0) (pv 1)))) (za (ps_s 4 C45.nd (zg zD (pv 0) (zn (t8 rfl) rfl B.sum GJ (pa1 (yl ["deed"] [] rfl (zI (pv 1)) (λ_ _ _ _ _=>(pg_n 0 (show List.Nodup (α:=Str) ["deed"] by decide +kernel))) (λ_ _ _ _ _=>zJ) (λ_ _ _ _ _=>(ze o23x hr rfl (pa1 (pv 0))))))))) (za (ps_s 5 C45.nd (z9 uW rfl B.list uf (pa1 (pv 1)))) (za (zP PassesOwn.never rfl (zI (pv 2)) (pg_n 6 C45.nd) (za (zK (xC aN aQ aR zB (pv 5) (pa1 (ze o34x hr rfl (pa2 (pv 6) (pv 3)))))) (za (zP PassesOwn.never rfl (wp rfl B.range (pa2 (pv 4) (zg zD (pv 4) (ze o23x hr rfl (pa1 (pv 6)))))) (pg_n 7 C45.nd) (zc (zK (xC aN aQ aR zB (pv 3) (pa1 (pv 7)))))) (zc (ps_s 4 C45.nd (zg zD (pv 4) (ze o23x hr rfl (pa1 (pv 6))))))))) (zc (zh (pv 5))))))),?_⟩;walk_at "s";have okN:=zZ (vE b1 b30) hw es.length (ai _);rw [au] at okN;have klN:=okN.kl;have hel:es.length<=150:=by rw [<-hr'.1]; exact plen
  have hfl:fs.length<=150:=by rw [<-hm.1]; exact mlen
  have l0:=led0 okN.up okN.lt eF;have F1:1<=F.length:=by
    rw [<-eF,aa];exact bA.mpr okN.ne
  have okF:=zZ (vE F1 (ai _)) hwF;have lF:F.length<=180:=by
    rw [<-eF,aa];have:=okN.nl
    lia
  exists vG rfl b1 b30 hpl plen hr' hw λa H1 s1 na ea=>?_;have e0:((ends (As.sb bs) es).ns.map λn:Nat=>(n:Int)).map V.int=nmI (nmr (ends (As.sb bs) es)) F.length:=by
    unfold nmI;congr 1;rw [l0.ns,gQ];rfl
  rw [e0] at ea;have hpl1:=s1 _ _ hpl;exists yK ?_;exists ⟨pl,rfl,⟨_,SqL.of hpl1⟩,λO hO=>zV (K:=K) (a:=pl) (ys:=ps.map V.ref) (λi xs σ' H'=>E1 λ(v:Option V)=>A4 (σ'=[v]) (xs=((es.take i).map λx=>((x.1.puts:Nat):Int)).map V.int) (H' O=some (.lst xs)) (SameX O H1 H')) ⟨none,rfl,rfl,zf,λb o e n=>by rw [zj n]; exact e⟩ (λi xs σ' H' _ z=>by obtain ⟨v,_,_,_,z⟩:=z; exact SqL.of (z _ _ hpl1 (zb hpl1 hO))) ?_ ?_⟩
  . rintro i x xs σ' H' hi ⟨v,rfl,rfl,eO,sx⟩;have hi':=(af.mp hi).1;rw [ag] at hi;obtain ⟨p,hp',rfl⟩:=ao.mp hi;have hie:i<es.length:=by rw [<-hr'.1]; exact (af.mp hp').1
    have hx:=ae hie;have he:=((hr'.2 i p _ hp' hx).same s1).same (λb o e=>sx b o e (zb e hO));exists yd rfl he ?_;exists zp eO (by simp only [aa,aJ]; lia) λH5 x5 e5=>?_;refine yr hi' ⟨_,rfl,rfl,?_,sx.trans x5⟩;rw [a8,hx,aj,aj];exact e5
  rintro xs σ' H2 ⟨v,rfl,rfl,eO2,sx2⟩;have s2:Same H1 H2:=λb o e=>sx2 b o e (zb e hO);rw [aa,hr'.1,au] at eO2;exists Kt (SqL.of eO2) ?_;have hsum:((bs.length:Nat):Int)+(es.map λx=>((x.1.puts:Nat):Int)).sum=((ends (As.sb bs) es).k:Nat):=by
    rw [Cf,xm];show _=((bs.length+_:Nat):Int)
    lia
  walk_at "r";rw [hsum];have s12:=s1.trans s2;refine Dm (s12 _ _ hpl) λD H3 nD s3 eD=>?_;have ea3:=s3 _ _ (s2 _ _ ea);have aD:a≠D:=zb (s2 _ _ ea) nD;have hml3:=(s12.trans s3) _ _ hml;have mlD:ml≠D:=zb (s12 _ _ hml) nD;have mla:ml≠a:=zb hml na;have hD0:H D=none:=Same.nn s12 nD;exists y9 ?_;exists ⟨ml,rfl,⟨_,SqL.of hml3⟩,z6 (K:=K) (a:=ml) (xs:=ms.map V.ref) (λi σ H'=>E3 λ(v6 v7:Option V) (qs:List Addr)=>A4 (σ=[some (.int ((bs.length:Nat):Int)),some (.ref pl),some (.ref ml),some (.ref a),some (.int (((ends (As.sb bs) es).k+((ends (As.sb F) (fs.take i)).k - F.length):Nat):Int)),some (.ref D),v6,v7]) ((H' D=some (.lst ((ps++qs).map V.ref))/\Runs H' (ps++qs) (es++(fs.take i).map (rnx (nmr (ends (As.sb bs) es))))/\qs.length=i)) (H' a=some (.lst (nmI (nmr (ends (As.sb bs) es)) (ends (As.sb F) (fs.take i)).k))) (∀ b o,H3 b=some o->b≠D->b≠a->H' b=some o)) ⟨none,none,[],?_,⟨by rw [dS]; exact eD,by rw [dS]; show Runs H3 ps (es++[]); rw [dS]; exact hr'.same (s12.trans s3),rfl⟩,ea3,λb o e _ _=>e⟩ (λi σ H' _ z'=>by obtain ⟨_,_,_,_,_,_,z⟩:=z'; exact SqL.of (z _ _ hml3 mlD mla)) ?_ ?_⟩
  . rw [show (ends (As.sb F) (fs.take 0)).k=F.length from rfl,dz,gR]
  . rintro i x σ H' hi ⟨v6,v7,qs,rfl,⟨eD',hrun,hql⟩,ea',fr⟩;rw [ag] at hi;obtain ⟨p,hp',rfl⟩:=ao.mp hi;have hie:i<fs.length:=by rw [<-hm.1]; exact (af.mp hp').1
    obtain ⟨e,n,m,hx⟩:∃ e n m,fs[i]?=some (e,n,m):=⟨_,_,_,ae hie⟩
    have st:=hwF i _ hx;have s0':Same H H':=λb o z=>fr _ _ ((s12.trans s3) _ _ z) (zb z hD0) (zb z na);have he:DdAt H' p e:=(hm.2 i p _ hp' hx).same s0';have oki:=okF i (bn hie);have kli:=oki.kl;have kge:F.length<=(ends (As.sb F) (fs.take i)).k:=by
      rw [xm];show F.length<=F.length+_
      lia
    have nk:=xh (ends (As.sb F) (fs.take i)) (e,n,m);have nk:((ends (As.sb F) (fs.take i)).next (e,n,m)).k=(ends (As.sb F) (fs.take i)).k+e.puts:=nk;have tk':(fs.take (i+1)).map (rnx (nmr (ends (As.sb bs) es)))=(fs.take i).map (rnx (nmr (ends (As.sb bs) es)))++[rnx (nmr (ends (As.sb bs) es)) (e,n,m)]:=by rw [a8,hx,aj]; rfl
    rw [yo hx,nk,tk'];have lk:∀ j,nmr (ends (As.sb bs) es) (F.length+j)=(ends (As.sb bs) es).k+j:=l0.k;generalize ends (As.sb F) (fs.take i)=s at *
    have pu:=puts_le e;have nT:e.isT=false:=by
      cases z:e.isT with
      | false=>rfl
      | true=>exact nomatch st.tn z
    exists Ak rfl he nT ea' (λm' hm'=>?_) λb H4 s4 nb eb=>?_
    . obtain ⟨j,hj,rfl⟩:=st.nms.names_in m' hm';exact ⟨j,oki.lt j hj,rfl⟩
    have eD4:=s4 _ _ eD';have ea4:=s4 _ _ ea';exists zp eD4 (by rw [aa,ah]; lia) λH5 x5 e5=>?_;have ea5:=x5 _ _ ea4 aD;have eb5:=eb.sameX x5 eD4;have he5:DdAt H5 p e:=(he.same s4).sameX x5 eD4;have hr5:Runs H5 (ps++qs) (es++(fs.take i).map (rnx (nmr (ends (As.sb bs) es)))):=(hrun.same s4).sameX x5 eD4;have hr6:=xi (x:=rnx (nmr (ends (As.sb bs) es)) (e,n,m)) hr5 eb5;exists DH ?_;exists yd rfl he5 ?_;exists ⟨_,_,rfl,⟨by lia,by lia,by lia,by lia⟩,yw (lo:=(((ends (As.sb bs) es).k+(s.k - F.length):Nat):Int)) (n:=((((ends (As.sb bs) es).k+(s.k - F.length):Nat):Int)+(e.puts:Nat) - (((ends (As.sb bs) es).k+(s.k - F.length):Nat):Int)).toNat) (λj σ G=>E1 λ(v7:Option V)=>A3 (σ=[some (.int ((bs.length:Nat):Int)),some (.ref pl),some (.ref ml),some (.ref a),some (.int (((ends (As.sb bs) es).k+(s.k - F.length):Nat):Int)),some (.ref D),some (.ref p),v7]) (G a=some (.lst (nmI (nmr (ends (As.sb bs) es)) (s.k+j)))) (SameX a H5 G)) ⟨_,rfl,ea5,λb o e _=>e⟩ ?_ ?_⟩
    . rintro j σ G hj ⟨w7,rfl,eaj,sxj⟩;exists zp eaj (by unfold nmI; simp only [aa,bf]; lia) λG2 x2 e2=>?_;exists ⟨_,rfl,?_,sxj.trans x2⟩;rw [show (((ends (As.sb bs) es).k+(s.k - F.length):Nat):Int)+(j:Int)=(((ends (As.sb bs) es).k+(s.k - F.length+j):Nat):Int) by lia,<-lk,show F.length+(s.k - F.length+j)=s.k+j by lia] at e2;rw [show s.k+(j+1)=(s.k+j)+1 by lia,Ga,e2]
    rintro σ H6 ⟨w7,rfl,ea6,sx6⟩;rw [show ((((ends (As.sb bs) es).k+(s.k - F.length):Nat):Int)+(e.puts:Nat) - (((ends (As.sb bs) es).k+(s.k - F.length):Nat):Int)).toNat=e.puts by lia] at ea6;have he6:DdAt H6 p e:=he5.sameX sx6 ea5;exists yd rfl he6 ?_;exists ⟨some (.ref p),w7,qs++[b],?_,⟨?_,?_,by rw [ah,hql]; rfl⟩,ea6,λb' o z n1 n2=>sx6 _ _ (x5 _ _ (s4 _ _ (fr _ _ z n1 n2)) n1) n2⟩
    . rw [show (((ends (As.sb bs) es).k+(s.k - F.length):Nat):Int)+(e.puts:Nat)=(((ends (As.sb bs) es).k+(s.k+e.puts - F.length):Nat):Int) by lia]
    . rw [<-bB,aj];exact sx6 _ _ e5 (ca aD)
    . rw [<-bB,<-bB];exact hr6.sameX sx6 ea5
  rintro σ H4 ⟨v6,v7,qs,rfl,⟨eD',hrun,hql⟩,ea',fr⟩;rw [aa,hm.1,au] at hrun;walk_at "r";exact q D qs H4 (λb o z=>fr _ _ ((s12.trans s3) _ _ z) (zb z hD0) (zb z na)) hD0 eD' hrun
theorem K43(F:Fun K "together" "together" S40 f fd)(B:Bl mg)(o36x:Own P w K mg base 2 "plus" ["one","other"] [] (P30 K)):FnOk P w K mg base CX0 3 f fd ["one","other"] (P44 K):=by
  refine F.okA C46 λcdv A outer s H vs Q E hr h=>?_;obtain @⟨p,p',s,t,rfl,⟨r0',r1',f0,f1,f2,f3,⟨hp,h0,h1,g0,g1,g2,g3'⟩⟩,⟨u0,u1,i0,i1,i2,i3,⟨kp,k0,k1,l0,l1,l2,l3⟩⟩,bs,bt,q⟩:=h;refine ⟨_,(zc (zh (zo (pa2 (zo (pa2 (ze o36x hr rfl (pa2 (pe_i zT (pit 0) zd) (pe_i zT (pit 1) zd))) (ze o36x hr rfl (pa2 (pe_i zT (pit 0) zd) (pe_i zT (pit 1) zd))))) (zo (pa2 (ze o36x hr rfl (pa2 (pe_i zT (pit 0) zd) (pe_i zT (pit 1) zd))) (ze o36x hr rfl (pa2 (pe_i zT (pit 0) zd) (pe_i zT (pit 1) zd))))))))),?_⟩;walk_at "s";exists uU g0 l0 (bs.a.bq (by decide) (by decide)) (bt.a.bq (by decide) (by decide)) λt0 H3 s3 et0=>?_;have hp:=s3.sqT hp;have h0:=s3.sqT h0;have h1:=s3.sqT h1;have g0:=s3.sqT g0;have g1:=s3.sqT g1;have g2:=s3.sqT g2;have g3':=s3.sqT g3';have kp:=s3 _ _ kp;have k0:=s3 _ _ k0;have k1:=s3 _ _ k1;have l0:=s3 _ _ l0;have l1:=s3 _ _ l1;have l2:=s3 _ _ l2;have l3:=s3 _ _ l3;exists uU g1 l1 (bs.b.bq (by decide) (by decide)) (bt.b.bq (by decide) (by decide)) λt1 H4 s4 et1=>?_;have hp:=s4.sqT hp;have h0:=s4.sqT h0;have h1:=s4.sqT h1;have g0:=s4.sqT g0;have g1:=s4.sqT g1;have g2:=s4.sqT g2;have g3':=s4.sqT g3';have kp:=s4 _ _ kp;have k0:=s4 _ _ k0;have k1:=s4 _ _ k1;have l0:=s4 _ _ l0;have l1:=s4 _ _ l1;have l2:=s4 _ _ l2;have l3:=s4 _ _ l3;have et0:=s4 _ _ et0;exists zC (by simp) λr0 G0 z0 er0=>?_;have hp:=z0.sqT hp;have h0:=z0.sqT h0;have h1:=z0.sqT h1;have g0:=z0.sqT g0;have g1:=z0.sqT g1;have g2:=z0.sqT g2;have g3':=z0.sqT g3';have kp:=z0 _ _ kp;have k0:=z0 _ _ k0;have k1:=z0 _ _ k1;have l0:=z0 _ _ l0;have l1:=z0 _ _ l1;have l2:=z0 _ _ l2;have l3:=z0 _ _ l3;have et0:=z0 _ _ et0;have et1:=z0 _ _ et1;exists uU g2 l2 (bs.c.bq (by decide) (by decide)) (bt.c.bq (by decide) (by decide)) λt2 H5 s5 et2=>?_;have hp:=s5.sqT hp;have h0:=s5.sqT h0;have h1:=s5.sqT h1;have g0:=s5.sqT g0;have g1:=s5.sqT g1;have g2:=s5.sqT g2;have g3':=s5.sqT g3';have kp:=s5 _ _ kp;have k0:=s5 _ _ k0;have k1:=s5 _ _ k1;have l0:=s5 _ _ l0;have l1:=s5 _ _ l1;have l2:=s5 _ _ l2;have l3:=s5 _ _ l3;have et0:=s5 _ _ et0;have et1:=s5 _ _ et1;have er0:=s5 _ _ er0;exists uU g3' l3 (bs.e.bq (by decide) (by decide)) (bt.e.bq (by decide) (by decide)) λt3 H6 s6 et3=>?_;have hp:=s6.sqT hp;have h0:=s6.sqT h0;have h1:=s6.sqT h1;have g0:=s6.sqT g0;have g1:=s6.sqT g1;have g2:=s6.sqT g2;have g3':=s6.sqT g3';have kp:=s6 _ _ kp;have k0:=s6 _ _ k0;have k1:=s6 _ _ k1;have l0:=s6 _ _ l0;have l1:=s6 _ _ l1;have l2:=s6 _ _ l2;have l3:=s6 _ _ l3;have et0:=s6 _ _ et0;have et1:=s6 _ _ et1;have et2:=s6 _ _ et2;have er0:=s6 _ _ er0;exists zC (by simp) λr1 G1 z1 er1=>?_;have hp:=z1.sqT hp;have h0:=z1.sqT h0;have h1:=z1.sqT h1;have g0:=z1.sqT g0;have g1:=z1.sqT g1;have g2:=z1.sqT g2;have g3':=z1.sqT g3';have kp:=z1 _ _ kp;have k0:=z1 _ _ k0;have k1:=z1 _ _ k1;have l0:=z1 _ _ l0;have l1:=z1 _ _ l1;have l2:=z1 _ _ l2;have l3:=z1 _ _ l3;have et0:=z1 _ _ et0;have et1:=z1 _ _ et1;have et2:=z1 _ _ et2;have et3:=z1 _ _ et3;have er0:=z1 _ _ er0;exists zC (by simp) λr G z er=>?_;exact q r G ((((((s3.trans s4).trans z0).trans s5).trans s6).trans z1).trans z) ⟨r0,r1,t0,t1,t2,t3,er,z _ _ er0,z _ _ er1,z _ _ et0,z _ _ et1,z _ _ et2,z _ _ et3⟩
theorem K44(F:Fun K "_law_plus" "_law_plus" S49 f fd)(B:Bl mg)(o48x:Own P w K mg base 2 "_law_lowest" ["_law_a","_law_b","_law_n"] [] P33):FnOk P w K mg base CX0 3 f fd ["_law_one","_law_other","_law_sign_here"] P45:=by
  refine F.okA C47 λcdv A outer s H vs Q E hr h=>?_;obtain @⟨p,p',s,t,g,rfl,h1,h2,o1,o2,bg,q⟩:=h;refine ⟨_,(za (ps_s 3 C47.nd (zg zD (zg zm (pit 0) (pit 1)) (zg zm (zg zm (pv 2) (pit 1)) (pit 0)))) (za (ps_s 4 C47.nd (zg zD (zg zm (pit 0) (pit 1)) (zg zm (zg zm (pv 2) (pit 1)) (pit 0)))) (zc (zh (ze o48x hr rfl (pa3 (pv 3) (pv 4) (zg zm (pit 0) (pit 1)))))))),?_⟩;walk_at "s";have h1':H p=some (.tup [.int s.x,.int s.y,.int s.z]):=h1;have h2':H p'=some (.tup [.int t.x,.int t.y,.int t.z]):=h2;have b1:=o1.bx;have b2:=o1.by';have b3:=o1.bz;have c1:=o2.bx;have c2:=o2.by';have c3:=o2.bz;walk_at "r";exact xb rfl (aH o1.ne o2.ne) (Bd.mono (b3.mul c3) (by decide)) λr H' s' e=>q r H' s' e
theorem K45(F:Fun K "_law_share" "_law_share" S50 f fd)(B:Bl mg)(o48x:Own P w K mg base 2 "_law_lowest" ["_law_a","_law_b","_law_n"] [] P33):FnOk P w K mg base CX0 3 f fd ["_law_one","_law_top","_law_bottom"] P46:=by
  refine F.okA C48 λcdv A outer s H vs Q E hr h=>?_;obtain @⟨p,s,m,k,rfl,h1,ok,bm,k1,bk,q⟩:=h;refine ⟨_,(zc (zh (ze o48x hr rfl (pa3 (zg zm (pit 0) (pv 1)) (zg zm (pit 0) (pv 1)) (zg zm (pit 0) (pv 2)))))),?_⟩;walk_at "s";have h1':H p=some (.tup [.int s.x,.int s.y,.int s.z]):=h1;have b1:=ok.bx;have b2:=ok.by';have b3:=ok.bz;have hz:s.z*k≠0:=aH ok.ne k1;walk_at "r";exact xb rfl hz (Bd.mono (b3.mul bk) (by decide)) λr H' s' e=>q r H' s' e
theorem Fi{x:Int}(h0:-5000<=x)(h1:x<=5000):Bd 13 x:=by
  unfold Bd;have:(2:Nat) ^ 13=8192:=by decide
  lia
theorem K46(F:Fun K "_law_side" "_law_side" S53 f fd)(B:Bl mg)(o49x:Own P w K mg base 1 "_law_sign" ["_law_d","_law_a","_law_b"] [] P16)(o48x:Own P w K mg base 2 "_law_lowest" ["_law_a","_law_b","_law_n"] [] P33)(o46x:Own P w K mg base 2 "_law_digits" ["_law_cell_here","_law_many"] [] P32):FnOk P w K mg base CX0 3 f fd ["_law_d","_law_cell_here","_law_at_here"] P47:=by
  refine F.okA C49 λcdv A outer s H vs Q E hr h=>?_;obtain @⟨d,c,k,rfl,hR,hc,hk,q⟩:=h;refine ⟨_,(za (ps_s 3 C49.nd (xt uh (ze o46x hr rfl (pa2 (pv 1) (zg zD (pv 2) zd))) (xJ (pv 2)) va)) (za (ps_s 4 C49.nd (zg yP (zg zG (pil 3) zd) zd)) (za (ps_s 5 C49.nd (zg yP (zg zG (pil 3) zd) zd)) (za (ps_s 6 C49.nd (zg zD zd (zg zG (pil 3) zd))) (za (wH (zx (zi zU (zg zG (pv 1) zd) zd (zk _)) (za (ps_s 4 C49.nd (zg yP (zg zG (pil 3) zd) zd)) (za (ps_s 5 C49.nd (zg yP (zg zG (pil 3) zd) zd)) (zc (ps_s 6 C49.nd (zg zD zd (zg zG (pil 3) zd)))))) zl)) (za (zx (PW.pt (xa (zi zU (pv 4) zd (zk _)) (yB (zi zU (pv 5) zd (zk _))))) (zc (zh (zo (pa3 zd zd zd)))) zl) (za (ps_s 7 C49.nd (ze o49x hr rfl (pa3 (pv 0) (pv 4) (pv 5)))) (zc (zh (ze o48x hr rfl (pa3 (zg zm (pv 7) (pv 4)) (zg zm (pv 7) (pv 5)) (pv 6)))))))))))),?_⟩;walk_at "s";have e6:(10:Int) ^ (6:Int).toNat=1000000:=by decide +kernel
  have e11:(10:Int) ^ (11:Int).toNat=100000000000:=by decide +kernel
  have dlo:=hR.lo;have hd:Bd 64 d:=zL (B:=99) (by lia) hR.hi (by decide +kernel);exists yC hc (by lia) (by lia) λl H1 ds s1 e1 hl hds=>?_;exists BG e1 λp H2 s2 e2=>?_;rw [<-gq] at e2;have hl5:((ds.drop k).length:Int)=5:=by rw [c8]; lia
  have hd5:∀ x∈ds.drop k,0<=x/\x<1000000:=λx hx=>hds x (dG hx);obtain ⟨x0,g0,a0,b0⟩:=dig hl5 hd5 0 (by decide) (by decide);obtain ⟨x1,g1,a1,b1⟩:=dig hl5 hd5 1 (by decide) (by decide);obtain ⟨x2,g2,a2,b2⟩:=dig hl5 hd5 2 (by decide) (by decide);obtain ⟨x3,g3',a3,b3⟩:=dig hl5 hd5 3 (by decide) (by decide);obtain ⟨x4,g4,a4,b4⟩:=dig hl5 hd5 4 (by decide) (by decide);have y0:Bd 20 x0:=zL (B:=999999) (by lia) (by lia) (by decide);have y1:Bd 20 x1:=zL (B:=999999) (by lia) (by lia) (by decide);have y2:Bd 20 x2:=zL (B:=999999) (by lia) (by lia) (by decide);have y3:Bd 20 x3:=zL (B:=999999) (by lia) (by lia) (by decide);have y4:Bd 20 x4:=zL (B:=999999) (by lia) (by lia) (by decide);repeat (first | walk_at "rd" | refine zw e2 g0 ?_ | refine zw e2 g1 ?_ | refine zw e2 g2 ?_ | refine zw e2 g3' ?_ | refine zw e2 g4 ?_ | rw [e6] | rw [e11])
  refine tN (T:=λσ' H'=>E3 λ(a b n:Int)=>A6 (σ'=[some (.int d),some (.int c),some (.int (k:Int)),some (.ref p),some (.int a),some (.int b),some (.int n),none]) (H'=H2) (Bd 13 a) (Bd 13 b) (1<=n) (n<=30)) ?_ ?_
  . repeat (first | walk_at "rd" | refine zw e2 g0 ?_ | refine zw e2 g1 ?_ | refine zw e2 g2 ?_ | refine zw e2 g3' ?_ | refine zw e2 g4 ?_ | rw [e6] | rw [e11])
    refine if_d (λc1=>?_) (λc1=>?_)
    . repeat (first | walk_at "rd" | refine zw e2 g0 ?_ | refine zw e2 g1 ?_ | refine zw e2 g2 ?_ | refine zw e2 g3' ?_ | refine zw e2 g4 ?_ | rw [e6] | rw [e11])
      exact ⟨_,_,_,rfl,rfl,Fi (by lia) (by lia),Fi (by lia) (by lia),by lia,by lia⟩
    . repeat (first | walk_at "rd" | refine zw e2 g0 ?_ | refine zw e2 g1 ?_ | refine zw e2 g2 ?_ | refine zw e2 g3' ?_ | refine zw e2 g4 ?_ | rw [e6] | rw [e11])
      exact ⟨_,_,_,rfl,rfl,Fi (by lia) (by lia),Fi (by lia) (by lia),by lia,by lia⟩
  rintro σ' H' ⟨a,b,n,rfl,rfl,ba,bb,n1,n2⟩;have s12:=s1.trans s2;exists Lo (q:=b=0) (λc0=>?_) (λc1 hB=>?_)
  . exists vq rfl hd (ba.mono (by decide)) (bb.mono (by decide)) λH3 s3=>?_;have ba:=ba;have bs:Bd 2 (sgn d a b):=by
      rcases sgn_tri hR a b with h|h|⟨h1,h2⟩
      . rw [h]; decide
      . rw [h]; decide
      . rw [h1,h2,ym]; decide
    exists xb rfl (by lia) (zL (k:=8000) (B:=30) (by lia) n2 (aE (show (30:Int).natAbs<2 ^ 20 by decide) (Nat.pow_le_pow_right (by decide) (by decide)))) λr H4 s4 e4=>?_;refine q r H4 ⟨lA (sgn d a b*a) (sgn d a b*b) n,lB (sgn d a b*a) (sgn d a b*b) n,lN (sgn d a b*a) (sgn d a b*b) n⟩ ((s12.trans s3).trans s4) e4 ?_;rcases sgn_tri hR a b with h|h|h
    . rw [h,ee,ee];exact Dw.low hR ba bb n1 n2 h
    . rw [h,show (-1:Int)*a=-a by lia,show (-1:Int)*b=-b by lia];exact Dw.low hR ba.neg bb.neg n1 n2 (by rw [xP hR,h]; rfl)
    . exact absurd h (by lia)
  . exists if_d (λc2=>?_) (λc2=>hB (λz=>c2 z.2));exists zC (by simp) λr H4 s4 e4=>?_;exact q r H4 ⟨1,0,1⟩ (s12.trans s4) e4 ⟨by decide,by decide,by rw [vZ (by decide) (by decide)]; rfl,by decide,by decide,by decide⟩
theorem K47(F:Fun K "next_base" "next_base" S12 f fd)(B:Bl mg)(o10x:Own P w K mg base 2 "under" ["d","one","other"] [] (P25 K))(o7x:Own P w K mg base 3 "taken" ["one","other"] [] P37):FnOk P w K mg base CX0 4 f fd ["d","base"] P48:=by
  refine F.okA C50 λcdv A outer s H vs Q E hr h=>?_;obtain @⟨d,p,r1,r2,s,N,rfl,⟨h0,h1,h2⟩,hR,hN,hb,g,q⟩:=h;refine ⟨_,(za (ps_s 2 C50.nd (pit 1)) (za (ps_s 3 C50.nd (pit 1)) (za (zx (yM (ze o10x hr rfl (pa3 (pv 0) (pv 3) (pv 2)))) (zc (zh (zo (pa2 (ze o7x hr rfl (pa2 (pv 2) (pv 3))) (pv 3))))) zl) (zc (zh (zo (pa2 (pv 2) (ze o7x hr rfl (pa2 (pv 3) (pv 2)))))))))),?_⟩;walk_at "s";have n0:N≠0:=by lia
  have dlo:=hR.lo;have dhi:=hR.hi;have hd:Bd 64 d:=zL (B:=99) (by lia) hR.hi (by decide +kernel);have k1:Bd 900 (lA s.a s.b N):=g.ba.fdiv _;have k2:Bd 900 (lB s.a s.b N):=g.bb.fdiv _;have k3:Bd 900 (lN s.a s.b N):=hb.fdiv _;have k4:Bd 900 (lA s.c s.e N):=g.bc.fdiv _;have k5:Bd 900 (lB s.c s.e N):=g.be.fdiv _;have k6:Bd 900 (lN s.c s.e N):=hb.fdiv _;exists AI (K:=K) (SqT.of h2) h1 hd (k4.mono (by decide)) (k5.mono (by decide)) (k6.mono (by decide)) (k1.mono (by decide)) (k2.mono (by decide)) (k3.mono (by decide)) ?_;rw [FS hR hN];exists if_d (λc=>?_) (λc=>?_)
  . have e:s.nx d=⟨s.a - s.c,s.b - s.e,s.c,s.e⟩:=h7 c;rw [e] at q;exists AR h1 h2 (l_n n0) (l_n n0) (xB n0) (xB n0) (k1.mono (by decide)) (k2.mono (by decide)) (k3.mono (by decide)) (k4.mono (by decide)) (k5.mono (by decide)) (k6.mono (by decide)) λr H1 s1 e1=>?_;obtain ⟨t1,t2,t3⟩:=Bv (a:=s.a) (b:=s.b) (c:=s.c) (e:=s.e) hN;rw [wW,wW,t1,t2,t3] at e1;walk_at "r";exact zC (by simp) λp' H' s' e'=>q p' r r2 H' (s1.trans s') ⟨e',s' _ _ e1,s' _ _ (s1 _ _ h2)⟩
  . have e:s.nx d=⟨s.a,s.b,s.c - s.a,s.e - s.b⟩:=h8 c;rw [e] at q;exists AR h2 h1 (l_n n0) (l_n n0) (xB n0) (xB n0) (k4.mono (by decide)) (k5.mono (by decide)) (k6.mono (by decide)) (k1.mono (by decide)) (k2.mono (by decide)) (k3.mono (by decide)) λr H1 s1 e1=>?_;obtain ⟨t1,t2,t3⟩:=Bv (a:=s.c) (b:=s.e) (c:=s.a) (e:=s.b) hN;rw [wW,wW,t1,t2,t3] at e1;walk_at "r";exact zC (by simp) λp' H' s' e'=>q p' r1 r H' (s1.trans s') ⟨e',s' _ _ (s1 _ _ h1),s' _ _ e1⟩
theorem K48(F:Fun K "times_over" "times_over" S17 f fd)(B:Bl mg)(o8x:Own P w K mg base 3 "timed" ["d","one","other"] [] P38):FnOk P w K mg base CX0 4 f fd ["d","many","one"] P49:=by
  refine F.okA C51 λcdv A outer s H vs Q E hr h=>?_;obtain @⟨d,m,p,s,rfl,h1,hd,hm,ok,q⟩:=h;refine ⟨_,(zc (zh (ze o8x hr rfl (pa3 (pv 0) (zo (pa3 (pv 1) zd zd)) (pv 2))))),?_⟩;walk_at "s";have z1:=ok.z1;exists zC (by simp) λp1 H1 s1 e1=>?_;exists Hy e1 (s1 _ _ h1) hd (hm.mono (by decide)) (by decide +kernel) (by decide +kernel) (ok.bx.mono (by decide)) (ok.by'.mono (by decide)) (ok.bz.mono (by decide)) (by decide) (by lia) λr H2 s2 e2=>?_;rw [show m*s.x+d*0*s.y=m*s.x by rw [cM,bV,cq],show m*s.y+0*s.x=m*s.y by rw [bV,cq],ee] at e2;exact q r H2 (s1.trans s2) e2
theorem K49(F:Fun K "is_deed" "is_deed" S21 f fd)(B:Bl mg)(g_CUTS:TopT K mg "CUTS" [.str "across",.str "along"])(g_SHIFTS:TopT K mg "SHIFTS" [.str "stack",.str "spread"])(g_GLUINGS:TopT K mg "GLUINGS" [.str "beside",.str "atop"])(g_TURN:TopS mg "TURN" (Str.ofString "turn"))(o20x:Own P w K mg base 3 "is_length" ["thing"] [] P40)(o0x:Own P w K mg base 1 "is_whole" ["thing"] [] P0):FnOk P w K mg base CX0 4 f fd ["thing"] P50:=by
  obtain ⟨a_CUTS,m_CUTS,q_CUTS⟩:=g_CUTS;obtain ⟨a_SHIFTS,m_SHIFTS,q_SHIFTS⟩:=g_SHIFTS;obtain ⟨a_GLUINGS,m_GLUINGS,q_GLUINGS⟩:=g_GLUINGS;obtain ⟨u_TURN,m_TURN,r_TURN⟩:=g_TURN;refine F.okA C52 λcdv A outer s H vs Q E hr h=>?_;obtain @⟨p,e,rfl,he,ok,q⟩:=h;refine ⟨_,(za (zx (PW.pt (tK (wn (yM (zn yG rfl B.isinstance yn (pa2 (pv 0) (vk (v:=.ty "tuple") rfl B.tuple uQ rfl))))) (tK (zi uu (zn zt rfl B.len aY (pa1 (pv 0))) zd (zk _)) (vR (wn (yM (zn yG rfl B.isinstance yn (pa2 (pit 0) (vk (v:=.ty "str") rfl B.str Jr rfl))))))))) (zc (zh wO)) zl) (za (zx (zi zU (zn zt rfl B.len aY (pa1 (pv 0))) zd (zk _)) (zc (zh (zW zU (pit 0) (yI (v:=.str (Str.ofString "turn")) rfl m_TURN r_TURN) (zk _)))) zl) (za (zx (zi Ay (zn zt rfl B.len aY (pa1 (pv 0))) zd (zk _)) (zc (zh wO)) zl) (za (zx (zi yF (pit 0) (yI (v:=.ref a_CUTS) rfl m_CUTS rfl) (by with_unfolding_all rfl)) (zc (zh (ze o20x hr rfl (pa1 (pit 0))))) zl) (za (zx (zi yF (pit 0) (yI (v:=.ref a_SHIFTS) rfl m_SHIFTS rfl) (by with_unfolding_all rfl)) (zc (zh (u9 (ze o0x hr rfl (pa1 (pit 0))) (vX (zW DN (pit 0) zd (zk _)))))) zl) (zc (zh (zW yF (pit 0) (yI (v:=.ref a_GLUINGS) rfl m_GLUINGS rfl) (by with_unfolding_all rfl))))))))),?_⟩;walk_at "s";cases e with
  | cut al n s =>
    obtain ⟨pq,h0,hs⟩:=he;cases al with
    | false =>
      have h0:H p=some (.tup [.str (Str.ofString "across"),.int n,.ref pq]):=h0;exists if_d (λc=>absurd c (by simp)) (λ_=>?_);exists if_d (λc=>absurd c (by simp)) (λ_=>?_);exists vO (by simp) ?_;exists ⟨_,_,rfl,.inr (q_CUTS H),rfl,rfl,?_⟩;rw [show (if false=true then !inV _ _ else inV _ _)=true from by decide +kernel];walk_at "r";exact vf rfl hs ok λH' s1=>q H' s1
    | true =>
      have h0:H p=some (.tup [.str (Str.ofString "along"),.int n,.ref pq]):=h0;exists if_d (λc=>absurd c (by simp)) (λ_=>?_);exists if_d (λc=>absurd c (by simp)) (λ_=>?_);exists vO (by simp) ?_;exists ⟨_,_,rfl,.inr (q_CUTS H),rfl,rfl,?_⟩;rw [show (if false=true then !inV _ _ else inV _ _)=true from by decide +kernel];walk_at "r";exact vf rfl hs ok λH' s1=>q H' s1
  | glue al n m =>
    have h0:=he;cases al with
    | false =>
      have h0:H p=some (.tup [.str (Str.ofString "beside"),.int n,.int m]):=h0;exists if_d (λc=>absurd c (by simp)) (λ_=>?_);exists if_d (λc=>absurd c (by simp)) (λ_=>?_);exists vO (by simp) ?_;exists ⟨_,_,rfl,.inr (q_CUTS H),rfl,rfl,?_⟩;rw [show (if false=true then !inV _ _ else inV _ _)=false from by decide +kernel];exists ⟨_,_,rfl,.inr (q_SHIFTS H),rfl,rfl,?_⟩;rw [show (if false=true then !inV _ _ else inV _ _)=false from by decide +kernel];exists ⟨_,_,rfl,.inr (q_GLUINGS H),rfl,rfl,?_⟩;rw [show (if false=true then !inV _ _ else inV _ _)=true from by decide +kernel];walk_at "r";exact q H (Same.refl H)
    | true =>
      have h0:H p=some (.tup [.str (Str.ofString "atop"),.int n,.int m]):=h0;exists if_d (λc=>absurd c (by simp)) (λ_=>?_);exists if_d (λc=>absurd c (by simp)) (λ_=>?_);exists vO (by simp) ?_;exists ⟨_,_,rfl,.inr (q_CUTS H),rfl,rfl,?_⟩;rw [show (if false=true then !inV _ _ else inV _ _)=false from by decide +kernel];exists ⟨_,_,rfl,.inr (q_SHIFTS H),rfl,rfl,?_⟩;rw [show (if false=true then !inV _ _ else inV _ _)=false from by decide +kernel];exists ⟨_,_,rfl,.inr (q_GLUINGS H),rfl,rfl,?_⟩;rw [show (if false=true then !inV _ _ else inV _ _)=true from by decide +kernel];walk_at "r";exact q H (Same.refl H)
  | shift al n k =>
    have h0:=he;cases al with
    | false =>
      have h0:H p=some (.tup [.str (Str.ofString "stack"),.int n,.int k]):=h0;exists if_d (λc=>absurd c (by simp)) (λ_=>?_);exists if_d (λc=>absurd c (by simp)) (λ_=>?_);exists vO (by simp) ?_;exists ⟨_,_,rfl,.inr (q_CUTS H),rfl,rfl,?_⟩;rw [show (if false=true then !inV _ _ else inV _ _)=false from by decide +kernel];exists ⟨_,_,rfl,.inr (q_SHIFTS H),rfl,rfl,?_⟩;rw [show (if false=true then !inV _ _ else inV _ _)=true from by decide +kernel];walk_at "r";exact bl_q (iu ok.1) (q H (Same.refl H))
    | true =>
      have h0:H p=some (.tup [.str (Str.ofString "spread"),.int n,.int k]):=h0;exists if_d (λc=>absurd c (by simp)) (λ_=>?_);exists if_d (λc=>absurd c (by simp)) (λ_=>?_);exists vO (by simp) ?_;exists ⟨_,_,rfl,.inr (q_CUTS H),rfl,rfl,?_⟩;rw [show (if false=true then !inV _ _ else inV _ _)=false from by decide +kernel];exists ⟨_,_,rfl,.inr (q_SHIFTS H),rfl,rfl,?_⟩;rw [show (if false=true then !inV _ _ else inV _ _)=true from by decide +kernel];walk_at "r";exact bl_q (iu ok.1) (q H (Same.refl H))
  | turn n =>
    have h0:=he;have h0:H p=some (.tup [.str (Str.ofString "turn"),.int n]):=h0;exists if_d (λc=>absurd c (by simp)) (λ_=>?_);exists if_d (λ_=>?_) (λc=>absurd (by simp) c);walk_at "r";exact bl_q (by decide +kernel) (q H (Same.refl H))
theorem K50(F:Fun K "cut_across" "cut_across" S25 f fd)(B:Bl mg)(g_NOUGHT:TopT K mg "NOUGHT" [.int 0,.int 0,.int 1])(o10x:Own P w K mg base 2 "under" ["d","one","other"] [] (P25 K))(o7x:Own P w K mg base 3 "taken" ["one","other"] [] P37):FnOk P w K mg base CX0 4 f fd ["d","one","at"] P51:=by
  obtain ⟨a_NOUGHT,m_NOUGHT,q_NOUGHT⟩:=g_NOUGHT;refine F.okA C53 λcdv A outer s H vs Q E hr h=>?_;obtain @⟨d,c,p,s,rfl,hc,hs,hd,okw,oks,up,un,q⟩:=h;refine ⟨_,(za (zx (wn (PW.pt (xa (yM (ze o10x hr rfl (pa3 (pv 0) (yI (v:=.ref a_NOUGHT) rfl m_NOUGHT rfl) (pv 2)))) (yB (yM (ze o10x hr rfl (pa3 (pv 0) (pv 2) (pit 1)))))))) (zc yN) zl) (zc (zh (zH (pa2 (zo (pa2 (pv 2) (pit 1))) (zo (pa2 (ze o7x hr rfl (pa2 (pit 1) (pv 2))) (pit 1)))))))),?_⟩;walk_at "s";have ct:=hc.t;have cw:=hc.w;have hs':H p=some (.tup [.int s.x,.int s.y,.int s.z]):=hs;have cw':H c.pw=some (.tup [.int c.b.w.x,.int c.b.w.y,.int c.b.w.z]):=cw;exists AI (q_NOUGHT H) hs' hd (by decide +kernel) (by decide +kernel) (by decide +kernel) (oks.bx.mono (by decide)) (oks.by'.mono (by decide)) (oks.bz.mono (by decide)) ?_;rw [show decide (0<sgn d (s.x*1 - 0*s.z) (s.y*1 - 0*s.z))=true from iu (by simpa only [cJ,bV,Int.sub_zero] using up)];exists AI (SqT.of hs') cw' hd (oks.bx.mono (by decide)) (oks.by'.mono (by decide)) (oks.bz.mono (by decide)) (okw.bx.mono (by decide)) (okw.by'.mono (by decide)) (okw.bz.mono (by decide)) ?_;rw [show decide (0<sgn d (c.b.w.x*s.z - s.x*c.b.w.z) (c.b.w.y*s.z - s.y*c.b.w.z))=true from iu un];exists zr (by simp) λr1 H1 hr1 s1 e1=>?_;have ct1:=s1 _ _ ct;exists AR (s1 _ _ cw') (s1 _ _ hs') okw.z1 oks.z1 okw.g oks.g (okw.bx.mono (by decide)) (okw.by'.mono (by decide)) (okw.bz.mono (by decide)) (oks.bx.mono (by decide)) (oks.by'.mono (by decide)) (oks.bz.mono (by decide)) λr2 H2 s2 e2=>?_;have ct2:=s2 _ _ ct1;exists zr (by simp) λr3 H3 hr3 s3 e3=>?_;exists zv (by simp) λr H4 hr s4 e4=>?_;have t4:=((s1.trans s2).trans s3).trans s4;exact q r ⟨r1,p,c.ph,⟨s,c.b.h⟩⟩ ⟨r3,r2,c.ph,⟨tkS c.b.w s,c.b.h⟩⟩ H4 t4 (Same.nn ((s1.trans s2).trans s3) hr) e4 ⟨s4 _ _ (s3 _ _ (s2 _ _ e1)),t4 _ _ hs,t4 _ _ hc.h⟩ ⟨s4 _ _ e3,s4 _ _ (s3 _ _ e2),t4 _ _ hc.h⟩ rfl rfl
theorem K51(F:Fun K "board_table" "board_table" S39 f fd)(B:Bl mg)(o5x:Own P w K mg base 3 "parts" ["one"] [] P36)(o37x:Own P w K mg base 2 "times" ["one","other"] [] P31):FnOk P w K mg base CX0 4 f fd ["one"] P52:=by
  refine F.okA C54 λcdv A outer s H vs Q E hr h=>?_;obtain @⟨c,rfl,⟨ht,hw,hh⟩,⟨ow,oh⟩,q⟩:=h;refine ⟨_,(za (ps_s 1 C54.nd (ze o5x hr rfl (pa1 (pit 0)))) (za (ps_s 2 C54.nd (ze o5x hr rfl (pa1 (pit 0)))) (zc (zh (zo (pa2 (zo (pa2 (ze o37x hr rfl (pa2 (pit 1) (pit 2))) (ze o37x hr rfl (pa2 (pit 1) (pit 2))))) (zo (pa2 (ze o37x hr rfl (pa2 (pit 1) (pit 2))) (ze o37x hr rfl (pa2 (pit 1) (pit 2))))))))))),?_⟩;walk_at "s";have bq:∀ {x:Rat},Br 430 340 x->Bq 8000 x:=λh=>h.bq (by decide) (by decide);exists Dj rfl hw ow.ne (ow.bz.mono (by decide)) λa0 a1 a2 H1 s1 ea ea1 ea2=>?_;have ea1:=Fo ow.ne ea1;have ea2:=Fo ow.ne ea2;have ht:=s1 _ _ ht;have hh:=s1 _ _ hh;exists Dj rfl hh oh.ne (oh.bz.mono (by decide)) λb0 b1 b2 H2 s2 eb eb1 eb2=>?_;have eb1:=Fo oh.ne eb1;have eb2:=Fo oh.ne eb2;have ea:=s2 _ _ ea;have ea1:=s2 _ _ ea1;have ea2:=s2 _ _ ea2;exists uk ea1 eb1 (bq (skp ow)) (bq (skp oh)) λt0 H3 s3 et0=>?_;have ea:=s3 _ _ ea;have eb:=s3 _ _ eb;have ea1:=s3 _ _ ea1;have ea2:=s3 _ _ ea2;have eb1:=s3 _ _ eb1;have eb2:=s3 _ _ eb2;exists uk ea1 eb2 (bq (skp ow)) (bq (skq oh)) λt1 H4 s4 et1=>?_;have ea:=s4 _ _ ea;have eb:=s4 _ _ eb;have ea1:=s4 _ _ ea1;have ea2:=s4 _ _ ea2;have eb1:=s4 _ _ eb1;have eb2:=s4 _ _ eb2;have et0:=s4 _ _ et0;exists zC (by simp) λr0 G0 z0 er0=>?_;have ea:=z0 _ _ ea;have eb:=z0 _ _ eb;have ea1:=z0 _ _ ea1;have ea2:=z0 _ _ ea2;have eb1:=z0 _ _ eb1;have eb2:=z0 _ _ eb2;have et0:=z0 _ _ et0;have et1:=z0 _ _ et1;exists uk ea2 eb1 (bq (skq ow)) (bq (skp oh)) λt2 H5 s5 et2=>?_;have ea:=s5 _ _ ea;have eb:=s5 _ _ eb;have ea1:=s5 _ _ ea1;have ea2:=s5 _ _ ea2;have eb1:=s5 _ _ eb1;have eb2:=s5 _ _ eb2;have et0:=s5 _ _ et0;have et1:=s5 _ _ et1;have er0:=s5 _ _ er0;exists uk ea2 eb2 (bq (skq ow)) (bq (skq oh)) λt3 H6 s6 et3=>?_;have ea:=s6 _ _ ea;have eb:=s6 _ _ eb;have ea1:=s6 _ _ ea1;have ea2:=s6 _ _ ea2;have eb1:=s6 _ _ eb1;have eb2:=s6 _ _ eb2;have et0:=s6 _ _ et0;have et1:=s6 _ _ et1;have et2:=s6 _ _ et2;have er0:=s6 _ _ er0;exists zC (by simp) λr1 G1 z1 er1=>?_;have ea:=z1 _ _ ea;have eb:=z1 _ _ eb;have ea1:=z1 _ _ ea1;have ea2:=z1 _ _ ea2;have eb1:=z1 _ _ eb1;have eb2:=z1 _ _ eb2;have et0:=z1 _ _ et0;have et1:=z1 _ _ et1;have et2:=z1 _ _ et2;have et3:=z1 _ _ et3;have er0:=z1 _ _ er0;exists zC (by simp) λr G z er=>?_;exact q r G ((((((((s1.trans s2).trans s3).trans s4).trans z0).trans s5).trans s6).trans z1).trans z) ⟨r0,r1,t0,t1,t2,t3,er,z _ _ er0,z _ _ er1,z _ _ et0,z _ _ et1,z _ _ et2,z _ _ et3⟩
theorem IZ{K:iB}{x y z:V}(h:H a=some (.tup [x,y,z]))(q:∀ (p:Addr) (H2:Hp),Same H H2->H2 p=some (.tup [x,y])->Q (.ref p) H2):rSlT K (.ref a) none (some 2) H Q :=
  ⟨a,_,rfl,SqT.of h,by simp only [ar,aP]; decide,λp hp=>q p _ (zA hp _) zf⟩
theorem K52(F:Fun K "_law_below" "_law_below" S51 f fd)(B:Bl mg)(o50x:Own P w K mg base 3 "_law_plus" ["_law_one","_law_other","_law_sign_here"] [] P45)(o49x:Own P w K mg base 1 "_law_sign" ["_law_d","_law_a","_law_b"] [] P16):FnOk P w K mg base CX0 4 f fd ["_law_d","_law_one","_law_other"] P53:=by
  refine F.okA C55 λcdv A outer s H vs Q E hr h=>?_;obtain @⟨d,p,p',s,t,rfl,h1,h2,o1,o2,hd,q⟩:=h;refine ⟨_,(za (ps_s 3 C55.nd (ze o50x hr rfl (pa3 (pv 1) (pv 2) (uN wa zd)))) (zc (zh (u9 (zW (EM hr.units) (xt Gn (pv 3) va (xJ zd)) (zo (pa2 zd zd)) (zk _)) (vX (zW uu (ze o49x hr rfl (pa3 (pv 0) (pit 3) (pit 3))) zd (zk _))))))),?_⟩;walk_at "s";exists yJ rfl h1 h2 o1 o2 (by decide +kernel) λr H1 s1 e1=>?_;rw [AN] at e1;have e1':H1 r=some (.tup [.int (tkS s t).x,.int (tkS s t).y,.int (tkS s t).z]):=e1;have bx:Bd 4501 (tkS s t).x:=Bd.fdiv (Bd.add (Bd.mul o1.bx (o2.bz)) (Bd.mul o2.bx.neg o1.bz)) _;have by':Bd 4501 (tkS s t).y:=Bd.fdiv (Bd.add (Bd.mul o1.by' (o2.bz)) (Bd.mul o2.by'.neg o1.bz)) _;exists IZ e1' λp2 H2 s2 e2=>?_;have e1':=s2 _ _ e1';exists zC (by simp) λp3 H3 s3 e3=>?_;have e1':=s3 _ _ e1';refine JJ (s3 _ _ e2) e3 ?_;exists A9 (λc=>?_) (λc=>?_)
  . exists vq rfl hd (bx.mono (by decide)) (by'.mono (by decide)) λH4 s4=>?_;walk_at "r";exact q H4 (((s1.trans s2).trans s3).trans s4)
  . exists bl_q ?_ (q H3 ((s1.trans s2).trans s3));rw [c.1,c.2,ym];rfl
theorem K53(F:Fun K "_law_heap" "_law_heap" S54 f fd)(B:Bl mg)(o54x:Own P w K mg base 3 "_law_side" ["_law_d","_law_cell_here","_law_at_here"] [] P47)(o43x:Own P w K mg base 1 "_law_cell" ["_law_script","_law_k"] [] (P13 K))(o46x:Own P w K mg base 2 "_law_digits" ["_law_cell_here","_law_many"] [] P32):FnOk P w K mg base CX0 4 f fd ["_law_script","_law_d","_law_first"] (P54 K):=by
  refine F.okA C56 λcdv A outer s H vs Q E hr h=>?_;obtain @⟨p,ns,d,ft,rfl,hft,hS,hb,hR,q⟩:=h;refine ⟨_,(za (uD (i:=3) C56.nd rfl rfl ["_law_k"] [0,1,2] rfl (ya rfl B.range (pa1 zd)) (λ_ _ _ _ _=>(pg_n 0 (show List.Nodup (α:=Str) ["_law_k","_law_script","_law_d","_law_first"] by decide +kernel))) (λ_ _ _ _ _=>zJ) (λ_ _ _ _ _=>(ze o54x hr rfl (pa3 (pv 2) (ze o43x hr rfl (pa2 (pv 1) (zg zD (pv 3) (pv 0)))) zd)))) (za (ps_s 4 C56.nd (zH yz)) (za (zP PassesOwn.never rfl (ya rfl B.range (pa1 (zg zD zd (zg zG (pe_i zE (ze o46x hr rfl (pa2 (ze o43x hr rfl (pa2 (pv 0) (zg zD (pv 2) zd))) zd)) zd) zd)))) (pg_n 5 C56.nd) (za (ps_s 6 C56.nd (ze o43x hr rfl (pa2 (pv 0) (zg zD (zg zD (pv 2) zd) (pv 5))))) (za (ps_s 7 C56.nd (ze o46x hr rfl (pa2 (pv 6) zd))) (za (ps_s 8 C56.nd (pe_i zE (pv 3) (zg zG (pil 7) zd))) (za (ps_s 9 C56.nd (pe_i zE (pv 3) (zg zG (pil 7) zd))) (za (wH (zx (zi zU (zg zG (zg zS (pil 7) zd) zd) zd (zk _)) (zc (ps_s 8 C56.nd (ze o54x hr rfl (pa3 (pv 1) (pv 6) zd)))) zl)) (za (wH (zx (zi zU (zg zG (zg zS (pil 7) zd) zd) zd (zk _)) (zc (ps_s 9 C56.nd (ze o54x hr rfl (pa3 (pv 1) (pv 6) zd)))) zl)) (zc (zK (xC aN aQ aR zB (pv 4) (pa1 (zo (pa2 (pv 8) (pv 9)))))))))))))) (zc (zh (zo (pa2 (pv 3) (pv 4)))))))),?_⟩;walk_at "s";exists wX ?_;exists ⟨3,rfl,by decide,by decide,λD hD=>yD (lo:=0) (n:=(3:Int).toNat) (λi xs σ' H'=>E2 λ(v:Option V) (P:PL)=>A7 (σ'=[v,some (.ref p),some (.int d),some (.int (ft:Int))]) (xs=P.map (λx=>V.ref x.1)) (P.length=i) (H' D=some (.lst xs)) (SameX D H H') ((∀ x∈P,SdAt H' x.1 x.2)) (∀ x∈P,Dw d x.2)) ⟨none,[],rfl,rfl,rfl,zf,λb o e n=>by rw [zj n]; exact e,λx hx=>absurd hx (by simp),λx hx=>absurd hx (by simp)⟩ ?_ ?_⟩
  . rintro i xs σ' H' hi ⟨v,P,rfl,rfl,hPl,eD,sx,hPa,hPd⟩;have hi3:i<3:=hi;have s':Same H H':=λb o e=>sx b o e (zb e hD);exists ye rfl (s'.seq hS) (by lia) hb λc0 hc0=>?_;exists xN rfl (k:=0) hR hc0 (by decide) λr1 H1 s s1 e1 o1=>?_;walk_at "r";have eD1:=s1 _ _ eD;refine zp eD1 (by rw [aa]; lia) λH2 x2 e2=>?_;refine yr hi ⟨_,P++[(r1,s)],rfl,rfl,by rw [ah,hPl]; rfl,by rw [aj]; exact e2,(sx.trans (s1.sameX D)).trans x2,λx hx=>?_,λx hx=>?_⟩
    . rcases ax.mp hx with hx | hx
      . exact x2.tup (s1 _ _ (hPa x hx)) eD1
      . rw [ak.mp hx]; exact x2.tup e1 eD1
    . rcases ax.mp hx with hx | hx
      . exact hPd x hx
      . rw [ak.mp hx]; exact o1
  rintro xs σ' H2 ⟨v,P,rfl,rfl,hPl,eD,sx,hPa,hPd⟩;have s2:Same H H2:=λb o e=>sx b o e (zb e hD);have hP:Pl H2 D P:=⟨eD,hPa,hPl⟩
  have hS2:=s2.seq hS;clear sx hPa hPl hD;exists zv (by simp) λl H3 hl s3 e3=>?_;exists wx ?_;exists ye rfl (s3.seq hS2) (by lia) hb λc0 hc0=>?_;exists yC hc0 (by decide) (by decide) λl4 H4 ds s4 e4 hl4 hds=>?_;obtain ⟨x5,g5,a5,b5⟩:=dig hl4 hds 5 (by decide) (by decide);exists zw e4 g5 ?_;walk_at "r";have s34:=s3.trans s4;refine ⟨1+x5 % 6,rfl,by lia,by lia,yw (lo:=0) (n:=(1+x5 % 6).toNat) (λi σ H'=>E6 λ(v1 v2 v3 v4 v5:Option V) (L:List Cell)=>A6 (σ=[some (.ref p),some (.int d),some (.int (ft:Int)),some (.ref D),some (.ref l),v1,v2,v3,v4,v5]) (SameX l H4 H') (H' l=some (.lst (L.map Cell.v))) (L.length=i) ((∀ c∈L,c.At H')) (∀ c∈L,Dw d c.b.w/\Dw d c.b.h)) ⟨_,_,_,_,_,[],rfl,λb o e _=>e,s4 _ _ e3,rfl,λc hc=>absurd hc (by simp),λc hc=>absurd hc (by simp)⟩ ?_ ?_⟩
  . rintro i σ H' hi ⟨v1,v2,v3,v4,v5,L,rfl,sx,el,hLl,hLa,hLd⟩;have sH:Same H2 H':=λb o e=>sx b o (s34 b o e) (zb e hl);exists ye rfl (sH.seq hS2) (by lia) hb λc1 hc1=>?_;exists yC hc1 (by decide) (by decide) λl5 H5 es s5 e5 hl5 hes=>?_;obtain ⟨y0,k0,u0,w0⟩:=dig hl5 hes 0 (by decide) (by decide);obtain ⟨y1,k1,u1,w1⟩:=dig hl5 hes 1 (by decide) (by decide);have hP5:=(hP.same sH).same s5;obtain ⟨z0,hz0,gz0,ez0⟩:=hP5.get (i:=y0 % 3) (by lia) (by lia);obtain ⟨z1,hz1,gz1,ez1⟩:=hP5.get (i:=y1 % 3) (by lia) (by lia);repeat (first | walk_at "rd" | refine zw e5 k0 ?_ | refine zw e5 k1 ?_ | refine zw hP5.l gz0 ?_ | refine zw hP5.l gz1 ?_)
    refine tN (T:=λσ' H6=>E2 λ(pw:Addr) (sw:Sd)=>A4 (σ'=[some (.ref p),some (.int d),some (.int (ft:Int)),some (.ref D),some (.ref l),some (.int (0+(i:Int))),some (.int c1),some (.ref l5),some (.ref pw),some (.ref z1.1)]) (Same H5 H6) (SdAt H6 pw sw) (Dw d sw)) ?_ ?_
    . repeat (first | walk_at "rd" | refine zw e5 k0 ?_)
      refine if_d (λ_=>?_) (λ_=>?_)
      . exists xN rfl (k:=2) hR hc1 (by decide) λr1 H6 s s6 e6 o6=>?_;walk_at "r";exact ⟨r1,s,rfl,s6,e6,o6⟩
      . walk_at "r";exact ⟨_,_,rfl,Same.refl _,ez0,hPd z0 hz0⟩
    rintro σ' H6 ⟨pw,sw,rfl,s6,ew,ow⟩;have e5:=s6 _ _ e5;exists tN (T:=λσ' H7=>E2 λ(ph:Addr) (sh:Sd)=>A4 (σ'=[some (.ref p),some (.int d),some (.int (ft:Int)),some (.ref D),some (.ref l),some (.int (0+(i:Int))),some (.int c1),some (.ref l5),some (.ref pw),some (.ref ph)]) (Same H6 H7) (SdAt H7 ph sh) (Dw d sh)) ?_ ?_
    . repeat (first | walk_at "rd" | refine zw e5 k1 ?_)
      refine if_d (λ_=>?_) (λ_=>?_)
      . exists xN rfl (k:=7) hR hc1 (by decide) λr1 H7 s s7 e7 o7=>?_;walk_at "r";exact ⟨r1,s,rfl,s7,e7,o7⟩
      . walk_at "r";exact ⟨_,_,rfl,Same.refl _,s6 _ _ ez1,hPd z1 hz1⟩
    rintro σ' H7 ⟨ph,sh,rfl,s7,eh,oh⟩;have el0:=s7 _ _ (s6 _ _ (s5 _ _ el));exists zr (by simp) λr8 H8 n8 s8 e8=>?_;have st:=((s5.trans s6).trans s7).trans s8;have el8:=st _ _ el;exists zp el8 (by rw [aa]; lia) λH9 x9 e9=>?_;exists ⟨_,_,_,_,_,L++[⟨r8,pw,ph,⟨sw,sh⟩⟩],rfl,(sx.trans (st.sameX l)).trans x9,by rw [aj]; exact e9,by rw [ah,hLl]; rfl,λx hx=>?_,λx hx=>?_⟩
    . rcases ax.mp hx with hx | hx
      . exact ((hLa x hx).same st).sameX x9 el8
      . rw [ak.mp hx];exact Cell.At.sameX ⟨e8,s8 _ _ (s7 _ _ ew),s8 _ _ eh⟩ x9 el8
    . rcases ax.mp hx with hx | hx
      . exact hLd x hx
      . rw [ak.mp hx]; exact ⟨ow,oh⟩
  rintro σ H5 ⟨v1,v2,v3,v4,v5,L,rfl,sx,el,hLl,hLa,hLd⟩;have sH:Same H2 H5:=λb o e=>sx b o (s34 b o e) (zb e hl);exists zr (by simp) λr H6 n6 s6 e6=>?_;exact q r D l H6 P L ((s2.trans sH).trans s6) e6 ((hP.same sH).same s6) (s6 _ _ el) (λc hc=>(hLa c hc).same s6) hPd hLd (by lia) (by lia)
theorem K54(F:Fun K "_law_new" "_law_new" S55 f fd)(B:Bl mg)(o50x:Own P w K mg base 3 "_law_plus" ["_law_one","_law_other","_law_sign_here"] [] P45)(o51x:Own P w K mg base 3 "_law_share" ["_law_one","_law_top","_law_bottom"] [] P46):FnOk P w K mg base CX0 4 f fd ["_law_deed_here","_law_some"] P55:=by
  refine F.okA C57 λcdv A outer s H vs Q E hr h=>?_;obtain @⟨p,a,d,e,c,c',rfl,he,ha,hc,hc',hf,q⟩:=h;refine ⟨_,(za (BN (pil 1) (wF (n:=2) rfl (zO (pg_n 2 C57.nd) (zO (pg_n 3 C57.nd) xj)))) (za (zx (zi zU (pit 0) zy (zk _)) (zc (zh (zH (pa2 (zo (pa2 (pit 0) (pv 3))) (zo (pa2 (ze o50x hr rfl (pa3 (pv 2) (pit 0) (uN wa zd))) (pv 3))))))) zl) (za (zx (zi zU (pit 0) zy (zk _)) (zc (zh (zH (pa2 (zo (pa2 (pv 2) (pit 0))) (zo (pa2 (pv 2) (ze o50x hr rfl (pa3 (pv 3) (pit 0) (uN wa zd))))))))) zl) (za (zx (zi zU (pit 0) zy (zk _)) (zc (zh (zH (pa1 (zo (pa2 (ze o50x hr rfl (pa3 (pv 2) (pe_i zT (pil 1) zd) zd)) (pv 3))))))) zl) (za (zx (zi zU (pit 0) zy (zk _)) (zc (zh (zH (pa1 (zo (pa2 (pv 2) (ze o50x hr rfl (pa3 (pv 3) (pe_i zT (pil 1) zd) zd)))))))) zl) (za (zx (zi zU (pit 0) zy (zk _)) (zc (zh (zH (pa1 (zo (pa2 (ze o51x hr rfl (pa3 (pv 2) zd (pit 0))) (ze o51x hr rfl (pa3 (pv 3) (pit 0) zd)))))))) zl) (za (zx (zi zU (pit 0) zy (zk _)) (zc (zh (zH (pa1 (zo (pa2 (ze o51x hr rfl (pa3 (pv 2) (pit 0) zd)) (ze o51x hr rfl (pa3 (pv 3) zd (pit 0))))))))) zl) (zc (zh (zH (pa1 (zo (pa2 (pv 3) (pv 2)))))))))))))),?_⟩;walk_at "s";cases e with
  | cut al n s =>
    obtain ⟨pq,h0,hs⟩:=he;cases al with
    | false =>
      have h0:H p=some (.tup [.str (Str.ofString "across"),.int n,.ref pq]):=h0;have ha:H a=some (.lst [.ref c.p]):=ha;have ct:=hc.t;have ct':=hc'.t;exists if_d (λ_=>?_) (λc=>absurd rfl c);walk_at "r";obtain ⟨f1,f2,f3,f4⟩:=hf;refine zr (by simp) λr1 H1 hr1 s1 e1=>?_;have h0:=s1 _ _ h0;exists yJ rfl (s1 _ _ hc.w) (s1 _ _ hs) f1 f2 (by decide +kernel) λr2 H2 s2 e2=>?_;rw [AN] at e2;exists zr (by simp) λr3 H3 hr3 s3 e3=>?_;exists zv (by simp) λr HL nr sL eL=>?_;have t4:=((s1.trans s2).trans s3).trans sL;refine q r [⟨r1,pq,c.ph,⟨s,c.b.h⟩⟩,⟨r3,r2,c.ph,⟨tkS c.b.w s,c.b.h⟩⟩] HL t4 (Same.nn ((s1.trans s2).trans s3) nr) eL (λx hx=>?_) rfl;rcases aK.mp hx with rfl|hx
      . exact ⟨sL _ _ (s3 _ _ (s2 _ _ e1)),t4 _ _ hs,t4 _ _ hc.h⟩
      . rw [ak.mp hx]; exact ⟨sL _ _ e3,sL _ _ (s3 _ _ e2),t4 _ _ hc.h⟩
    | true =>
      have h0:H p=some (.tup [.str (Str.ofString "along"),.int n,.ref pq]):=h0;have ha:H a=some (.lst [.ref c.p]):=ha;have ct:=hc.t;have ct':=hc'.t;exists ifn ?_;exists if_d (λ_=>?_) (λc=>absurd rfl c);walk_at "r";obtain ⟨f1,f2,f3,f4⟩:=hf;refine zr (by simp) λr1 H1 hr1 s1 e1=>?_;have h0:=s1 _ _ h0;exists yJ rfl (s1 _ _ hc.h) (s1 _ _ hs) f1 f2 (by decide +kernel) λr2 H2 s2 e2=>?_;rw [AN] at e2;exists zr (by simp) λr3 H3 hr3 s3 e3=>?_;exists zv (by simp) λr HL nr sL eL=>?_;have t4:=((s1.trans s2).trans s3).trans sL;refine q r [⟨r1,c.pw,pq,⟨c.b.w,s⟩⟩,⟨r3,c.pw,r2,⟨c.b.w,tkS c.b.h s⟩⟩] HL t4 (Same.nn ((s1.trans s2).trans s3) nr) eL (λx hx=>?_) rfl;rcases aK.mp hx with rfl|hx
      . exact ⟨sL _ _ (s3 _ _ (s2 _ _ e1)),t4 _ _ hc.w,t4 _ _ hs⟩
      . rw [ak.mp hx]; exact ⟨sL _ _ e3,t4 _ _ hc.w,sL _ _ (s3 _ _ e2)⟩
  | glue al n m =>
    have h0:=he;cases al with
    | false =>
      have h0:H p=some (.tup [.str (Str.ofString "beside"),.int n,.int m]):=h0;have ha:H a=some (.lst [.ref c.p,.ref c'.p]):=ha;have ct:=hc.t;have ct':=hc'.t;exists ifn ?_;exists ifn ?_;exists if_d (λ_=>?_) (λc=>absurd rfl c);exists yJ rfl hc.w hc'.w hf.2.1 hf.2.2 (by decide +kernel) λr2 H2 s2 e2=>?_;rw [D4] at e2;exists zr (by simp) λrc HC nc sC eC=>?_;exists zv (by simp) λr HL nr sL eL=>?_;refine q r [⟨rc,r2,c.ph,⟨adS c.b.w c'.b.w,c.b.h⟩⟩] HL ((s2.trans sC).trans sL) (Same.nn (s2.trans sC) nr) eL (λx hx=>?_) rfl;rw [ak.mp hx];exact ⟨sL _ _ eC,sL _ _ (sC _ _ e2),sL _ _ (sC _ _ (s2 _ _ hc.h))⟩
    | true =>
      have h0:H p=some (.tup [.str (Str.ofString "atop"),.int n,.int m]):=h0;have ha:H a=some (.lst [.ref c.p,.ref c'.p]):=ha;have ct:=hc.t;have ct':=hc'.t;exists ifn ?_;exists ifn ?_;exists ifn ?_;exists if_d (λ_=>?_) (λc=>absurd rfl c);exists yJ rfl hc.h hc'.h hf.2.1 hf.2.2 (by decide +kernel) λr2 H2 s2 e2=>?_;rw [D4] at e2;exists zr (by simp) λrc HC nc sC eC=>?_;exists zv (by simp) λr HL nr sL eL=>?_;refine q r [⟨rc,c.pw,r2,⟨c.b.w,adS c.b.h c'.b.h⟩⟩] HL ((s2.trans sC).trans sL) (Same.nn (s2.trans sC) nr) eL (λx hx=>?_) rfl;rw [ak.mp hx];exact ⟨sL _ _ eC,sL _ _ (sC _ _ (s2 _ _ hc.w)),sL _ _ (sC _ _ e2)⟩
  | shift al n k =>
    have h0:=he;cases al with
    | false =>
      have h0:H p=some (.tup [.str (Str.ofString "stack"),.int n,.int k]):=h0;have ha:H a=some (.lst [.ref c.p]):=ha;have ct:=hc.t;have ct':=hc'.t;exists ifn ?_;exists ifn ?_;exists ifn ?_;exists ifn ?_;exists if_d (λ_=>?_) (λc=>absurd rfl c);exists yf rfl hc.w hf.2.2.1 (by decide +kernel) (by have:=hf.1; lia) (hf.2.1) λr1 H1 s1 e1=>?_;have h0:=s1 _ _ h0;exists yf rfl (s1 _ _ hc.h) hf.2.2.2 (hf.2.1) (by decide) (by decide +kernel) λr2 H2 s2 e2=>?_;exists zr (by simp) λrc HC nc sC eC=>?_;exists zv (by simp) λr HL nr sL eL=>?_;refine q r [⟨rc,r1,r2,⟨shS c.b.w 1 k,shS c.b.h k 1⟩⟩] HL (((s1.trans s2).trans sC).trans sL) (Same.nn ((s1.trans s2).trans sC) nr) eL (λx hx=>?_) rfl;rw [ak.mp hx];exact ⟨sL _ _ eC,sL _ _ (sC _ _ (s2 _ _ e1)),sL _ _ (sC _ _ e2)⟩
    | true =>
      have h0:H p=some (.tup [.str (Str.ofString "spread"),.int n,.int k]):=h0;have ha:H a=some (.lst [.ref c.p]):=ha;have ct:=hc.t;have ct':=hc'.t;exists ifn ?_;exists ifn ?_;exists ifn ?_;exists ifn ?_;exists ifn ?_;exists if_d (λ_=>?_) (λc=>absurd rfl c);exists yf rfl hc.w hf.2.2.1 (hf.2.1) (by decide) (by decide +kernel) λr1 H1 s1 e1=>?_;have h0:=s1 _ _ h0;exists yf rfl (s1 _ _ hc.h) hf.2.2.2 (by decide +kernel) (by have:=hf.1; lia) (hf.2.1) λr2 H2 s2 e2=>?_;exists zr (by simp) λrc HC nc sC eC=>?_;exists zv (by simp) λr HL nr sL eL=>?_;refine q r [⟨rc,r1,r2,⟨shS c.b.w k 1,shS c.b.h 1 k⟩⟩] HL (((s1.trans s2).trans sC).trans sL) (Same.nn ((s1.trans s2).trans sC) nr) eL (λx hx=>?_) rfl;rw [ak.mp hx];exact ⟨sL _ _ eC,sL _ _ (sC _ _ (s2 _ _ e1)),sL _ _ (sC _ _ e2)⟩
  | turn n =>
    have h0:=he;have h0:H p=some (.tup [.str (Str.ofString "turn"),.int n]):=h0;have ha:H a=some (.lst [.ref c.p]):=ha;have ct:=hc.t;have ct':=hc'.t;exists ifn ?_;exists ifn ?_;exists ifn ?_;exists ifn ?_;exists ifn ?_;exists ifn ?_;exists zr (by simp) λrc HC nc sC eC=>?_;exists zv (by simp) λr HL nr sL eL=>?_;refine q r [⟨rc,c.ph,c.pw,⟨c.b.h,c.b.w⟩⟩] HL (((Same.refl H).trans sC).trans sL) (Same.nn ((Same.refl H).trans sC) nr) eL (λx hx=>?_) rfl;rw [ak.mp hx];exact ⟨sL _ _ eC,sL _ _ (sC _ _ hc.h),sL _ _ (sC _ _ hc.w)⟩
theorem K55(F:Fun K "serving" "serving" S16 f fd)(B:Bl mg)(o11x:Own P w K mg base 3 "first_base" ["d","n"] [] P39)(o15x:Own P w K mg base 2 "common_bottom" ["lengths"] [] (P27 K))(o12x:Own P w K mg base 4 "next_base" ["d","base"] [] P48)(o3x:Own P w K mg base 2 "length" ["a","b","n"] [] P22)(o14x:Own P w K mg base 2 "counts" ["d","base","one"] [] P26):FnOk P w K mg base CX0 5 f fd ["d","lengths"] (P56 K):=by
  refine F.okA C58 λcdv A outer s H vs Q E hr h=>?_;obtain @⟨d,p,L,k,rfl,hL,hR,hlen,hF,hNb,q⟩:=h;refine ⟨_,(za (ps_s 2 C58.nd (ze o11x hr rfl (pa2 (pv 0) zd))) (za (zP PassesOwn.never rfl (zI (pv 1)) (pg_n 3 C58.nd) (za (ps_s 4 C58.nd (zo (pa3 (pit 3) (pit 3) zd))) (zc (uL PassesOwn.never (zi uu (zn (De rfl) rfl B.min JA (pa1 (ze o14x hr rfl (pa3 (pv 0) (pv 2) (pv 4))))) zd (zk _)) (zc (ps_s 2 C58.nd (ze o12x hr rfl (pa2 (pv 0) (pv 2))))))))) (za (ps_s 5 C58.nd (ze o15x hr rfl (pa1 (pv 1)))) (zc (zh (z9 ED rfl B.tuple uQ (pa1 (yl ["side"] [5] rfl (GE (pv 2)) (λ_ _ _ _ _=>(pg_n 0 (show List.Nodup (α:=Str) ["side","bottom"] by decide +kernel))) (λ_ _ _ _ _=>zJ) (λ_ _ _ _ _=>(ze o3x hr rfl (pa3 (pe_i (r:=rIxT K) zT (pv 0) zd) (pe_i (r:=rIxT K) zT (pv 0) zd) (pv 1)))))))))))),?_⟩;walk_at "s";obtain ⟨N1,_,_⟩:=CU (Ke hL.ok);obtain ⟨ups,bds⟩:=HS hL.ok;have gK:=Fst.gb hR (by decide) hF ups bds;exists Ah rfl (by decide) (by decide +kernel) λp0 a1 a2 H1 s1 f1=>?_;exists y9 ?_;exists ⟨p,rfl,⟨_,SqL.of (hL.same s1).l⟩,z6 (K:=K) (a:=p) (xs:=L.map Ln.v) (λi σ H'=>E7 λ(pb r1 r2:Addr) (n:Nat) (v3 v4 v5:Option V)=>A4 (σ=[some (.int d),some (.ref p),some (.ref pb),v3,v4,v5]) (Same H1 H') (BsAt H' pb r1 r2 (st d n) 1) (Fst d ((L.take i).map Ln.u) n)) ⟨p0,a1,a2,0,_,_,_,rfl,Same.refl _,f1,λu hu=>absurd hu (by simp),λn hn=>absurd hn (by lia)⟩ (λi σ H' _ z'=>by obtain ⟨_,_,_,_,_,_,_,_,s,_⟩:=z'; exact SqL.of ((hL.same s1).same s).l) ?_ ?_⟩
  . rintro i y σ H' hi ⟨pb,r1,r2,n,v3,v4,v5,rfl,si,fb,hn⟩;obtain ⟨c,rfl,hc,hic⟩:=Jb hi;have e0:H' c.p=some (.tup [.int c.s.x,.int c.s.y,.int c.s.z]):=si _ _ (s1 _ _ (hL.at' c hc));have ok:=hL.ok c hc;obtain ⟨ups',bds'⟩:=HS (HE hL.ok (i+1));obtain ⟨M,hM⟩:=GA hR ups';rw [Bc hic] at hM ups' bds';have ucM:c.u∈(L.take i).map Ln.u++[c.u]:=by simp
    have hnM:n<=M:=by
      refine Nat.not_lt.mp λz=>?_;obtain ⟨u,hu,nu⟩:=hn.2 M z;exact nu (hM.1 u (bU _ hu))
    exists zC (by simp) λt H2 s2 e2=>?_;obtain ⟨o1,o2,o3⟩:=Ax c.s.x c.s.y;have e2':H2 t=some (.tup [.int (lA c.s.x c.s.y 1),.int (lB c.s.x c.s.y 1),.int (lN c.s.x c.s.y 1)]):=by rw [o1,o2,o3]; exact e2
    exists HW (λm σ H'=>E4 λ(pb r1 r2:Addr) (n:Nat)=>A5 (σ=[some (.int d),some (.ref p),some (.ref pb),some (.ref c.p),some (.ref t),v5]) (Same H2 H') (BsAt H' pb r1 r2 (st d n) 1) (n+m=M) (∀ u∈(L.take i).map Ln.u,(st d n).srv u.1 u.2)) ⟨M - n,pb,r1,r2,n,rfl,Same.refl _,fb.same s2,by lia,hn.1⟩ ?_;rintro m σ H3 ⟨pb,r1,r2,n,rfl,s3,fb,hm,hs⟩;have g:GB d 900 (st d n):=(Fst.gb_le hR (k:=700) (by decide) hM (show n<=M by lia) ups' bds').mono (by decide);exists BD fb (s3 _ _ e2') (by decide) (by decide +kernel) g (ok.bx.mono (by decide)) (ok.by'.mono (by decide)) λr H4 s4 e4=>?_;exists IL e4 λw hw w1 w2=>?_;have hw0:=HX hw w1 w2;exists if_d (λcc=>?_) (λcc=>?_)
    . have ns:¬ (st d n).srv c.u.1 c.u.2:=hw0.mp cc;have lt:n<M:=by
        refine Nat.not_le.mp λz=>?_;exact ns (DE (hM.1 c.u ucM) z)
      refine wgn ?_;exists AS rfl (fb.same s4) hR (by decide) (by decide +kernel) g λpb' r1' r2' H5 s5 f5=>?_;walk_at "r";exact ⟨m - 1,by lia,pb',r1',r2',n+1,rfl,(s3.trans s4).trans s5,f5,by lia,λu hu=>Gh d (hs u hu)⟩
    . have sv:(st d n).srv c.u.1 c.u.2:=fM λz=>cc (hw0.mpr z);have all:∀ u∈(L.take i).map Ln.u++[c.u],(st d n).srv u.1 u.2:=λu hu=>by
        rcases ax.mp hu with z|z
        . exact hs u z
        . have:u=c.u:=by simpa using z
          subst this;exact sv
      have eq:n=M:=by
        refine Nat.le_antisymm (by lia) (Nat.not_lt.mp λz=>?_);obtain ⟨u,hu,nu⟩:=hM.2 n z;exact nu (all u hu)
      exists ⟨pb,r1,r2,n,_,_,_,rfl,((si.trans s2).trans s3).trans s4,fb.same s4,?_⟩;rw [Bc hic,eq];exact hM
  . rintro σ H' ⟨pb,r1,r2,n,v3,v4,v5,rfl,si,fb,hn⟩;rw [aa,au] at hn;have en:=hn.unique (λ_=>Iff.rfl) hF;subst en;have q1:=gK.ba;have q2:=gK.bb;have q3:=gK.bc;have q4:=gK.be;have hL':=(hL.same s1).same si;exists vd rfl hL' hlen hNb ?_;have hNb8:Bd 8000 (cbs (L.map λc=>c.s.z)):=hNb.mono (by decide);generalize cbs (L.map λc=>c.s.z)=N at *
    obtain ⟨o1,o2,o3⟩:=Ax (st d n).a (st d n).b;obtain ⟨o4,o5,o6⟩:=Ax (st d n).c (st d n).e;obtain ⟨f0,f1,f2⟩:=fb;rw [o1,o2,o3] at f1;rw [o4,o5,o6] at f2;exists EF ?_;exists ⟨pb,rfl,⟨_,SqT.of f0⟩,λD hD=>Bu (K:=K) (a:=pb) (ys:=[.ref r1,.ref r2]) (λi xs σ' H2=>E1 λ(v:Option V)=>A4 (σ'=[v,some (.int N)]) (H2 D=some (.lst xs)) (SameX D H' H2) (((i=0/\xs=[])\/(i=1/\∃ q1,xs=[.ref q1]/\H2 q1=some (.tup [.int (lA (st d n).a (st d n).b N),.int (lB (st d n).a (st d n).b N),.int (lN (st d n).a (st d n).b N)]))\/(i=2/\∃ q1 q2,xs=[.ref q1,.ref q2]/\H2 q1=some (.tup [.int (lA (st d n).a (st d n).b N),.int (lB (st d n).a (st d n).b N),.int (lN (st d n).a (st d n).b N)])/\H2 q2=some (.tup [.int (lA (st d n).c (st d n).e N),.int (lB (st d n).c (st d n).e N),.int (lN (st d n).c (st d n).e N)]))))) ⟨none,rfl,zf,λb o e n=>by rw [zj n]; exact e,.inl ⟨rfl,rfl⟩⟩ (λi xs σ' H2 _ z=>by obtain ⟨v,_,_,z,_⟩:=z; exact SqT.of (z _ _ f0 (zb f0 hD))) ?_ ?_⟩
    . rintro i x xs σ' H2 hi ⟨v,rfl,eD,sx,hx⟩;have k1:H2 r1=some (.tup [.int (st d n).a,.int (st d n).b,.int 1]):=sx _ _ f1 (zb f1 hD);have k2:H2 r2=some (.tup [.int (st d n).c,.int (st d n).e,.int 1]):=sx _ _ f2 (zb f2 hD);have hi':=(af.mp hi).1;rcases hx with ⟨rfl,rfl⟩|⟨rfl,q1,rfl,hq1⟩|⟨rfl,_⟩
      . obtain rfl:V.ref r1=x:=aw hi;exists yR rfl (by lia) hNb8 λt H3 s3 e3=>?_;have eD3:=s3 _ _ eD;refine zp eD3 (by simp) λH4 sx4 e4=>?_;exact yr hi' ⟨_,rfl,e4,(sx.trans (s3.sameX D)).trans sx4,.inr (.inl ⟨rfl,t,rfl,sx4.tup e3 eD3⟩)⟩
      . obtain rfl:V.ref r2=x:=aw hi;exists yR rfl (by lia) hNb8 λt H3 s3 e3=>?_;have eD3:=s3 _ _ eD;refine zp eD3 (by simp) λH4 sx4 e4=>?_;exact yr hi' ⟨_,rfl,e4,(sx.trans (s3.sameX D)).trans sx4,.inr (.inr ⟨rfl,q1,t,rfl,sx4.tup (s3 _ _ hq1) eD3,sx4.tup e3 eD3⟩)⟩
      . exact absurd hi' (by simp)
    . rintro xs σ' H2 ⟨v,rfl,eD,sx,hx⟩;rcases hx with ⟨h0,_⟩|⟨h0,_⟩|⟨_,q1,q2,rfl,hq1,hq2⟩
      . exact absurd h0 (by simp)
      . exact absurd h0 (by simp)
      have sD:Same H' H2:=λb o e=>sx b o e (zb e hD);exists JH eD λt H3 s3 e3=>?_;exact q t q1 q2 H3 (((s1.trans si).trans sD).trans s3) ⟨e3,s3 _ _ hq1,s3 _ _ hq2⟩
theorem K56(F:Fun K "normal_plan" "normal_plan" S18 f fd)(B:Bl mg)(o19x:Own P w K mg base 1 "gathering" ["pieces","unused"] [] P6)(o14x:Own P w K mg base 2 "counts" ["d","base","one"] [] P26)(o17x:Own P w K mg base 4 "times_over" ["d","many","one"] [] P49):FnOk P w K mg base CX0 5 f fd ["d","heap","base"] P57:=by
  refine F.okA C59 λcdv A outer s H vs Q E hr h=>?_;obtain @⟨d,d',p,pb,r1,r2,s',N,D,px,py,C,hb,rfl,hl,hA,fb,hN,hNb,gb,hlen,h60,hd,hD,hP,okP,hc,q⟩:=h;refine ⟨_,(za (ps_s 3 C59.nd (zH yz)) (za (ps_s 4 C59.nd (zH yz)) (za (ps_s 5 C59.nd (zH yz)) (za (ps_s 6 C59.nd (zn zt rfl B.len aY (pa1 (pv 1)))) (za (zP PassesOwn.never rfl (uF rfl B.enumerate (pa1 (pv 1))) (wF (n:=2) rfl (zO (pg_n 7 C59.nd) (zO (pg_n 8 C59.nd) xj))) (za (ps_s 9 C59.nd (ze o14x hr rfl (pa3 (pv 0) (pv 2) (pit 8)))) (zc (zx (zi zU (pit 9) zd (zk _)) (zc (zK (xC aN aQ aR zB (pv 4) (pa1 (zo (pa2 (pv 7) (pit 9))))))) (zc (zx (zi zU (pit 9) zd (zk _)) (zc (zK (xC aN aQ aR zB (pv 5) (pa1 (zo (pa2 (pv 7) (pit 9))))))) (za (zK (xC aN aQ aR zB (pv 3) (pa1 (zo (pa3 zy (pv 7) (ze o17x hr rfl (pa3 (pv 0) (pit 9) (pit 2)))))))) (za (zK (xC aN aQ aR zB (pv 4) (pa1 (zo (pa2 (pv 6) (pit 9)))))) (za (zK (xC aN aQ aR zB (pv 5) (pa1 (zo (pa2 (zg zD (pv 6) zd) (pit 9)))))) (zc (ps_s 6 C59.nd (zg zD (pv 6) zd)))))))))))) (za (ps_s 10 C59.nd (ze o19x hr rfl (pa2 (pv 4) (pv 6)))) (zc (zh (zg Cg (zg Cg (pv 3) (pv 10)) (ze o19x hr rfl (pa2 (pv 5) (zg zD (pv 6) (zn zt rfl B.len aY (pa1 (pv 10))))))))))))))),?_⟩;walk_at "s";exists zv (by simp) λDD H1 nD s1 e1=>?_;exists zv (by simp) λFF H2 nF s2 e2=>?_;exists zv (by simp) λOO H3 nO s3 e3=>?_;have z3:=(s1.trans s2).trans s3;have hl3:=z3 _ _ hl;have DF:DD≠FF:=zb e1 nF;have DO:DD≠OO:=zb (s2 _ _ e1) nO;have FO:FF≠OO:=zb e2 nO;have pD:p≠DD:=zb hl nD;have pF:p≠FF:=zb (s1 _ _ hl) nF;have pO:p≠OO:=zb ((s1.trans s2) _ _ hl) nO;exists B6 ?_;walk_at "r";rw [aa,hlen];refine ⟨p,_,rfl,SqL.of hl3,wT (K:=K) (a:=p) (xs:=C.map Cell.v) (λt σ H'=>E6 λ(v1 v2 v3:Option V) (ps fs os:List Addr)=>A6 (σ=[some (.int d),some (.ref p),some (.ref pb),some (.ref DD),some (.ref FF),some (.ref OO),some (.int ((np1 D px py hb.length hb t).u:Int)),v1,v2,v3,none]) ((H' DD=some (.lst (ps.map V.ref))/\Runs H' ps (np1 D px py hb.length hb t).ds/\ps.length<=t)) ((H' FF=some (.lst (fs.map V.ref))/\PcAt H' fs (np1 D px py hb.length hb t).F/\fs.length<=t)) ((H' OO=some (.lst (os.map V.ref))/\PcAt H' os (np1 D px py hb.length hb t).O/\os.length<=t)) ((np1 D px py hb.length hb t).u<=hb.length+2*t) (∀ b o,H3 b=some o->b≠DD->b≠FF->b≠OO->H' b=some o)) ⟨_,_,_,[],[],[],rfl,⟨s3 _ _ (s2 _ _ e1),⟨rfl,λi p x h=>by simp at h⟩,ai _⟩,⟨s3 _ _ e2,⟨rfl,λi p x h=>by simp at h⟩,ai _⟩,⟨e3,⟨rfl,λi p x h=>by simp at h⟩,ai _⟩,ai _,λb o e _ _ _=>e⟩ (λt σ H' _ z=>by obtain ⟨_,_,_,_,_,_,_,_,_,_,_,z⟩:=z; exact SqL.of (z _ _ hl3 pD pF pO)) ?_ ?_⟩
  . rintro t x T σ H' ht hT ⟨v1,v2,v3,ps,fs,os,rfl,⟨eD,hrun,pl⟩,⟨eF,hF,fl⟩,⟨eO,hO,ol⟩,hu,fr⟩;obtain ⟨c,rfl,hcm,htc⟩:=uK ht;have ht':t<hb.length:=by rw [<-hlen]; exact (af.mp htc).1
    obtain ⟨b,hbt⟩:∃ b,hb[t]?=some b:=⟨_,ae ht'⟩
    obtain ⟨X,Y,hw,bX,bY,hi,hj,bi⟩:=hc t c b htc hbt;have tk3:TupK H3 H':=λb xs e=>fr _ _ e (zX e (s3 _ _ (s2 _ _ e1)) (λz=>nomatch z)) (zX e (s3 _ _ e2) (λz=>nomatch z)) (zX e e3 (λz=>nomatch z));have eq:np1 D px py hb.length hb (t+1)=if b.j=0 then ⟨(np1 D px py hb.length hb t).ds,(np1 D px py hb.length hb t).F++[⟨t,b.i,b.x,b.y⟩],(np1 D px py hb.length hb t).O,(np1 D px py hb.length hb t).u⟩
      else if b.i=0 then ⟨(np1 D px py hb.length hb t).ds,(np1 D px py hb.length hb t).F,(np1 D px py hb.length hb t).O++[⟨t,b.j,b.x,b.y⟩],(np1 D px py hb.length hb t).u⟩
      else ⟨(np1 D px py hb.length hb t).ds++[(.cut false t (sdO D (px*b.i) (py*b.i)),t,t)],(np1 D px py hb.length hb t).F++[⟨(np1 D px py hb.length hb t).u,b.i,b.x,b.y⟩],(np1 D px py hb.length hb t).O++[⟨(np1 D px py hb.length hb t).u+1,b.j,b.x,b.y⟩],(np1 D px py hb.length hb t).u+2⟩:=by
      show (match hb[t]? with | none=>_ | some b=>_)=_;rw [hbt]
    rw [eq];generalize np1 D px py hb.length hb t=r at *
    have tkT:TupK H' (upd H' T (.tup [.int (t:Int),.ref c.p])):=λb xs e=>by rw [zj (zb e hT)]; exact e
    have sT:Same H' (upd H' T (.tup [.int (t:Int),.ref c.p])):=zA hT _;have eT:(upd H' T (.tup [.int (t:Int),.ref c.p])) T=some (.tup [.int (t:Int),.ref c.p]):=zf;generalize upd H' T (.tup [.int (t:Int),.ref c.p])=G at eT sT tkT ⊢;have tkG:TupK H3 G:=λb xs e=>tkT _ _ (tk3 _ _ e);have cA:=(hA c hcm).same z3;have ct:=tkG _ _ cA.t;have cw:G c.pw=some (.tup [.int (lA X Y N),.int (lB X Y N),.int (lN X Y N)]):=tkG _ _ (by have:=cA.w; rw [hw] at this; exact this);have fbG:BsAt G pb r1 r2 s' N:=⟨tkG _ _ (fb.same z3).t,tkG _ _ (fb.same z3).f,tkG _ _ (fb.same z3).g⟩
    exists BD fbG cw hN hNb gb bX bY λr4 G1 t1 e4=>?_;rw [<-hi,<-hj] at e4;have sG1:=sT.trans t1;have eD1:=sG1 _ _ eD;have eF1:=sG1 _ _ eF;have eO1:=sG1 _ _ eO;exists if_d (λcj=>?_) (λcj=>?_)
    . rw [h7 cj];exists zr (by simp) λk1 G2 nk tk2 ek=>?_;have eF2:=tk2 _ _ (sG1 _ _ eF);exists zp eF2 (by rw [aa]; lia) λG3 x3 e5=>?_;have s02:=sG1.trans tk2;have tkA:TupK H' G3:=λb xs e=>x3.tup (s02 _ _ e) eF2;exists ⟨_,_,_,ps,fs++[k1],os,rfl,⟨x3 _ _ (s02 _ _ eD) DF,hrun.tk tkA,by lia⟩,⟨by rw [aj]; exact e5,(hF.tk tkA).snoc (x3.tup ek eF2),by rw [ah]; simp only [ar,aP]; lia⟩,⟨x3 _ _ (s02 _ _ eO) (ca FO),hO.tk tkA,by lia⟩,by show r.u<=_; lia,λb o e n1 n2 n3=>x3 _ _ (s02 _ _ (fr _ _ e n1 n2 n3)) n2⟩
    . rw [h8 cj];exists if_d (λci=>?_) (λci=>?_)
      . rw [h7 ci];exists zr (by simp) λk1 G2 nk tk2 ek=>?_;have eO2:=tk2 _ _ (sG1 _ _ eO);exists zp eO2 (by rw [aa]; lia) λG3 x3 e5=>?_;have s02:=sG1.trans tk2;have tkA:TupK H' G3:=λb xs e=>x3.tup (s02 _ _ e) eO2;exists ⟨_,_,_,ps,fs,os++[k1],rfl,⟨x3 _ _ (s02 _ _ eD) DO,hrun.tk tkA,by lia⟩,⟨x3 _ _ (s02 _ _ eF) FO,hF.tk tkA,by lia⟩,⟨by rw [aj]; exact e5,(hO.tk tkA).snoc (x3.tup ek eO2),by rw [ah]; simp only [ar,aP]; lia⟩,by show r.u<=_; lia,λb o e n1 n2 n3=>x3 _ _ (s02 _ _ (fr _ _ e n1 n2 n3)) n3⟩
      . rw [h8 ci];have bt1:=t1 _ _ fbG.t;have bf1:SdAt G1 r1 (bw1 s' N):=t1 _ _ fbG.f;exists Ab rfl bf1 hd bi okP λra G2 t2 ea=>?_;rw [hP,IW hD] at ea;have e42:=t2 _ _ e4;exists zr (by simp) λk1 G3 nk t3 ek=>?_;have s03:=(sG1.trans t2).trans t3;have eD3:=s03 _ _ eD;have e43:=t3 _ _ e42;exists zp eD3 (by rw [aa]; lia) λG4 x4 e5=>?_;have e44:=x4.tup e43 eD3;have ek4:DdAt G4 k1 (.cut false t (sdO D (px*b.i) (py*b.i))):=⟨ra,x4.tup ek eD3,x4.tup (t3 _ _ ea) eD3⟩
        have eF4:=x4 _ _ (s03 _ _ eF) (ca DF);exists zr (by simp) λk2 G5 nk2 t5 ek2=>?_;have eF5:=t5 _ _ (x4 _ _ (s03 _ _ eF) (ca DF));have e45:=t5 _ _ e44;exists zp eF5 (by rw [aa]; lia) λG6 x6 e7=>?_;have e46:=x6.tup e45 eF5;have eO6:=x6 _ _ (t5 _ _ (x4 _ _ (s03 _ _ eO) (ca DO))) (ca FO);exists zr (by simp) λk3 G7 nk3 t7 ek3=>?_;have eO7:=t7 _ _ (x6 _ _ (t5 _ _ (x4 _ _ (s03 _ _ eO) (ca DO))) (ca FO));exists zp eO7 (by rw [aa]; lia) λG8 x8 e9=>?_;have tkA:TupK H' G8:=λb xs e=>x8.tup (t7 _ _ (x6.tup (t5 _ _ (x4.tup (s03 _ _ e) eD3)) eF5)) eO7;have tkB:TupK G4 G8:=λb xs e=>x8.tup (t7 _ _ (x6.tup (t5 _ _ e) eF5)) eO7;have tkC:TupK G5 G8:=λb xs e=>x8.tup (t7 _ _ (x6.tup e eF5)) eO7;exists ⟨_,_,_,ps++[k1],fs++[k2],os++[k3],by rw [show ((r.u:Nat):Int)+2=((r.u+2:Nat):Int) by lia],⟨by rw [aj]; exact x8 _ _ (t7 _ _ (x6 _ _ (t5 _ _ e5) DF)) DO,xi (hrun.tk tkA) (ek4.tk tkB),by rw [ah]; simp only [ar,aP]; lia⟩,⟨by rw [aj]; exact x8 _ _ (t7 _ _ e7) FO,(hF.tk tkA).snoc (tkC _ _ ek2),by rw [ah]; simp only [ar,aP]; lia⟩,⟨by rw [aj]; exact e9,(hO.tk tkA).snoc (x8.tup (by rw [show ((r.u:Nat):Int)+1=((r.u+1:Nat):Int) by lia] at ek3; exact ek3) eO7),by rw [ah]; simp only [ar,aP]; lia⟩,by show r.u+2<=_; lia,λb o e n1 n2 n3=>x8 _ _ (t7 _ _ (x6 _ _ (t5 _ _ (x4 _ _ (s03 _ _ (fr _ _ e n1 n2 n3)) n1)) n2)) n3⟩
  rintro σ H5 ⟨v1,v2,v3,ps,fs,os,rfl,⟨eD,hrun,pl⟩,⟨eF,hF,fl⟩,⟨eO,hO,ol⟩,hu,fr⟩;rw [aa,hlen] at hrun hF hO hu pl fl ol;rw [aa,hlen];have s05:Same H H5:=λb o e=>fr _ _ (z3 _ _ e) (zb e nD) (zb (s1 _ _ e) nF) (zb ((s1.trans s2) _ _ e) nO);have q':∀ (r:Addr) (ps:List Addr) (H':Hp),Same H H'->H r=none->H' r=some (.lst (ps.map V.ref))->Runs H' ps (npl D px py hb)->Q (.ref r) H':=q;unfold npl at q';generalize np1 D px py hb.length hb hb.length=r at *
  have lF:=hF.1;have lO:=hO.1;have glF:=wt (u:=r.u) (pc:=r.F) (ai _);have glO:=wt (u:=r.u+(2*r.F.length - 1)) (pc:=r.O) (ai _);exists vn rfl eF hF (by lia) (by lia) λra pa G1 t1 na ea hra=>?_;have lpa:pa.length=2*r.F.length - 1:=hra.1.trans glF;exists Jn (t1 _ _ eD) ea (by simp only [aa]; lia) λo2 G2 t2 e2'=>?_;have eO2:=(t1.trans t2) _ _ eO;have ea2:=t2 _ _ ea;walk_at "r";have hlen2:((r.u:Nat):Int)+(((pa.map V.ref).length:Nat):Int)=((r.u+(2*r.F.length - 1):Nat):Int):=by rw [aa,lpa]; lia
  rw [hlen2];refine vn rfl eO2 (hO.tk λb xs e=>(t1.trans t2) _ _ e) (by lia) (by lia) λrb pb' G3 t3 nb eb hrb=>?_;have lpb:pb'.length=2*r.O.length - 1:=hrb.1.trans glO;exists Gw (t3 _ _ e2') eb (by simp only [ah,aa]; lia) λo4 G4 n4 t4 e4=>?_;refine q' o4 (ps++(pa++pb')) G4 (((s05.trans t1).trans t2).trans (t3.trans t4)) (Same.nn (((s05.trans t1).trans t2).trans t3) n4) (by rw [e4]; simp only [aj,bB]) ?_;exact B1 ((((hrun.same t1).same t2).same t3).same t4) (B1 (((hra.same t2).same t3).same t4) (hrb.same t4))
theorem K57(F:Fun K "table" "table" S38 f fd)(B:Bl mg)(g_EMPTY:TopE K mg "EMPTY")(o40x:Own P w K mg base 3 "together" ["one","other"] [] (P44 K))(o39x:Own P w K mg base 4 "board_table" ["one"] [] P52):FnOk P w K mg base CX0 5 f fd ["heap"] (P58 K):=by
  obtain ⟨a_EMPTY,m_EMPTY,q_EMPTY⟩:=g_EMPTY;refine F.okA C60 λcdv A outer s H vs Q E hr h=>?_;obtain @⟨p,L,d,D,M,n,K',rfl,hL,hn,⟨hD,bD,kK,kM⟩,q⟩:=h;refine ⟨_,(za (ps_s 1 C60.nd (yI (v:=.ref a_EMPTY) rfl m_EMPTY rfl)) (za (zP PassesOwn.never rfl (zI (pv 0)) (pg_n 2 C60.nd) (zc (ps_s 1 C60.nd (ze o40x hr rfl (pa2 (pv 1) (ze o39x hr rfl (pa1 (pv 2)))))))) (zc (zh (pv 1))))),?_⟩;walk_at "s";have h1:=hL.l;exists y9 ?_;exists ⟨p,rfl,⟨_,SqL.of h1⟩,z6 (K:=K) (a:=p) (xs:=L.map Cell.v) (λi σ H'=>E2 λ(r:Addr) (v:Option V)=>A4 (σ=[some (.ref p),some (.ref r),v]) (Same H H') ((∃ r0 r1 f0 f1 f2 f3:Addr,TbS K H' r r0 r1 f0 f1 f2 f3 (tbs ((L.take i).map Cell.b)))) ((0<i->TbAt H' r (tbs ((L.take i).map Cell.b))))) ⟨a_EMPTY,_,rfl,Same.refl _,q_EMPTY H,λz=>absurd z (by decide)⟩ (λi σ H' _ z'=>by obtain ⟨_,_,_,s,_⟩:=z'; exact SqL.of (s _ _ h1)) ?_ ?_⟩
  . rintro i t σ H' hi ⟨r,v,rfl,s,⟨r0,r1,f0,f1,f2,f3,hT⟩,_⟩;obtain ⟨c,rfl,hc,hci⟩:=uK hi;have bt:=Kr (d:=d) (n:=40) (l:=(L.take i).map Cell.b) (λb hb=>by
      obtain ⟨c,hc,rfl⟩:=aZ.mp hb;exact hL.ok c (bO hc)) hD bD (by
        rw [aa,aJ];have:=hL.len
        lia)
    have sk:=hL.sk hD bD kK kM c hc;have bc:c.b.tb.Bt 860 680:=((hL.ok c hc).tb hD).bt (aH (by lia) (by lia)) (bD.mul bD) |>.mono (by lia) (by lia);exists uT rfl ((hL.at' c hc).same s) sk λr2 H2 s2 e2=>?_;exists CC rfl ⟨r0,r1,f0,f1,f2,f3,hT.same s2⟩ e2 (bt.mono (by lia) (by lia)) (bc.mono (by decide) (by decide)) λr3 H3 s3 e3=>?_;have e3:=e3.eq (u:=tbs ((L.take (i+1)).map Cell.b)) (by rw [Ci hci,FZ]);exists ⟨r3,_,rfl,(s.trans s2).trans s3,?_,λ_=>e3⟩;obtain ⟨r0,r1,f0,f1,f2,f3,e3⟩:=e3;exact ⟨r0,r1,f0,f1,f2,f3,e3.s⟩
  . rintro σ H' ⟨r,v,rfl,s,_,hT⟩;rw [aa] at hT;have hpos:0<L.length:=bA.mpr hL.ne;have hT:=hT hpos;rw [au] at hT;walk_at "r";exact q r H' s hT
theorem K58(F:Fun K "_law_at" "_law_at" S56 f fd)(B:Bl mg)(o51x:Own P w K mg base 3 "_law_share" ["_law_one","_law_top","_law_bottom"] [] P46)(o52x:Own P w K mg base 4 "_law_below" ["_law_d","_law_one","_law_other"] [] P53):FnOk P w K mg base CX0 5 f fd ["_law_d","_law_digits_here","_law_side_here","_law_pool"] P59:=by
  refine F.okA C61 λcdv A outer s H vs Q E hr h=>?_;obtain @⟨d,l,p,qa,ds,s,P,D,M,K',rfl,hl,n8,hds,h1,so,hP,oP,zz,hR,q⟩:=h;refine ⟨_,(za (ps_s 4 C61.nd (pe_i zE (pv 3) (zg zG (pil 1) zd))) (za (zx (PW.pt (xa (zi zU (zg zG (pil 1) zd) zd (zk _)) (yB (yM (ze o52x hr rfl (pa3 (pv 0) (pv 4) (pv 2))))))) (zc (zh (pv 4))) zl) (za (ps_s 5 C61.nd (zg zD zd (zg zG (pil 1) zd))) (zc (zh (ze o51x hr rfl (pa3 (pv 2) (zg zD zd (zg zG (pil 1) (zg yP (pv 5) zd))) (pv 5)))))))),?_⟩;walk_at "s";have dlo:=hR.lo;have hd:Bd 64 d:=zL (B:=99) (by lia) hR.hi (by decide +kernel);have sk:SY s:=zz.sy so;obtain ⟨x3,g3',a3,b3⟩:=dig n8 hds 3 (by decide) (by decide);obtain ⟨x4,g4,a4,b4⟩:=dig n8 hds 4 (by decide) (by decide);obtain ⟨x5,g5,a5,b5⟩:=dig n8 hds 5 (by decide) (by decide);obtain ⟨x6,g6,a6,b6⟩:=dig n8 hds 6 (by decide) (by decide);obtain ⟨y,hy,gy,ey⟩:=hP.get (i:=x3 % 3) (by lia) (by lia);have oy:=oP y hy;have hPl:=hP.l;have fin:∀ (r:Addr) (H':Hp),Same H H'->SdAt H' r (shS s (1+x6 % (2+x5 % 50 - 1)) (2+x5 % 50))->Q (.ref r) H':=λr H' s' e=>by
    have h4:=ce x6 (show 2+x5 % 50 - 1≠0 by lia);have h5:=cg x6 (show 0<2+x5 % 50 - 1 by lia);generalize x6 % (2+x5 % 50 - 1)=t at *
    have hk:2<=2+x5 % 50/\2+x5 % 50<=51:=by lia
    generalize 2+x5 % 50=k at *
    exact q r H' _ k s' e (by lia) (zL (B:=51) (by lia) (by lia) (by decide)) ((HY hR so (by lia) (by lia) (zL (k:=6) (B:=51) (by lia) (by lia) (by decide))).mono (by lia)) (Lu hR so.z1 so.up (by lia) (by lia))
  repeat (first | walk_at "rd" | refine zw hl g3' ?_ | refine zw hl g4 ?_ | refine zw hPl gy ?_)
  refine if_d (λc1=>?_) (λc1=>?_)
  . exists t9 rfl ey h1 (zz.sy oy) sk hd λH1 s1=>?_;have hl:=s1 _ _ hl;exists if_d (λc2=>?_) (λc2=>?_)
    . walk_at "r";exact q y.1 H1 y.2 1 s1 (s1 _ _ ey) (by decide) (by decide) (by rw [cJ]; exact oy.mono (by lia)) (KH hR so.z1 oy.z1 c2)
    . repeat (first | walk_at "rd" | refine zw hl g5 ?_ | refine zw hl g6 ?_)
      have h4:=ce x6 (show 2+x5 % 50 - 1≠0 by lia);have h5:=cg x6 (show 0<2+x5 % 50 - 1 by lia);repeat (first | walk_at "rd" | refine zw hl g5 ?_ | refine zw hl g6 ?_)
      refine yf rfl (s1 _ _ h1) sk (Bd.mono (xr 64 (by lia) (by lia) (by decide)) (by decide)) (by lia) (Bd.mono (xr 64 (by lia) (by lia) (by decide)) (by decide)) λr Hz sz ez=>?_;exact fin r Hz (s1.trans sz) ez
  . repeat (first | walk_at "rd" | refine zw hl g5 ?_ | refine zw hl g6 ?_)
    have h4:=ce x6 (show 2+x5 % 50 - 1≠0 by lia);have h5:=cg x6 (show 0<2+x5 % 50 - 1 by lia);repeat (first | walk_at "rd" | refine zw hl g5 ?_ | refine zw hl g6 ?_)
    refine yf rfl h1 sk (Bd.mono (xr 64 (by lia) (by lia) (by decide)) (by decide)) (by lia) (Bd.mono (xr 64 (by lia) (by lia) (by decide)) (by decide)) λr Hz sz ez=>?_;exact fin r Hz (sz) ez
theorem Aj:∀ {ms:List Int} {ns:List Nat},(z8 ns ms).length<=ns.length
  | [],_=>ai _
  | _::ms,ns=>bK (Aj (ms:=ms)) (eI ..)
theorem K59(F:Fun K "_law_done" "_law_done" S58 f fd)(B:Bl mg)(o56x:Own P w K mg base 4 "_law_new" ["_law_deed_here","_law_some"] [] P55):FnOk P w K mg base CX0 5 f fd ["_law_lying","_law_used","_law_deed_here"] P60:=by
  refine F.okA C62 λcdv A outer s H vs Q E hr h=>?_;obtain @⟨a,p,ns,f,k,d,D,M,e,n,m,rfl,hL,lt,nl,he,gd,q⟩:=h;refine ⟨_,(za (ps_s 3 C62.nd (zH (pa1 (pit 2)))) (za (wH (zx (zi yF (pit 2) (zo (pa2 zy zy)) (by with_unfolding_all rfl)) (zc (zK (xC aN aQ aR zB (pv 3) (pa1 (pit 2))))) zl)) (za (ps_s 4 C62.nd (ze o56x hr rfl (pa2 (pv 2) (yl ["_law_name"] [0] rfl (zI (pv 3)) (λ_ _ _ _ _=>(pg_n 0 (show List.Nodup (α:=Str) ["_law_name","_law_lying"] by decide +kernel))) (λ_ _ _ _ _=>zJ) (λ_ _ _ _ _=>(xn (xA hr) (pv 1) (pv 0) (λ_ _=>rfl))))))) (za (ps_s 5 C62.nd (z9 Cr rfl B.dict AW (pa1 (pv 0)))) (za (zP PassesOwn.never rfl (zI (pv 3)) (pg_n 6 C62.nd) (zc (zK (uP (pv 5) (pv 6) ⟨rfl,rfl,rfl,rfl⟩)))) (za (zP PassesOwn.never rfl (ya rfl B.range (pa1 (zn zt rfl B.len aY (pa1 (pv 4))))) (pg_n 7 C62.nd) (zc (xI (xA hr) (pv 5) (zg zD (pv 1) (pv 7)) (pe_i zE (pv 4) (pv 7)) rfl))) (zc (zh (zo (pa2 (pv 5) (zg zD (pv 1) (zn zt rfl B.len aY (pa1 (pv 4)))))))))))))),?_⟩;walk_at "s";obtain ⟨rs,hp⟩:=he.tup;have hcn:=hL.at' n gd.hn;have hcm:=hL.at' m gd.hm;exists wD hp (zF (j:=1) rfl) ?_;exists zv (by simp) λl H1 nl1 s1 e1=>?_;exists tN (T:=λσ' H'=>σ'=[some (.ref a),some (.int (k:Int)),some (.ref p),some (.ref l),none,none,none,none]/\SameX l H1 H'/\H' l=some (.lst (e.names.map V.int))) ?_ ?_
  . clear gd q hp;cases e with
    | cut al n' s' =>
      obtain ⟨pq,h0,hs⟩:=he;cases al with
      | false =>
        have h0:H p=some (.tup [.str (Str.ofString "across"),.int n',.ref pq]):=h0;have h0:=s1 _ _ h0;exists zC (by simp) λq2 H2 s2 e2=>?_;refine vz (b:=false) e2 rfl rfl (by decide +kernel) ?_;have h0:=s2 _ _ h0;have e1:=s2 _ _ e1;walk_at "r";exact ⟨rfl,s2.sameX l,e1⟩
      | true =>
        have h0:H p=some (.tup [.str (Str.ofString "along"),.int n',.ref pq]):=h0;have h0:=s1 _ _ h0;exists zC (by simp) λq2 H2 s2 e2=>?_;refine vz (b:=false) e2 rfl rfl (by decide +kernel) ?_;have h0:=s2 _ _ h0;have e1:=s2 _ _ e1;walk_at "r";exact ⟨rfl,s2.sameX l,e1⟩
    | glue al n' m' =>
      have h0:=he;cases al with
      | false =>
        have h0:H p=some (.tup [.str (Str.ofString "beside"),.int n',.int m']):=h0;have h0:=s1 _ _ h0;exists zC (by simp) λq2 H2 s2 e2=>?_;refine vz (b:=true) e2 rfl rfl (by decide +kernel) ?_;have h0:=s2 _ _ h0;have e1:=s2 _ _ e1;exists zp e1 (by simp) λH3 x3 e3=>?_;walk_at "r";exact ⟨rfl,(s2.sameX l).trans x3,e3⟩
      | true =>
        have h0:H p=some (.tup [.str (Str.ofString "atop"),.int n',.int m']):=h0;have h0:=s1 _ _ h0;exists zC (by simp) λq2 H2 s2 e2=>?_;refine vz (b:=true) e2 rfl rfl (by decide +kernel) ?_;have h0:=s2 _ _ h0;have e1:=s2 _ _ e1;exists zp e1 (by simp) λH3 x3 e3=>?_;walk_at "r";exact ⟨rfl,(s2.sameX l).trans x3,e3⟩
    | shift al n' k' =>
      have h0:=he;cases al with
      | false =>
        have h0:H p=some (.tup [.str (Str.ofString "stack"),.int n',.int k']):=h0;have h0:=s1 _ _ h0;exists zC (by simp) λq2 H2 s2 e2=>?_;refine vz (b:=false) e2 rfl rfl (by decide +kernel) ?_;have h0:=s2 _ _ h0;have e1:=s2 _ _ e1;walk_at "r";exact ⟨rfl,s2.sameX l,e1⟩
      | true =>
        have h0:H p=some (.tup [.str (Str.ofString "spread"),.int n',.int k']):=h0;have h0:=s1 _ _ h0;exists zC (by simp) λq2 H2 s2 e2=>?_;refine vz (b:=false) e2 rfl rfl (by decide +kernel) ?_;have h0:=s2 _ _ h0;have e1:=s2 _ _ e1;walk_at "r";exact ⟨rfl,s2.sameX l,e1⟩
    | turn n' =>
      have h0:=he;have h0:H p=some (.tup [.str (Str.ofString "turn"),.int n']):=h0;have h0:=s1 _ _ h0;exists zC (by simp) λq2 H2 s2 e2=>?_;refine vz (b:=false) e2 rfl rfl (by decide +kernel) ?_;have h0:=s2 _ _ h0;have e1:=s2 _ _ e1;walk_at "r";exact ⟨rfl,s2.sameX l,e1⟩
  rintro σ' H2 ⟨rfl,sx2,e2⟩;have s2:Same H H2:=λb o e=>sx2 b o (s1 b o e) (zb e nl1);have hL2:=hL.same s2;clear sx2 e1 s1;exists yK ?_;exists ⟨l,rfl,⟨_,SqL.of e2⟩,λO hO=>zV (K:=K) (a:=l) (ys:=e.names.map V.int) (λi xs σ' H'=>E1 λ(v:Option V)=>A4 (σ'=[v,some (.ref a)]) (xs=((e.cells (f n) (f m)).take i).map Cell.v) (H' O=some (.lst xs)) (SameX O H2 H')) ⟨none,rfl,rfl,zf,λb o e n=>by rw [zj n]; exact e⟩ (λi xs σ' H' _ z=>by obtain ⟨v,_,_,_,z⟩:=z; exact SqL.of (z _ _ e2 (zb e2 hO))) ?_ ?_⟩
  . rintro i x xs σ' H' hi ⟨v,rfl,rfl,eO,sx⟩;rw [ag] at hi;obtain ⟨z,hz,rfl⟩:=ao.mp hi;obtain ⟨j,hj,rfl,hcx⟩:=Ds gd hz;have hi3:=(af.mp hz).1;have hn2:=e.names_len;have s':Same H2 H':=λb o e=>sx b o e (zb e hO);have hL':=hL2.same s';exists ⟨a,_,rfl,DGet.k (k:=.inl (j:Int)) hL'.l |> (λz=>by rw [yt hj] at z; exact z),?_⟩;exists zp eO (by rw [aa,aJ]; lia) λH3 x3 e3=>?_;refine yr (by rw [aa]; exact hi3) ⟨_,rfl,rfl,?_,sx.trans x3⟩;rw [a8,hcx,aj];exact e3
  rintro xs σ' H3 ⟨v,rfl,rfl,eO,sx⟩;have s3:Same H2 H3:=λb o e=>sx b o e (zb e hO);rw [aa,<-e.cells_len (f n) (f m),au] at eO;clear sx;have t3:=s2.trans s3;exists CJ rfl (he.same t3) (by rw [eO]; unfold Dd.cells; cases e.two <;> rfl) (hcn.same t3) (hcm.same t3) gd.fit λr4 N H4 s4 n4 e4 hN hNb=>?_;have t4:=t3.trans s4;have hL4:=hL.same t4;have hNl:N.length<=2:=by rw [<-aa (f:=Cell.b),hNb]; exact uo e _ _
  have e2:=s4 _ _ (s3 _ _ e2);exists Fj hL4.l λA H5 n5 s5 e5=>?_;have lA:l≠A:=zb e2 n5;have e2:=s5 _ _ e2;exists y9 ?_;exists ⟨l,rfl,⟨_,SqL.of e2⟩,z6 (K:=K) (a:=l) (xs:=e.names.map V.int) (λi σ H'=>E1 λv=>A3 (σ=[some (.ref a),some (.int (k:Int)),some (.ref p),some (.ref l),some (.ref r4),some (.ref A),v,none]) (H' A=some (.dK (cdK (z8 ns (e.names.take i)) f))) (SameX A H5 H')) ⟨_,rfl,e5,λb o e _=>e⟩ (λi σ H' _ z'=>by obtain ⟨_,_,_,x⟩:=z'; exact SqL.of (x _ _ e2 lA)) ?_ ?_⟩
  . rintro i x σ H' hi ⟨v,rfl,el,sx⟩;rw [ag] at hi;obtain ⟨z,hz,rfl⟩:=ao.mp hi;obtain ⟨j,hj,rfl,hcx⟩:=Ds gd hz;have hni:(j:Int)∉e.names.take i:=by
      intro hh;obtain ⟨j',hj'⟩:=de hh;have hj1:=(af.mp hj').1;rw [aJ] at hj1;rw [dg (by lia)] at hj';have:=(dF (i:=j') (by lia) gd.nodup).mp (hj'.trans hz.symm)
      lia
    exists ⟨A,rfl,.inl ⟨_,.inl el⟩,?_⟩;exists ⟨_,.inl (j:Int),_,el,rfl,yt (mem_ndrop.mpr ⟨hj,hni⟩),?_⟩;refine ⟨_,rfl,?_,λb o e n=>by rw [zj n]; exact sx b o e n⟩;rw [zf,tQ,a8,hz,show ((some (j:Int)).toList)=[(j:Int)] from rfl,xu]
  rintro σ H6 ⟨v,rfl,el6,sx6⟩;rw [aa,au,Dh (g:=fN f k N) (λj hj=>(JP (lt j (mem_ndrop.mp hj).1)).symm)] at el6;have rA:r4≠A:=zb e4 n5;have e4:=sx6 _ _ (s5 _ _ e4) rA;have dl:(z8 ns e.names).length<=ns.length:=Aj;exists wx ?_;walk_at "r";rw [aa];refine ⟨(N.length:Int),rfl,by lia,by lia,yw (lo:=0) (n:=(N.length:Int).toNat) (λi σ H'=>E2 λv v'=>A3 (σ=[some (.ref a),some (.int (k:Int)),some (.ref p),some (.ref l),some (.ref r4),some (.ref A),v,v']) (H' A=some (.dK (cdK (z8 ns e.names++List.range' k i) (fN f k N)))) (SameX A H6 H')) ⟨_,_,rfl,by simpa using el6,λb o e _=>e⟩ ?_ ?_⟩
  . rintro i σ H' hi ⟨v,v',rfl,el,sx⟩;have hi':i<N.length:=by lia
    have e4':=sx _ _ e4 rA;obtain ⟨cx,hcx⟩:∃ c,N[i]?=some c:=⟨_,ae hi'⟩
    exists zw e4' (v:=cx.v) (by rw [show (0:Int)+(i:Int)=((i:Nat):Int) by lia]; exact zF (by rw [ag,hcx]; rfl)) ?_;walk_at "r";rw [show (k:Int)+(0+(i:Int))=((k+i:Nat):Int) by lia];refine ⟨A,_,rfl,DPut.k (k:=.inl ((k+i:Nat):Int)) el (by rw [AD,ah,dq]; exact aE (show _<1000 by lia) (by decide +kernel)),?_⟩;refine ⟨_,_,rfl,?_,λb o e n=>by rw [zj n]; exact sx b o e n⟩;rw [zf,wR _ (xQ (λj hj=>?_)),fG,<-bB,B7,Nat.one_mul,Ky,tY hcx];rcases ax.mp hj with hj|hj
    . have:=lt j (mem_ndrop.mp hj).1
      lia
    . have:=cD.mp hj
      lia
  rintro σ H7 ⟨v,v',rfl,el7,sx7⟩;have sE:Same H4 H7:=λb o e=>sx7 _ _ (sx6 _ _ (s5 _ _ e) (zb e n5)) (zb e n5);rw [fV] at el7;have e4:=sx7 _ _ e4 rA;walk_at "r";rw [aa];exists zr (by simp) λr H8 n8 s8 e8=>?_;refine q r A N H8 ((t4.trans sE).trans s8) (Same.nn t4 n5) (by rw [Int.natCast_add]; exact e8) hNb ⟨s8 _ _ el7,λj hj=>?_⟩;rcases ax.mp hj with hj|hj
  . have hj:=(mem_ndrop.mp hj).1;rw [JP (lt j hj)];exact ((hL4.at' j hj).same sE).same s8
  . have hj:=cD.mp hj;obtain ⟨i,rfl⟩:∃ i,j=k+i:=⟨j - k,by lia⟩
    have hi:i<N.length:=by lia
    rw [Ky,tY (ae hi)];exact ((hN _ (bI hi)).same sE).same s8
theorem K60(F:Fun K "put_by" "Yard.put_by" S66 f fd)(B:Bl mg)(X:Xs K mg cs)(o25x:Own P w K mg base 4 "cut_across" ["d","one","at"] [] P51)(o24x:Own P w K mg base 1 "turned" ["one"] [] P9)(o26x:Own P w K mg base 3 "glued_beside" ["one","other"] [] P41)(o27x:Own P w K mg base 3 "stacked" ["one","many"] [] P42):FnOk P w K mg base CX0 5 f fd ["self","deed","boards"] (P61 cs):=by
  refine F.okA C63 λcdv A outer s H vs Q E hr h=>?_;obtain @⟨y,d,tn,cl,ns,lg,p,a,e,c,c',rfl,hy,he,ha,hc,hc',hd,hf,q⟩:=h;refine ⟨_,(za (ps_s 3 C63.nd (pit 1)) (za (zx (zi zU (pv 3) zy (zk _)) (zc (zh (ze o25x hr rfl (pa3 (yc (K:=K) rfl (pv 0) rfl) (pil 2) (pit 1))))) zl) (za (zx (zi zU (pv 3) zy (zk _)) (zc (zh (yl ["one"] [] rfl (zI (ze o25x hr rfl (pa3 (yc (K:=K) rfl (pv 0) rfl) (ze o24x hr rfl (pa1 (pil 2))) (pit 1)))) (λ_ _ _ _ _=>(pg_n 0 (show List.Nodup (α:=Str) ["one"] by decide +kernel))) (λ_ _ _ _ _=>zJ) (λ_ _ _ _ _=>(ze o24x hr rfl (pa1 (pv 0))))))) zl) (za (zx (zi zU (pv 3) zy (zk _)) (zc (zh (zH (pa1 (ze o26x hr rfl (pa2 (pil 2) (pil 2))))))) zl) (za (zx (zi zU (pv 3) zy (zk _)) (zc (zh (zH (pa1 (ze o24x hr rfl (pa1 (ze o26x hr rfl (pa2 (ze o24x hr rfl (pa1 (pil 2))) (ze o24x hr rfl (pa1 (pil 2))))))))))) zl) (za (zx (zi zU (pv 3) zy (zk _)) (zc (zh (zH (pa1 (ze o27x hr rfl (pa2 (pil 2) (pit 1))))))) zl) (za (zx (zi zU (pv 3) zy (zk _)) (zc (zh (zH (pa1 (ze o24x hr rfl (pa1 (ze o27x hr rfl (pa2 (ze o24x hr rfl (pa1 (pil 2))) (pit 1))))))))) zl) (zc (zh (zH (pa1 (ze o24x hr rfl (pa1 (pil 2)))))))))))))),?_⟩;walk_at "s";cases e with
  | cut al n s =>
    obtain ⟨pq,h0,hs⟩:=he;cases al with
    | false =>
      have h0:H p=some (.tup [.str (Str.ofString "across"),.int n,.ref pq]):=h0;have ha:H a=some (.lst [.ref c.p]):=ha;exists if_d (λ_=>?_) (λc=>absurd rfl c);walk_at "r";obtain ⟨f1,f2,f3,f4⟩:=hf;refine ⟨_,_,_,_,_,rfl,hy.o,X.c_Yard,X.n_Yard_root,rfl,?_⟩;exists wK rfl hc hs hd f1 f2 f3 f4 λr c1 c2 H1 s1 hr e1 a1 a2 b1 b2=>?_;refine q r [c1,c2] H1 s1 hr e1 (λx hx=>?_) ?_
      . rcases aK.mp hx with rfl | hx
        . exact a1
        . rw [ak.mp hx]; exact a2
      . show [c1.b,c2.b]=_;rw [b1,b2];rfl
    | true =>
      have h0:H p=some (.tup [.str (Str.ofString "along"),.int n,.ref pq]):=h0;have ha:H a=some (.lst [.ref c.p]):=ha;exists ifn ?_;exists if_d (λ_=>?_) (λc=>absurd rfl c);walk_at "r";obtain ⟨f1,f2,f3,f4⟩:=hf;refine yK ?_;exists ⟨_,_,_,_,_,rfl,hy.o,X.c_Yard,X.n_Yard_root,rfl,?_⟩;exists yQ rfl hc λr1 H1 s1 nr1 a1=>?_;have h01:=s1 _ _ h0;exists wK rfl a1 (s1 _ _ hs) hd f1 f2 f3 f4 λr c1 c2 H2 s2 hr e2 a2 a3 b1 b2=>?_;have t2:=s1.trans s2;have hat:∀ x∈[c1,c2],x.At H2:=λx hx=>by
        rcases aK.mp hx with rfl|hx
        . exact a2
        . rw [ak.mp hx]; exact a3
      refine ⟨r,rfl,⟨_,SqL.of e2⟩,λD hD=>zV (K:=K) (a:=r) (ys:=[c1,c2].map Cell.v) (λi xs σ' H'=>E2 λ(v:Option V) (N:List Cell)=>A7 (σ'=[v]) (xs=N.map Cell.v) (H' D=some (.lst xs)) (SameX D H2 H') ((∀ x∈N,x.At H')) (N.length=i) (N.map Cell.b=([c1,c2].take i).map (λx=>⟨x.b.h,x.b.w⟩))) ⟨none,[],rfl,rfl,zf,λb o e n=>by rw [zj n]; exact e,λx hx=>absurd hx (by simp),rfl,rfl⟩ (λi xs σ' H' _ z=>by obtain ⟨v,N,_,_,_,z,_⟩:=z; exact SqL.of (z _ _ e2 (zb e2 hD))) ?_ ?_⟩
      . rintro i x xs σ' H' hi ⟨v,N,rfl,rfl,eD,sx,hN,hl,hb⟩;rw [ag] at hi;obtain ⟨cx,hcx,rfl⟩:=ao.mp hi;have hi3:=(af.mp hcx).1;have s':Same H2 H':=λb o e=>sx b o e (zb e hD);exists yQ rfl ((hat cx (aq hcx)).same s') λr3 H3 s3 nr3 a3=>?_;exists zp (s3 _ _ eD) (by rw [aa,hl]; simp only [ar,aP] at hi3; lia) λH4 x4 e4=>?_;refine yr hi3 ⟨_,N++[⟨r3,cx.ph,cx.pw,⟨cx.b.h,cx.b.w⟩⟩],rfl,rfl,by rw [aj]; exact e4,sx.trans ((SameX.of s3).trans x4),λx hx=>?_,by rw [ah,hl]; rfl,?_⟩
        . rcases ax.mp hx with hx | hx
          . exact ((hN x hx).same s3).sameX x4 (s3 _ _ eD)
          . rw [ak.mp hx]; exact a3.sameX x4 (s3 _ _ eD)
        . rw [a8,hcx,aj,aj,hb];rfl
      . rintro xs σ' H' ⟨v,N,rfl,rfl,eD,sx,hN,hl,hb⟩;have s':Same H2 H':=λb o e=>sx b o e (zb e hD);exists q D N H' (t2.trans s') (Same.nn t2 hD) eD hN ?_;rw [hb];show [(⟨c1.b.h,c1.b.w⟩:Bo),⟨c2.b.h,c2.b.w⟩]=_;rw [b1,b2];rfl
  | glue al n m =>
    have h0:=he;cases al with
    | false =>
      have h0:H p=some (.tup [.str (Str.ofString "beside"),.int n,.int m]):=h0;have ha:H a=some (.lst [.ref c.p,.ref c'.p]):=ha;exists ifn ?_;exists ifn ?_;exists if_d (λ_=>?_) (λc=>absurd rfl c);exists xF rfl hc hc' hf.1 hf.2.1 hf.2.2 λc1 H1 s1 n1 a1 hb=>?_;exists zv (by simp) λr HL nr sL eL=>?_;refine q r [c1] HL (Same.trans s1 sL) (Same.nn s1 nr) eL (λx hx=>?_) ?_
      . rw [ak.mp hx];exact a1.same sL
      . exact congrArg (λz=>[z]) hb
    | true =>
      have h0:H p=some (.tup [.str (Str.ofString "atop"),.int n,.int m]):=h0;have ha:H a=some (.lst [.ref c.p,.ref c'.p]):=ha;exists ifn ?_;exists ifn ?_;exists ifn ?_;exists if_d (λ_=>?_) (λc=>absurd rfl c);exists yQ rfl hc λr1 H1 s1 nr1 a1=>?_;have ha1:=s1 _ _ ha;exists yQ rfl (hc'.same s1) λr2 H2 s2 nr2 a2=>?_;exists xF rfl (a1.same s2) a2 hf.1 hf.2.1 hf.2.2 λc1 H3 s3 n3 a3 hb=>?_;exists yQ rfl a3 λr4 H4 s4 nr4 a4=>?_;replace hb:(⟨c1.b.h,c1.b.w⟩:Bo)=⟨c.b.w,adS c.b.h c'.b.h⟩:=by rw [hb]
      exists zv (by simp) λr HL nr sL eL=>?_;refine q r [⟨r4,c1.ph,c1.pw,⟨c1.b.h,c1.b.w⟩⟩] HL (Same.trans (((s1.trans s2).trans s3).trans s4) sL) (Same.nn (((s1.trans s2).trans s3).trans s4) nr) eL (λx hx=>?_) ?_
      . rw [ak.mp hx];exact a4.same sL
      . exact congrArg (λz=>[z]) hb
  | shift al n k =>
    have h0:=he;cases al with
    | false =>
      have h0:H p=some (.tup [.str (Str.ofString "stack"),.int n,.int k]):=h0;have ha:H a=some (.lst [.ref c.p]):=ha;exists ifn ?_;exists ifn ?_;exists ifn ?_;exists ifn ?_;exists if_d (λ_=>?_) (λc=>absurd rfl c);exists tI rfl hc hf.1 hf.2.1 hf.2.2.1 hf.2.2.2 λc1 H1 s1 n1 a1 hb=>?_;exists zv (by simp) λr HL nr sL eL=>?_;refine q r [c1] HL (Same.trans s1 sL) (Same.nn s1 nr) eL (λx hx=>?_) ?_
      . rw [ak.mp hx];exact a1.same sL
      . exact congrArg (λz=>[z]) hb
    | true =>
      have h0:H p=some (.tup [.str (Str.ofString "spread"),.int n,.int k]):=h0;have ha:H a=some (.lst [.ref c.p]):=ha;exists ifn ?_;exists ifn ?_;exists ifn ?_;exists ifn ?_;exists ifn ?_;exists if_d (λ_=>?_) (λc=>absurd rfl c);exists yQ rfl hc λr1 H1 s1 nr1 a1=>?_;have h01:=s1 _ _ h0;exists tI rfl a1 hf.1 hf.2.1 hf.2.2.2 hf.2.2.1 λc1 H3 s3 n3 a3 hb=>?_;exists yQ rfl a3 λr4 H4 s4 nr4 a4=>?_;replace hb:(⟨c1.b.h,c1.b.w⟩:Bo)=⟨shS c.b.w k 1,shS c.b.h 1 k⟩:=by rw [hb]
      exists zv (by simp) λr HL nr sL eL=>?_;refine q r [⟨r4,c1.ph,c1.pw,⟨c1.b.h,c1.b.w⟩⟩] HL (Same.trans ((s1.trans s3).trans s4) sL) (Same.nn ((s1.trans s3).trans s4) nr) eL (λx hx=>?_) ?_
      . rw [ak.mp hx];exact a4.same sL
      . exact congrArg (λz=>[z]) hb
  | turn n =>
    have h0:=he;have h0:H p=some (.tup [.str (Str.ofString "turn"),.int n]):=h0;have ha:H a=some (.lst [.ref c.p]):=ha;exists ifn ?_;exists ifn ?_;exists ifn ?_;exists ifn ?_;exists ifn ?_;exists ifn ?_;exists yQ rfl hc λr1 H1 s1 nr1 a1=>?_;have hb:(⟨c.b.h,c.b.w⟩:Bo)=⟨c.b.h,c.b.w⟩:=rfl;exists zv (by simp) λr HL nr sL eL=>?_;refine q r [⟨r1,c.ph,c.pw,⟨c.b.h,c.b.w⟩⟩] HL (Same.trans s1 sL) (Same.nn s1 nr) eL (λx hx=>?_) ?_
    . rw [ak.mp hx];exact a1.same sL
    . exact congrArg (λz=>[z]) hb
theorem K61(F:Fun K "_law_deed" "_law_deed" S57 f fd)(B:Bl mg)(o46x:Own P w K mg base 2 "_law_digits" ["_law_cell_here","_law_many"] [] P32)(o57x:Own P w K mg base 5 "_law_at" ["_law_d","_law_digits_here","_law_side_here","_law_pool"] [] P59):FnOk P w K mg base CX0 6 f fd ["_law_d","_law_cell_here","_law_lying","_law_pool"] (P62 K):=by
  refine F.okA C64 λcdv A outer s H vs Q E hr h=>?_;obtain @⟨d,c,a,qa,ns,f,P,D,M,K',rfl,hc,hL,up,nl,ne,ob,hP,oP,zz,hR,q⟩:=h;refine ⟨_,(za (ps_s 4 C64.nd (ze o46x hr rfl (pa2 (pv 1) zd))) (za (ps_s 5 C64.nd (zn (vQ rfl) rfl B.sorted wc (pa1 (pv 2)))) (za (ps_s 6 C64.nd (pe_i zE (pv 5) (zg zG (pil 4) (zn zt rfl B.len aY (pa1 (pv 5)))))) (za (ps_s 7 C64.nd (zg zG (pil 4) zd)) (za (zx (zi uu (pv 7) zd (zk _)) (zc (zh (zo (pa3 (pe_i zE (zH (pa2 zy zy)) (pv 7)) (pv 6) (ze o57x hr rfl (zu (pv 0) (zu (pv 4) (zu (pe_i zT (xn (xA hr) (pv 2) (pv 6) (λ_ _=>rfl)) (pv 7)) (zu (pv 3) yz))))))))) zl) (za (wH (zx (zi uu (pv 7) zd (zk _)) (za (ps_s 8 C64.nd (zg yP zd (pv 7))) (za (uD (i:=9) C64.nd rfl rfl ["_law_other"] [2,6,8] rfl (zI (pv 5)) (λ_ _ _ _ _=>(pg_n 0 (show List.Nodup (α:=Str) ["_law_other","_law_lying","_law_name","_law_side_here"] by decide +kernel))) (λ_ _ _ _ _=>(Bs (PW.pt (xa (zi Ay (pv 0) (pv 2) (zk _)) (yB (zi (r:=rEq3 K) (JV hr.units rfl) (pe_i (r:=rIxT K) zT (xn (xA hr) (pv 1) (pv 0) (λ_ _=>rfl)) (pv 3)) (pe_i (r:=rIxT K) zT (xn (xA hr) (pv 1) (pv 2) (λ_ _=>rfl)) (pv 3)) (zk _))))))) (λ_ _ _ _ _=>(pv 0))) (zc (zx (zi (Kv hr.units) (pv 9) (zH yz) (zk _)) (zc (zh (zo (pa3 (pe_i zE (zH (pa2 zy zy)) (zg yP (pv 7) zd)) (pv 6) (pe_i zE (pv 9) (zg zG (pil 4) (zn zt rfl B.len aY (pa1 (pv 9))))))))) zl)))) zl)) (zc (zh (zo (pa3 (pe_i zE (zH (pa2 zy zy)) (zg zG (pv 7) zd)) (pv 6) (zg zD zd (zg zG (pil 4) (pe_i zE (zH (pa2 zd zd)) (zg zG (pv 1) zd)))))))))))))),?_⟩;walk_at "s";have hpos:0<ns.length:=bA.mpr ne;exists yC hc (by decide) (by decide) λl H1 ds s1 e1 hl hds=>?_;obtain ⟨x0,k0,a0,b0⟩:=dig hl hds 0 (by decide) (by decide);obtain ⟨x1,k1,a1,b1⟩:=dig hl hds 1 (by decide) (by decide);obtain ⟨x2,k2,a2,b2⟩:=dig hl hds 2 (by decide) (by decide);obtain ⟨x7,k7,a7,b7⟩:=dig hl hds 7 (by decide) (by decide);exists Du (s1 _ _ hL.l) up nl λp2 H2 np2 s2 e2=>?_;have e1':=s2 _ _ e1;have hpm:(0:Int)<(((ns.map λn:Nat=>(n:Int)).map V.int).length:Nat):=by simp only [aa]; lia
  obtain ⟨n,hn,gn⟩:=CO (ns:=ns) (i:=x0) ne;repeat (first | walk_at "rd" | refine zw e1' k0 ?_ | refine zw e1' k1 ?_ | refine zw e2 gn ?_)
  have w6:0<=x1 % 6/\x1 % 6<6:=by lia
  generalize hway:x1 % 6=way at w6 ⊢;by_cases w2:way<2
  . have hw:way=0\/way=1:=by lia
    rcases hw with hw|hw
    . rw [hw];refine if_d (λ_=>?_) (λc=>absurd (by decide) c);exists zv (by simp) λq3 H3 n3 s3 e3=>?_;have e1:=s3 _ _ (s2 _ _ e1);have hL3:=hL.same ((s1.trans s2).trans s3);have hc3:=hL3.at' n hn;have ct3:=hc3.t;have hP3:=hP.same ((s1.trans s2).trans s3);repeat (first | walk_at "rd" | refine zw e3 (zF (j:=0) rfl) ?_)
      refine ⟨a,_,rfl,DGet.k (k:=.inl (n:Int)) hL3.l |> (λz=>by rw [yt hn] at z; exact z),?_⟩;exists wD ct3 (zF (j:=0) rfl) ?_;exists u8 rfl e1 hl hds hc3.w (ob n hn).1 hP3 oP zz hR λr H4 g k s4 e4 k1 bk og ug=>?_;exists zr (by simp) λp5 H5 n5 s5 e5=>?_;exact q p5 (.cut false n g) n n H5 ((((s1.trans s2).trans s3).trans s4).trans s5) ⟨r,e5,s5 _ _ e4⟩ (BV hR zz hn (ob n hn) k1 bk og ug) rfl
    . rw [hw];refine if_d (λ_=>?_) (λc=>absurd (by decide) c);exists zv (by simp) λq3 H3 n3 s3 e3=>?_;have e1:=s3 _ _ (s2 _ _ e1);have hL3:=hL.same ((s1.trans s2).trans s3);have hc3:=hL3.at' n hn;have ct3:=hc3.t;have hP3:=hP.same ((s1.trans s2).trans s3);repeat (first | walk_at "rd" | refine zw e3 (zF (j:=1) rfl) ?_)
      refine ⟨a,_,rfl,DGet.k (k:=.inl (n:Int)) hL3.l |> (λz=>by rw [yt hn] at z; exact z),?_⟩;exists wD ct3 (zF (j:=1) rfl) ?_;exists u8 rfl e1 hl hds hc3.h (ob n hn).2 hP3 oP zz hR λr H4 g k s4 e4 k1 bk og ug=>?_;exists zr (by simp) λp5 H5 n5 s5 e5=>?_;exact q p5 (.cut true n g) n n H5 ((((s1.trans s2).trans s3).trans s4).trans s5) ⟨r,e5,s5 _ _ e4⟩ (BV hR zz hn (ob n hn) k1 bk og ug) rfl
  refine if_d (λc=>absurd c w2) (λ_=>?_);exists tN (T:=λσ' H3=>E2 λ(v v':Option V)=>A2 (σ'=[some (.int d),some (.int c),some (.ref a),some (.ref qa),some (.ref l),some (.ref p2),some (.int (n:Int)),some (.int way),v,v']) (Same H2 H3)) ?_ ?_
  . walk_at "r";by_cases w4:way<4
    . have hw:way=2\/way=3:=by lia
      rcases hw with hw|hw
      . rw [hw];refine if_d (λ_=>?_) (λc=>absurd (by decide) c);exists yK ?_;exists ⟨p2,rfl,⟨_,SqL.of e2⟩,λO hO=>zV (K:=K) (a:=p2) (ys:=(ns.map λn:Nat=>(n:Int)).map V.int) (λi xs σ' H'=>E2 λ(v:Option V) (os:List Nat)=>A6 (σ'=[v,some (.ref a),some (.int (n:Int)),some (.int 1)]) (xs=(os.map λn:Nat=>(n:Int)).map V.int) (os.length<=i) (H' O=some (.lst xs)) (SameX O H2 H') (∀ m∈os,m∈ns/\n≠m/\(f n).b.h=(f m).b.h)) ⟨none,[],rfl,rfl,ai _,zf,λb o e n=>by rw [zj n]; exact e,λm hm=>absurd hm (by simp)⟩ (λi xs σ' H' _ z=>by obtain ⟨v,os,_,_,_,_,z,_⟩:=z; exact SqL.of (z _ _ e2 (zb e2 hO))) ?_ ?_⟩
        . rintro i x xs σ' H' hi ⟨v,os,rfl,rfl,hol,eO,sx,hos⟩;have hi':=(af.mp hi).1;have hil:i<ns.length:=by simpa using hi'
          obtain ⟨m,hm,rfl⟩:∃ m∈ns,x=.int (m:Int):=by
            obtain ⟨y,hy,rfl⟩:=aZ.mp (aq hi);obtain ⟨m,hm,rfl⟩:=aZ.mp hy;exact ⟨m,hm,rfl⟩
          have s':Same H2 H':=λb o e=>sx b o e (zb e hO);have hL':=hL.same ((s1.trans s2).trans s');have cm:=hL'.at' m hm;have cn:=hL'.at' n hn;have ctm:=cm.t;have ctn:=cn.t;exists A9 (λc1=>?_) (λc1=>?_)
          . exists ⟨a,_,rfl,DGet.k (k:=.inl (m:Int)) hL'.l |> (λz=>by rw [yt hm] at z; exact z),?_⟩;exists wD ctm (zF (j:=1) rfl) ?_;exists ⟨a,_,rfl,DGet.k (k:=.inl (n:Int)) hL'.l |> (λz=>by rw [yt hn] at z; exact z),?_⟩;exists wD ctn (zF (j:=1) rfl) ?_;exists ⟨_,_,_,_,_,_,_,_,rfl,rfl,SqT.of cm.h,SqT.of cn.h,?_⟩;exists if_d (λc2=>?_) (λc2=>?_)
            . exists zp eO (by simp only [aa]; lia) λH3 x3 e3=>?_;refine yr hi' ⟨_,os++[m],rfl,rfl,by rw [ah]; simp only [ar,aP]; lia,by rw [aj,aj]; exact e3,sx.trans x3,λk hk=>?_⟩;rcases ax.mp hk with hk|hk
              . exact hos k hk
              . rw [ak.mp hk];refine ⟨hm,λz=>c1 (by rw [z]),?_⟩;have z1:(f m).b.h=⟨(f m).b.h.x,(f m).b.h.y,(f m).b.h.z⟩:=rfl;rw [z1,c2.1,c2.2.1,c2.2.2]
            . walk_at "r";exact yr hi' ⟨_,os,rfl,rfl,dE hol,eO,sx,hos⟩
          . walk_at "r";exact yr hi' ⟨_,os,rfl,rfl,dE hol,eO,sx,hos⟩
        rintro xs σ' H3 ⟨v,os,rfl,rfl,hol,eO,sx,hos⟩;have s3:Same H2 H3:=λb o e=>sx b o e (zb e hO);have e1:=s3 _ _ (s2 _ _ e1);exists zv (by simp) λq4 H4 n4 s4 e4=>?_;have e1:=s4 _ _ e1;have eO:=s4 _ _ eO;refine ⟨O,q4,_,rfl,rfl,SqL.of eO,SqL.of e4,?_⟩;cases os with
        | nil =>
          walk_at "r";exact ⟨_,_,rfl,s3.trans s4⟩
        | cons o os =>
          rw [show (!(List.map V.int (List.map (λn:Nat=>(n:Int)) (o::os))).isEmpty)=true from rfl];exists zv (by simp) λq5 H5 n5 s5 e5=>?_;have e1:=s5 _ _ e1;have eO:=s5 _ _ eO;have hp2:(0:Int)<((List.map V.int (List.map (λn:Nat=>(n:Int)) (o::os))).length:Nat):=by simp only [aa,ar]; lia
          repeat (first | walk_at "rd" | refine zw e5 (zF (j:=0) rfl) ?_ | refine zw e1 k2 ?_)
          repeat (first | walk_at "rd" | refine zw e5 (zF (j:=0) rfl) ?_ | refine zw e1 k2 ?_)
          obtain ⟨m,hm,gm⟩:=CO (ns:=o::os) (i:=x2) (by simp);refine zw eO gm ?_;exists zr (by simp) λp6 H6 n6 s6 e6=>?_;obtain ⟨h1,h2,h3⟩:=hos m hm;exact q p6 (.glue false n m) n m H6 (((((s1.trans s2).trans s3).trans s4).trans s5).trans s6) e6 (tP hR zz hn h1 h2 (ob n hn) (ob m h1) h3) rfl
      . rw [hw];refine if_d (λ_=>?_) (λc=>absurd (by decide) c);exists yK ?_;exists ⟨p2,rfl,⟨_,SqL.of e2⟩,λO hO=>zV (K:=K) (a:=p2) (ys:=(ns.map λn:Nat=>(n:Int)).map V.int) (λi xs σ' H'=>E2 λ(v:Option V) (os:List Nat)=>A6 (σ'=[v,some (.ref a),some (.int (n:Int)),some (.int 0)]) (xs=(os.map λn:Nat=>(n:Int)).map V.int) (os.length<=i) (H' O=some (.lst xs)) (SameX O H2 H') (∀ m∈os,m∈ns/\n≠m/\(f n).b.w=(f m).b.w)) ⟨none,[],rfl,rfl,ai _,zf,λb o e n=>by rw [zj n]; exact e,λm hm=>absurd hm (by simp)⟩ (λi xs σ' H' _ z=>by obtain ⟨v,os,_,_,_,_,z,_⟩:=z; exact SqL.of (z _ _ e2 (zb e2 hO))) ?_ ?_⟩
        . rintro i x xs σ' H' hi ⟨v,os,rfl,rfl,hol,eO,sx,hos⟩;have hi':=(af.mp hi).1;have hil:i<ns.length:=by simpa using hi'
          obtain ⟨m,hm,rfl⟩:∃ m∈ns,x=.int (m:Int):=by
            obtain ⟨y,hy,rfl⟩:=aZ.mp (aq hi);obtain ⟨m,hm,rfl⟩:=aZ.mp hy;exact ⟨m,hm,rfl⟩
          have s':Same H2 H':=λb o e=>sx b o e (zb e hO);have hL':=hL.same ((s1.trans s2).trans s');have cm:=hL'.at' m hm;have cn:=hL'.at' n hn;have ctm:=cm.t;have ctn:=cn.t;exists A9 (λc1=>?_) (λc1=>?_)
          . exists ⟨a,_,rfl,DGet.k (k:=.inl (m:Int)) hL'.l |> (λz=>by rw [yt hm] at z; exact z),?_⟩;exists wD ctm (zF (j:=0) rfl) ?_;exists ⟨a,_,rfl,DGet.k (k:=.inl (n:Int)) hL'.l |> (λz=>by rw [yt hn] at z; exact z),?_⟩;exists wD ctn (zF (j:=0) rfl) ?_;exists ⟨_,_,_,_,_,_,_,_,rfl,rfl,SqT.of cm.w,SqT.of cn.w,?_⟩;exists if_d (λc2=>?_) (λc2=>?_)
            . exists zp eO (by simp only [aa]; lia) λH3 x3 e3=>?_;refine yr hi' ⟨_,os++[m],rfl,rfl,by rw [ah]; simp only [ar,aP]; lia,by rw [aj,aj]; exact e3,sx.trans x3,λk hk=>?_⟩;rcases ax.mp hk with hk|hk
              . exact hos k hk
              . rw [ak.mp hk];refine ⟨hm,λz=>c1 (by rw [z]),?_⟩;have z1:(f m).b.w=⟨(f m).b.w.x,(f m).b.w.y,(f m).b.w.z⟩:=rfl;rw [z1,c2.1,c2.2.1,c2.2.2]
            . walk_at "r";exact yr hi' ⟨_,os,rfl,rfl,dE hol,eO,sx,hos⟩
          . walk_at "r";exact yr hi' ⟨_,os,rfl,rfl,dE hol,eO,sx,hos⟩
        rintro xs σ' H3 ⟨v,os,rfl,rfl,hol,eO,sx,hos⟩;have s3:Same H2 H3:=λb o e=>sx b o e (zb e hO);have e1:=s3 _ _ (s2 _ _ e1);exists zv (by simp) λq4 H4 n4 s4 e4=>?_;have e1:=s4 _ _ e1;have eO:=s4 _ _ eO;refine ⟨O,q4,_,rfl,rfl,SqL.of eO,SqL.of e4,?_⟩;cases os with
        | nil =>
          walk_at "r";exact ⟨_,_,rfl,s3.trans s4⟩
        | cons o os =>
          rw [show (!(List.map V.int (List.map (λn:Nat=>(n:Int)) (o::os))).isEmpty)=true from rfl];exists zv (by simp) λq5 H5 n5 s5 e5=>?_;have e1:=s5 _ _ e1;have eO:=s5 _ _ eO;have hp2:(0:Int)<((List.map V.int (List.map (λn:Nat=>(n:Int)) (o::os))).length:Nat):=by simp only [aa,ar]; lia
          repeat (first | walk_at "rd" | refine zw e5 (zF (j:=1) rfl) ?_ | refine zw e1 k2 ?_)
          repeat (first | walk_at "rd" | refine zw e5 (zF (j:=1) rfl) ?_ | refine zw e1 k2 ?_)
          obtain ⟨m,hm,gm⟩:=CO (ns:=o::os) (i:=x2) (by simp);refine zw eO gm ?_;exists zr (by simp) λp6 H6 n6 s6 e6=>?_;obtain ⟨h1,h2,h3⟩:=hos m hm;exact q p6 (.glue true n m) n m H6 (((((s1.trans s2).trans s3).trans s4).trans s5).trans s6) e6 (tP hR zz hn h1 h2 (ob n hn) (ob m h1) h3) rfl
    . refine if_d (λc=>absurd c w4) (λ_=>?_);walk_at "r";exact ⟨_,_,rfl,Same.refl _⟩
  rintro σ' H3 ⟨v,v',rfl,s3⟩;have e1':=s3 _ _ e1';exists zv (by simp) λq4 H4 n4 s4 e4=>?_;have e1':=s4 _ _ e1';walk_at "r";obtain ⟨al,gal⟩:∃ al:Bool,atI [V.str (Str.ofString "stack"),V.str (Str.ofString "spread")] (way % 2)=some (.str (Dd.shift al n 1).wd):=by
    have:way % 2=0\/way % 2=1:=by lia
    rcases this with h|h
    . exact ⟨false,by rw [h]; rfl⟩
    . exact ⟨true,by rw [h]; rfl⟩
  refine zw e4 gal ?_;repeat (first | walk_at "rd" | refine zw e1' k7 ?_)
  refine zv (by simp) λq5 H5 n5 s5 e5=>?_;walk_at "r";obtain ⟨t,gt,t1,t2⟩:∃ t:Int,atI [V.int 20,V.int 6] (c % 2)=some (.int t)/\1<=t/\t<=20:=by
    have:c % 2=0\/c % 2=1:=by lia
    rcases this with h|h
    . exact ⟨20,by rw [h]; rfl,by decide,by decide⟩
    . exact ⟨6,by rw [h]; rfl,by decide,by decide⟩
  refine zw e5 gt ?_;have h4:=ce x7 (show t≠0 by lia);have h5:=cg x7 (show 0<t by lia);exists zr (by simp) λp6 H6 n6 s6 e6=>?_;exact q p6 (.shift al n (1+x7 % t)) n n H6 (((((s1.trans s2).trans s3).trans s4).trans s5).trans s6) e6 (Cv hR zz hn (ob n hn) (by lia) (zL (B:=20) (by lia) (by lia) (by decide))) rfl
theorem K62(F:Fun K "do" "Yard.do" S64 f fd)(B:Bl mg)(X:Xs K mg cs)(g_TURN:TopS mg "TURN" (Str.ofString "turn"))(o22x:Own P w K mg base 1 "names_taken" ["deed"] [] P7)(o66x:OwnM P w K mg base CX0 cs.Yard 2 "check_names" ["self","names"] [] (P35 cs))(o67x:OwnM P w K mg base CX0 cs.Yard 5 "put_by" ["self","deed","boards"] [] (P61 cs))(o21x:Own P w K mg base 4 "is_deed" ["thing"] [] P50):FnOk P w K mg base CX0 6 f fd ["self","deed"] (P63 cs):=by
  obtain ⟨u_TURN,m_TURN,r_TURN⟩:=g_TURN;refine F.okA C65 λcdv A outer s H vs Q E hr h=>?_;obtain @⟨y,d,tn,cl,ns,lg,p,e,c,c',rfl,hy,he,ok,hm,hn,ht,hc,hf,hd,l1,l2,q⟩:=h;refine ⟨_,(za (zx (wn (yM (ze o21x hr rfl (pa1 (pv 1))))) (zc yN) zl) (za (ps_s 2 C65.nd (ze o22x hr rfl (pa1 (pv 1)))) (za (zK (vg o66x uG hr (pv 0) (pa1 (pv 2)))) (za (zx (PW.pt (xa (zi zU (pit 1) (yI (v:=.str (Str.ofString "turn")) rfl m_TURN r_TURN) (zk _)) (yB (wn (yM (yc (K:=K) rfl (pv 0) rfl)))))) (zc yN) zl) (za (ps_s 3 C65.nd (vg o67x uG hr (pv 0) (pa2 (pv 1) (yl ["name"] [0] rfl (zI (pv 2)) (λ_ _ _ _ _=>(pg_n 0 (show List.Nodup (α:=Str) ["name","self"] by decide +kernel))) (λ_ _ _ _ _=>zJ) (λ_ _ _ _ _=>(pe_i (r:=rIxL K) zE (yc (K:=K) rfl (pv 1) rfl) (pv 0))))))) (za (zP PassesOwn.never rfl (zI (pv 2)) (pg_n 4 C65.nd) (zc (zK (uP (yc (K:=K) rfl (pv 0) rfl) (pv 4) ⟨rfl,rfl,rfl,rfl⟩)))) (za (zP PassesOwn.never rfl (zI (pv 3)) (pg_n 5 C65.nd) (za (xI (xA hr) (yc (K:=K) rfl (pv 0) rfl) (zn zt rfl B.len aY (pa1 (yc (K:=K) rfl (pv 0) rfl))) wO rfl) (zc (zK (xC aN aQ aR zB (yc (K:=K) rfl (pv 0) rfl) (pa1 (pv 5))))))) (zc (zK (xC aN aQ aR zB (yc (K:=K) rfl (pv 0) rfl) (pa1 (pv 1)))))))))))),?_⟩;walk_at "s";exists Ev rfl he ok λH1 s1=>?_;exists xc rfl (he.same s1) λa H2 s2 na ea=>?_;have t2:=s1.trans s2;walk_at "r";have hy2:=hy.same t2;have he2:=he.same t2;refine ⟨_,_,_,rfl,hy2.o,rfl,?_⟩;exists xX rfl hy2 ea hm hn e.names_len ?_;walk_at "r";obtain ⟨rs,hp⟩:=he2.tup;refine wD hp (zF (j:=0) rfl) ?_;exists Lz ?_ (λct hB=>?_);rotate_left
  . exists ⟨_,_,_,_,_,rfl,hy2.o,X.c_Yard,X.n_Yard_turning,rfl,?_⟩;rw [ht (Hs ct)];walk_at "rd";exact JK hB
  exists ⟨_,_,_,rfl,hy2.o,rfl,?_⟩;exists yK ?_;exists ⟨a,rfl,⟨_,SqL.of ea⟩,λD hD=>zV (K:=K) (a:=a) (ys:=e.names.map V.int) (λi xs σ' H'=>E1 λ(v:Option V)=>A4 (σ'=[v,some (.ref y.p)]) (xs=((e.cells c c').take i).map Cell.v) (H' D=some (.lst xs)) (SameX D H2 H')) ⟨none,rfl,rfl,zf,λb o e n=>by rw [zj n]; exact e⟩ (λi xs σ' H' _ z=>by obtain ⟨v,_,_,_,z⟩:=z; exact SqL.of (z _ _ ea (zb ea hD))) ?_ ?_⟩
  . rintro i x xs σ' H' hi ⟨v,rfl,rfl,eD,sx⟩;rw [ag] at hi;obtain ⟨m,hm',rfl⟩:=ao.mp hi;obtain ⟨n,x,rfl,hx,hcx⟩:=AT hc hm';have hi3:=(af.mp hm').1;have hn2:=e.names_len;have s':Same H2 H':=λb o e=>sx b o e (zb e hD);have hy':=hy2.same s';exists ⟨_,_,_,_,_,rfl,hy'.o,X.c_Yard,X.n_Yard_known,rfl,?_⟩;exists zw hy'.k (v:=x.v) (zF (by rw [ag,hx]; rfl)) ?_;exists zp eD (by rw [aa,aJ]; lia) λH3 x3 e3=>?_;refine yr (by rw [aa]; exact hi3) ⟨_,rfl,rfl,?_,sx.trans x3⟩;rw [a8,hcx,aj];exact e3
  rintro xs σ' H3 ⟨v,rfl,rfl,eD,sx⟩;have s3:Same H2 H3:=λb o e=>sx b o e (zb e hD);have t3:=t2.trans s3;have hy3:=hy.same t3;rw [aa,<-e.cells_len c c',au] at eD;exists uE rfl hy3 (he.same t3) (by rw [eD]; unfold Dd.cells; cases e.two <;> rfl) (hy3.at' c hc.mem.1) (hy3.at' c' hc.mem.2) hd hf λr N H4 s4 nr er hN hNb=>?_;have t4:=t3.trans s4;have hy4:=hy.same t4;have ea4:=s4 _ _ (s3 _ _ ea);have kl:y.k≠y.l:=zX hy4.k hy4.l (λz=>nomatch z);have tl:y.t≠y.l:=zX hy4.t hy4.l (λz=>nomatch z);have ol:y.p≠y.l:=zX hy4.o hy4.l (λz=>nomatch z);have ok':y.p≠y.k:=zX hy4.o hy4.k (λz=>nomatch z);have ot:y.p≠y.t:=zX hy4.o hy4.t (λz=>nomatch z);have al:a≠y.l:=zX ea4 hy4.l (λz=>nomatch z);have rl:r≠y.l:=zX er hy4.l (λz=>nomatch z);have rk:r≠y.k:=ca (zb hy3.k nr);exists y9 ?_;exists ⟨a,rfl,⟨_,SqL.of ea4⟩,z6 (K:=K) (a:=a) (xs:=e.names.map V.int) (λi σ H'=>E1 λv=>A3 (σ=[some (.ref y.p),some (.ref p),some (.ref a),some (.ref r),v,none]) (H' y.l=some (.dK (nmK (z8 ns (e.names.take i))))) (SameX y.l H4 H')) ⟨_,rfl,hy4.l,λb o e _=>e⟩ (λi σ H' _ z'=>by obtain ⟨_,_,_,x⟩:=z'; exact SqL.of (x _ _ ea4 al)) ?_ ?_⟩
  . rintro i x σ H' hi ⟨v,rfl,el,sx5⟩;rw [ag] at hi;obtain ⟨m,hm',rfl⟩:=ao.mp hi;obtain ⟨n,hn',rfl⟩:=hm m (aq hm');have hni:(n:Int)∉e.names.take i:=by
      intro hh;obtain ⟨j,hj⟩:=de hh;have hj1:=(af.mp hj).1;rw [aJ] at hj1;rw [dg (by lia)] at hj;have:=(dF (i:=j) (by lia) hn).mp (hj.trans hm'.symm)
      lia
    have eo:=sx5 _ _ hy4.o ol;exists ⟨_,_,_,_,_,rfl,eo,X.c_Yard,X.n_Yard_lying,rfl,?_⟩;refine ⟨y.l,rfl,.inl ⟨_,.inl el⟩,?_⟩;exists ⟨_,.inl (n:Int),_,el,rfl,wV (mem_ndrop.mpr ⟨hn',hni⟩),?_⟩;refine ⟨_,rfl,?_,λb o e n=>by rw [zj n]; exact sx5 b o e n⟩;rw [zf,vp,a8,hm',show ((some (n:Int)).toList)=[(n:Int)] from rfl,xu]
  rintro σ H5 ⟨v,rfl,el5,sx5⟩;rw [aa,au] at el5;have er5:=sx5 _ _ er rl;have ek5:=sx5 _ _ hy4.k kl;have hN2:N.length<=2:=by rw [<-aa (f:=Cell.b),hNb]; exact uo e _ _
  have dl:=Ch (xq (ms:=e.names) hy.up) (λn h=>hy.lt n (mem_ndrop.mp h).1);exists y9 ?_;exists ⟨r,rfl,⟨_,SqL.of er5⟩,z6 (K:=K) (a:=r) (xs:=N.map Cell.v) (λi σ H'=>E2 λv v'=>A4 (σ=[some (.ref y.p),some (.ref p),some (.ref a),some (.ref r),v,v']) (H' y.l=some (.dK (nmK (z8 ns e.names++List.range' cl.length i)))) (H' y.k=some (.lst ((cl++N.take i).map Cell.v))) (∀ b o,H5 b=some o->b≠y.k->b≠y.l->H' b=some o)) ⟨_,_,rfl,by simpa using el5,by simpa using ek5,λb o e _ _=>e⟩ (λi σ H' _ z'=>by obtain ⟨_,_,_,_,_,x⟩:=z'; exact SqL.of (x _ _ er5 rk rl)) ?_ ?_⟩
  . rintro i x σ H' hi ⟨v1,v2,rfl,el,ek,sx6⟩;rw [ag] at hi;obtain ⟨cx,hcx,rfl⟩:=ao.mp hi;have hi3:=(af.mp hcx).1;have eo:=sx6 _ _ (sx5 _ _ hy4.o ol) ok' ol;have lk:((cl++N.take i).map Cell.v).length=cl.length+i:=by rw [aa,ah,aJ]; lia
    exists ⟨_,_,_,_,_,rfl,eo,X.c_Yard,X.n_Yard_lying,rfl,?_⟩;exists ⟨_,_,_,_,_,rfl,eo,X.c_Yard,X.n_Yard_known,rfl,?_⟩;walk_at "r";rw [lk];refine ⟨y.l,_,rfl,DPut.k (k:=.inl ((cl.length+i:Nat):Int)) el (by simp only [nmK,aa,ah,dq]; exact aE (show _<1000 by lia) (by decide +kernel)),?_⟩;have ek':upd H' y.l (.dK (putK (nmK (z8 ns e.names++List.range' cl.length i)) (.inl ((cl.length+i:Nat):Int)) (.bl true))) y.k=some (.lst ((cl++N.take i).map Cell.v)):=by rw [zj kl]; exact ek
    exists ⟨_,_,_,_,_,rfl,by rw [zj ol]; exact eo,X.c_Yard,X.n_Yard_known,rfl,?_⟩;exists zp ek' (by rw [lk]; lia) λH7 x7 e7=>?_;refine ⟨_,_,rfl,?_,?_,λb o e n1 n2=>x7 _ _ (by rw [zj n2]; exact sx6 b o e n1 n2) n1⟩
    . rw [x7 _ _ zf (ca kl)];rw [wR _ (wB (λn hn=>?_))]
      . rw [fG,<-bB];simp [nmK]
      . rcases ax.mp hn with hn | hn
        . have:=hy.lt n (mem_ndrop.mp hn).1
          lia
        . have:=cD.mp hn
          lia
    . rw [a8,hcx,<-bB,aj];exact e7
  rintro σ H6 ⟨v1,v2,rfl,el6,ek6,sx6⟩;rw [aa] at el6 ek6;rw [au] at ek6;have eo6:=sx6 _ _ (sx5 _ _ hy4.o ol) ok' ol;have et6:=sx6 _ _ (sx5 _ _ hy4.t tl) (ca hy.kt) tl;exists ⟨_,_,_,_,_,rfl,eo6,X.c_Yard,X.n_Yard_done,rfl,?_⟩;exists zp et6 (by lia) λH7 x7 e7=>?_;walk_at "r";have keep:∀ x:Cell,x.At H4->x.At H7:=λx hx=>by
    have f:∀ {b:Addr} {ys:List V},H4 b=some (.tup ys)->H7 b=some (.tup ys):=λ{b ys} e=>x7 _ _ (sx6 _ _ (sx5 _ _ e (zX e hy4.l (λz=>nomatch z))) (zX e hy4.k (λz=>nomatch z)) (zX e hy4.l (λz=>nomatch z))) (zX e hy4.t (λz=>nomatch z));exact ⟨f hx.t,f hx.w,f hx.h⟩
  refine q N H7 ⟨x7 _ _ eo6 ot,x7 _ _ ek6 hy.kt,x7 _ _ el6 (ca tl),e7,hy.kt,λx hx=>?_,?_,λn hn=>?_,by rw [ah]; lia,by rw [ah]; simp only [ar,aP]; lia⟩ hNb (λb o e n1 n2 n3=>x7 _ _ (sx6 _ _ (sx5 _ _ (t4 _ _ e) n2) n1 n2) n3)
  . rcases ax.mp hx with hx | hx
    . exact keep x (hy4.at' x hx)
    . exact keep x (hN x hx)
  . refine List.pairwise_append.mpr ⟨xq hy.up,gs ..,λn1 h1 n2 h2=>?_⟩;have:=hy.lt n1 (mem_ndrop.mp h1).1;have:=cD.mp h2
    lia
  . rw [ah];rcases ax.mp hn with hn|hn
    . have:=hy.lt n (mem_ndrop.mp hn).1
      lia
    . have:=cD.mp hn
      lia
theorem K63(F:Fun K "yard_behind" "yard_behind" S28 f fd)(B:Bl mg)(X:Xs K mg cs)(o64x:OwnI P w K mg base CX0 cs.Yard 1 "Yard" ["self","d","heap","turning"] [] (P18 cs))(o65x:OwnM P w K mg base CX0 cs.Yard 6 "do" ["self","deed"] [] (P63 cs)):FnOk P w K mg base CX0 7 f fd ["d","heap","plan","turning"] (P64 cs):=by
  refine F.okA C66 λcdv A outer s H vs Q E hr h=>?_;obtain @⟨hp,pl,d,tn,L,ps,es,rfl,hh,hA,l30,hpl,plen,hd,hr',hw,q⟩:=h;refine ⟨_,(za (ps_s 4 C66.nd (Iw o64x uG hr rfl (pa3 (pv 0) (pv 1) (pv 3)))) (za (zP PassesOwn.never rfl (zI (pv 2)) (pg_n 5 C66.nd) (zc (zK (vg o65x uG hr (pv 4) (pa1 (pv 5)))))) (zc (zh (pv 4))))),?_⟩;walk_at "s";exists Jk ?_;walk_at "r";intro x dx nx ndx ndxx;refine wZ (tn:=tn) rfl nx ndx hh hA (by lia) λy H1 ep s1 hy1 k1 l1 t1=>?_;subst ep;refine ⟨rfl,?_⟩;have hpl1:=s1 _ _ hpl;have plk:pl≠y.k:=zb hpl k1;have plt:pl≠y.t:=zb hpl t1;have hel:es.length<=150:=by rw [<-hr'.1]; exact plen
  have st0:YdS cs.Yard H1 y d tn (As.st L) []:=⟨L,hy1,rfl,λn hn=>by
    have hn:n<L.length:=hn;exact ⟨_,ae hn,by show _=(fL L n).b; rw [tY (ae hn)]⟩⟩
  exists y9 ?_;exists ⟨pl,rfl,⟨_,SqL.of hpl1⟩,z6 (K:=K) (a:=pl) (xs:=ps.map V.ref) (λi σ H'=>E1 λv=>A3 (σ=[some (.int d),some (.ref hp),some (.ref pl),some (.bl tn),some (.ref y.p),v]) (Same H H') (YdS cs.Yard H' y d tn (ends (As.st L) (es.take i)) ((ps.take i).map V.ref))) ⟨_,rfl,s1,st0⟩ (λi σ H' _ z'=>by obtain ⟨_,_,s,_⟩:=z'; exact SqL.of (s _ _ hpl)) ?_ ?_⟩
  . rintro i x σ H' hi ⟨v,rfl,s',⟨cl,hyc,hk,hrel⟩⟩;rw [ag] at hi;obtain ⟨p,hp',rfl⟩:=ao.mp hi;have ci:=(af.mp hp').1;have hkk:=Kg (s:=As.st L) (es:=es.take i);have hk0:(As.st L).k=L.length:=rfl;rw [aJ] at hkk;have hlg:((ps.take i).map V.ref).length<=150:=by rw [aa,aJ]; lia
    have hie:i<es.length:=by rw [<-hr'.1]; exact ci
    obtain ⟨e,n,m,hx⟩:∃ e n m,es[i]?=some (e,n,m):=⟨_,_,_,ae hie⟩
    have st:=hw i _ hx;have he:=(hr'.2 i p _ hp' hx).same s';obtain ⟨cn,hcn,hbn⟩:=hrel n (hk ▸ hyc.lt n st.nms.hn);obtain ⟨cm,hcm,hbm⟩:=hrel m (hk ▸ hyc.lt m st.nms.hm);exists ⟨_,_,_,rfl,hyc.o,rfl,?_⟩;exists Ew rfl (c:=cn) (c':=cm) hyc he st.ok st.nms.names_in st.nms.nodup st.tn (st.nms.cells hcn hcm) (by rw [hbn,hbm]; exact st.fit) hd (by lia) (by lia) λN H2 hy2 hN fr2=>?_;rw [hbn,hbm] at hN;exists ⟨_,rfl,λb o e=>fr2 _ _ (s' _ _ e) (zb e k1) (zb e l1) (zb e t1),?_⟩;rw [yo hx,a8,hp',aj];exact YdS.next hk hrel hy2 hN
  rintro σ H' ⟨v,rfl,s',st⟩;rw [aa,au,hr'.1,au] at st;walk_at "r";exact q y H' s' st
theorem K64(F:Fun K "_law_remade" "_law_remade" S60 f fd)(B:Bl mg)(o60x:Own P w K mg base 1 "_law_begin" ["_law_heap_here"] [] P17)(o58x:Own P w K mg base 6 "_law_deed" ["_law_d","_law_cell_here","_law_lying","_law_pool"] [] (P62 K))(o59x:Own P w K mg base 5 "_law_done" ["_law_lying","_law_used","_law_deed_here"] [] P60)(o45x:Own P w K mg base 1 "_law_great" ["_law_cell_here","_law_k"] [] P14)(o43x:Own P w K mg base 1 "_law_cell" ["_law_script","_law_k"] [] (P13 K)):FnOk P w K mg base CX0 7 f fd ["_law_d","_law_script","_law_heap_here","_law_pool","_law_first","_law_last"] (P65 K):=by
  refine F.okA C67 λcdv A outer s H vs Q E hr h=>?_;obtain @⟨d,D,a,l,qa,ns,L,P,ft,M,K',rfl,hS,hb,hl,hA,hP,hR,l1,l20,ob,oP,zz,hK,hM,q⟩:=h;refine ⟨_,(za (BN (ze o60x hr rfl (pa1 (pv 2))) (wF (n:=2) rfl (zO (pg_n 6 C67.nd) (zO (pg_n 7 C67.nd) xj)))) (za (zP PassesOwn.never rfl (zI (xt uh (pv 1) (xJ (pv 4)) (xJ (pv 5)))) (pg_n 8 C67.nd) (za (ps_s 9 C67.nd (ze o58x hr rfl (zu (pv 0) (zu (pv 8) (zu (pv 6) (zu (pv 3) yz)))))) (zc (BN (ze o59x hr rfl (pa3 (pv 6) (pv 7) (pv 9))) (wF (n:=2) rfl (zO (pg_n 6 C67.nd) (zO (pg_n 7 C67.nd) xj))))))) (za (uD (i:=10) C67.nd rfl rfl ["_law_name"] [6] rfl (zI (zn (vQ rfl) rfl B.sorted wc (pa1 (pv 6)))) (λ_ _ _ _ _=>(pg_n 0 (show List.Nodup (α:=Str) ["_law_name","_law_lying"] by decide +kernel))) (λ_ _ _ _ _=>zJ) (λ_ _ _ _ _=>(xn (xA hr) (pv 1) (pv 0) (λ_ _=>rfl)))) (za (ps_s 11 C67.nd (zg zG (ze o45x hr rfl (pa2 (ze o43x hr rfl (pa2 (pv 1) (pv 4))) zd)) (zn zt rfl B.len aY (pa1 (pv 10))))) (za (ps_s 10 C67.nd (zg Cg (xt uh (pv 10) (xJ (pv 11)) va) (xt uh (pv 10) va (xJ (pv 11))))) (za (wH (zx (zi zU (zg zG (ze o45x hr rfl (pa2 (ze o43x hr rfl (pa2 (pv 1) (pv 4))) zd)) zd) zd (zk _)) (zc (zK (GO aN PySem.F.slot_list_reverse PySem.F.type_list_reverse CH (pv 10)))) zl)) (zc (zh (pv 10))))))))),?_⟩;walk_at "s";exists u5 rfl hl hA (by lia) λr0 A0 H1 s1 nA0 e1 ly1=>?_;have hS1:=s1.seq hS;have hP1:=hP.same s1;exists y9 ?_;exists HQ (i:=ft) (j:=ft+6) hS1 λps H2 nps s2 e2=>?_;rw [show ft+6 - ft=6 by lia] at e2;have cb:∀ x∈(ns.drop ft).take 6,Bd 1048576 x:=λx hx=>hb x (dG (bO hx));have cl:((ns.drop ft).take 6).length<=6:=by rw [aJ]; lia
  generalize (ns.drop ft).take 6=cz at *
  have hP2:=hP1.same s2;have ly2:=ly1.same s2;refine ⟨ps,rfl,⟨_,SqL.of e2⟩,z6 (K:=K) (a:=ps) (xs:=cz.map V.int) (λi σ H'=>E6 λ(v8 v9:Option V) (A:Addr) (f:Nat->Cell) (s:As) (D2:Int)=>A8 (σ=[some (.int d),some (.ref a),some (.ref l),some (.ref qa),some (.int (ft:Int)),some (.int ((ft+6:Nat):Int)),some (.ref A),some (.int (s.k:Nat)),v8,v9,none,none]) (Same H2 H') (Ly H' A s.ns f) ((∀ n,(f n).b=s.g n)) (As.Ok L.length s i) ((1<=D2/\D∣D2/\Bd (K'+6*i) D2)) ((∀ n∈s.ns,BoD d D2 (M+13*i) (s.g n))) (tbs (s.ns.map s.g)=tbs (L.map Cell.b))) ⟨_,_,A0,fL L,As.st L,D,rfl,Same.refl _,ly2,λn=>rfl,JN l1,⟨zz.d1,dy _,zz.bd⟩,λn hn=>?_,by rw [Kl]⟩ (λi σ H' _ z=>by obtain ⟨_,_,_,_,_,_,_,z,_⟩:=z; exact SqL.of (z _ _ e2)) ?_ ?_⟩
  . have hn:n<L.length:=bG.mp hn;show BoD d D M (fL L n).b;rw [F5 (ae hn)];exact ob _ (bI hn)
  . rintro i x σ H' hi ⟨v8,v9,A,f,s,D2,rfl,s',ly,hfb,ok,⟨d1,dv,bd⟩,bo,tb⟩;have hi':=(af.mp hi).1;rw [aa] at hi';rw [ag] at hi;obtain ⟨c0,hc0,rfl⟩:=ao.mp hi;have nl:=ok.nl;have kl:=ok.kl;have z2:Sz D2 (K'+6*i) (M+13*i):=⟨d1,bd,by lia,by lia⟩
    exists AQ rfl (K:=K) (cb c0 (aq hc0)) ly ok.up (by lia) ok.ne (λn hn=>by rw [hfb]; exact bo n hn) (hP2.same s') (λy hy=>?_) z2 hR λp e n m H3 s3 he gd nT=>?_
    . have o:=oP y hy;exact (So.low d1 o.1.z1 o.1.g o.1.up (aW o.2 dv) o.1.bx o.1.by' bd).mono (by lia)
    have st:Stp d false s (e,n,m):=⟨⟨gd.nm,gd.hn,gd.hm,gd.ne,gd.eq⟩,gd.ok,by show e.Fit d (s.g n) (s.g m); rw [<-hfb,<-hfb]; exact gd.fit,λz=>by rw [nT] at z; cases z⟩
    exists AU rfl (ly.same s3) ok.lt (by lia) he gd λr4 A4 N H4 s4 nA4 e4 hN ly4=>?_;rw [hfb,hfb] at hN;obtain ⟨k2,k21,bk2,nb⟩:=gd.new;rw [hfb,hfb] at nb;have hNl:N.length=(e.new (s.g n) (s.g m)).length:=by rw [<-hN,aa]
    exists ⟨some (.int c0),some (.ref p),A4,fN f s.k N,s.next (e,n,m),D2*k2,?_,(s'.trans s3).trans s4,?_,λj=>?_,ok.next st.nms,⟨aX (by lia) (by lia),aW dv (Int.dvd_mul_right _ _),(bd.mul bk2).mono (by lia)⟩,FP ok.lt (λj hj=>?_) (λb hb'=>?_),?_⟩
    . rw [hNl];rfl
    . rw [hNl] at ly4;exact ly4
    . rw [fN_b,hN,show (λn=>(f n).b)=s.g from funext hfb];rfl
    . have:=bo j hj;exact ⟨(this.1.scale bk2).mono (by lia),(this.2.scale bk2).mono (by lia)⟩
    . have:=nb b hb';exact ⟨this.1.mono (by lia),this.2.mono (by lia)⟩
    . exact (Gy (D:=D2) (M:=M+13*i) st nT ok.up ok.lt bo).trans tb
  rintro σ H3 ⟨v8,v9,A,f,s,D2,rfl,s3,ly,hfb,ok,⟨d1,dv,bd⟩,bo,tb⟩;rw [aa] at ok bd bo;have nl:=ok.nl;exists yK ?_;exists Du ly.l ok.up (by lia) λp4 H4 n4 s4 e4=>?_;have hLy4:=ly.same s4;exists ⟨p4,rfl,⟨_,SqL.of e4⟩,λdu hO=>zV (K:=K) (a:=p4) (ys:=(s.ns.map λn:Nat=>(n:Int)).map V.int) (λi xs σ' H'=>E1 λ(v:Option V)=>A4 (σ'=[v,some (.ref A)]) (xs=((s.ns.take i).map f).map Cell.v) (H' du=some (.lst xs)) (SameX du H4 H')) ⟨none,rfl,rfl,zf,(λb o e n=>by rw [zj n]; exact e)⟩ (λi xs σ' H' _ z=>by obtain ⟨v,_,_,_,z⟩:=z; exact SqL.of (z _ _ e4 (zb e4 hO))) ?_ ?_⟩
  . rintro i x xs σ' H' hi ⟨v,rfl,rfl,eO,sx⟩;have hi':=(af.mp hi).1;rw [ag,ag] at hi;obtain ⟨z,hz,rfl⟩:=ao.mp hi;obtain ⟨n,hn,rfl⟩:=ao.mp hz;have s':Same H4 H':=λb o e=>sx b o e (zb e hO);have hL':=hLy4.same s';have hn':=aq hn;exists ⟨A,_,rfl,DGet.k (k:=.inl (n:Int)) hL'.l |> (λz=>by rw [yt hn'] at z; exact z),?_⟩;exists zp eO (by simp only [aa,aJ] at hi' ⊢; lia) λH5 x5 e5=>?_;refine yr hi' ⟨_,rfl,rfl,?_,sx.trans x5⟩;rw [a8,hn,aj,aj];exact e5
  rintro xs σ' H5 ⟨v,rfl,rfl,edu,sx⟩;have s5:Same H4 H5:=λb o e=>sx b o e (zb e hO);rw [show s.ns.take ((s.ns.map λn:Nat=>(n:Int)).map V.int).length=s.ns by rw [aa,aa,au]] at edu;have hA5:∀ c∈s.ns.map f,c.At H5:=λc hc=>by
    obtain ⟨n,hn,rfl⟩:=aZ.mp hc;exact (hLy4.same s5).at' n hn
  have lF:(s.ns.map f).length=s.ns.length:=aa ..;have n1:1<=s.ns.length:=bA.mpr ok.ne;have bF:∀ c∈s.ns.map f,BoD d D2 (M+13*6) c.b:=λc hc=>by
    obtain ⟨n,hn,rfl⟩:=aZ.mp hc;rw [hfb];have:=bo n hn;exact ⟨this.1.mono (by lia),this.2.mono (by lia)⟩
  have tF:tbs ((s.ns.map f).map Cell.b)=tbs (L.map Cell.b):=by
    rw [gQ,<-tb];congr 1;exact fi λn _=>hfb n
  have s05:=((s1.trans s2).trans s3).trans (s4.trans s5);have nO0:H du=none:=Same.nn (((s1.trans s2).trans s3).trans s4) hO;generalize s.ns.map f=F at *
  have hS5:=s05.seq hS;have F1:(0:Int)<(((F.map Cell.v).length:Nat):Int):=by rw [aa]; lia
  exists ye rfl hS5 (by lia) hb λc1 hc1=>?_;exists yg rfl hc1 (by decide +kernel) λg1 g10 g11=>?_;walk_at "r";have x0:=ce g1 (show (((F.map Cell.v).length:Nat):Int)≠0 by lia);have x1:=cg g1 F1;obtain ⟨kk,hk⟩:∃ kk:Nat,g1 % (((F.map Cell.v).length:Nat):Int)=(kk:Int):=⟨(g1 % (((F.map Cell.v).length:Nat):Int)).toNat,by lia⟩
  rw [hk];refine BG edu λpa Ha sa ea=>?_;have edua:=sa _ _ edu;exists IS edua λpb Hb sb eb=>?_;refine Gw (sb _ _ ea) eb (by simp only [c8,aJ,aa]; lia) λpc Hc npc sc ec=>?_;rw [<-gq,<-hJ,<-aj] at ec;have t5c:=(sa.trans sb).trans sc;have s0c:=s05.trans t5c;have nc0:H pc=none:=Same.nn (s05.trans (sa.trans sb)) npc;have mrot:∀ c∈F.drop kk++F.take kk,c∈F:=λc hc=>by
    rcases ax.mp hc with h|h
    . exact dG h
    . exact bO h
  have prot:(F.drop kk++F.take kk).Perm F:=by
    conv=>rhs; rw [<-dB kk F]
    exact List.perm_append_comm
  have fin:∀ (O:List Cell) (H':Hp),O.Perm F->Same H H'->(∀ c∈O,c.At H')->H' pc=some (.lst (O.map Cell.v))->Q (.ref pc) H':=λO H' hp hs ha he=>q pc H' O D2 hs nc0 he ha dv d1 (bd.mono (by lia)) (λc hc=>bF c (hp.mem_iff.mp hc)) (by rw [BB (hp.map _)]; exact tF) (by rw [hp.length_eq]; lia) (by rw [hp.length_eq]; lia);exists tN (T:=λσ' H'=>E2 λ(v:Option V) (O:List Cell)=>A5 (σ'=[some (.int d),some (.ref a),some (.ref l),some (.ref qa),some (.int (ft:Int)),some (.int ((ft+6:Nat):Int)),some (.ref A),some (.int (s.k:Nat)),v8,v9,some (.ref pc),v]) (O.Perm F) (Same H H') ((∀ c∈O,c.At H')) (H' pc=some (.lst (O.map Cell.v)))) ?_ ?_
  . exists ye rfl (t5c.seq hS5) (by lia) hb λc2 hc2=>?_;exists yg rfl hc2 (by decide +kernel) λg2 g20 g21=>?_;exists if_d (λcc=>?_) (λcc=>?_)
    . exists Dq ec λHd sxd ed=>?_;rw [<-List.map_reverse] at ed;exists ⟨_,_,rfl,(List.reverse_perm _).trans prot,λb o z=>sxd _ _ (s0c _ _ z) (zb z nc0),λc hc=>((hA5 c (mrot c (List.mem_reverse.mp hc))).same t5c).sameX sxd ec,ed⟩
    . walk_at "r";exact ⟨_,_,rfl,prot,s0c,λc hc=>(hA5 c (mrot c hc)).same t5c,ec⟩
  rintro σ' Hd ⟨v,O,rfl,hp,hs,ha,he⟩;walk_at "r";exact fin O Hd hp hs ha he
theorem Gr{cl:List Cell}{g:Nat->Bo}:∀ {ns:List Nat},(∀ n∈ns,∃ c,cl[n]?=some c/\c.b=g n)->(pick cl ns).map Cell.b=ns.map g
  | [],_=>rfl
  | n::ns,h=>by
    obtain ⟨c,h1,h2⟩:=h n aB;have ih:=Gr (ns:=ns) λm hm=>h m (ay _ hm);simp only [pick,cW,h1,aU,h2] at ih ⊢;rw [ih]
theorem K65(F:FunD K "walked" "walked" S29 f fd its)(B:Bl mg)(o70x:OwnM P w K mg base CX0 cs.Yard 1 "heap" ["self"] [] (P21 cs))(o28x:Own P w K mg base 7 "yard_behind" ["d","heap","plan","turning"] [] (P64 cs)):FnOk P w K mg base CX0 8 f fd ["d","heap","plan","turning"] (P66 cs):=by
  refine F.okA C68 λcdv A outer s H vs Q E hr h=>?_;obtain @⟨hp,pl,d,tn,L,ps,es,rfl,hh,hA,l30,hpl,plen,hd,hr',hw,q⟩:=h;refine ⟨_,(zc (zh (BZ o70x uG hr (ze o28x hr rfl (zu (pv 0) (zu (pv 1) (zu (pv 2) (zu (pv 3) yz)))))))),?_⟩;walk_at "s";exists wm rfl hh hA l30 hpl plen hd hr' hw λy H1 s1 st=>?_;obtain ⟨cl,hyc,hk,hrel⟩:=st;refine ⟨_,_,_,rfl,hyc.o,rfl,?_⟩;exists A1 rfl hyc λr H2 s2 nr e2=>?_;exact q r _ H2 (s1.trans s2) (Same.nn s1 nr) e2 (λc hc=>(hyc.at' c (Fr hc)).same s2) (Gr λn hn=>hrel n (hk ▸ hyc.lt n hn))
theorem K66(F:Fun K "back" "back" S32 f fd)(B:Bl mg)(o28x:Own P w K mg base 7 "yard_behind" ["d","heap","plan","turning"] [] (P64 cs))(o69x:OwnM P w K mg base CX0 cs.Yard 1 "boards" ["self"] [] (P20 cs))(o22x:Own P w K mg base 1 "names_taken" ["deed"] [] P7)(o31x:Own P w K mg base 1 "places_of" ["names"] [] P10)(o23x:Own P w K mg base 1 "count_put" ["deed"] [] P8)(o30x:Own P w K mg base 2 "undoing" ["yard","deed","names"] [] (P28 cs)):FnOk P w K mg base CX0 8 f fd ["d","heap","plan"] (P67 cs):=by
  refine F.okA C69 λcdv A outer s H vs Q E hr h=>?_;obtain @⟨hp,pl,d,tn,L,ps,es,D0,K',M,rfl,hh,hA,l1,l6,hpl,plen,hR,hr',hw,z,ev,q⟩:=h;refine ⟨_,(za (ps_s 3 C69.nd (ze o28x hr rfl (zu (pv 0) (zu (pv 1) (zu (pv 2) (zu wO yz)))))) (za (ps_s 4 C69.nd (BZ o69x uG hr (pv 3))) (za (ps_s 5 C69.nd uw) (za (zP PassesOwn.never rfl (uF rfl B.enumerate (pa1 (pv 4))) (wF (n:=2) rfl (zO (pg_n 6 C69.nd) (zO (pg_n 7 C69.nd) xj))) (zc (xI (xA hr) (pv 5) (pit 7) (pv 6) rfl))) (za (ps_s 8 C69.nd (zn zt rfl B.len aY (pa1 (pv 4)))) (za (ps_s 9 C69.nd (zg zD (zn zt rfl B.len aY (pa1 (pv 1))) (zn (t8 rfl) rfl B.sum GJ (pa1 (yl ["deed"] [] rfl (zI (pv 2)) (λ_ _ _ _ _=>(pg_n 0 (show List.Nodup (α:=Str) ["deed"] by decide +kernel))) (λ_ _ _ _ _=>zJ) (λ_ _ _ _ _=>(ze o23x hr rfl (pa1 (pv 0))))))))) (za (ps_s 10 C69.nd (zH yz)) (za (zP PassesOwn.never rfl (G9 rfl B.reversed (pa1 (pv 2))) (pg_n 11 C69.nd) (za (ps_s 12 C69.nd (zg yP (pv 9) (ze o23x hr rfl (pa1 (pv 11))))) (za (zK (xC aN aQ aR zB (pv 10) (pa1 (ze o30x hr rfl (pa3 (pv 3) (pv 11) (yl ["name"] [5] rfl (wp rfl B.range (pa2 (pv 12) (pv 9))) (λ_ _ _ _ _=>(pg_n 0 (show List.Nodup (α:=Str) ["name","renamed"] by decide +kernel))) (λ_ _ _ _ _=>zJ) (λ_ _ _ _ _=>(xn (xA hr) (pv 1) (pv 0) (λ_ _=>rfl))))))))) (za (zP PassesOwn.never rfl (zI (ze o22x hr rfl (pa1 (pv 11)))) (pg_n 13 C69.nd) (za (xI (xA hr) (pv 5) (pv 13) (pv 8) rfl) (zc (ps_s 8 C69.nd (zg zD (pv 8) zd))))) (zc (ps_s 9 C69.nd (pv 12))))))) (zc (zh (zo (pa2 (pv 10) (ze o31x hr rfl (pa1 (yl ["name"] [5] rfl (ya rfl B.range (pa1 (zn zt rfl B.len aY (pa1 (pv 1))))) (λ_ _ _ _ _=>(pg_n 0 (show List.Nodup (α:=Str) ["name","renamed"] by decide +kernel))) (λ_ _ _ _ _=>zJ) (λ_ _ _ _ _=>(xn (xA hr) (pv 1) (pv 0) (λ_ _=>rfl)))))))))))))))))),?_⟩;walk_at "s";have hel:es.length<=100:=by rw [<-hr'.1]; exact plen
  have dlo:=hR.lo;have hd64:Bd 64 d:=zL (B:=99) (by lia) hR.hi (by decide +kernel);have ok0:As.Ok 20 (As.st L) 0:=by rw [Cy]; exact vE (by rw [aa]; exact l1) (by rw [aa]; exact l6)
  have oks:=zZ ok0 hw;have okN:=oks es.length (ai _);rw [au] at okN;have nlN:=okN.nl;have klN:=okN.kl;have ndN:=xv okN.up;exists wm rfl hh hA (by lia) hpl (by lia) hd64 hr' (Dr hw) λy H1 s1 st=>?_;obtain ⟨cl,hyc,hk,hrel⟩:=st;exists ⟨_,_,_,rfl,hyc.o,rfl,?_⟩;exists ue rfl hyc λr2 H2 prs s2 nr2 e2 hprs=>?_;exists Bb λD H3 nD s3 e3=>?_;have e23:=s3 _ _ e2;have r2D:r2≠D:=zb e2 nD;exists B6 ?_;exists ⟨r2,_,rfl,SqL.of e23,wT (K:=K) (a:=r2) (xs:=prs.map V.ref) (λi σ H'=>E3 λv1 v2 kvs=>A5 (σ=[some (.int d),some (.ref hp),some (.ref pl),some (.ref y.p),some (.ref r2),some (.ref D),v1,v2,none,none,none,none,none,none]) (H' D=some (.dK kvs)) (kvs.length<=i) (Rn kvs ((ends (As.st L) es).ns.take i) (rk (ends (As.st L) es).ns)) (∀ b o,H3 b=some o->b≠D->H' b=some o)) ⟨_,_,[],rfl,e3,ai _,λn hn=>by simp at hn,λb o e _=>e⟩ (λi σ H' _ z'=>by obtain ⟨_,_,_,_,_,_,_,z⟩:=z'; exact SqL.of (z _ _ e23 r2D)) ?_ ?_⟩
  . rintro i x T σ H' hi hT ⟨v1,v2,kvs,rfl,eD,hkl,hRn,fr⟩;have hi':=(af.mp hi).1;rw [aa,hprs.1] at hi';rw [ag] at hi;obtain ⟨p,hp',rfl⟩:=ao.mp hi;obtain ⟨n,c,hn,hc,hpt⟩:=hprs.2 i p hp';have hpt3:=fr _ _ (s3 _ _ hpt) (zX (s3 _ _ hpt) e3 (λz=>nomatch z));have eD':(upd H' T (.tup [.int (i:Int),.ref p])) D=some (.dK kvs):=by rw [zj (zb eD hT)]; exact eD
    have eT:(upd H' T (.tup [.int (i:Int),.ref p])) T=some (.tup [.int (i:Int),.ref p]):=zf;have hpt4:(upd H' T (.tup [.int (i:Int),.ref p])) p=some (.tup [.int (n:Int),.ref c.p]):=by rw [zj (zb hpt3 hT)]; exact hpt3
    have frT:∀ b o,H3 b=some o->b≠D->(upd H' T (.tup [.int (i:Int),.ref p])) b=some o:=λb o e n=>by rw [zj (zb (fr b o e n) hT)]; exact fr b o e n
    generalize upd H' T (.tup [.int (i:Int),.ref p])=G at eT eD' frT hpt4 ⊢;exists ⟨D,_,rfl,DPut.k (k:=.inl (n:Int)) eD' (aE (show _<1000 by lia) (by decide +kernel)),?_⟩;refine ⟨_,_,_,rfl,zf,bK (yL ..) (by lia),λj hj=>?_,λb o e n=>by rw [zj n]; exact frT b o e n⟩;rw [xY];rw [a8,hn] at hj;by_cases c:j=n
    . subst c;rw [h7 rfl,FU ndN hn]
    . rw [h8 (BY c)];refine hRn j ?_;rcases ax.mp hj with h|h
      . exact h
      . exact absurd (by simpa using h) c
  rintro σ H4 ⟨w1,w2,kvs0,rfl,eD4,hkl4,hR4,fr4⟩;rw [aa,hprs.1] at hkl4 hR4;rw [au] at hR4;have s4:Same H2 H4:=λb o e=>fr4 _ _ (s3 _ _ e) (zb e nD);have s04:=(s1.trans s2).trans s4;have e24:=s4 _ _ e2;have hh4:=s04 _ _ hh;exists yK ?_;walk_at "r";have hpl4:=s04 _ _ hpl;refine ⟨pl,rfl,⟨_,SqL.of hpl4⟩,λO hO=>zV (K:=K) (a:=pl) (ys:=ps.map V.ref) (λi xs σ' H'=>E1 λ(v:Option V)=>A4 (σ'=[v]) (xs=((es.take i).map λx=>((x.1.puts:Nat):Int)).map V.int) (H' O=some (.lst xs)) (SameX O H4 H')) ⟨none,rfl,rfl,zf,λb o e n=>by rw [zj n]; exact e⟩ (λi xs σ' H' _ z=>by obtain ⟨v,_,_,_,z⟩:=z; exact SqL.of (z _ _ hpl4 (zb hpl4 hO))) ?_ ?_⟩
  . rintro i x xs σ' H' hi ⟨v,rfl,rfl,eO,sx⟩;have hi':=(af.mp hi).1;rw [ag] at hi;obtain ⟨p,hp',rfl⟩:=ao.mp hi;have hie:i<es.length:=by rw [<-hr'.1]; exact (af.mp hp').1
    have hx:=ae hie;have he:=((hr'.2 i p _ hp' hx).same s04).same (λb o e=>sx b o e (zb e hO));exists yd rfl he ?_;exists zp eO (by simp only [aa,aJ]; lia) λH5 x5 e5=>?_;refine yr hi' ⟨_,rfl,rfl,?_,sx.trans x5⟩;rw [a8,hx,aj,aj];exact e5
  rintro xs σ' H5 ⟨v,rfl,rfl,eO5,sx5⟩;have s5:Same H4 H5:=λb o e=>sx5 b o e (zb e hO);rw [aa,hr'.1,au] at eO5;exists Kt (SqL.of eO5) ?_;have hsum:((L.map Cell.v).length:Int)+(es.map λx=>((x.1.puts:Nat):Int)).sum=((ends (As.st L) es).k:Nat):=by
    rw [Cf,xm,aa];show _=((L.length+_:Nat):Int)
    lia
  walk_at "r";rw [hsum];refine zv (by simp) λa H6 na s6 e6=>?_;have s46:=s5.trans s6;have s06:=s04.trans s46;have eD6:=s46 _ _ eD4;have Da:D≠a:=zb (s5 _ _ eD4) na;have hy6:=((hyc.same s2).same s4).same s46;have hD0:H D=none:=Same.nn (s1.trans s2) nD;have ha0:H a=none:=Same.nn (s04.trans s5) na;have hpl6:=s06 _ _ hpl;have plD:pl≠D:=zb hpl hD0;have pla:pl≠a:=zb hpl ha0;exists Jc ?_;walk_at "r";have hplen2:(prs.map V.ref).length=(ends (As.st L) es).ns.length:=by rw [aa,hprs.1]
  rw [hplen2];refine ⟨pl,_,rfl,SqL.of hpl6,FQ (K:=K) (a:=pl) (xs:=ps.map V.ref) (λj σ H'=>E9 λ(v1 v2 v3 v4 v5:Option V) (kvs:List (Key×V)) (r:Nat->Nat) (ps':List Addr) (es':DL)=>A5 (σ=[some (.int d),some (.ref hp),some (.ref pl),some (.ref y.p),some (.ref r2),some (.ref D),v1,v2,some (.int ((ends (As.sb ((ends (As.st L) es).ns.map (ends (As.st L) es).g)) es').k:Nat)),some (.int ((ends (As.st L) (es.take (es.length - j))).k:Nat)),some (.ref a),v3,v4,v5]) ((H' D=some (.dK kvs)/\kvs.length<=130+2*j/\Rn kvs (ends (As.st L) (es.take (es.length - j))).ns r)) ((H' a=some (.lst (ps'.map V.ref))/\Runs H' ps' es'/\ps'.length=j)) ((Walk d tn (As.sb ((ends (As.st L) es).ns.map (ends (As.st L) es).g)) es'/\es'.length=j/\Sim r (ends (As.st L) (es.take (es.length - j))) (ends (As.sb ((ends (As.st L) es).ns.map (ends (As.st L) es).g)) es')/\∀ i,i<=j->∀ n∈(ends (As.sb ((ends (As.st L) es).ns.map (ends (As.st L) es).g)) (es'.take i)).ns,BoD d D0 M ((ends (As.sb ((ends (As.st L) es).ns.map (ends (As.st L) es).g)) (es'.take i)).g n))) (∀ b o,H6 b=some o->b≠D->b≠a->H' b=some o)) ⟨w1,w2,none,none,none,kvs0,rk (ends (As.st L) es).ns,[],[],?_,⟨eD6,by lia,?_⟩,⟨e6,⟨rfl,λi p x h=>by simp at h⟩,rfl⟩,⟨λi x h=>by simp at h,rfl,?_,λi hi n hn=>?_⟩,λb o e _ _=>e⟩ (λj σ H' _ z=>by obtain ⟨_,_,_,_,_,_,_,_,_,_,_,_,_,z⟩:=z; exact SqL.of (z _ _ hpl6 plD pla)) ?_ ?_⟩
  . rw [gS,au];show _=[some (.int d),some (.ref hp),some (.ref pl),some (.ref y.p),some (.ref r2),some (.ref D),w1,w2,some (.int ((((ends (As.st L) es).ns.map (ends (As.st L) es).g).length:Nat):Int)),some (.int ((ends (As.st L) es).k:Nat)),some (.ref a),none,none,none]
    rw [aa]
  . rw [gS,au];exact hR4
  . rw [gS,au];exact sim0 ndN
  . have hi:i=0:=by lia
    subst hi;obtain ⟨n0,h0,rfl⟩:=(sim0 ndN).on n hn;show BoD d D0 M ((As.sb ((ends (As.st L) es).ns.map (ends (As.st L) es).g)).g (rk (ends (As.st L) es).ns n0));rw [(sim0 ndN).g n0 h0];exact ev n0 (okN.lt n0 h0)
  . rintro j x σ H' hj hi ⟨v1,v2,v3,v4,v5,kvs,r,ps',es',rfl,⟨eD,hkl,hRn⟩,⟨ea,hrun,hpsl⟩,⟨hwk,hesl,sim,hbs⟩,fr⟩;rw [aa,hr'.1] at hj hi;rw [ag] at hi;obtain ⟨p,hp',rfl⟩:=ao.mp hi;have hie:es.length - 1 - j<es.length:=by lia
    have hx:=ae hie;generalize es[es.length - 1 - j]=xd at hx;have st:=hw _ _ hx;have hen:=yo (s:=As.st L) hx;rw [GD hj,hen] at hRn sim;rw [GD hj,hen];have oki:=oks (es.length - 1 - j) (by lia);have ev1:=tz ev (es.length - 1 - j+1);rw [hen] at ev1;have ev0:=tz ev (es.length - 1 - j);have gk:∀ n,n<(ends (As.st L) (es.take (es.length - 1 - j))).k->(ends (As.st L) es).g n=(ends (As.st L) (es.take (es.length - 1 - j))).g n:=λn hn=>by
      conv=>lhs; rw [vt (es:=es) (i:=es.length - 1 - j)]
      exact vP hn
    have kN:(ends (As.st L) (es.take (es.length - 1 - j))).k<=(ends (As.st L) es).k:=Ad;have e0:es.length - (j+1)=es.length - 1 - j:=by lia
    have t0ok:As.Ok 120 (As.sb ((ends (As.st L) es).ns.map (ends (As.st L) es).g)) 0:=vE (by
      rw [aa];have:=bA.mpr okN.ne
      lia) (by rw [aa]; lia)
    have okt:=zZ t0ok hwk j (by lia);rw [show es'.take j=es' by rw [<-hesl,au]] at okt;generalize hs:ends (As.st L) (es.take (es.length - 1 - j))=s at *
    generalize ht0:(As.sb ((ends (As.st L) es).ns.map (ends (As.st L) es).g))=t0 at *
    generalize ht:ends t0 es'=t at *
    have kls:=oki.kl;have so:∀ n∈s.ns,BoD d D0 M (s.g n):=λn hn=>ev0 n (oki.lt n hn);have sn:=FN ev1;have us:=FC hR z st so sn sim;have um:=Fg z.d1 st so sn sim oki.lt okt.lt;have nk:=xh s xd;have pl2:=puts_le xd.1;have s0':Same H H':=λb o e=>fr _ _ (s06 _ _ e) (zb e hD0) (zb e ha0);have s6':∀ b o,H6 b=some o->(∀ kv,o≠.dK kv)->b≠a->H' b=some o:=λb o e h n=>fr _ _ e (λc=>by rw [c,eD6] at e; exact h _ (aw e).symm) n;have he:=(hr'.2 _ p _ hp' hx).same s0';have yka:y.k≠a:=zb ((s2.trans (s4.trans s5)) _ _ hyc.k) na;have yta:y.t≠a:=zb ((s2.trans (s4.trans s5)) _ _ hyc.t) na;have ypa:y.p≠a:=zb ((s2.trans (s4.trans s5)) _ _ hyc.o) na;have yla:y.l≠a:=zb ((s2.trans (s4.trans s5)) _ _ hyc.l) na;have ylD:y.l≠D:=zb (s2 _ _ hyc.l) nD;have hy':YdAt cs.Yard H' y d true cl (ends (As.st L) es).ns (ps.map V.ref):=hy6.mv λb o e h=>by
      rcases h with ⟨xs,rfl⟩|rfl|rfl|rfl|rfl
      . exact s6' _ _ e (λ_ z=>nomatch z) (zX e e6 (λz=>nomatch z))
      . rw [hy6.o] at e; exact s6' _ _ hy6.o (λ_ z=>nomatch z) ypa |>.trans e
      . rw [hy6.k] at e; exact s6' _ _ hy6.k (λ_ z=>nomatch z) yka |>.trans e
      . rw [hy6.l] at e; exact (fr _ _ hy6.l ylD yla).trans e
      . rw [hy6.t] at e; exact s6' _ _ hy6.t (λ_ z=>nomatch z) yta |>.trans e
    exists yd rfl he ?_;walk_at "r";rw [show (((s.next xd).k:Nat):Int) - (xd.1.puts:Nat)=(s.k:Int) by lia];rw [nk];exists BS ?_;exists ⟨(s.k:Int),((s.k+xd.1.puts:Nat):Int),rfl,⟨by lia,by lia,by lia,by lia⟩,λO hO=>yD (lo:=(s.k:Int)) (n:=(((s.k+xd.1.puts:Nat):Int) - (s.k:Int)).toNat) (λi xs σ' Hc=>E1 λ(v:Option V)=>A4 (σ'=[v,some (.ref D)]) (xs=(((List.range i).map λq=>r (s.k+q)).map λn:Nat=>(n:Int)).map V.int) (Hc O=some (.lst xs)) (SameX O H' Hc)) ⟨none,rfl,rfl,zf,λb o e n=>by rw [zj n]; exact e⟩ ?_ ?_⟩
    . rintro i xs σ' H9 hi ⟨v,rfl,rfl,eO,sx⟩;have hi2:i<xd.1.puts:=by lia
      have hD9:=sx _ _ eD (zb eD hO);walk_at "r";rw [show (s.k:Int)+(i:Int)=((s.k+i:Nat):Int) by lia];refine ⟨D,_,rfl,DGet.k (k:=.inl ((s.k+i:Nat):Int)) hD9 |> (λz=>by rw [hRn (s.k+i) (mem_next.mpr (.inr ⟨by lia,by lia⟩))] at z; exact z),?_⟩;exists zp eO (by simp only [aa,bf]; lia) λG5 x5 e5=>?_;refine yr hi ⟨_,rfl,rfl,?_,sx.trans x5⟩;rw [d4,aj,aj,aj];exact e5
    rintro xs σ' G2 ⟨v,rfl,rfl,eO,sx⟩;have sO:Same H' G2:=λb o e=>sx b o e (zb e hO);rw [show (((s.k+xd.1.puts:Nat):Int) - (s.k:Int)).toNat=xd.1.puts by lia] at eO;have eO':G2 O=some (.lst (if xd.1.puts=2 then [.int ((r s.k:Nat):Int),.int ((r (s.k+1):Nat):Int)] else [.int ((r s.k:Nat):Int)])):=by
      rcases pl2 with h|h
      . rw [h,h8 (by decide)]; rw [h] at eO; exact eO
      . rw [h,h7 rfl]; rw [h] at eO; exact eO
    obtain ⟨c,hc,hcb⟩:=hrel xd.2.1 (aE (oki.lt _ st.nms.hn) kN);rw [gk _ (oki.lt _ st.nms.hn)] at hcb;exists DT rfl (hy'.same sO) (he.same sO) eO' st.nms.en hc λpr G3 s3' npr epr=>?_;rw [hcb] at epr;have sG3:=sO.trans s3';have ea3:=sG3 _ _ ea;exists zp ea3 (by rw [aa]; lia) λG4 x4 e4=>?_;have eD4':=x4 _ _ (sG3 _ _ eD) Da;have he4:DdAt G4 p xd.1:=(he.same sG3).sameX x4 ea3;exists y9 ?_;exists xc rfl he4 λnl G5 s5' nnl enl=>?_;have eD5:=s5' _ _ eD4';have nlD:nl≠D:=ca (zb eD4' nnl);have enn:((t.k:Nat):Int)=((t.k+0:Nat):Int):=rfl;have nml:=names_len st.nms;have hdl:=wS;refine ⟨nl,rfl,⟨_,SqL.of enl⟩,z6 (K:=K) (a:=nl) (xs:=xd.1.names.map V.int) (λi σ H'=>E1 λv=>A3 (σ=[some (.int d),some (.ref hp),some (.ref pl),some (.ref y.p),some (.ref r2),some (.ref D),v1,v2,some (.int ((t.k+i:Nat):Int)),some (.int ((s.k+xd.1.puts:Nat):Int)),some (.ref a),some (.ref p),some (.int (s.k:Nat)),v]) (H' D=some (.dK (deal kvs (xd.1.names.take i) t.k))) (∀ b o,G5 b=some o->b≠D->H' b=some o)) ⟨_,rfl,eD5,λb o e _=>e⟩ (λi σ H' _ z'=>by obtain ⟨_,_,_,z⟩:=z'; exact SqL.of (z _ _ enl nlD)) ?_ ?_⟩
    . rintro i x σ G6 hi6 ⟨v,rfl,eD6',fr6⟩;have hi7:=(af.mp hi6).1;rw [aa] at hi7;rw [ag] at hi6;obtain ⟨m,hm,rfl⟩:=ao.mp hi6;have hn2:xd.1.names.length<=2:=xd.1.names_len;have hd1:=wS (xd.1.names.take i) kvs t.k;rw [aJ] at hd1;exists ⟨D,_,rfl,DPut.k (k:=.inl m) eD6' (aE (show _<1000 by lia) (by decide +kernel)),?_⟩;exists ⟨_,by rw [show ((t.k+i:Nat):Int)+1=((t.k+(i+1):Nat):Int) by lia],?_,λb o e n=>by rw [zj n]; exact fr6 b o e n⟩;rw [zf,a8,hm];show _=some (HO.dK (deal kvs (xd.1.names.take i++[m]) t.k));rw [tw,aJ,d6 (by lia)]
    rintro σ G7 ⟨v,rfl,eD7,fr7⟩;rw [aa,au] at eD7;have hd2:=wS xd.1.names kvs t.k;have tk7:TupK H' G7:=λb xs e=>fr7 _ _ (s5' _ _ (x4.tup (sG3 _ _ e) ea3)) (zX e eD (λz=>nomatch z));have tk3:TupK G3 G7:=λb xs e=>fr7 _ _ (s5' _ _ (x4.tup e ea3)) (zX e (sG3 _ _ eD) (λz=>nomatch z));walk_at "r";have eap:ends t0 (es'++[undo s xd r])=t.next (undo s xd r):=by rw [wU,ht]
    have kap:t.k+xd.1.names.length=(t.next (undo s xd r)).k:=by
      rw [xh,nml];congr 1;exact (BP _ _ _ _).symm
    rw [e0,hs];refine ⟨v1,v2,some (.ref p),some (.int (s.k:Nat)),v,deal kvs xd.1.names t.k,ren r xd t.k,ps'++[pr],es'++[undo s xd r],?_,⟨eD7,?_,Im hRn st.nms⟩,⟨?_,xi (hrun.tk tk7) (epr.tk tk3),?_⟩,⟨?_,?_,?_,?_⟩,λb o e n1 n2=>?_⟩
    . rw [eap,<-kap];rw [aa]
    . have:xd.1.names.length<=2:=xd.1.names_len
      lia
    . rw [aj];exact fr7 _ _ (s5' _ _ e4) (ca Da)
    . rw [ah,hpsl]; rfl
    . exact Ea hwk (by rw [ht]; exact us)
    . rw [ah,hesl]; rfl
    . rw [eap]; exact um
    . intro i hi n hn;by_cases ci:i<=j
      . rw [cB (by lia)] at hn ⊢;exact hbs i ci n hn
      . have:i=j+1:=by lia
        subst this;rw [show (es'++[undo s xd r]).take (j+1)=es'++[undo s xd r] by rw [bJ]; rw [ah,hesl]; exact ai _,eap] at hn ⊢;obtain ⟨n0,h0,rfl⟩:=um.on n hn;rw [um.g n0 h0];exact so n0 h0
    . exact fr7 _ _ (s5' _ _ (x4 _ _ (sG3 _ _ (fr _ _ e n1 n2)) n2)) n1
  rintro σ H7 ⟨v1,v2,v3,v4,v5,kvs,r,ps',es',rfl,⟨eD,hkl,hRn⟩,⟨ea,hrun,hpsl⟩,⟨hwk,hesl,sim,hbs⟩,fr⟩;rw [aa,hr'.1] at hesl;rw [aa,hr'.1,dz] at hRn sim;have s07:Same H H7:=λb o e=>fr _ _ (s06 _ _ e) (zb e hD0) (zb e ha0);have hh7:=s07 _ _ hh;have t0ok:As.Ok 120 (As.sb ((ends (As.st L) es).ns.map (ends (As.st L) es).g)) 0:=vE (by
    rw [aa];have:=bA.mpr okN.ne
    lia) (by rw [aa]; lia)
  have okt:=zZ t0ok hwk es'.length (ai _);rw [au] at okt;have tnl:=okt.nl;exists wX ?_;exists ⟨((L.length:Nat):Int),by rw [aa],by lia,by lia,λO hO=>yD (lo:=0) (n:=((L.length:Nat):Int).toNat) (λi xs σ' Hc=>E1 λ(v:Option V)=>A4 (σ'=[v,some (.ref D)]) (xs=(((List.range i).map λq=>r (0+q)).map λn:Nat=>(n:Int)).map V.int) (Hc O=some (.lst xs)) (SameX O H7 Hc)) ⟨none,rfl,rfl,zf,λb o e n=>by rw [zj n]; exact e⟩ ?_ ?_⟩
  . rintro i xs σ' H9 hi ⟨v,rfl,rfl,eO,sx⟩;have hi2:i<L.length:=by lia
    have hD9:=sx _ _ eD (zb eD hO);walk_at "r";rw [show (0:Int)+(i:Int)=((0+i:Nat):Int) by lia];refine ⟨D,_,rfl,DGet.k (k:=.inl ((0+i:Nat):Int)) hD9 |> (λz=>by rw [hRn (0+i) (bG.mpr (by lia))] at z; exact z),?_⟩;exists zp eO (by simp only [aa,bf]; lia) λG5 x5 e5=>?_;refine yr hi ⟨_,rfl,rfl,?_,sx.trans x5⟩;rw [d4,aj,aj,aj];exact e5
  rintro xs σ' G2 ⟨v,rfl,rfl,eO,sx⟩;have sO:Same H7 G2:=λb o e=>sx b o e (zb e hO);rw [show ((L.length:Nat):Int).toNat=L.length by lia,show (λq=>r (0+q))=r from funext λq=>by rw [Nat.zero_add]] at eO;have sim:Sim r (As.sb (L.map Cell.b)) (ends (As.sb ((ends (As.st L) es).ns.map (ends (As.st L) es).g)) es'):=by rw [<-Cy]; exact sim
  have hpm:((List.range L.length).map r).Perm (ends (As.sb ((ends (As.st L) es).ns.map (ends (As.st L) es).g)) es').ns:=by
    have h:=Be sim (gv (n:=(L.map Cell.b).length)) (xv okt.up);have e:(As.sb (L.map Cell.b)).ns=List.range L.length:=by
      show List.range _=_;rw [aa]
    rwa [e] at h
  exists Au rfl eO hpm okt.up (by rw [<-hpm.length_eq,aa,bf]; lia) λqa G3 s3' nqa eqa=>?_;exists zr (by simp) λr9 G4 nr9 s4' e4=>?_;have s79:=(sO.trans s3').trans s4';have tof:=ES hwk (λi hi n hn=>hbs i (by have:=hrun.1; lia) n hn) sim (xv okt.up);rw [aa] at tof;have naq:a≠qa:=zb ((sO) _ _ ea) nqa;exact q r9 a qa ps' es' _ G4 (s07.trans s79) e4 ha0 (Same.nn s07 (Same.nn sO nqa)) naq (s79 _ _ ea) (s4' _ _ eqa) (hrun.same s79) hesl tof
theorem El{N E:Int}{p pb:Addr}{s:B4}{X:XK}(hl:H p=some (.lst (C.map Cell.v)))(hA:∀ c∈C,c.At H)(fb:BsAt H pb r1 r2 s N)(hN:1<=N)(hNb:Bd 900 N)(gb:GB d 900 s)(h60:C.length<=60)(hd:Bd 64 d)(hE:1<=E)(hC:∀ c∈C,BK d s N E M0 M c.b)(q:∀ (r:Addr) (ps:List Addr) (H':Hp),Same H H'->H r=none->H' r=some (.lst (ps.map V.ref))->Runs H' ps (npl (N*E) (s.a*E) (s.b*E) ((C.map Cell.b).map (bxD s N (N*E))))->Q (.ref r) H'):P57 ([.int d,.ref p,.ref pb]++[]) H Q X:=by
  have hl':((C.map Cell.b).map (bxD s N (N*E))).length=C.length:=by rw [aa,aa]
  refine uj rfl (D:=N*E) (px:=s.a*E) (py:=s.b*E) (hb:=(C.map Cell.b).map (bxD s N (N*E))) hl hA fb hN hNb gb hl'.symm (by lia) hd (aX (by lia) (by lia)) (IK hN hE).1 (Jj hN gb.ba gb.bb hNb) (λk c b hc hb=>?_) q;rw [ag,ag,hc] at hb;have e:b=bxD s N (N*E) c.b:=(aw hb).symm;subst e;have bk:=hC c (aq hc);obtain ⟨X,Y,h1,h2,h3,h4,h5⟩:=bk.w;exact ⟨X,Y,h1,h2,h3,h4,h5,bk.ok.bi⟩
def lnOf(c:Cell):Ln:=⟨c.pw,c.b.w⟩
theorem Bh(h:∀ c∈C,BoD d D M c.b):Ever d D M (As.st C):=λn hn=>by
  have hn:n<C.length:=hn;show BoD d D M (fL C n).b;rw [F5 (ae hn)];exact h _ (bI hn)
theorem K67(F:Fun K "like" "like" S42 f fd)(B:Bl mg)(o41x:Own P w K mg base 1 "first_unlike" ["one","other"] [] P12)(o16x:Own P w K mg base 5 "serving" ["d","lengths"] [] (P56 K))(o32x:Own P w K mg base 8 "back" ["d","heap","plan"] [] (P67 cs))(o35x:Own P w K mg base 3 "followed" ["many","plan","more"] [] P43)(o38x:Own P w K mg base 5 "table" ["heap"] [] (P58 K))(o18x:Own P w K mg base 5 "normal_plan" ["d","heap","base"] [] P57):FnOk P w K mg base CX0 9 f fd ["d","one","other"] (P68 cs):=by
  refine F.okA C70 λcdv A outer s H vs Q E hr h=>?_;obtain @⟨d,D,p1,p2,C1,C2,rfl,h1,h2,hA1,hA2,o1,o2,D1,bD,n1,n2,hR,qp,qa⟩:=h;refine ⟨_,(za (ps_s 3 C70.nd (ze o41x hr rfl (pa2 (ze o38x hr rfl (pa1 (pv 1))) (ze o38x hr rfl (pa1 (pv 2)))))) (za (zx (zi ux (pv 3) xE (zk _)) (zc (zh (zo (pa3 zy (pit 3) (pit 3))))) zl) (za (ps_s 4 C70.nd (ze o16x hr rfl (pa2 (pv 0) (yl ["each"] [] rfl (zI (zg Cg (pv 1) (pv 2))) (λ_ _ _ _ _=>(pg_n 0 (show List.Nodup (α:=Str) ["each"] by decide +kernel))) (λ_ _ _ _ _=>zJ) (λ_ _ _ _ _=>(pe_i (r:=rIxT K) zT (pv 0) zd)))))) (za (ps_s 5 C70.nd (ze o32x hr rfl (pa3 (pv 0) (pv 2) (ze o18x hr rfl (pa3 (pv 0) (pv 2) (pv 4)))))) (za (ps_s 6 C70.nd (ze o35x hr rfl (pa3 (zn zt rfl B.len aY (pa1 (pv 1))) (ze o18x hr rfl (pa3 (pv 0) (pv 1) (pv 4))) (pit 5)))) (zc (zh (zo (pa3 zy (pv 6) (pit 5)))))))))),?_⟩;walk_at "s";obtain ⟨a1,a20⟩:=n1;obtain ⟨b1,b20⟩:=n2;have hd:Bd 64 d:=zL (B:=99) (by have:=hR.lo; lia) hR.hi (by decide +kernel);exists D7 rfl (K':=330) (n:=20) (d:=d) (D:=D) (M:=330) ⟨h1,hA1,o1,λz=>by rw [z] at a1; simp at a1,a20⟩ (by decide) ⟨D1,bD,by decide,by decide⟩ λt1 H1 s1 e1=>?_;exists D7 rfl (K':=330) (n:=20) (d:=d) (D:=D) (M:=330) ⟨s1 _ _ h2,λc hc=>(hA2 c hc).same s1,o2,λz=>by rw [z] at b1; simp at b1,b20⟩ (by decide) ⟨D1,bD,by decide,by decide⟩ λt2 H2 s2 e2=>?_;have s12:=s1.trans s2;exists vH rfl (e1.same s2) e2 (λeq=>?_) λr H3 i j s3 e3 fu=>?_;rotate_left
  . walk_at "r";rw [show decide (V.ref r=V.non)=false from hZ (λz=>nomatch z)];exists zC (by simp) λr4 H4 s4 e4=>?_;exact qa r4 H4 i j ((s12.trans s3).trans s4) e4 fu
  have h1':=s12 _ _ h1;have h2':=s12 _ _ h2;walk_at "r";rw [show decide (V.non=V.non)=true from iu rfl];exists yK ?_;exists Jn h1' h2' (by simp only [aa]; lia) λpc Ha sa ea=>?_;rw [<-aj] at ea;have hL:∀ c∈C1++C2,c.At Ha/\BoD d D 330 c.b:=λc hc=>by
    rcases ax.mp hc with h|h
    . exact ⟨((hA1 c h).same s12).same sa,o1 c h⟩
    . exact ⟨((hA2 c h).same s12).same sa,o2 c h⟩
  have lL:(C1++C2).length<=40:=by rw [ah]; lia
  have m1:∀ c∈C1,c∈C1++C2:=λc hc=>bU _ hc;have m2:∀ c∈C2,c∈C1++C2:=λc hc=>aV _ hc;generalize C1++C2=L at *
  refine ⟨pc,rfl,⟨_,SqL.of ea⟩,λG hG=>zV (K:=K) (a:=pc) (ys:=L.map Cell.v) (λi xs σ' H'=>E1 λ(v:Option V)=>A4 (σ'=[v]) (xs=((L.take i).map lnOf).map Ln.v) (H' G=some (.lst xs)) (SameX G Ha H')) ⟨none,rfl,rfl,zf,λb o e n=>by rw [zj n]; exact e⟩ (λi xs σ' H' _ z=>by obtain ⟨v,_,_,_,z⟩:=z; exact SqL.of (z _ _ ea (zb ea hG))) ?_ ?_⟩
  . rintro i x xs σ' H' hi ⟨v,rfl,rfl,eG,sx⟩;have hi':=(af.mp hi).1;obtain ⟨c,rfl,hc,hic⟩:=uK hi;have ct:=sx _ _ (hL c hc).1.t (zb (hL c hc).1.t hG);exists zp eG (by rw [aa,aa,aJ]; rw [aa] at hi'; lia) λHb sxb eb=>?_;refine yr hi' ⟨_,rfl,?_,eb,sx.trans sxb⟩;rw [f7,hic,aj,aj];rfl
  rintro xs σ' Hb ⟨v,rfl,rfl,eG,sx⟩;rw [aa,au] at eG;have sb:Same Ha Hb:=λb o e=>sx b o e (zb e hG);have LS:LsB d 700 Hb G (L.map lnOf):=⟨eG,λc hc=>by
    obtain ⟨c',hc',rfl⟩:=aZ.mp hc;exact sb _ _ (hL c' hc').1.w,λc hc=>by
    obtain ⟨c',hc',rfl⟩:=aZ.mp hc;have o:=(hL c' hc').2.1;have k:=o.sk D1 bD;exact ⟨o.z1,o.g,o.up,k.bx.mono (by decide),k.by'.mono (by decide),k.bz.mono (by decide)⟩⟩
  have bds:∀ u∈(L.map lnOf).map Ln.u,Bd 330 u.1/\Bd 330 u.2:=λu hu=>by
    obtain ⟨c,hc,rfl⟩:=aZ.mp hu;obtain ⟨c',hc',rfl⟩:=aZ.mp hc;have k:=(hL c' hc').2.1.sk D1 bD;exact ⟨k.bx,k.by'⟩
  have zs1:∀ z∈(L.map lnOf).map λc:Ln=>c.s.z,1<=z/\z∣D:=λz hz=>by
    obtain ⟨c,hc,rfl⟩:=aZ.mp hz;obtain ⟨c',hc',rfl⟩:=aZ.mp hc;exact ⟨(hL c' hc').2.1.z1,(hL c' hc').2.1.dvd D1⟩
  obtain ⟨N1,_,Nd⟩:=uV ((L.map lnOf).map λc:Ln=>c.s.z) 1 (by decide) λz hz=>(zs1 z hz).1;have ND:=DR ((L.map lnOf).map λc:Ln=>c.s.z) 1 (by decide) ⟨D,by lia⟩ zs1;obtain ⟨ups,_⟩:=HS LS.ok;obtain ⟨M,hM⟩:=GA hR ups;have gM:=Fst.gb hR (by decide) hM ups bds;have N1:1<=cbs ((L.map lnOf).map λc:Ln=>c.s.z):=N1;have ND:cbs ((L.map lnOf).map λc:Ln=>c.s.z)∣D:=ND;have Nd:∀ z∈(L.map lnOf).map λc:Ln=>c.s.z,z∣cbs ((L.map lnOf).map λc:Ln=>c.s.z):=Nd;have Nb:Bd 330 (cbs ((L.map lnOf).map λc:Ln=>c.s.z)):=Bd.dvd_le bD D1 ND;exists EU rfl LS hR (by rw [aa]; exact lL) hM (Nb.mono (by decide)) λpb r1 r2 Hc sc fc=>?_;have Ndv:∀ c∈L,c.b.w.z∣cbs ((L.map lnOf).map λc:Ln=>c.s.z):=λc hc=>Nd _ (bC (f:=λc:Ln=>c.s.z) (bC (f:=lnOf) hc));have hsrv:∀ c∈L,(st d M).srv c.b.w.x c.b.w.y:=λc hc=>hM.1 _ (bC (f:=Ln.u) (bC (f:=lnOf) hc));generalize cbs ((L.map lnOf).map λc:Ln=>c.s.z)=N at *
  generalize st d M=sb' at *
  clear LS eG sx zs1 Nd hM ups bds;have bk:∀ c∈L,BK d sb' N D 1330 1400 c.b:=λc hc=>BK.so (k:=331) (Mw:=330) (Mh:=330) (kN:=330) (kE:=330) hR gM N1 D1 D1 (hL c hc).2.1 (Ndv c hc) ND (hL c hc).2.2 (hsrv c hc) Nb bD (by decide) (by decide) (by decide) (by decide) (by decide);have bk1:∀ c∈C1,BK d sb' N D 1330 1400 c.b:=λc hc=>bk c (m1 c hc);have bk2:∀ c∈C2,BK d sb' N D 1330 1400 c.b:=λc hc=>bk c (m2 c hc);have ND1:1<=N*D:=aX (by lia) (by lia);have sz:Sz (N*D) 660 1400:=⟨ND1,Nb.mul bD,by decide,by decide⟩
  have bas:Bas d 1400 (sb'.a*D) (sb'.b*D) (sb'.c*D) (sb'.e*D):=HD hR gM D1 bD (by decide);have bN9:Bd 900 N:=Nb.mono (by decide);have g9:GB d 900 sb':=gM.mono (by decide);obtain ⟨w1,l1,en1,_⟩:=Ca (C:=C1) false hR sz N1 D1 bas bk1 (by lia) a1;obtain ⟨w2,l2,en2,_⟩:=Ca (C:=C2) false hR sz N1 D1 bas bk2 (by lia) b1;have same:nrmD sb' N D (C1.map Cell.b)=nrmD sb' N D (C2.map Cell.b):=CN gM N1 D1 (λb hb=>by
    obtain ⟨c,hc,rfl⟩:=aZ.mp hb;exact bk1 c hc) (λb hb=>by
    obtain ⟨c,hc,rfl⟩:=aZ.mp hb;exact bk2 c hc) eq
  have tc:=(sa.trans sb).trans sc;have h2c:=tc _ _ h2';have hA2c:∀ c∈C2,c.At Hc:=λc hc=>((hA2 c hc).same s12).same tc;have hA1c:∀ c∈C1,c.At Hc:=λc hc=>((hA1 c hc).same s12).same tc;have bo1:∀ c∈C1,BoD d (N*D) 1400 c.b:=λc hc=>(bk1 c hc).bod hR ND1 (o1 c hc).1.up;have bo2:∀ c∈C2,BoD d (N*D) 1400 c.b:=λc hc=>(bk2 c hc).bod hR ND1 (o2 c hc).1.up;exists El h2c hA2c fc N1 bN9 g9 (by lia) hd D1 bk2 λpl2 ps2 Hd sd nd ed hr2=>?_;have ev2:=ub (c:=0) w2 (Bh bo2) _ (ai _);rw [au] at ev2;exists Ji rfl (sd _ _ h2c) (λc hc=>(hA2c c hc).same sd) b1 b20 ed (by rw [hr2.1]; lia) hR hr2 w2.walk sz ev2 λrb ab bb ps' es' qs He se eb na nb nab ea' eb' hr' hl' T=>?_;rw [en2,<-same] at T;have hl'':es'.length<=100:=by rw [hl']; lia
  have t0e:=((s12.trans tc).trans sd).trans se;have h1e:=t0e _ _ h1;have hAe1:∀ c∈C1,c.At He:=λc hc=>((hA1c c hc).same sd).same se;exists El h1e hAe1 ((fc.same sd).same se) N1 bN9 g9 (by lia) hd D1 bk1 λpl1 ps1 Hf sf nf ef hr1=>?_;have ebf:=sf _ _ eb;have eaf:=sf _ _ ea';have ebf':=sf _ _ eb';have w1':=w1.walk;rw [Cy] at w1' en1;have h1f:=sf _ _ h1e;have hlen:(((C1.map Cell.v).length:Nat):Int)=(((C1.map Cell.b).length:Nat):Int):=by rw [aa,aa]
  walk_at "r";rw [hlen];refine Cm rfl (F:=nrmD sb' N D (C1.map Cell.b)) (by rw [aa]; lia) (by rw [aa]; lia) ef (by rw [hr1.1]; lia) hr1 w1' eaf (by rw [hr'.1]; lia) (hr'.same sf) en1 T.w λpf qs' Hg sg nf' eg hrg=>?_;have ebg:=sg _ _ ebf;exists zC (by simp) λr Hh sh eh=>?_;have tgh:=sg.trans sh;have s0f:=t0e.trans sf;have nb0:H bb=none:=Same.nn ((s12.trans tc).trans sd) nb;have npf:H pf=none:=Same.nn s0f nf';have wat:=Cd w1 (JN a1) (λn hn=>Bh bo1 n (bG.mp hn));rw [Cy] at wat;refine qp eq r pf bb Hh _ _ qs (N*D) ((s0f.trans sg).trans sh) eh npf nb0 (λz=>?_) (sh _ _ eg) (hrg.same sh) ?_ (tgh _ _ ebf') sz (HP (by rw [aa]; exact a1) (by rw [aa]; exact a20) w1' (λi hi=>(wat i hi).1) en1 T)
  . rw [z,ebf'] at nf';cases nf'
  . rw [hrg.1,ah,aa]
    lia
theorem Fc{A B:List Bo}(p:qs.Perm (List.range B.length))(l:A.length=B.length)(g:∀ k q:Nat,qs[k]?=some q->A[q]?=B[k]?):A.Perm B:=by
  have hq:qs.length=B.length:=by rw [p.length_eq,bf]
  have e1:B.map some=qs.map λq=>A[q]?:=by
    refine eB λk=>?_;rw [ag,ag];by_cases hk:k<B.length
    . have hk':k<qs.length:=by lia
      rw [ae hk',cZ,g k _ (ae hk'),ae hk];rfl
    . rw [bR (by lia),bR (by lia)];rfl
  have e2:A.map some=(List.range B.length).map λq=>A[q]?:=by
    refine eB λk=>?_;rw [ag,ag];by_cases hk:k<B.length
    . rw [cK hk,cZ,ae (by lia)];rfl
    . rw [bR (by lia),bR (by rw [bf]; lia)];rfl
  have e3:(A.map some).Perm (B.map some):=by rw [e1,e2]; exact (p.map _).symm
  have e4:=e3.filterMap id;rw [fD,fD] at e4;simpa using e4
theorem K68(F:Fun K "_law_led" "_law_led" S61 f fd)(B:Bl mg)(o42x:Own P w K mg base 9 "like" ["d","one","other"] [] (P68 cs))(o29x_3:Own P w K mg base 8 "walked" ["d","heap","plan","turning"] [.bl false] (P66 cs)):FnOk P w K mg base CX0 10 f fd ["_law_d","_law_one","_law_other"] (P69 K cs):=by
  refine F.okA C71 λcdv A outer s H vs Q E hr h=>?_;obtain @⟨d,D,p1,p2,C1,C2,rfl,h1,h2,hA1,hA2,o1,o2,D1,bD,n1,n2,hR,n3,eq,q⟩:=h;refine ⟨_,(za (ps_s 3 C71.nd (ze o42x hr rfl (pa3 (pv 0) (pv 1) (pv 2)))) (za (zx (zi Ay (pit 3) zy (zk _)) (zc (zh xE)) zl) (za (ps_s 4 C71.nd (ze o29x_3 hr rfl (pa3 (pv 0) (pv 1) (pit 3)))) (za (zx (PW.pt (tK (zi Ay (zn zt rfl B.len aY (pa1 (pv 4))) (zn zt rfl B.len aY (pa1 (pv 2))) (zk _)) (vR (zi (GT hr.units) (zn ua rfl B.sorted wc (pa1 (pit 3))) (EB rfl rfl B.list uf rfl B.range (zn zt rfl B.len aY (pa1 (pv 2)))) (zk _))))) (zc (zh xE)) zl) (za (zx (zi (GT hr.units) (yl ["_law_place"] [4] rfl (zI (pit 3)) (λ_ _ _ _ _=>(pg_n 0 (show List.Nodup (α:=Str) ["_law_place","_law_ended"] by decide +kernel))) (λ_ _ _ _ _=>zJ) (λ_ _ _ _ _=>(pe_i (r:=rIxL K) zE (pv 1) (pv 0)))) (pv 2) (zk _)) (zc (zh xE)) zl) (zc (zh (pv 4)))))))),?_⟩;walk_at "s";obtain ⟨a1,a20⟩:=n1;obtain ⟨b1,b20⟩:=n2;have hd:Bd 64 d:=zL (B:=99) (by have:=hR.lo; lia) hR.hi (by decide +kernel);exists B3 rfl h1 h2 hA1 hA2 o1 o2 D1 bD ⟨a1,a20⟩ ⟨b1,b20⟩ hR (λ_ r pl pp H1 ps es qs D' s1 e1 npl npp _ hpl hr' plen hpp sz T=>?_) λr H1 i j s1 e1 fu=>?_;rotate_left
  . exact absurd (by rw [eq]) fu.ne
  have tl:=T.l;have tg:=T.g;have tp:=T.p;rw [aa] at tl tp;have qlen:qs.length=C2.length:=by have:=tp.length_eq; rwa [bf] at this
  exists vO (by rfl) ?_;exists FT rfl (s1 _ _ h1) (λc hc=>(hA1 c hc).same s1) (by lia) hpl (by lia) hd hr' (by rw [Cy]; exact T.w) λr2 W H2 s2 nr2 e2 hW bW=>?_;rw [Cy] at bW;have wl:W.length=C2.length:=by
    have:=congrArg List.length bW;rw [aa,aa,tl] at this;exact this
  have s02:=s1.trans s2;have hpp2:=s2 _ _ hpp;have e12:=s2 _ _ e1;have h22:=s02 _ _ h2;have hcl:((W.map Cell.v).length:Int)=((C2.map Cell.v).length:Int):=by rw [aa,aa,wl]
  exists vO hcl ?_;exists E5 hpp2 (tt tp) (Ei b8) (by rw [aa]; lia) λso H3 n3' s3 eso=>?_;have h23:=s3 _ _ h22;exists Fv ?_;exists ⟨C2.length,by rw [aa],by lia,λlr nlr=>?_⟩;have s4:Same H3 (upd H3 lr (.lst (((List.range C2.length).map λk:Nat=>(k:Int)).map V.int))):=zA nlr _;have elr:(upd H3 lr (.lst (((List.range C2.length).map λk:Nat=>(k:Int)).map V.int))) lr=some (.lst (((List.range C2.length).map λk:Nat=>(k:Int)).map V.int)):=zf;generalize upd H3 lr (.lst (((List.range C2.length).map λk:Nat=>(k:Int)).map V.int))=H4 at s4 elr ⊢;refine IO (s4 _ _ eso) elr ?_;have s24:=s3.trans s4;have e14:=(s2.trans s24) _ _ e1;have hpp4:=s24 _ _ hpp2;have e24:=s24 _ _ e2;have atq:∀ k q:Nat,qs[k]?=some q->∃ c,W[q]?=some c/\(C2.map Cell.b)[k]?=some c.b:=λk q hq=>by
    obtain ⟨n,h1,h2⟩:=tg k q hq;have hq':=(af.mp h1).1;have hq2:q<W.length:=by lia
    refine ⟨W[q],ae hq2,?_⟩;have h3:=congrArg (·[q]?) bW;simp only [ag,ae hq2,h1,cZ] at h3;rw [h2];exact h3.symm
  have pW:(W.map Cell.b).Perm (C2.map Cell.b):=Fc (qs:=qs) (by rw [aa]; exact tp) (by rw [aa,aa]; exact wl) λk q' hq=>by
    obtain ⟨c,h1,h2⟩:=atq k q' hq;rw [h2,ag,h1];rfl
  exists yK ?_;exists ⟨pp,rfl,⟨_,SqL.of hpp4⟩,λO2 hO2=>zV (K:=K) (a:=pp) (ys:=(qs.map λn:Nat=>(n:Int)).map V.int) (λi xs σ' Hc=>E2 λ(v:Option V) (F:List Cell)=>A7 (σ'=[v,some (.ref r2)]) (xs=F.map Cell.v) (F.length=i) ((∀ c∈F,c∈W)) ((∀ k q:Nat,k<i->qs[k]?=some q->W[q]?=F[k]?)) (Hc O2=some (.lst xs)) (SameX O2 H4 Hc)) ⟨none,[],rfl,rfl,rfl,λc hc=>absurd hc (by simp),λk q hk=>absurd hk (by lia),zf,λb o e n=>by rw [zj n]; exact e⟩ (λi xs σ' Hc _ z=>by obtain ⟨v,_,_,_,_,_,_,_,z⟩:=z; exact SqL.of (z _ _ hpp4 (zb hpp4 hO2))) ?_ ?_⟩
  . rintro i x xs σ' Hc hi ⟨v,F,rfl,rfl,hFl,hFC,hFq,eO,sx⟩;have hi':=(af.mp hi).1;rw [ag,ag] at hi;obtain ⟨zq,hz,rfl⟩:=ao.mp hi;obtain ⟨qn,hq,rfl⟩:=ao.mp hz;obtain ⟨c,hc,_⟩:=atq i qn hq;have e5c:=sx _ _ e24 (zb e24 hO2);exists zw e5c (v:=c.v) (zF (by rw [ag,hc]; rfl)) ?_;exists zp eO (by rw [aa]; simp only [aa] at hi'; lia) λH7 x7 e7=>?_;refine yr hi' ⟨_,F++[c],rfl,rfl,by rw [ah,hFl]; rfl,λc' hc'=>?_,λk q' hk hkq=>?_,by rw [aj]; exact e7,sx.trans x7⟩
    . rcases ax.mp hc' with h | h
      . exact hFC c' h
      . rw [ak.mp h]; exact aq hc
    . by_cases ck:k<i
      . rw [aM (by lia)];exact hFq k q' ck hkq
      . have:k=i:=by lia
        subst this;rw [hq] at hkq;have:qn=q':=aw hkq;subst this;rw [hc,aG (by lia),hFl,dz];rfl
  rintro xs σ' H7 ⟨v,F,rfl,rfl,hFl,hFC,hFq,eO7,sx7⟩;have s7:Same H4 H7:=λb o e=>sx7 b o e (zb e hO2);rw [aa,aa] at hFl hFq;have s07:=(s02.trans s24).trans s7;have s27:=s24.trans s7;have h27:=s07 _ _ h2;exists Kf eO7 h27 (λc hc=>(hW c (hFC c hc)).same s27) (λc hc=>(hA2 c hc).same s07) (J1 (C:=W) hFl qlen.symm λk q' hkq=>?_) ?_
  . obtain ⟨c,hc,hb'⟩:=atq k q' hkq;have hk:=(af.mp hkq).1;have hF:=hFq k q' hk hkq;rw [hc] at hF;have hkL:k<C2.length:=by lia
    rw [ag,ae hkL] at hb';exact ⟨c,C2[k],hF.symm,ae hkL,(aw hb').symm⟩
  walk_at "r";exact q r2 H7 W s07 (s27 _ _ e2) (λc hc=>(hW c hc).same s27) pW
theorem BH{D':Int}{j:Nat}{b:Bo}(h:BoD d D M b)(dv:D∣D')(h1:1<=D')(bd:Bd j D')(l:M+j<=330):BoD d D' 330 b:=by
  obtain ⟨k,rfl⟩:=dv;have bk:Bd j k:=Bd.dvd_le bd h1 (bT _ _);exact ⟨(h.1.scale bk).mono l,(h.2.scale bk).mono l⟩
theorem Hk(L:List Cell):(L.flatMap (λc=>[c.b.w,c.b.h])).length=2*L.length:=by
  induction L with
  | nil=>rfl
  | cons c L ih=>rw [List.flatMap_cons,ah,ih,ar]; simp only [ar,aP]; lia
theorem DK{P:PL}{L:List Cell}(hP:P.length<=3)(l6:L.length<=6)(hPd:∀ x∈P,Dw d x.2)(hLd:∀ c∈L,Dw d c.b.w/\Dw d c.b.h):∃ D:Int,1<=D/\Bd 76 D/\(∀ c∈L,BoD d D 89 c.b)/\∀ x∈P,x.2.z∣D:=by
  obtain ⟨sides,hsides⟩:∃ l:List Sd,P.map (·.2)++L.flatMap (λc=>[c.b.w,c.b.h])=l:=⟨_,rfl⟩
  have hsd:∀ s∈sides,Dw d s:=λs hs=>by
    rw [<-hsides] at hs;rcases ax.mp hs with hs|hs
    . obtain ⟨x,hx,rfl⟩:=aZ.mp hs;exact hPd x hx
    . obtain ⟨c,hc,hs⟩:=gx.mp hs;rcases aK.mp hs with rfl|hs
      . exact (hLd c hc).1
      . rw [ak.mp hs]; exact (hLd c hc).2
  have hfl:=Hk L;have hsl:sides.length<=15:=by rw [<-hsides,ah,aa,hfl]; lia
  have so0:∀ s∈sides,So d (pz sides) 89 s:=λs hs=>(Je hsd s hs).mono (by lia);refine ⟨pz sides,CT hsd,(HF hsd).mono (by lia),λc hc=>⟨so0 _ ?_,so0 _ ?_⟩,λx hx=>(so0 x.2 ?_).dvd (CT hsd)⟩
  . rw [<-hsides]; exact aV _ (gx.mpr ⟨c,hc,by simp⟩)
  . rw [<-hsides]; exact aV _ (gx.mpr ⟨c,hc,by simp⟩)
  . rw [<-hsides]; exact bU _ (bC hx)
theorem Gx{s t:Tb}{i j i' j':Nat}(h:Fu s t i j)(h':Fu s t i' j'):i=i'/\j=j':=by
  have a:=h.i2;have b:=h.j2;have c:=h'.i2;have e:=h'.j2;rcases f6 (2*i+j) (2*i'+j') with z|z|z
  . exact absurd (h'.eq _ z) h.ne
  . lia
  . exact absurd (h.eq _ z) h'.ne
theorem Gm{X:Cx}{b:Addr}{w:Str}{i j:Int}(ha:H a=some (.tup [.str w,.int i,.int j]))(hb:H b=some (.tup [.str w,.int i,.int j]))(q:Q (.bl true) H):rEqT X (.ref a) (.ref b) H Q:=by
  have ei:∀ n:Int,EqV X 0 H (.int n) (.int n) true:=λn=>by
    have:=EqV.int (X:=X) (n:=0) (H:=H) n n;simpa using this
  exact ⟨a,b,_,_,[true,true,true],0,rfl,rfl,by decide,SqT.of ha,SqT.of hb,.cons (EqV.str' w) (.cons (ei i) (.cons (ei j) .nil)),q⟩
theorem K69(F:Fun K "law" "law" S62 f fd)(B:Bl mg)(o53x:Own P w K mg base 2 "_law_root" ["_law_cell_here","_law_k"] [] P34)(o55x:Own P w K mg base 4 "_law_heap" ["_law_script","_law_d","_law_first"] [] (P54 K))(o61x:Own P w K mg base 7 "_law_remade" ["_law_d","_law_script","_law_heap_here","_law_pool","_law_first","_law_last"] [] (P65 K))(o62x:Own P w K mg base 10 "_law_led" ["_law_d","_law_one","_law_other"] [] (P69 K cs))(o42x:Own P w K mg base 9 "like" ["d","one","other"] [] (P68 cs))(o43x:Own P w K mg base 1 "_law_cell" ["_law_script","_law_k"] [] (P13 K))(o45x:Own P w K mg base 1 "_law_great" ["_law_cell_here","_law_k"] [] P14):FnOk P w K mg base CX0 11 f fd ["_law_script"] (Fx K):=by
  refine F.ok (k:=10) C72 (λvs H Q E h=>by obtain ⟨a,ns,rfl,hS,h63,hbd,q⟩:=h; rfl) (λcdv A outer s H vs Q E hr h=>?_);obtain ⟨a,ns,rfl,hS,h63,hbd,q⟩:=h;refine ⟨_,(za (ps_s 1 C72.nd (ze o53x hr rfl (pa2 (ze o43x hr rfl (pa2 (pv 0) zd)) zd))) (za (BN (ze o55x hr rfl (pa3 (pv 0) (pv 1) zd)) (wF (n:=2) rfl (zO (pg_n 2 C72.nd) (zO (pg_n 3 C72.nd) xj)))) (za (ps_s 4 C72.nd (ze o61x hr rfl (zu (pv 1) (zu (pv 0) (zu (pv 3) (zu (pv 2) (zu zd (zu zd yz)))))))) (za (ps_s 5 C72.nd (ze o61x hr rfl (zu (pv 1) (zu (pv 0) (zu (pv 4) (zu (pv 2) (zu zd (zu zd yz)))))))) (za (wH (zx (zi zU (zg zG (ze o45x hr rfl (pa2 (ze o43x hr rfl (pa2 (pv 0) zd)) zd)) zd) zd (zk _)) (zc (ps_s 5 C72.nd (pe_i zT (ze o55x hr rfl (pa3 (pv 0) (pv 1) zd)) zd))) zl)) (za (ps_s 6 C72.nd (ze o62x hr rfl (pa3 (pv 1) (pv 3) (pv 4)))) (za (zx (zi Ba (pv 6) xE (zk _)) (zc (zh wO)) zl) (za (ps_s 7 C72.nd (ze o42x hr rfl (pa3 (pv 1) (pv 4) (pv 5)))) (za (zx (zi zU (pit 7) zy (zk _)) (zc (zh (u9 (zW (BI hr.units) (ze o42x hr rfl (pa3 (pv 1) (pv 3) (pv 5))) (pv 7) (zk _)) (vX (zW (BI hr.units) (ze o42x hr rfl (pa3 (pv 1) (pv 6) (pv 5))) (pv 7) (zk _)))))) zl) (za (zx (PW.pt (tK (zi Ay (pit 7) zy (zk _)) (tK (zi Ba (ze o62x hr rfl (pa3 (pv 1) (pv 4) (pv 5))) xE (zk _)) (vR (zi Ba (ze o62x hr rfl (pa3 (pv 1) (pv 3) (pv 5))) xE (zk _)))))) (zc (zh wO)) zl) (zc (zh (u9 (zW ux (ze o62x hr rfl (pa3 (pv 1) (pv 6) (pv 5))) xE (zk _)) (vX (zW ux (ze o62x hr rfl (pa3 (pv 1) (pv 5) (pv 3))) xE (zk _)))))))))))))))),?_⟩;walk_at "s";exists ye rfl hS (by lia) hbd λc0 hc0=>?_;exists Aw rfl hc0 (by decide +kernel) λd H1 hR s1=>?_;have hS1:=s1.seq hS;exists vB rfl (ft:=1) (by decide) hS1 hbd hR λr2 qa l H2 P L s2 e2 hP hl hA hPd hLd l1 l6=>?_;have hS2:=s2.seq hS1;obtain ⟨D0,D01,D0b,oL,dP⟩:=DK (by rw [hP.n]; exact ai _) l6 hPd hLd;exists xV rfl (ft:=12) (M:=89) (K':=76) hS2 hbd hl hA hP hR l1 (by lia) oL (λx hx=>⟨hPd x hx,dP x hx⟩) ⟨D01,D0b,by decide,by decide⟩ (by decide) (by decide) λp3 H3 O D2 s3 n3 e3 hO dv2 D21 D2b oO tO o1 o12=>?_;have hS3:=s3.seq hS2;exists xV rfl (ft:=18) (M:=167) (K':=112) hS3 hbd e3 hO (hP.same s3) hR o1 (by lia) oO (λx hx=>⟨hPd x hx,aW (dP x hx) dv2⟩) ⟨D21,D2b,by decide,by decide⟩ (by decide) (by decide) λp4 H4 O3 D3 s4 n4 e4 hO3 dv3 D31 D3b oO3 tO3 o31 o318=>?_;exists tN (T:=λσ' H'=>E3 λ(t:Addr) (T:List Cell) (D:Int)=>A11 (σ'=[some (.ref a),some (.int d),some (.ref qa),some (.ref l),some (.ref p3),some (.ref t),none,none]) (Same H3 H') (H' t=some (.lst (T.map Cell.v))) ((∀ c∈T,c.At H')) (1<=D) (Bd 330 D) ((∀ c∈L,BoD d D 330 c.b)) ((∀ c∈O,BoD d D 330 c.b)) ((∀ c∈T,BoD d D 330 c.b)) (1<=T.length) (T.length<=18)) ?_ ?_
  . have hS4:=s4.seq hS3;exists ye rfl hS4 (by lia) hbd λc2 hc2=>?_;exists yg rfl hc2 (by decide +kernel) λg2 g20 g21=>?_;exists if_d (λcc=>?_) (λcc=>?_)
    . exists vB rfl (ft:=24) (by decide) hS4 hbd hR λr5 qa5 l5 H5 P5 L5 s5 e5 hP5 hl5 hA5 hPd5 hLd5 l51 l56=>?_;obtain ⟨D5,D51,D5b,oL5,_⟩:=DK (P:=[]) (by simp) l56 (λx hx=>absurd hx (by simp)) hLd5;have D1:1<=D2*D5:=aX (by lia) (by lia);have Db:Bd 188 (D2*D5):=D2b.mul D5b;walk_at "r";exact ⟨l5,L5,D2*D5,rfl,s4.trans s5,hl5,hA5,D1,Db.mono (by decide),λc hc=>BH (oL c hc) (aW dv2 (Int.dvd_mul_right _ _)) D1 Db (by decide),λc hc=>⟨((oO c hc).1.scale D5b).mono (by decide),((oO c hc).2.scale D5b).mono (by decide)⟩,λc hc=>BH (oL5 c hc) (bT _ _) D1 Db (by decide),l51,by lia⟩
    . have Db:Bd 148 D3:=D3b;walk_at "r";exact ⟨p4,O3,D3,rfl,s4,e4,hO3,D31,Db.mono (by decide),λc hc=>BH (oL c hc) (aW dv2 dv3) D31 Db (by decide),λc hc=>BH (oO c hc) dv3 D31 Db (by decide),λc hc=>⟨(oO3 c hc).1.mono (by decide),(oO3 c hc).2.mono (by decide)⟩,o31,by lia⟩
  clear oL oO D31 D3b oO3 tO3 o31 o318 hO3 e4 n4 s4;rintro σ' H5 ⟨t,T,D,rfl,s5,ht,hT,D1,bD,oL,oO,oT,t1,t18⟩;have t35:=s3.trans s5;have hl5:=t35 _ _ hl;have hA5:∀ c∈L,c.At H5:=λc hc=>(hA c hc).same t35;have e5:=s5 _ _ e3;have hO5:∀ c∈O,c.At H5:=λc hc=>(hO c hc).same s5;exists y8 rfl (D:=D) hl5 e5 hA5 hO5 oL oO D1 bD ⟨l1,by lia⟩ ⟨o1,by lia⟩ hR (by lia) tO.symm λr6 H6 W s6 e6 hW pW=>?_;have oW:∀ c∈W,BoD d D 330 c.b:=λc hc=>by
    obtain ⟨c',hc',e⟩:=aZ.mp (pW.mem_iff.mp (bC hc));rw [<-e];exact oO c' hc'
  have tW:tbs (W.map Cell.b)=tbs (L.map Cell.b):=(BB pW).trans tO;have lW:W.length=O.length:=by have:=pW.length_eq; rwa [aa,aa] at this
  walk_at "r";rw [show decide (V.ref r6=V.non)=false from hZ (λz=>nomatch z)];exists B3 rfl (D:=D) (s6 _ _ e5) (s6 _ _ ht) (λc hc=>(hO5 c hc).same s6) (λc hc=>(hT c hc).same s6) oO oT D1 bD ⟨o1,by lia⟩ ⟨t1,by lia⟩ hR (λeq r pl pp H7 ps es qs D' s7 e7 npl npp _ hpl hr' plen hpp sz T'=>?_) λr H7 i j s7 e7 fu=>?_;rotate_left
  . rw [tO] at fu;have s57:=s6.trans s7;have ht7:=s57 _ _ ht;have hT7:∀ c∈T,c.At H7:=λc hc=>(hT c hc).same s57;exists if_d (λ_=>?_) (λc=>absurd rfl c);exists B3 rfl (D:=D) (s57 _ _ hl5) ht7 (λc hc=>(hA5 c hc).same s57) hT7 oL oT D1 bD ⟨l1,by lia⟩ ⟨t1,by lia⟩ hR (λz=>absurd (by rw [z]) fu.ne) λr8 H8 i' j' s8 e8 fu'=>?_;obtain ⟨rfl,rfl⟩:=Gx fu fu';have e78:=s8 _ _ e7;exists Gm e8 e78 ?_;exists B3 rfl (D:=D) (s8 _ _ (s7 _ _ e6)) (s8 _ _ ht7) (λc hc=>((hW c hc).same s7).same s8) (λc hc=>(hT7 c hc).same s8) oW oT D1 bD ⟨by lia,by lia⟩ ⟨t1,by lia⟩ hR (λz=>absurd (by rw [<-z,tW]) fu.ne) λr9 H9 i' j' s9 e9 fu'=>?_;rw [tW] at fu';obtain ⟨rfl,rfl⟩:=Gx fu fu';have e79:=s9 _ _ e78;exists Gm e9 e79 ?_;walk_at "r";exact q _
  have s57:=s6.trans s7;have ht7:=s57 _ _ ht;have hT7:∀ c∈T,c.At H7:=λc hc=>(hT c hc).same s57;have eLT:tbs (L.map Cell.b)=tbs (T.map Cell.b):=tO.symm.trans eq;clear hpl hr' hpp sz T' npl npp plen;exists ifn ?_;exists vO (by rfl) ?_;exists y8 rfl (D:=D) (s57 _ _ e5) ht7 (λc hc=>(hO5 c hc).same s57) hT7 oO oT D1 bD ⟨o1,by lia⟩ ⟨t1,by lia⟩ hR (by lia) eq λr8 H8 W8 s8 e8 hW8 pW8=>?_;have s58:=s57.trans s8;walk_at "r";rw [show decide (V.ref r8=V.non)=false from hZ (λz=>nomatch z)];exists y8 rfl (D:=D) (s58 _ _ hl5) (s58 _ _ ht) (λc hc=>(hA5 c hc).same s58) (λc hc=>(hT c hc).same s58) oL oT D1 bD ⟨l1,by lia⟩ ⟨t1,by lia⟩ hR (by lia) eLT λr9 H9 W9 s9 e9 hW9 pW9=>?_;have s59:=s58.trans s9;have s69:=(s7.trans s8).trans s9;walk_at "r";rw [show decide (V.ref r9=V.non)=false from hZ (λz=>nomatch z)];exists y8 rfl (D:=D) (s69 _ _ e6) (s59 _ _ ht) (λc hc=>(hW c hc).same s69) (λc hc=>(hT c hc).same s59) oW oT D1 bD ⟨by lia,by lia⟩ ⟨t1,by lia⟩ hR (by lia) (tW.trans eLT) λra Ha Wa sa ea hWa pWa=>?_;have s5a:=s59.trans sa;walk_at "r";rw [show decide (V.ref ra=V.non)=false from hZ (λz=>nomatch z)];exists y8 rfl (D:=D) (s5a _ _ ht) (s5a _ _ hl5) (λc hc=>(hT c hc).same s5a) (λc hc=>(hA5 c hc).same s5a) oT oL D1 bD ⟨t1,by lia⟩ ⟨l1,by lia⟩ hR (by lia) eLT.symm λrb Hb Wb sb eb hWb pWb=>?_;walk_at "r";rw [show decide (V.ref rb=V.non)=false from hZ (λz=>nomatch z)];walk_at "r";exact q _
end
end Bk
open Bk
noncomputable section
set_option linter.all false
namespace Hd
open PySem.W PySem.Calls
abbrev lf0:Life:=@PySem.Life.mk (@List.nil.{0} @Nat) (@List.nil.{0} @Nat) (@List.nil.{0} @Nat) (@OfNat.ofNat.{0} @Nat (nat_lit 0) (@instOfNatNat (nat_lit 0))) (@List.nil.{0} (@Prod.{0,0} @Nat @Nat)) (@List.nil.{0} @Nat) @Bool.false (@List.toArray.{0} @Nat (@List.nil.{0} @Nat)) (@List.nil.{0} @Nat) (@OfNat.ofNat.{0} @Nat (nat_lit 0) (@instOfNatNat (nat_lit 0))) @Bool.false @Bool.false @Bool.false (@OfNat.ofNat.{0} @Int (nat_lit 0) (@instOfNat (nat_lit 0))) (@List.cons.{0} @Int (@OfNat.ofNat.{0} @Int (nat_lit 2000) (@instOfNat (nat_lit 2000))) (@List.cons.{0} @Int (@OfNat.ofNat.{0} @Int (nat_lit 10) (@instOfNat (nat_lit 10))) (@List.cons.{0} @Int (@OfNat.ofNat.{0} @Int (nat_lit 10) (@instOfNat (nat_lit 10))) (@List.nil.{0} @Int)))) @Bool.false (@OfNat.ofNat.{0} @Nat (nat_lit 0) (@instOfNatNat (nat_lit 0))) @Bool.true (@List.nil.{0} @Nat) (@List.nil.{0} @Nat) (@OfNat.ofNat.{0} @Nat (nat_lit 0) (@instOfNatNat (nat_lit 0))) @Bool.false
abbrev dr1:Drawn:=@PySem.Drawn.mk (@OfNat.ofNat.{0} @Nat (nat_lit 0) (@instOfNatNat (nat_lit 0))) (@OfNat.ofNat.{0} @Nat (nat_lit 0) (@instOfNatNat (nat_lit 0))) (@OfNat.ofNat.{0} @Nat (nat_lit 0) (@instOfNatNat (nat_lit 0))) (@OfNat.ofNat.{0} @Nat (nat_lit 0) (@instOfNatNat (nat_lit 0)))
abbrev p:Program:=PySem.Challenge.pw_boardglue_k58_whole_leading_on
def top(i:Nat):Stmt:=p.main.body.getD i (.Pass ⟨0,0,0,0⟩)
def sub(s:Stmt)(j:Nat):Stmt:=match s with | .ClassDef (body:=b) ..=>b.getD j (.Pass ⟨0,0,0,0⟩) | _=>s
def fn(x q:Str)(s:Stmt)(g:Addr)(cl:List (Str×Addr))(dV kV doc pm:Value)(an:Option Addr)(cd ct:Value)(bl:Addr):FuncData:={ name:=x,qualname:=q,params:=L2.defArgs s,body:=.stmts (L2.defBody s),scope:=L2.defScope s,globals:=g,closure:=cl,defaults:=dV,kwdefaults:=kV,doc:=doc,pyModule:=pm,annotations:=an,code:=cd,closureTuple:=ct,builtins:=bl }
def z0:Value:=.int 0 0
def cp (n:Tok):Value:=.str "/claim/cut.py" n
def co (a:Array Value):Obj:=⟨.type "code",none,.fields a,#[]⟩
def fo (f:FuncData):Obj:=⟨.type "function",none,.func f,#[]⟩
abbrev so(x:String):Str:=Str.ofString x
abbrev R(n:Addr):Value:=.ref n
abbrev N:=@BT.node
abbrev Z:BT:=.nil
abbrev L(o:Obj):BT:=.node o .nil .nil
def cO(x:String)(t:Tok)(y:String)(u v:Tok)(l a b c n:Int)(e:Value)(g:Bool)(k:Int)(m A B C D:Value)(i j:Int)(z:Tok):Obj:=co #[.str x t,.str y u,cp v,.int l 0,.int a 0,.int b 0,.int c 0,.int n 0,e,.bool g,.int k 0,m,A,B,C,D,.int i 0,.int j 0,cp z]
def f0(x q:Str)(s:Stmt):Obj:=⟨.none,none,.func (fn x q s 0 [] .none .none .none .none none .none .none 0),#[]⟩
def fO(x q:Str)(s:Stmt)(d m:Value)(c:Addr):Obj:=fo (fn x q s 3 [] d .none .none m none (.ref c) .none 0)
def f1(x:Str)(s:Stmt):Obj:=f0 x x s
def fP(x:Str)(s:Stmt)(m:Value)(c:Addr):Obj:=fO x x s .none m c
def cP'(x y:String)(t:Tok)(l a:Int)(e:Addr)(i:Nat):Obj:=cO x t y (t+1) (t+2) l a 0 0 3 (R e) true 181 (R (e+1)) .none (R (e+2)) (R (e+3)) (R (e+4)) i l (i+1)
def cP(x:String)(t:Tok)(l a:Int)(e:Addr)(i:Nat):Obj:=cP' x x t l a e i
def cQ'(x y:String)(t:Tok)(l a:Int)(e:Addr)(i:Nat):Obj:=cO x t y (t+1) (t+2) l a 0 0 3 (R e) true 181 (R (e+1)) .none .none .none (R (e+2)) i l (i+1)
def cQ(x:String)(t:Tok)(l a:Int)(e:Addr)(i:Nat):Obj:=cQ' x x t l a e i
abbrev m0m:Value:=.str "__main__" 164
abbrev m1m:Value:=.str "boardglue.lengths" 294
abbrev m2m:Value:=.str "boardglue.bases" 430
abbrev m3m:Value:=.str "boardglue.normal" 485
abbrev m4m:Value:=.str "boardglue.boards" 525
abbrev m5m:Value:=.str "boardglue.yard" 533
abbrev m6m:Value:=.str "boardglue.plans" 680
abbrev m7m:Value:=.str "boardglue.tables" 746
abbrev m8m:Value:=.str "boardglue.likes" 804
abbrev m9m:Value:=.str "law_boardglue_k58_whole_leading_on" 822
def tu (a:Array Value):Obj:=⟨.type "tuple",none,.seq a 0,#[]⟩
def sT:Tok->List String->List Value
  | _,[]=>[]
  | n,x::r=>.str x n::sT (n+1) r
def tS(n:Tok)(l:List String):Obj:=tu ⟨sT n l⟩
def en(P:Params)(x:String)(t:Tok)(v:Value):DictEntry:=⟨PyData.keyHash P x,.str x t,v⟩
def env:Env:={ scope:=p.main.scope,locals:=mainNs,globals:=mainNs,cells:=[],code:=(.ref 13),frame:=some 14 }
abbrev b:List Stmt:=behindTheImports p
abbrev cE:Code:=.body b env
abbrev q:Pos:=⟨0,0,0,0⟩
abbrev B:List Frame:=[topFrame q]
abbrev m0:Nat:=nat_lit 11
abbrev ann:Option Value:=(some (.ref 6))
def o0:Obj:=tu #[]
def o1:Obj:=⟨.none,none,(.fields #[]),#[]⟩
def o2:Obj:=cO "<module>" 182 "<module>" 183 184 1 0 0 0 0 (R 11) false 181 (R 12) .none .none .none .none 185 1 186
def o3:Obj:=⟨(.type "frame"),none,.plain,#[(some (.ref 13)),(some (.ref 3)),(some (.ref 3)),none,(some (.str "__main__" 164)),none,(some (.ref 0))]⟩
def Ha(P:Params):Heap:=⟨⟨[boot_o_0 P,boot_o_1 P,boot_o_2 P,boot_o_3 P,boot_o_4 P,boot_o_5 P,boot_o_6 P,boot_o_7 P,boot_o_8 P,boot_o_9 P,boot_o_10 P,o0,o1,o2,o3]⟩,lf0⟩
def T0(P:Params):BT:=(N (boot_o_0 P) (N (boot_o_1 P) (N (boot_o_3 P) (L (boot_o_7 P)) (L o0)) (N (boot_o_5 P) (L (boot_o_9 P)) (L o2))) (N (boot_o_2 P) (N (boot_o_4 P) (L (boot_o_8 P)) (L o1)) (N (boot_o_6 P) (L (boot_o_10 P)) (L o3))))
theorem pre'(w:World):(λos=>PySem.W.Fast.tw15667345088766844465 PySem.W.Fast.tw14364793385576792824 p w m0 ann (nat_lit 12) (⟨boot_heap w.params,⟨[]⟩,boot_drawn,boot_toks,os⟩:Shared) (W.topStub p))=λos=>some ((⟨Ha w.params,⟨[]⟩,dr1,nat_lit 187,os⟩:Shared),Thread.mk (PySem.W.Fast.tw11892475500146522536 PySem.W.Fast.tw14364793385576792824 cE) cE ⟨0,0,0,0⟩ B):=by kernel_rfl
theorem pre(w:World)(os:OsState):topGo treeTable p w m0 ann (nat_lit 12) (⟨boot_heap w.params,⟨[]⟩,boot_drawn,boot_toks,os⟩:Shared) (topStub p)=some ((⟨Ha w.params,⟨[]⟩,dr1,nat_lit 187,os⟩:Shared),Thread.mk (denote treeTable cE) cE ⟨0,0,0,0⟩ B):=by
  rw [PySem.W.Fast.te15667345088766844465,cC,PySem.W.Fast.te11892475500146522536];exact congrFun (pre' w) os
theorem blk'(w:World):(λos=>PySem.W.Fast.tw14374325043358763698 PySem.W.Fast.tw14364793385576792824 p w m0 ann (nat_lit 1) (nat_lit 1) (⟨Ha w.params,⟨[]⟩,dr1,nat_lit 187,os⟩:Shared) (W.blockOf b env cE ⟨0,0,0,0⟩ B))=λos=>some (Flow.next,SharedT.abs (⟨T0 w.params,nat_lit 15,lf0,⟨[]⟩,dr1,nat_lit 187,os⟩:SharedT),cE,⟨0,0,0,0⟩):=by kernel_rfl
theorem blk(w:World)(os:OsState):segRun treeTable p w m0 ann (nat_lit 1) (nat_lit 1) (⟨Ha w.params,⟨[]⟩,dr1,nat_lit 187,os⟩:Shared) (blockOf b env cE ⟨0,0,0,0⟩ B)=some (Flow.next,SharedT.abs (⟨T0 w.params,nat_lit 15,lf0,⟨[]⟩,dr1,nat_lit 187,os⟩:SharedT),cE,⟨0,0,0,0⟩):=by
  rw [PySem.W.Fast.te14374325043358763698,cC];exact congrFun (blk' w) os
def o4 (P:Params):Obj:=⟨(.type "dict"),none,(.dict #[en P "__name__" 165 (.str "law_boardglue_k58_whole_leading_on" 822),en P "__doc__" 166 .none,en P "__package__" 167 .none,en P "__loader__" 168 (.builtin "__main__.__loader__#opaque"),en P "__spec__" 169 .none,en P "__annotations__" 170 (.ref 6),en P "__builtins__" 171 (.ref 4),en P "__file__" 173 (cp 172),en P "__cached__" 174 .none,en P "_wall" 193 (.ref 21),en P "YardError" 213 (.ref 31),en P "NoLength" 229 (.ref 44),en P "NoDeed" 245 (.ref 56),en P "NoName" 261 (.ref 68),en P "Grain" 277 (.ref 80),en P "Unfit" 293 (.ref 92),en P "NOUGHT" 299 (.ref 95),en P "GREAT_BITS" 301 (.int (8192) 300),en P "HEAD_BITS" 303 (.int (64) 302),en P "is_whole" 310 (.ref 102),en P "common_divisor" 320 (.ref 109),en P "far_rests" 330 (.ref 116),en P "sure_steps" 343 (.ref 123),en P "with_sign_of" 351 (.ref 130),en P "length" 363 (.ref 138),en P "fraction" 373 (.ref 146),en P "parts" 380 (.ref 153),en P "added" 394 (.ref 160),en P "taken" 402 (.ref 167),en P "timed" 411 (.ref 174),en P "is_above_nought" 420 (.ref 181),en P "under" 429 (.ref 188),en P "first_base" 439 (.ref 195),en P "next_base" 449 (.ref 202),en P "crossed" 457 (.ref 209),en P "counts" 469 (.ref 216),en P "common_bottom" 478 (.ref 223),en P "serving" 484 (.ref 228),en P "times_over" 495 (.ref 235),en P "normal_plan" 512 (.ref 242),en P "gathering" 524 (.ref 249),en P "is_length" 532 (.ref 254),en P "CUTS" 537 (.ref 255),en P "GLUINGS" 540 (.ref 256),en P "SHIFTS" 543 (.ref 257),en P "TURN" 545 (.str "turn" 544),en P "is_deed" 552 (.ref 264),en P "names_taken" 559 (.ref 271),en P "count_put" 566 (.ref 278),en P "turned" 573 (.ref 285),en P "cut_across" 582 (.ref 292),en P "glued_beside" 590 (.ref 299),en P "stacked" 600 (.ref 306),en P "Yard" 679 (.ref 363),en P "yard_behind" 693 (.ref 374),en P "walked" 703 (.ref 382),en P "undoing" 713 (.ref 389),en P "places_of" 719 (.ref 394),en P "back" 725 (.ref 399),en P "names_behind" 731 (.ref 404),en P "with_names" 739 (.ref 411),en P "followed" 745 (.ref 416),en P "EMPTY" 756 (.ref 423),en P "plus" 767 (.ref 430),en P "times" 777 (.ref 437),en P "table" 786 (.ref 444),en P "board_table" 795 (.ref 451),en P "together" 803 (.ref 458),en P "first_unlike" 815 (.ref 465),en P "like" 821 (.ref 470),en P "_law_cell" 831 (.ref 477),en P "_law_whole" 838 (.ref 484),en P "_law_great" 847 (.ref 491),en P "_law_digits" 858 (.ref 498),en P "_law_divisor" 866 (.ref 505),en P "_law_lowest" 876 (.ref 512),en P "_law_sign" 885 (.ref 519),en P "_law_plus" 896 (.ref 526),en P "_law_share" 905 (.ref 533),en P "_law_below" 915 (.ref 540),en P "_law_root" 921 (.ref 545),en P "_law_side" 935 (.ref 552),en P "_law_heap" 941 (.ref 557),en P "_law_new" 951 (.ref 564),en P "_law_at" 963 (.ref 571),en P "_law_deed" 969 (.ref 576),en P "_law_done" 975 (.ref 581),en P "_law_begin" 984 (.ref 588),en P "_law_remade" 990 (.ref 593),en P "_law_led" 996 (.ref 598),en P "law" 1010 (.ref 605)] 91),#[]⟩
def o5:Obj:=⟨.none,none,(.fields #[(.int (1) 0),z0,(.ref 20),(.int (5) 0),z0,(.ref 27),(.int (7) 0),z0,(.ref 40),(.int (9) 0),z0,(.ref 52),(.int (11) 0),z0,(.ref 64),(.int (13) 0),z0,(.ref 76),(.int (15) 0),z0,(.ref 88),(.int (21) 0),z0,(.ref 101),(.int (23) 0),z0,(.ref 108),(.int (35) 0),z0,(.ref 115),(.int (41) 0),z0,(.ref 122),(.int (55) 0),z0,(.ref 129),(.int (57) 0),z0,(.ref 137),(.int (64) 0),z0,(.ref 145),(.int (67) 0),z0,(.ref 152),(.int (69) 0),z0,(.ref 159),(.int (77) 0),z0,(.ref 166),(.int (79) 0),z0,(.ref 173),(.int (81) 0),z0,(.ref 180),(.int (89) 0),z0,(.ref 187),(.int (92) 0),z0,(.ref 194),(.int (94) 0),z0,(.ref 201),(.int (100) 0),z0,(.ref 208),(.int (102) 0),z0,(.ref 215),(.int (107) 0),z0,(.ref 222),(.int (112) 0),z0,(.ref 227),(.int (121) 0),z0,(.ref 234),(.int (123) 0),z0,(.ref 241),(.int (141) 0),z0,(.ref 248),(.int (150) 0),z0,(.ref 253),(.int (161) 0),z0,(.ref 263),(.int (173) 0),z0,(.ref 270),(.int (175) 0),z0,(.ref 277),(.int (177) 0),z0,(.ref 284),(.int (179) 0),z0,(.ref 291),(.int (183) 0),z0,(.ref 298),(.int (187) 0),z0,(.ref 305),(.int (191) 0),z0,(.ref 312),(.int (250) 0),z0,(.ref 373),(.int (255) 0),z0,(.ref 381),(.int (257) 0),z0,(.ref 388),(.int (272) 0),z0,(.ref 393),(.int (277) 0),z0,(.ref 398),(.int (294) 0),z0,(.ref 403),(.int (304) 0),z0,(.ref 410),(.int (308) 0),z0,(.ref 415),(.int (320) 0),z0,(.ref 429),(.int (325) 0),z0,(.ref 436),(.int (329) 0),z0,(.ref 443),(.int (334) 0),z0,(.ref 450),(.int (338) 0),z0,(.ref 457),(.int (341) 0),z0,(.ref 464),(.int (347) 0),z0,(.ref 469),(.int (356) 0),z0,(.ref 476),(.int (360) 0),z0,(.ref 483),(.int (362) 0),z0,(.ref 490),(.int (366) 0),z0,(.ref 497),(.int (376) 0),z0,(.ref 504),(.int (382) 0),z0,(.ref 511),(.int (387) 0),z0,(.ref 518),(.int (395) 0),z0,(.ref 525),(.int (399) 0),z0,(.ref 532),(.int (401) 0),z0,(.ref 539),(.int (404) 0),z0,(.ref 544),(.int (407) 0),z0,(.ref 551),(.int (420) 0),z0,(.ref 556),(.int (434) 0),z0,(.ref 563),(.int (449) 0),z0,(.ref 570),(.int (455) 0),z0,(.ref 575),(.int (468) 0),z0,(.ref 580),(.int (479) 0),z0,(.ref 587),(.int (484) 0),z0,(.ref 592),(.int (495) 0),z0,(.ref 597),(.int (505) 0),z0,(.ref 604)]),#[]⟩
def o6:Obj:=tS 190 ["k"]
def o7:Obj:=f1 "_wall" (top 0)
def o8:Obj:=cP "_wall" 187 1 1 15 191
def o9:Obj:=fP "_wall" (top 0) m0m 20
def o10:Obj:=tu #[(.type "ValueError")]
def o11:Obj:=⟨(.type "builtin_function_or_method"),none,(.fields #[(.builtin "type.__prepare__"),(.type "type")]),#[]⟩
def o12 (P:Params):Obj:=⟨(.type "dict"),none,(.dict #[en P "__module__" 203 (.str "boardglue.errors" 194),en P "__qualname__" 205 (.str "YardError" 204),en P "__firstlineno__" 207 (.int (5) 206),en P "__static_attributes__" 208 (.ref 29)] 4),#[]⟩
def o13:Obj:=cO "YardError" 198 "YardError" 199 200 5 0 0 0 0 (R 25) false 181 (R 26) .none .none .none .none 201 5 202
def o14:Obj:=⟨(.type "frame"),none,.plain,#[(some (.ref 27)),(some (.ref 3)),(some (.ref 24)),none,(some (.str "boardglue.errors" 194)),none,(some (.ref 0))]⟩
def o15 (P:Params):Obj:=⟨(.type "dict"),none,(.dict #[en P "__module__" 203 (.str "boardglue.errors" 194),en P "__firstlineno__" 207 (.int (5) 206),en P "__static_attributes__" 208 (.ref 29),en P "__weakref__" 210 (.ref 32),en P "__doc__" 211 .none] 3),#[]⟩
def o16:Obj:=⟨(.type "type"),none,(.cls ⟨"YardError",[(.type "ValueError")],[(.ref 31),(.type "ValueError"),(.type "Exception"),(.type "BaseException"),(.type "object")],30,"YardError",true,[],[(.ref 44),(.ref 56),(.ref 68),(.ref 80),(.ref 92)],false,none,false⟩),#[(some (.ref 22)),none,(some (.str "YardError" 196)),(some (.str "YardError" 204)),(some (.builtin "ValueError.__new__")),(some (.bool true))]⟩
def o17:Obj:=⟨(.type "getset_descriptor"),none,(.fields #[(.str "__weakref__" 209),(.ref 31),(.builtin "ExceptionGroup.__weakref__"),.none]),#[]⟩
def o18:Obj:=⟨(.type "super"),none,(.fields #[(.ref 31),(.ref 31),(.ref 31)]),#[]⟩
def o19:Obj:=⟨(.type "builtin_function_or_method"),none,(.fields #[(.builtin "object.__init_subclass__"),(.ref 31)]),#[]⟩
def o20:Obj:=tu #[(.ref 31)]
def o21 (P:Params):Obj:=⟨(.type "dict"),none,(.dict #[en P "__module__" 221 (.str "boardglue.errors" 194),en P "__qualname__" 223 (.str "NoLength" 222),en P "__firstlineno__" 225 (.int (7) 224),en P "__static_attributes__" 226 (.ref 42)] 4),#[]⟩
def o22:Obj:=cO "NoLength" 216 "NoLength" 217 218 7 0 0 0 0 (R 38) false 181 (R 39) .none .none .none .none 219 7 220
def o23:Obj:=⟨(.type "frame"),none,.plain,#[(some (.ref 40)),(some (.ref 3)),(some (.ref 37)),none,(some (.str "boardglue.errors" 194)),none,(some (.ref 0))]⟩
def o24 (P:Params):Obj:=⟨(.type "dict"),none,(.dict #[en P "__module__" 221 (.str "boardglue.errors" 194),en P "__firstlineno__" 225 (.int (7) 224),en P "__static_attributes__" 226 (.ref 42),en P "__doc__" 227 .none] 2),#[]⟩
def o25:Obj:=⟨(.type "type"),none,(.cls ⟨"NoLength",[(.ref 31)],[(.ref 44),(.ref 31),(.type "ValueError"),(.type "Exception"),(.type "BaseException"),(.type "object")],43,"NoLength",true,[],[],false,none,false⟩),#[(some (.ref 35)),none,(some (.str "NoLength" 214)),(some (.str "NoLength" 222)),(some (.builtin "ValueError.__new__")),(some (.bool true))]⟩
def o26:Obj:=⟨(.type "super"),none,(.fields #[(.ref 44),(.ref 44),(.ref 44)]),#[]⟩
def o27:Obj:=⟨(.type "builtin_function_or_method"),none,(.fields #[(.builtin "object.__init_subclass__"),(.ref 44)]),#[]⟩
def o28 (P:Params):Obj:=⟨(.type "dict"),none,(.dict #[en P "__module__" 237 (.str "boardglue.errors" 194),en P "__qualname__" 239 (.str "NoDeed" 238),en P "__firstlineno__" 241 (.int (9) 240),en P "__static_attributes__" 242 (.ref 54)] 4),#[]⟩
def o29:Obj:=cO "NoDeed" 232 "NoDeed" 233 234 9 0 0 0 0 (R 50) false 181 (R 51) .none .none .none .none 235 9 236
def o30:Obj:=⟨(.type "frame"),none,.plain,#[(some (.ref 52)),(some (.ref 3)),(some (.ref 49)),none,(some (.str "boardglue.errors" 194)),none,(some (.ref 0))]⟩
def o31 (P:Params):Obj:=⟨(.type "dict"),none,(.dict #[en P "__module__" 237 (.str "boardglue.errors" 194),en P "__firstlineno__" 241 (.int (9) 240),en P "__static_attributes__" 242 (.ref 54),en P "__doc__" 243 .none] 2),#[]⟩
def o32:Obj:=⟨(.type "type"),none,(.cls ⟨"NoDeed",[(.ref 31)],[(.ref 56),(.ref 31),(.type "ValueError"),(.type "Exception"),(.type "BaseException"),(.type "object")],55,"NoDeed",true,[],[],false,none,false⟩),#[(some (.ref 47)),none,(some (.str "NoDeed" 230)),(some (.str "NoDeed" 238)),(some (.builtin "ValueError.__new__")),(some (.bool true))]⟩
def o33:Obj:=⟨(.type "super"),none,(.fields #[(.ref 56),(.ref 56),(.ref 56)]),#[]⟩
def o34:Obj:=⟨(.type "builtin_function_or_method"),none,(.fields #[(.builtin "object.__init_subclass__"),(.ref 56)]),#[]⟩
def o35 (P:Params):Obj:=⟨(.type "dict"),none,(.dict #[en P "__module__" 253 (.str "boardglue.errors" 194),en P "__qualname__" 255 (.str "NoName" 254),en P "__firstlineno__" 257 (.int (11) 256),en P "__static_attributes__" 258 (.ref 66)] 4),#[]⟩
def o36:Obj:=cO "NoName" 248 "NoName" 249 250 11 0 0 0 0 (R 62) false 181 (R 63) .none .none .none .none 251 11 252
def o37:Obj:=⟨(.type "frame"),none,.plain,#[(some (.ref 64)),(some (.ref 3)),(some (.ref 61)),none,(some (.str "boardglue.errors" 194)),none,(some (.ref 0))]⟩
def o38 (P:Params):Obj:=⟨(.type "dict"),none,(.dict #[en P "__module__" 253 (.str "boardglue.errors" 194),en P "__firstlineno__" 257 (.int (11) 256),en P "__static_attributes__" 258 (.ref 66),en P "__doc__" 259 .none] 2),#[]⟩
def o39:Obj:=⟨(.type "type"),none,(.cls ⟨"NoName",[(.ref 31)],[(.ref 68),(.ref 31),(.type "ValueError"),(.type "Exception"),(.type "BaseException"),(.type "object")],67,"NoName",true,[],[],false,none,false⟩),#[(some (.ref 59)),none,(some (.str "NoName" 246)),(some (.str "NoName" 254)),(some (.builtin "ValueError.__new__")),(some (.bool true))]⟩
def o40:Obj:=⟨(.type "super"),none,(.fields #[(.ref 68),(.ref 68),(.ref 68)]),#[]⟩
def o41:Obj:=⟨(.type "builtin_function_or_method"),none,(.fields #[(.builtin "object.__init_subclass__"),(.ref 68)]),#[]⟩
def o42 (P:Params):Obj:=⟨(.type "dict"),none,(.dict #[en P "__module__" 269 (.str "boardglue.errors" 194),en P "__qualname__" 271 (.str "Grain" 270),en P "__firstlineno__" 273 (.int (13) 272),en P "__static_attributes__" 274 (.ref 78)] 4),#[]⟩
def o43:Obj:=cO "Grain" 264 "Grain" 265 266 13 0 0 0 0 (R 74) false 181 (R 75) .none .none .none .none 267 13 268
def o44:Obj:=⟨(.type "frame"),none,.plain,#[(some (.ref 76)),(some (.ref 3)),(some (.ref 73)),none,(some (.str "boardglue.errors" 194)),none,(some (.ref 0))]⟩
def o45 (P:Params):Obj:=⟨(.type "dict"),none,(.dict #[en P "__module__" 269 (.str "boardglue.errors" 194),en P "__firstlineno__" 273 (.int (13) 272),en P "__static_attributes__" 274 (.ref 78),en P "__doc__" 275 .none] 2),#[]⟩
def o46:Obj:=⟨(.type "type"),none,(.cls ⟨"Grain",[(.ref 31)],[(.ref 80),(.ref 31),(.type "ValueError"),(.type "Exception"),(.type "BaseException"),(.type "object")],79,"Grain",true,[],[],false,none,false⟩),#[(some (.ref 71)),none,(some (.str "Grain" 262)),(some (.str "Grain" 270)),(some (.builtin "ValueError.__new__")),(some (.bool true))]⟩
def o47:Obj:=⟨(.type "super"),none,(.fields #[(.ref 80),(.ref 80),(.ref 80)]),#[]⟩
def o48:Obj:=⟨(.type "builtin_function_or_method"),none,(.fields #[(.builtin "object.__init_subclass__"),(.ref 80)]),#[]⟩
def o49 (P:Params):Obj:=⟨(.type "dict"),none,(.dict #[en P "__module__" 285 (.str "boardglue.errors" 194),en P "__qualname__" 287 (.str "Unfit" 286),en P "__firstlineno__" 289 (.int (15) 288),en P "__static_attributes__" 290 (.ref 90)] 4),#[]⟩
def o50:Obj:=cO "Unfit" 280 "Unfit" 281 282 15 0 0 0 0 (R 86) false 181 (R 87) .none .none .none .none 283 15 284
def o51:Obj:=⟨(.type "frame"),none,.plain,#[(some (.ref 88)),(some (.ref 3)),(some (.ref 85)),none,(some (.str "boardglue.errors" 194)),none,(some (.ref 0))]⟩
def o52 (P:Params):Obj:=⟨(.type "dict"),none,(.dict #[en P "__module__" 285 (.str "boardglue.errors" 194),en P "__firstlineno__" 289 (.int (15) 288),en P "__static_attributes__" 290 (.ref 90),en P "__doc__" 291 .none] 2),#[]⟩
def o53:Obj:=⟨(.type "type"),none,(.cls ⟨"Unfit",[(.ref 31)],[(.ref 92),(.ref 31),(.type "ValueError"),(.type "Exception"),(.type "BaseException"),(.type "object")],91,"Unfit",true,[],[],false,none,false⟩),#[(some (.ref 83)),none,(some (.str "Unfit" 278)),(some (.str "Unfit" 286)),(some (.builtin "ValueError.__new__")),(some (.bool true))]⟩
def o54:Obj:=⟨(.type "super"),none,(.fields #[(.ref 92),(.ref 92),(.ref 92)]),#[]⟩
def o55:Obj:=⟨(.type "builtin_function_or_method"),none,(.fields #[(.builtin "object.__init_subclass__"),(.ref 92)]),#[]⟩
def o56:Obj:=tu #[(.int (0) 296),(.int (0) 297),(.int (1) 298)]
def o57:Obj:=tS 307 ["thing"]
def o58:Obj:=f1 "is_whole" (top 12)
def o59:Obj:=cP "is_whole" 304 21 1 96 308
def o60:Obj:=fP "is_whole" (top 12) m1m 101
def o61:Obj:=tS 314 ["one","other","pair","rest"]
def o62:Obj:=f1 "common_divisor" (top 13)
def o63:Obj:=cP "common_divisor" 311 23 2 103 318
def o64:Obj:=fP "common_divisor" (top 13) m1m 108
def o65:Obj:=tS 324 ["one","other","beyond","steps"]
def o66:Obj:=f1 "far_rests" (top 14)
def o67:Obj:=cP "far_rests" 321 35 2 110 328
def o68:Obj:=fP "far_rests" (top 14) m1m 115
def o69:Obj:=tS 334 ["one","other","ahead","last","many","rest","left"]
def o70:Obj:=f1 "sure_steps" (top 15)
def o71:Obj:=cP "sure_steps" 331 41 2 117 341
def o72:Obj:=fP "sure_steps" (top 15) m1m 122
def o73:Obj:=tS 347 ["divisor","bottom"]
def o74:Obj:=f1 "with_sign_of" (top 16)
def o75:Obj:=cP "with_sign_of" 344 55 2 124 349
def o76:Obj:=fP "with_sign_of" (top 16) m1m 129
def o77:Obj:=tu #[(.int (0) 352),(.int (1) 353)]
def o78:Obj:=tS 357 ["a","b","n","divisor"]
def o79:Obj:=f1 "length" (top 17)
def o80:Obj:=cP "length" 354 57 3 132 361
def o81:Obj:=fO "length" "length" (top 17) (.ref 131) m1m 137
def o82:Obj:=tu #[(.int (1) 364)]
def o83:Obj:=tS 368 ["top","bottom","divisor"]
def o84:Obj:=f1 "fraction" (top 18)
def o85:Obj:=cP "fraction" 365 64 2 140 371
def o86:Obj:=fO "fraction" "fraction" (top 18) (.ref 139) m1m 145
def o87:Obj:=tS 377 ["one"]
def o88:Obj:=f1 "parts" (top 19)
def o89:Obj:=cP "parts" 374 67 1 147 378
def o90:Obj:=fP "parts" (top 19) m1m 152
def o91:Obj:=tS 384 ["one","other","shared","ahead","behind","a","b","left"]
def o92:Obj:=f1 "added" (top 20)
def o93:Obj:=cP "added" 381 69 2 154 392
def o94:Obj:=fP "added" (top 20) m1m 159
def o95:Obj:=tS 398 ["one","other"]
def o96:Obj:=f1 "taken" (top 21)
def o97:Obj:=cP "taken" 395 77 2 161 400
def o98:Obj:=fP "taken" (top 21) m1m 166
def o99:Obj:=tS 406 ["d","one","other"]
def o100:Obj:=f1 "timed" (top 22)
def o101:Obj:=cP "timed" 403 79 3 168 409
def o102:Obj:=fP "timed" (top 22) m1m 173
def o103:Obj:=tS 415 ["d","a","b"]
def o104:Obj:=f1 "is_above_nought" (top 23)
def o105:Obj:=cP "is_above_nought" 412 81 3 175 418
def o106:Obj:=fP "is_above_nought" (top 23) m1m 180
def o107:Obj:=tS 424 ["d","one","other"]
def o108:Obj:=f1 "under" (top 24)
def o109:Obj:=cP "under" 421 89 3 182 427
def o110:Obj:=fP "under" (top 24) m1m 187
def o111:Obj:=tS 435 ["d","n"]
def o112:Obj:=f1 "first_base" (top 26)
def o113:Obj:=cP "first_base" 432 92 2 189 437
def o114:Obj:=fP "first_base" (top 26) m2m 194
def o115:Obj:=tS 443 ["d","base","p","q"]
def o116:Obj:=f1 "next_base" (top 27)
def o117:Obj:=cP "next_base" 440 94 2 196 447
def o118:Obj:=fP "next_base" (top 27) m2m 201
def o119:Obj:=tS 453 ["one","other"]
def o120:Obj:=f1 "crossed" (top 28)
def o121:Obj:=cP "crossed" 450 100 2 203 455
def o122:Obj:=fP "crossed" (top 28) m2m 208
def o123:Obj:=tS 461 ["d","base","one","p","q","bottom"]
def o124:Obj:=f1 "counts" (top 29)
def o125:Obj:=cP "counts" 458 102 3 210 467
def o126:Obj:=fP "counts" (top 29) m2m 215
def o127:Obj:=tS 473 ["lengths","bottom","one"]
def o128:Obj:=f1 "common_bottom" (top 30)
def o129:Obj:=cP "common_bottom" 470 107 1 217 476
def o130:Obj:=fP "common_bottom" (top 30) m2m 222
def o131:Obj:=f1 "serving" (top 31)
def o132:Obj:=cQ "serving" 479 112 2 224 482
def o133:Obj:=fP "serving" (top 31) m2m 227
def o134:Obj:=tS 490 ["d","many","one"]
def o135:Obj:=f1 "times_over" (top 33)
def o136:Obj:=cP "times_over" 487 121 3 229 493
def o137:Obj:=fP "times_over" (top 33) m3m 234
def o138:Obj:=tS 499 ["d","heap","base","deeds","firsts","others","unused","name","one","pair","stacking"]
def o139:Obj:=f1 "normal_plan" (top 34)
def o140:Obj:=cP "normal_plan" 496 123 3 236 510
def o141:Obj:=fP "normal_plan" (top 34) m3m 241
def o142:Obj:=tS 516 ["pieces","unused","deeds","place","piece","fresh"]
def o143:Obj:=f1 "gathering" (top 35)
def o144:Obj:=cP "gathering" 513 141 2 243 522
def o145:Obj:=fP "gathering" (top 35) m3m 248
def o146:Obj:=f1 "is_length" (top 37)
def o147:Obj:=cQ "is_length" 527 150 1 250 530
def o148:Obj:=fP "is_length" (top 37) m4m 253
def o149:Obj:=tS 535 ["across","along"]
def o150:Obj:=tS 538 ["beside","atop"]
def o151:Obj:=tS 541 ["stack","spread"]
def o152:Obj:=tS 549 ["thing"]
def o153:Obj:=f1 "is_deed" (top 43)
def o154:Obj:=cP "is_deed" 546 161 1 258 550
def o155:Obj:=fP "is_deed" (top 43) m5m 263
def o156:Obj:=tS 556 ["deed"]
def o157:Obj:=f1 "names_taken" (top 44)
def o158:Obj:=cP "names_taken" 553 173 1 265 557
def o159:Obj:=fP "names_taken" (top 44) m5m 270
def o160:Obj:=tS 563 ["deed"]
def o161:Obj:=f1 "count_put" (top 45)
def o162:Obj:=cP "count_put" 560 175 1 272 564
def o163:Obj:=fP "count_put" (top 45) m5m 277
def o164:Obj:=tS 570 ["one"]
def o165:Obj:=f1 "turned" (top 46)
def o166:Obj:=cP "turned" 567 177 1 279 571
def o167:Obj:=fP "turned" (top 46) m5m 284
def o168:Obj:=tS 577 ["d","one","at"]
def o169:Obj:=f1 "cut_across" (top 47)
def o170:Obj:=cP "cut_across" 574 179 3 286 580
def o171:Obj:=fP "cut_across" (top 47) m5m 291
def o172:Obj:=tS 586 ["one","other"]
def o173:Obj:=f1 "glued_beside" (top 48)
def o174:Obj:=cP "glued_beside" 583 183 2 293 588
def o175:Obj:=fP "glued_beside" (top 48) m5m 298
def o176:Obj:=tS 594 ["one","many","width","height"]
def o177:Obj:=f1 "stacked" (top 49)
def o178:Obj:=cP "stacked" 591 187 2 300 598
def o179:Obj:=fP "stacked" (top 49) m5m 305
def o180 (P:Params):Obj:=⟨(.type "dict"),none,(.dict #[en P "__module__" 608 (.str "boardglue.yard" 533),en P "__qualname__" 610 (.str "Yard" 609),en P "__firstlineno__" 612 (.int (191) 611),en P "__init__" 618 (.ref 319),en P "do" 624 (.ref 324),en P "check_names" 633 (.ref 331),en P "put_by" 639 (.ref 336),en P "board_ever" 647 (.ref 343),en P "boards" 653 (.ref 348),en P "heap" 659 (.ref 353),en P "log" 666 (.ref 360),en P "__static_attributes__" 672 (.ref 361)] 12),#[]⟩
def o181:Obj:=⟨.none,none,(.fields #[(.int (193) 0),(.int (4) 0),(.ref 318),(.int (200) 0),(.int (4) 0),(.ref 323),(.int (215) 0),(.int (4) 0),(.ref 330),(.int (222) 0),(.int (4) 0),(.ref 335),(.int (238) 0),(.int (4) 0),(.ref 342),(.int (241) 0),(.int (4) 0),(.ref 347),(.int (244) 0),(.int (4) 0),(.ref 352),(.int (247) 0),(.int (4) 0),(.ref 359)]),#[]⟩
def o182:Obj:=cO "Yard" 603 "Yard" 604 605 191 0 0 0 0 (R 310) false 181 (R 311) .none .none .none .none 606 191 607
def o183:Obj:=⟨(.type "frame"),none,.plain,#[(some (.ref 312)),(some (.ref 3)),(some (.ref 309)),none,(some (.str "boardglue.yard" 533)),none,(some (.ref 0))]⟩
def o184:Obj:=tu #[(.bool false)]
def o185:Obj:=f0 "__init__" "Yard.__init__" (sub (top 50) 0)
def o186:Obj:=cQ' "__init__" "Yard.__init__" 613 193 4 315 616
def o187:Obj:=fO "__init__" "Yard.__init__" (sub (top 50) 0) (.ref 314) m5m 318
def o188:Obj:=f0 "do" "Yard.do" (sub (top 50) 1)
def o189:Obj:=cQ' "do" "Yard.do" 619 200 2 320 622
def o190:Obj:=fO "do" "Yard.do" (sub (top 50) 1) .none m5m 323
def o191:Obj:=tS 628 ["self","names","name"]
def o192:Obj:=f0 "check_names" "Yard.check_names" (sub (top 50) 2)
def o193:Obj:=cP' "check_names" "Yard.check_names" 625 215 2 325 631
def o194:Obj:=fO "check_names" "Yard.check_names" (sub (top 50) 2) .none m5m 330
def o195:Obj:=f0 "put_by" "Yard.put_by" (sub (top 50) 3)
def o196:Obj:=cQ' "put_by" "Yard.put_by" 634 222 3 332 637
def o197:Obj:=fO "put_by" "Yard.put_by" (sub (top 50) 3) .none m5m 335
def o198:Obj:=tS 643 ["self","name"]
def o199:Obj:=f0 "board_ever" "Yard.board_ever" (sub (top 50) 4)
def o200:Obj:=cP' "board_ever" "Yard.board_ever" 640 238 2 337 645
def o201:Obj:=fO "board_ever" "Yard.board_ever" (sub (top 50) 4) .none m5m 342
def o202:Obj:=f0 "boards" "Yard.boards" (sub (top 50) 5)
def o203:Obj:=cQ' "boards" "Yard.boards" 648 241 1 344 651
def o204:Obj:=fO "boards" "Yard.boards" (sub (top 50) 5) .none m5m 347
def o205:Obj:=f0 "heap" "Yard.heap" (sub (top 50) 6)
def o206:Obj:=cQ' "heap" "Yard.heap" 654 244 1 349 657
def o207:Obj:=fO "heap" "Yard.heap" (sub (top 50) 6) .none m5m 352
def o208:Obj:=tS 663 ["self"]
def o209:Obj:=f0 "log" "Yard.log" (sub (top 50) 7)
def o210:Obj:=cP' "log" "Yard.log" 660 247 1 354 664
def o211:Obj:=fO "log" "Yard.log" (sub (top 50) 7) .none m5m 359
def o212:Obj:=tS 667 ["done","known","lying","root","turning"]
def o213 (P:Params):Obj:=⟨(.type "dict"),none,(.dict #[en P "__module__" 608 (.str "boardglue.yard" 533),en P "__firstlineno__" 612 (.int (191) 611),en P "__init__" 618 (.ref 319),en P "do" 624 (.ref 324),en P "check_names" 633 (.ref 331),en P "put_by" 639 (.ref 336),en P "board_ever" 647 (.ref 343),en P "boards" 653 (.ref 348),en P "heap" 659 (.ref 353),en P "log" 666 (.ref 360),en P "__static_attributes__" 672 (.ref 361),en P "__dict__" 674 (.ref 364),en P "__weakref__" 676 (.ref 365),en P "__doc__" 677 .none] 4),#[]⟩
def o214:Obj:=⟨(.type "type"),none,(.cls ⟨"Yard",[(.type "object")],[(.ref 363),(.type "object")],362,"Yard",true,[],[],false,none,false⟩),#[none,none,(some (.str "Yard" 601)),(some (.str "Yard" 609)),(some (.builtin "object.__new__")),(some (.bool true))]⟩
def o215:Obj:=⟨(.type "getset_descriptor"),none,(.fields #[(.str "__dict__" 673),(.ref 363),(.builtin "function.__dict__"),(.builtin "function.__dict__#set")]),#[]⟩
def o216:Obj:=⟨(.type "getset_descriptor"),none,(.fields #[(.str "__weakref__" 675),(.ref 363),(.builtin "ExceptionGroup.__weakref__"),.none]),#[]⟩
def o217:Obj:=⟨(.type "super"),none,(.fields #[(.ref 363),(.ref 363),(.ref 363)]),#[]⟩
def o218:Obj:=⟨(.type "builtin_function_or_method"),none,(.fields #[(.builtin "object.__init_subclass__"),(.ref 363)]),#[]⟩
def o219:Obj:=tS 685 ["d","heap","plan","turning","yard","deed"]
def o220:Obj:=f1 "yard_behind" (top 52)
def o221:Obj:=cP "yard_behind" 682 250 4 368 691
def o222:Obj:=fP "yard_behind" (top 52) m6m 373
def o223:Obj:=tS 697 ["d","heap","plan","turning"]
def o224:Obj:=f1 "walked" (top 53)
def o225:Obj:=cP "walked" 694 255 4 376 701
def o226:Obj:=fO "walked" "walked" (top 53) (.ref 375) m6m 381
def o227:Obj:=tS 707 ["yard","deed","names","word"]
def o228:Obj:=f1 "undoing" (top 54)
def o229:Obj:=cP "undoing" 704 257 3 383 711
def o230:Obj:=fP "undoing" (top 54) m6m 388
def o231:Obj:=f1 "places_of" (top 55)
def o232:Obj:=cQ "places_of" 714 272 1 390 717
def o233:Obj:=fP "places_of" (top 55) m6m 393
def o234:Obj:=f1 "back" (top 56)
def o235:Obj:=cQ "back" 720 277 3 395 723
def o236:Obj:=fP "back" (top 56) m6m 398
def o237:Obj:=f1 "names_behind" (top 57)
def o238:Obj:=cQ "names_behind" 726 294 2 400 729
def o239:Obj:=fP "names_behind" (top 57) m6m 403
def o240:Obj:=tS 735 ["deed","names"]
def o241:Obj:=f1 "with_names" (top 58)
def o242:Obj:=cP "with_names" 732 304 2 405 737
def o243:Obj:=fP "with_names" (top 58) m6m 410
def o244:Obj:=f1 "followed" (top 59)
def o245:Obj:=cQ "followed" 740 308 3 412 743
def o246:Obj:=fP "followed" (top 59) m6m 415
def o247:Obj:=tu #[(.int (0) 748),(.int (1) 749)]
def o248:Obj:=tu #[(.int (0) 750),(.int (1) 751)]
def o249:Obj:=tu #[(.ref 417),(.ref 418)]
def o250:Obj:=tu #[(.int (0) 752),(.int (1) 753)]
def o251:Obj:=tu #[(.int (0) 754),(.int (1) 755)]
def o252:Obj:=tu #[(.ref 420),(.ref 421)]
def o253:Obj:=tu #[(.ref 419),(.ref 422)]
def o254:Obj:=tS 760 ["one","other","shared","top","left"]
def o255:Obj:=f1 "plus" (top 62)
def o256:Obj:=cP "plus" 757 320 2 424 765
def o257:Obj:=fP "plus" (top 62) m7m 429
def o258:Obj:=tS 771 ["one","other","first","second"]
def o259:Obj:=f1 "times" (top 63)
def o260:Obj:=cP "times" 768 325 2 431 775
def o261:Obj:=fP "times" (top 63) m7m 436
def o262:Obj:=tS 781 ["heap","whole","one"]
def o263:Obj:=f1 "table" (top 64)
def o264:Obj:=cP "table" 778 329 1 438 784
def o265:Obj:=fP "table" (top 64) m7m 443
def o266:Obj:=tS 790 ["one","widths","heights"]
def o267:Obj:=f1 "board_table" (top 65)
def o268:Obj:=cP "board_table" 787 334 1 445 793
def o269:Obj:=fP "board_table" (top 65) m7m 450
def o270:Obj:=tS 799 ["one","other"]
def o271:Obj:=f1 "together" (top 66)
def o272:Obj:=cP "together" 796 338 2 452 801
def o273:Obj:=fP "together" (top 66) m7m 457
def o274:Obj:=tS 809 ["one","other","row","column"]
def o275:Obj:=f1 "first_unlike" (top 68)
def o276:Obj:=cP "first_unlike" 806 341 2 459 813
def o277:Obj:=fP "first_unlike" (top 68) m8m 464
def o278:Obj:=f1 "like" (top 69)
def o279:Obj:=cQ "like" 816 347 3 466 819
def o280:Obj:=fP "like" (top 69) m8m 469
def o281:Obj:=tS 827 ["_law_script","_law_k"]
def o282:Obj:=f1 "_law_cell" (top 71)
def o283:Obj:=cP "_law_cell" 824 356 2 471 829
def o284:Obj:=fP "_law_cell" (top 71) m9m 476
def o285:Obj:=tS 835 ["_law_found"]
def o286:Obj:=f1 "_law_whole" (top 72)
def o287:Obj:=cP "_law_whole" 832 360 1 478 836
def o288:Obj:=fP "_law_whole" (top 72) m9m 483
def o289:Obj:=tS 842 ["_law_cell_here","_law_k","_law_number"]
def o290:Obj:=f1 "_law_great" (top 73)
def o291:Obj:=cP "_law_great" 839 362 2 485 845
def o292:Obj:=fP "_law_great" (top 73) m9m 490
def o293:Obj:=tS 851 ["_law_cell_here","_law_many","_law_found","_law_number","_law_k"]
def o294:Obj:=f1 "_law_digits" (top 74)
def o295:Obj:=cP "_law_digits" 848 366 2 492 856
def o296:Obj:=fP "_law_digits" (top 74) m9m 497
def o297:Obj:=tS 862 ["_law_one","_law_other"]
def o298:Obj:=f1 "_law_divisor" (top 75)
def o299:Obj:=cP "_law_divisor" 859 376 2 499 864
def o300:Obj:=fP "_law_divisor" (top 75) m9m 504
def o301:Obj:=tS 870 ["_law_a","_law_b","_law_n","_law_share_here"]
def o302:Obj:=f1 "_law_lowest" (top 76)
def o303:Obj:=cP "_law_lowest" 867 382 3 506 874
def o304:Obj:=fP "_law_lowest" (top 76) m9m 511
def o305:Obj:=tS 880 ["_law_d","_law_a","_law_b"]
def o306:Obj:=f1 "_law_sign" (top 77)
def o307:Obj:=cP "_law_sign" 877 387 3 513 883
def o308:Obj:=fP "_law_sign" (top 77) m9m 518
def o309:Obj:=tS 889 ["_law_one","_law_other","_law_sign_here","_law_a","_law_b"]
def o310:Obj:=f1 "_law_plus" (top 78)
def o311:Obj:=cP "_law_plus" 886 395 3 520 894
def o312:Obj:=fP "_law_plus" (top 78) m9m 525
def o313:Obj:=tS 900 ["_law_one","_law_top","_law_bottom"]
def o314:Obj:=f1 "_law_share" (top 79)
def o315:Obj:=cP "_law_share" 897 399 3 527 903
def o316:Obj:=fP "_law_share" (top 79) m9m 532
def o317:Obj:=tS 909 ["_law_d","_law_one","_law_other","_law_left"]
def o318:Obj:=f1 "_law_below" (top 80)
def o319:Obj:=cP "_law_below" 906 401 3 534 913
def o320:Obj:=fP "_law_below" (top 80) m9m 539
def o321:Obj:=f1 "_law_root" (top 81)
def o322:Obj:=cQ "_law_root" 916 404 2 541 919
def o323:Obj:=fP "_law_root" (top 81) m9m 544
def o324:Obj:=tS 925 ["_law_d","_law_cell_here","_law_at_here","_law_digits_here","_law_a","_law_b","_law_n","_law_sign_here"]
def o325:Obj:=f1 "_law_side" (top 82)
def o326:Obj:=cP "_law_side" 922 407 3 546 933
def o327:Obj:=fP "_law_side" (top 82) m9m 551
def o328:Obj:=f1 "_law_heap" (top 83)
def o329:Obj:=cQ "_law_heap" 936 420 3 553 939
def o330:Obj:=fP "_law_heap" (top 83) m9m 556
def o331:Obj:=tS 945 ["_law_deed_here","_law_some","_law_width","_law_height"]
def o332:Obj:=f1 "_law_new" (top 84)
def o333:Obj:=cP "_law_new" 942 434 2 558 949
def o334:Obj:=fP "_law_new" (top 84) m9m 563
def o335:Obj:=tS 955 ["_law_d","_law_digits_here","_law_side_here","_law_pool","_law_at_here","_law_bottom"]
def o336:Obj:=f1 "_law_at" (top 85)
def o337:Obj:=cP "_law_at" 952 449 4 565 961
def o338:Obj:=fP "_law_at" (top 85) m9m 570
def o339:Obj:=f1 "_law_deed" (top 86)
def o340:Obj:=cQ "_law_deed" 964 455 4 572 967
def o341:Obj:=fP "_law_deed" (top 86) m9m 575
def o342:Obj:=f1 "_law_done" (top 87)
def o343:Obj:=cQ "_law_done" 970 468 3 577 973
def o344:Obj:=fP "_law_done" (top 87) m9m 580
def o345:Obj:=tS 979 ["_law_heap_here","_law_lying","_law_k"]
def o346:Obj:=f1 "_law_begin" (top 88)
def o347:Obj:=cP "_law_begin" 976 479 1 582 982
def o348:Obj:=fP "_law_begin" (top 88) m9m 587
def o349:Obj:=f1 "_law_remade" (top 89)
def o350:Obj:=cQ "_law_remade" 985 484 6 589 988
def o351:Obj:=fP "_law_remade" (top 89) m9m 592
def o352:Obj:=f1 "_law_led" (top 90)
def o353:Obj:=cQ "_law_led" 991 495 3 594 994
def o354:Obj:=fP "_law_led" (top 90) m9m 597
def o355:Obj:=tS 1000 ["_law_script","_law_d","_law_pool","_law_heap_here","_law_second","_law_third","_law_ended","_law_found"]
def o356:Obj:=f1 "law" (top 91)
def o357:Obj:=cP "law" 997 505 1 599 1008
def o358:Obj:=fP "law" (top 91) m9m 604
def T1(P:Params):BT:=(N (boot_o_0 P) (N (boot_o_1 P) (N (o4 P) (N (boot_o_7 P) (N o0 (N o16 (N o1 (N o0 (N o149 (L o303) Z) (L o0)) (N o111 (N o187 (L o340) Z) (L o266))) (N o56 (N o93 (N o1 (L o321) Z) (L o245)) (N o130 (L o205) (L o1)))) (N o20 (N (o45 P) (N o0 (N o159 (L o0) Z) (L o236)) (N o120 (N o196 (L o349) Z) (L o275))) (N o1 (N o0 (N o0 (L o1) Z) (L o0)) (N o0 (L o218) (L o0))))) (N o11 (N o1 (N o20 (N o0 (N o154 (L o308) Z) (L o1)) (N o0 (N o191 (L o1) Z) (L o0))) (N o0 (N o98 (N o172 (L o326) Z) (L o253)) (N o134 (L o210) (L o289)))) (N (o31 P) (N o1 (N o88 (N o0 (L o1) Z) (L o240)) (N o125 (N o201 (L o0) Z) (L o0))) (N o69 (N o1 (N o181 (L o335) Z) (L o1)) (N o143 (L o184) (L o298)))))) (N o0 (N o7 (N o20 (N (o38 P) (N o77 (N o1 (L o305) Z) (L o228)) (N o114 (N o189 (L o342) Z) (L o269))) (N o0 (N o95 (N o170 (L o1) Z) (L o249)) (N o132 (L o1) (L o287)))) (N o1 (N o20 (N o0 (N o0 (L o314) Z) (L o238)) (N o1 (N o198 (L o1) Z) (L o1))) (N o67 (N o104 (N o0 (L o333) Z) (L o259)) (N o0 (L o0) (L o0))))) (N o13 (N (o24 P) (N o1 (N o82 (N o156 (L o0) Z) (L o0)) (N o0 (N o194 (L o347) Z) (L o0))) (N o62 (N o0 (N o175 (L o328) Z) (L o0)) (N o137 (L o214) (L o292)))) (N o20 (N (o52 P) (N o1 (N o165 (L o319) Z) (L o243)) (N o127 (N o203 (L o356) Z) (L o282))) (N o72 (N o109 (N o0 (L o338) Z) (L o264)) (N o1 (L o0) (L o1))))))) (N (boot_o_5 P) (N (boot_o_9 P) (N o6 (N o18 (N o37 (N o75 (N o151 (L o0) Z) (L o227)) (N o112 (N o1 (L o0) Z) (L o267))) (N o1 (N o0 (N o0 (L o323) Z) (L o247)) (N o1 (L o207) (L o0)))) (N (o28 P) (N o47 (N o85 (N o1 (L o313) Z) (L o1)) (N o122 (N o0 (L o351) Z) (L o277))) (N o0 (N o103 (N o178 (L o0) Z) (L o258)) (N o140 (L o1) (L o295))))) (N o0 (N o23 (N (o42 P) (N o80 (N o0 (L o1) Z) (L o232)) (N o117 (N o192 (L o0) Z) (L o272))) (N o61 (N o1 (N o173 (L o0) Z) (L o1)) (N o135 (L o212) (L o290)))) (N o33 (N o51 (N o90 (N o164 (L o0) Z) (L o241)) (N o0 (N o1 (L o355) Z) (L o281))) (N o70 (N o0 (N o183 (L o336) Z) (L o0)) (N o145 (L o1) (L o300)))))) (N o2 (N o9 (N (o21 P) (N o40 (N o1 (N o0 (L o306) Z) (L o230)) (N o1 (N o0 (L o344) Z) (L o1))) (N o59 (N o96 (N o0 (L o0) Z) (L o251)) (N o0 (L o0) (L o0)))) (N o30 (N (o49 P) (N o87 (N o162 (L o316) Z) (L o0)) (N o0 (N o199 (L o353) Z) (L o279))) (N o0 (N o106 (N (o180 P) (L o0) Z) (L o261)) (N o142 (L o221) (L o297))))) (N o0 (N o26 (N o44 (N o1 (N o157 (L o311) Z) (L o234)) (N o119 (N o1 (L o0) Z) (L o274))) (N o64 (N o101 (N o1 (L o330) Z) (L o256)) (N o1 (L o216) (L o1)))) (N (o35 P) (N o54 (N o0 (N o167 (L o0) Z) (L o1)) (N o128 (N o0 (L o358) Z) (L o284))) (N o1 (N o0 (N o185 (L o1) Z) (L o0)) (N o147 (L o225) (L o0)))))))) (N (boot_o_2 P) (N (boot_o_4 P) (N (boot_o_8 P) (N o1 (N o17 (N o36 (N o74 (N o150 (L o304) Z) (L o1)) (N o0 (N o0 (L o341) Z) (L o0))) (N o0 (N o94 (N o168 (L o322) Z) (L o246)) (N o0 (L o206) (L o285)))) (N o11 (N o46 (N o84 (N o0 (L o1) Z) (L o0)) (N o121 (N o197 (L o350) Z) (L o276))) (N o65 (N o1 (N o177 (L o331) Z) (L o1)) (N o139 (L o0) (L o294))))) (N (o12 P) (N o22 (N o11 (N o79 (N o155 (L o0) Z) (L o231)) (N o116 (N o0 (L o345) Z) (L o271))) (N o1 (N o0 (N o0 (L o327) Z) (L o0)) (N o0 (L o211) (L o0)))) (N o32 (N o50 (N o89 (N o1 (L o317) Z) (L o0)) (N o126 (N o0 (L o1) Z) (L o1))) (N o0 (N o107 (N o182 (L o0) Z) (L o262)) (N o144 (L o0) (L o299)))))) (N o5 (N o8 (N o11 (N o39 (N o0 (N o152 (L o0) Z) (L o229)) (N o0 (N o190 (L o343) Z) (L o0))) (N o58 (N o0 (N o171 (L o324) Z) (L o250)) (N o133 (L o208) (L o288)))) (N o29 (N o11 (N o1 (N o161 (L o315) Z) (L o239)) (N o123 (N o0 (L o352) Z) (L o278))) (N o68 (N o105 (N o11 (L o334) Z) (L o260)) (N o1 (L o220) (L o1))))) (N o14 (N o25 (N o43 (N o0 (N o0 (L o310) Z) (L o1)) (N o1 (N o0 (L o348) Z) (L o1))) (N o63 (N o100 (N o0 (L o329) Z) (L o255)) (N o0 (L o215) (L o0)))) (N o11 (N o53 (N o91 (N o166 (L o320) Z) (L o0)) (N o0 (N o204 (L o357) Z) (L o283))) (N o0 (N o110 (N o1 (L o0) Z) (L o265)) (N o146 (L o224) (L o301))))))) (N (boot_o_6 P) (N (boot_o_10 P) (N o0 (N o19 (N o0 (N o76 (N o0 (L o1) Z) (L o0)) (N o113 (N o188 (L o1) Z) (L o268))) (N o57 (N o1 (N o169 (L o0) Z) (L o248)) (N o131 (L o0) (L o286)))) (N o0 (N o48 (N o86 (N o160 (L o0) Z) (L o237)) (N o0 (N o1 (L o0) Z) (L o0))) (N o66 (N o0 (N o179 (L o332) Z) (L o0)) (N o141 (L o219) (L o296))))) (N o1 (N o0 (N o0 (N o81 (N o1 (L o309) Z) (L o233)) (N o118 (N o193 (L o346) Z) (L o273))) (N o0 (N o99 (N o174 (L o1) Z) (L o254)) (N o136 (L (o213 P)) (L o291)))) (N o34 (N o0 (N o0 (N o0 (L o318) Z) (L o242)) (N o1 (N o202 (L o0) Z) (L o0))) (N o71 (N o108 (N o184 (L o337) Z) (L o263)) (N o0 (L o223) (L o0)))))) (N o3 (N o10 (N o0 (N o41 (N o78 (N o153 (L o307) Z) (L o0)) (N o115 (N o1 (L o0) Z) (L o270))) (N o60 (N o97 (N o1 (L o325) Z) (L o252)) (N o1 (L o209) (L o1)))) (N o0 (N o0 (N o0 (N o163 (L o0) Z) (L o1)) (N o124 (N o200 (L o354) Z) (L o280))) (N o1 (N o0 (N o0 (L o1) Z) (L o0)) (N o0 (L o222) (L o0))))) (N (o15 P) (N o27 (N o0 (N o83 (N o158 (L o312) Z) (L o235)) (N o0 (N o195 (L o1) Z) (L o0))) (N o0 (N o102 (N o176 (L o0) Z) (L o257)) (N o138 (L o217) (L o293)))) (N o0 (N o55 (N o92 (N o0 (L o1) Z) (L o244)) (N o129 (L o1) (L o0))) (N o73 (N o1 (N o186 (L o339) Z) (L o1)) (N o148 (L o226) (L o302)))))))))
theorem pc0'(w:World):(λos=>PySem.W.Fast.tw10110043849684766642 PySem.W.Fast.tw14364793385576792824 p w m0 ann (nat_lit 1) (nat_lit 3929) (⟨T0 w.params,nat_lit 15,lf0,⟨[]⟩,dr1,nat_lit 187,os⟩:SharedT) (W.piecesOf ((b.drop 0).take 92) env cE ⟨0,0,0,0⟩ B))=λos=>some (Flow.next,(⟨T1 w.params,nat_lit 606,lf0,⟨[]⟩,dr1,nat_lit 1011,os⟩:SharedT),cE,⟨505,0,520,124⟩):=by kernel_rfl
theorem pc0(w:World)(os:OsState):segRun treeTable p w m0 ann (nat_lit 1) (nat_lit 3929) (SharedT.abs (⟨T0 w.params,nat_lit 15,lf0,⟨[]⟩,dr1,nat_lit 187,os⟩:SharedT)) (piecesOf ((b.drop 0).take 92) env cE ⟨0,0,0,0⟩ B)=some (Flow.next,SharedT.abs (⟨T1 w.params,nat_lit 606,lf0,⟨[]⟩,dr1,nat_lit 1011,os⟩:SharedT),cE,⟨505,0,520,124⟩):=by
  refine segRun_of ?_;rw [PySem.W.Fast.te10110043849684766642,cC];exact congrFun (pc0' w) os
def H1(P:Params):Heap:=⟨⟨[boot_o_0 P,boot_o_1 P,boot_o_2 P,o4 P,boot_o_4 P,boot_o_5 P,boot_o_6 P,boot_o_7 P,boot_o_8 P,boot_o_9 P,boot_o_10 P,o0,o5,o2,o3,o0,o1,o6,o0,o7,o8,o9,o10,o11,o12 P,o0,o1,o13,o14,o0,o15 P,o16,o17,o18,o19,o20,o11,o21 P,o0,o1,o22,o23,o0,o24 P,o25,o26,o27,o20,o11,o28 P,o0,o1,o29,o30,o0,o31 P,o32,o33,o34,o20,o11,o35 P,o0,o1,o36,o37,o0,o38 P,o39,o40,o41,o20,o11,o42 P,o0,o1,o43,o44,o0,o45 P,o46,o47,o48,o20,o11,o49 P,o0,o1,o50,o51,o0,o52 P,o53,o54,o55,o56,o0,o1,o57,o0,o58,o59,o60,o0,o1,o61,o0,o62,o63,o64,o0,o1,o65,o0,o66,o67,o68,o0,o1,o69,o0,o70,o71,o72,o0,o1,o73,o0,o74,o75,o76,o77,o0,o1,o78,o0,o79,o80,o81,o82,o0,o1,o83,o0,o84,o85,o86,o0,o1,o87,o0,o88,o89,o90,o0,o1,o91,o0,o92,o93,o94,o0,o1,o95,o0,o96,o97,o98,o0,o1,o99,o0,o100,o101,o102,o0,o1,o103,o0,o104,o105,o106,o0,o1,o107,o0,o108,o109,o110,o0,o1,o111,o0,o112,o113,o114,o0,o1,o115,o0,o116,o117,o118,o0,o1,o119,o0,o120,o121,o122,o0,o1,o123,o0,o124,o125,o126,o0,o1,o127,o0,o128,o129,o130,o0,o1,o131,o132,o133,o0,o1,o134,o0,o135,o136,o137,o0,o1,o138,o0,o139,o140,o141,o0,o1,o142,o0,o143,o144,o145,o0,o1,o146,o147,o148,o149,o150,o151,o0,o1,o152,o0,o153,o154,o155,o0,o1,o156,o0,o157,o158,o159,o0,o1,o160,o0,o161,o162,o163,o0,o1,o164,o0,o165,o166,o167,o0,o1,o168,o0,o169,o170,o171,o0,o1,o172,o0,o173,o174,o175,o0,o1,o176,o0,o177,o178,o179,o0,o11,o180 P,o0,o181,o182,o183,o184,o0,o1,o185,o186,o187,o0,o1,o188,o189,o190,o0,o1,o191,o0,o192,o193,o194,o0,o1,o195,o196,o197,o0,o1,o198,o0,o199,o200,o201,o0,o1,o202,o203,o204,o0,o1,o205,o206,o207,o0,o1,o208,o0,o209,o210,o211,o212,o213 P,o214,o215,o216,o217,o218,o0,o1,o219,o0,o220,o221,o222,o184,o0,o1,o223,o0,o224,o225,o226,o0,o1,o227,o0,o228,o229,o230,o0,o1,o231,o232,o233,o0,o1,o234,o235,o236,o0,o1,o237,o238,o239,o0,o1,o240,o0,o241,o242,o243,o0,o1,o244,o245,o246,o247,o248,o249,o250,o251,o252,o253,o0,o1,o254,o0,o255,o256,o257,o0,o1,o258,o0,o259,o260,o261,o0,o1,o262,o0,o263,o264,o265,o0,o1,o266,o0,o267,o268,o269,o0,o1,o270,o0,o271,o272,o273,o0,o1,o274,o0,o275,o276,o277,o0,o1,o278,o279,o280,o0,o1,o281,o0,o282,o283,o284,o0,o1,o285,o0,o286,o287,o288,o0,o1,o289,o0,o290,o291,o292,o0,o1,o293,o0,o294,o295,o296,o0,o1,o297,o0,o298,o299,o300,o0,o1,o301,o0,o302,o303,o304,o0,o1,o305,o0,o306,o307,o308,o0,o1,o309,o0,o310,o311,o312,o0,o1,o313,o0,o314,o315,o316,o0,o1,o317,o0,o318,o319,o320,o0,o1,o321,o322,o323,o0,o1,o324,o0,o325,o326,o327,o0,o1,o328,o329,o330,o0,o1,o331,o0,o332,o333,o334,o0,o1,o335,o0,o336,o337,o338,o0,o1,o339,o340,o341,o0,o1,o342,o343,o344,o0,o1,o345,o0,o346,o347,o348,o0,o1,o349,o350,o351,o0,o1,o352,o353,o354,o0,o1,o355,o0,o356,o357,o358]⟩,lf0⟩
theorem fin'(w:World):(λos=>PySem.W.Fast.tw14082659384304107361 PySem.W.Fast.tw14364793385576792824 p w m0 ann (nat_lit 2) (SharedT.abs (⟨T1 w.params,nat_lit 606,lf0,⟨[]⟩,dr1,nat_lit 1011,os⟩:SharedT)) (Thread.mk (W.doneF Flow.next) cE ⟨505,0,520,124⟩ B))=λos=>some (⟨H1 w.params,⟨[]⟩,dr1,nat_lit 1011,os⟩:Shared):=by kernel_rfl
theorem fin(w:World)(os:OsState):topRun treeTable p w m0 ann (nat_lit 2) (SharedT.abs (⟨T1 w.params,nat_lit 606,lf0,⟨[]⟩,dr1,nat_lit 1011,os⟩:SharedT)) (Thread.mk (doneF Flow.next) cE ⟨505,0,520,124⟩ B)=some (⟨H1 w.params,⟨[]⟩,dr1,nat_lit 1011,os⟩:Shared):=by
  rw [PySem.W.Fast.te14082659384304107361,cC];exact congrFun (fin' w) os
def as:List Addr:=[2,3,15,17,18,20,21,22,29,30,31,32,35,42,43,44,47,54,55,56,59,66,67,68,71,78,79,80,83,90,91,92,95,96,98,99,101,102,103,105,106,108,109,110,112,113,115,116,117,119,120,122,123,124,126,127,129,130,131,132,134,135,137,138,139,140,142,143,145,146,147,149,150,152,153,154,156,157,159,160,161,163,164,166,167,168,170,171,173,174,175,177,178,180,181,182,184,185,187,188,189,191,192,194,195,196,198,199,201,202,203,205,206,208,209,210,212,213,215,216,217,219,220,222,223,224,227,228,229,231,232,234,235,236,238,239,241,242,243,245,246,248,249,250,253,254,255,256,257,258,260,261,263,264,265,267,268,270,271,272,274,275,277,278,279,281,282,284,285,286,288,289,291,292,293,295,296,298,299,300,302,303,305,306,314,315,318,319,320,323,324,325,327,328,330,331,332,335,336,337,339,340,342,343,344,347,348,349,352,353,354,356,357,359,360,361,362,363,364,365,368,370,371,373,374,375,376,378,379,381,382,383,385,386,388,389,390,393,394,395,398,399,400,403,404,405,407,408,410,411,412,415,416,417,418,419,420,421,422,423,424,426,427,429,430,431,433,434,436,437,438,440,441,443,444,445,447,448,450,451,452,454,455,457,458,459,461,462,464,465,466,469,470,471,473,474,476,477,485,487,488,490,491,492,494,495,497,498,499,501,502,504,505,506,508,509,511,512,513,515,516,518,519,520,522,523,525,526,527,529,530,532,533,534,536,537,539,540,541,544,545,546,548,549,551,552,553,556,557,558,560,561,563,564,565,567,568,570,571,572,575,576,577,580,581,582,584,585,587,588,589,592,593,594,597,598,599,601,602,604,605]
def K(P:Params):Frag:=[(2,boot_o_2 P),(3,o4 P),(15,o0),(17,o6),(18,o0),(20,o8),(21,o9),(22,o10),(29,o0),(30,o15 P),(31,o16),(32,o17),(35,o20),(42,o0),(43,o24 P),(44,o25),(47,o20),(54,o0),(55,o31 P),(56,o32),(59,o20),(66,o0),(67,o38 P),(68,o39),(71,o20),(78,o0),(79,o45 P),(80,o46),(83,o20),(90,o0),(91,o52 P),(92,o53),(95,o56),(96,o0),(98,o57),(99,o0),(101,o59),(102,o60),(103,o0),(105,o61),(106,o0),(108,o63),(109,o64),(110,o0),(112,o65),(113,o0),(115,o67),(116,o68),(117,o0),(119,o69),(120,o0),(122,o71),(123,o72),(124,o0),(126,o73),(127,o0),(129,o75),(130,o76),(131,o77),(132,o0),(134,o78),(135,o0),(137,o80),(138,o81),(139,o82),(140,o0),(142,o83),(143,o0),(145,o85),(146,o86),(147,o0),(149,o87),(150,o0),(152,o89),(153,o90),(154,o0),(156,o91),(157,o0),(159,o93),(160,o94),(161,o0),(163,o95),(164,o0),(166,o97),(167,o98),(168,o0),(170,o99),(171,o0),(173,o101),(174,o102),(175,o0),(177,o103),(178,o0),(180,o105),(181,o106),(182,o0),(184,o107),(185,o0),(187,o109),(188,o110),(189,o0),(191,o111),(192,o0),(194,o113),(195,o114),(196,o0),(198,o115),(199,o0),(201,o117),(202,o118),(203,o0),(205,o119),(206,o0),(208,o121),(209,o122),(210,o0),(212,o123),(213,o0),(215,o125),(216,o126),(217,o0),(219,o127),(220,o0),(222,o129),(223,o130),(224,o0),(227,o132),(228,o133),(229,o0),(231,o134),(232,o0),(234,o136),(235,o137),(236,o0),(238,o138),(239,o0),(241,o140),(242,o141),(243,o0),(245,o142),(246,o0),(248,o144),(249,o145),(250,o0),(253,o147),(254,o148),(255,o149),(256,o150),(257,o151),(258,o0),(260,o152),(261,o0),(263,o154),(264,o155),(265,o0),(267,o156),(268,o0),(270,o158),(271,o159),(272,o0),(274,o160),(275,o0),(277,o162),(278,o163),(279,o0),(281,o164),(282,o0),(284,o166),(285,o167),(286,o0),(288,o168),(289,o0),(291,o170),(292,o171),(293,o0),(295,o172),(296,o0),(298,o174),(299,o175),(300,o0),(302,o176),(303,o0),(305,o178),(306,o179),(314,o184),(315,o0),(318,o186),(319,o187),(320,o0),(323,o189),(324,o190),(325,o0),(327,o191),(328,o0),(330,o193),(331,o194),(332,o0),(335,o196),(336,o197),(337,o0),(339,o198),(340,o0),(342,o200),(343,o201),(344,o0),(347,o203),(348,o204),(349,o0),(352,o206),(353,o207),(354,o0),(356,o208),(357,o0),(359,o210),(360,o211),(361,o212),(362,o213 P),(363,o214),(364,o215),(365,o216),(368,o0),(370,o219),(371,o0),(373,o221),(374,o222),(375,o184),(376,o0),(378,o223),(379,o0),(381,o225),(382,o226),(383,o0),(385,o227),(386,o0),(388,o229),(389,o230),(390,o0),(393,o232),(394,o233),(395,o0),(398,o235),(399,o236),(400,o0),(403,o238),(404,o239),(405,o0),(407,o240),(408,o0),(410,o242),(411,o243),(412,o0),(415,o245),(416,o246),(417,o247),(418,o248),(419,o249),(420,o250),(421,o251),(422,o252),(423,o253),(424,o0),(426,o254),(427,o0),(429,o256),(430,o257),(431,o0),(433,o258),(434,o0),(436,o260),(437,o261),(438,o0),(440,o262),(441,o0),(443,o264),(444,o265),(445,o0),(447,o266),(448,o0),(450,o268),(451,o269),(452,o0),(454,o270),(455,o0),(457,o272),(458,o273),(459,o0),(461,o274),(462,o0),(464,o276),(465,o277),(466,o0),(469,o279),(470,o280),(471,o0),(473,o281),(474,o0),(476,o283),(477,o284),(485,o0),(487,o289),(488,o0),(490,o291),(491,o292),(492,o0),(494,o293),(495,o0),(497,o295),(498,o296),(499,o0),(501,o297),(502,o0),(504,o299),(505,o300),(506,o0),(508,o301),(509,o0),(511,o303),(512,o304),(513,o0),(515,o305),(516,o0),(518,o307),(519,o308),(520,o0),(522,o309),(523,o0),(525,o311),(526,o312),(527,o0),(529,o313),(530,o0),(532,o315),(533,o316),(534,o0),(536,o317),(537,o0),(539,o319),(540,o320),(541,o0),(544,o322),(545,o323),(546,o0),(548,o324),(549,o0),(551,o326),(552,o327),(553,o0),(556,o329),(557,o330),(558,o0),(560,o331),(561,o0),(563,o333),(564,o334),(565,o0),(567,o335),(568,o0),(570,o337),(571,o338),(572,o0),(575,o340),(576,o341),(577,o0),(580,o343),(581,o344),(582,o0),(584,o345),(585,o0),(587,o347),(588,o348),(589,o0),(592,o350),(593,o351),(594,o0),(597,o353),(598,o354),(599,o0),(601,o355),(602,o0),(604,o357),(605,o358)]
theorem asK(P:Params):as=(K P).map (·.1):=by kernel_rfl
theorem at_{w:World}{n N:Nat}{s s' r:Shared}{i k:Nat}{pos p':Pos}(h:segRun treeTable p w m0 ann 1 n s (piecesOf ((b.drop i).take k) env cE pos B)=some (.next,s',cE,p'))(g:topRun treeTable p w m0 ann N s' (restOf (b.drop (i+k)) env cE p' B)=some r):topRun treeTable p w m0 ann (n+N) s (restOf (b.drop i) env cE pos B)=some r:=by
  have z:=piece_app h g
  rwa [<-List.drop_drop,dB] at z
theorem bend:b.drop 92=[]:=by kernel_rfl
theorem run(w:World)(os:OsState):topRun treeTable p w m0 ann (12+(1+(3929+2))) (⟨boot_heap w.params,⟨[]⟩,boot_drawn,boot_toks,os⟩:Shared) (topStub p)=some (⟨H1 w.params,⟨[]⟩,dr1,nat_lit 1011,os⟩:Shared):=go_top (pre w os) (piece_block (blk w os) (show topRun treeTable p w m0 ann _ _ (restOf (b.drop 0) env cE _ B)=_ from (at_ (i:=0) (k:=92) (pc0 w os) (by rw [show b.drop 92=[] from bend]; exact piece_nil (fin w os)))))
theorem size (w:World):((boot_heap w.params).isNs mainGlobals && (⟨[]⟩:Array GenState).size==0,(boot_heap w.params).objs.size,(boot_heap w.params).nsMap mainGlobals "__annotations__")=(true,m0,ann):=by kernel_rfl
def qv:Program:=view p [91]
def loose:List Str:=[so "_wall",so "YardError",so "NoLength",so "NoDeed",so "NoName",so "Grain",so "Unfit",so "NOUGHT",so "GREAT_BITS",so "HEAD_BITS",so "is_whole",so "common_divisor",so "far_rests",so "sure_steps",so "with_sign_of",so "length",so "fraction",so "parts",so "added",so "taken",so "timed",so "is_above_nought",so "under",so "first_base",so "next_base",so "crossed",so "counts",so "common_bottom",so "serving",so "times_over",so "normal_plan",so "gathering",so "is_length",so "CUTS",so "GLUINGS",so "SHIFTS",so "TURN",so "is_deed",so "names_taken",so "count_put",so "turned",so "cut_across",so "glued_beside",so "stacked",so "Yard",so "yard_behind",so "walked",so "undoing",so "places_of",so "back",so "names_behind",so "with_names",so "followed",so "EMPTY",so "plus",so "times",so "table",so "board_table",so "together",so "first_unlike",so "like",so "_law_cell",so "_law_whole",so "_law_great",so "_law_digits",so "_law_divisor",so "_law_lowest",so "_law_sign",so "_law_plus",so "_law_share",so "_law_below",so "_law_root",so "_law_side",so "_law_heap",so "_law_new",so "_law_at",so "_law_deed",so "_law_done",so "_law_begin",so "_law_remade",so "_law_led"]
def Xt(s:Shared):Bool:=xlAt qv [] s && recOk [] s
def Yf(s:Shared):List (Option Obj):=as.map s.heap.get?
def Ya(w:World):List (Option Obj):=(K w.params).map λp=>some p.2
theorem Ju(w:World):(λos:OsState=>(staticsOk (importedModules p.main.body) (boot_heap w.params) (H1 w.params) && namesBound p (H1 w.params) && gensDone (⟨H1 w.params,⟨[]⟩,dr1,nat_lit 1011,os⟩:Shared) && laidKept (boot_heap w.params) (H1 w.params)))=λ_=>true:=by kernel_rfl
theorem J7(w:World):(λos:OsState=>openSeen qv loose (importedModules p.main.body) Xt true (⟨H1 w.params,⟨[]⟩,dr1,nat_lit 1011,os⟩:Shared))=λ_=>openGood qv loose:=by kernel_rfl
theorem Jz(w:World):(λos:OsState=>Yf (⟨H1 w.params,⟨[]⟩,dr1,nat_lit 1011,os⟩:Shared))=λ_=>Ya w:=by kernel_rfl
theorem left:LeftO p qv loose Xt Yf Ya 7982:=by
  refine LeftO.of_pieces (H₀:=boot_heap) (H₁:=H1) (gs₀:=⟨[]⟩) (gs₁:=⟨[]⟩) (d₀:=boot_drawn) (d₁:=dr1) (k₀:=boot_toks) (k₁:=nat_lit 1011) (m₀:=m0) (ann:=ann) (M:=(12+(1+(3929+2)))) (boot_open (by kernel_rfl) (by decide) (λs=>by kernel_rfl)) size run (by decide) (λw=>funext λos=>?_);exact looks_pair (congrFun (Ju w) os) (looks_pair (congrFun (J7 w) os) (congrFun (Jz w) os))
end Hd
end
noncomputable section
variable {x:Str}
namespace Hd
open PySem.W PySem.Calls
abbrev pm0:Value:=(.str "boardglue.lengths" 294)
abbrev pm1:Value:=(.str "boardglue.bases" 430)
abbrev pm2:Value:=(.str "boardglue.normal" 485)
abbrev pm3:Value:=(.str "boardglue.yard" 533)
abbrev pm4:Value:=(.str "boardglue.plans" 680)
abbrev pm5:Value:=(.str "boardglue.likes" 804)
abbrev pm6:Value:=(.str "law_boardglue_k58_whole_leading_on" 822)
abbrev pm7:Value:=(.str "boardglue.tables" 746)
abbrev pm8:Value:=(.str "boardglue.boards" 525)
def cs:Cs:=⟨31,44,56,68,80,92,363⟩
abbrev TT(w:World)(mg:Str->Option Value)(x:Str)(st:Stmt):Prop:=L2.Top (K w.params) mg x st
theorem u1{α:Type}{P:List α->Prop}(h:∀ a0,P [a0]):∀ us:List α,us.length=1->P us
  | [a0],_=>h a0
theorem u2{α:Type}{P:List α->Prop}(h:∀ a0 a1,P [a0,a1]):∀ us:List α,us.length=2->P us
  | [a0,a1],_=>h a0 a1
theorem u3{α:Type}{P:List α->Prop}(h:∀ a0 a1 a2,P [a0,a1,a2]):∀ us:List α,us.length=3->P us
  | [a0,a1,a2],_=>h a0 a1 a2
theorem u4{α:Type}{P:List α->Prop}(h:∀ a0 a1 a2 a3,P [a0,a1,a2,a3]):∀ us:List α,us.length=4->P us
  | [a0,a1,a2,a3],_=>h a0 a1 a2 a3
theorem u6{α:Type}{P:List α->Prop}(h:∀ a0 a1 a2 a3 a4 a5,P [a0,a1,a2,a3,a4,a5]):∀ us:List α,us.length=6->P us
  | [a0,a1,a2,a3,a4,a5],_=>h a0 a1 a2 a3 a4 a5
theorem ow{w:World}{mg:Str->Option Value}{k:Nat}{st:Stmt}{ps:List Str}{sp:L2.Sp}(base:Heap)(T:L2.Top (K w.params) mg x st)(h:∀ f fd,L2.Fun (K w.params) x x st f fd->L2.FnOk p w (K w.params) mg base L2.CX0 k f fd ps sp)(hb:∀ (kV doc pm:Value) (an:Option Addr) (cdv ct:Value) (us:List Value),us.length=ps.length->bindArgs (fnOf x x (L2.defArgs st) (L2.defBody st) (L2.defScope st) .none kV doc pm an cdv ct) ⟨us,[]⟩=pure (ps.zip us)):L2.Own p w (K w.params) mg base k x ps [] sp:=T.own hb h
section
variable {w:World}{mg:Str->Option Value}{h:Heap}(KX:(K w.params).In h)(G:h.Ns mainGlobals mg)
include KX G
theorem tp{st:Stmt}(f cd:Addr)(pm:Value)(a:nsIn (K w.params) mainGlobals x=some (some (.ref f)):=by kernel_rfl)(l:(K w.params).lookup f=some ⟨.type "function",none,.func (fnOf x x (L2.defArgs st) (L2.defBody st) (L2.defScope st) .none .none .none pm none (.ref cd) .none),#[]⟩:=by kernel_rfl)(c:codeIn (K w.params) (.ref cd) x=true:=by kernel_rfl)(k:keepIn (K w.params) (.ref f)=true:=by kernel_rfl):L2.Top (K w.params) mg x st:=L2.top_mk KX G a l c k
theorem tm{C:Addr}{m q:Str}{st:Stmt}(f cd:Addr)(pm:Value)(l:(K w.params).lookup f=some ⟨.type "function",none,.func (fnOf m q (L2.defArgs st) (L2.defBody st) (L2.defScope st) .none .none .none pm none (.ref cd) .none),#[]⟩:=by kernel_rfl)(c:codeIn (K w.params) (.ref cd) q=true:=by kernel_rfl)(k:keepIn (K w.params) (.ref f)=true:=by kernel_rfl)(a:findIn (K w.params) (.ref C) m=some (some (.ref f)):=by kernel_rfl)(n:isFn (K w.params) (.ref f)=true:=by kernel_rfl):L2.TopM (K w.params) C m q st:=L2.topM_mk l c k a n
theorem nn(e:nsIn (K w.params) mainGlobals x=some none:=by kernel_rfl):mg x=none:=mg_none_of KX G e
theorem bl :Bl mg:=⟨nn KX G,nn KX G,nn KX G,nn KX G,nn KX G,nn KX G,nn KX G,nn KX G,nn KX G,nn KX G,nn KX G,nn KX G,nn KX G,nn KX G,nn KX G,nn KX G,nn KX G⟩
theorem T2:TT w mg "is_whole" S0:=tp KX G 102 101 pm0
theorem T3:TT w mg "common_divisor" S1:=tp KX G 109 108 pm0
theorem T4:TT w mg "with_sign_of" S2:=tp KX G 130 129 pm0
theorem T5:TT w mg "is_above_nought" S9:=tp KX G 181 180 pm0
theorem T6:TT w mg "crossed" S13:=tp KX G 209 208 pm1
theorem T7:TT w mg "gathering" S19:=tp KX G 249 248 pm2
theorem T8:TT w mg "names_taken" S22:=tp KX G 271 270 pm3
theorem T9:TT w mg "count_put" S23:=tp KX G 278 277 pm3
theorem T10:TT w mg "turned" S24:=tp KX G 285 284 pm3
theorem T11:TT w mg "places_of" S31:=tp KX G 394 393 pm4
theorem T12:TT w mg "with_names" S34:=tp KX G 411 410 pm4
theorem T13:TT w mg "first_unlike" S41:=tp KX G 465 464 pm5
theorem T14:TT w mg "_law_cell" S43:=tp KX G 477 476 pm6
theorem T15:TT w mg "_law_great" S44:=tp KX G 491 490 pm6
theorem T16:TT w mg "_law_divisor" S46:=tp KX G 505 504 pm6
theorem T17:TT w mg "_law_sign" S48:=tp KX G 519 518 pm6
theorem T18:TT w mg "_law_begin" S59:=tp KX G 588 587 pm6
theorem T19 :L2.TopIn (K w.params) mg 363 "Yard" "Yard.__init__" S63 [(.bool false)]:=L2.topIn_mk (f:=319) (T:=314) (its:=[(.bool false)]) (n:=0) (to:=o184) (oc:=(.type "function")) (od:=none) (osl:=#[]) (kV:=.none) (doc:=.none) (pm:=(.str "boardglue.yard" 533)) (an:=none) (cdv:=(.ref 318)) (ct:=.none) KX G (by kernel_rfl) (by kernel_rfl) (by kernel_rfl) (by kernel_rfl) rfl (by kernel_rfl) (by kernel_rfl) (by kernel_rfl) (by kernel_rfl) (by kernel_rfl)
theorem T20:L2.TopM (K w.params) 363 "board_ever" "Yard.board_ever" S67:=tm KX G 343 342 pm3
theorem T21:L2.TopM (K w.params) 363 "boards" "Yard.boards" S68:=tm KX G 348 347 pm3
theorem T22:L2.TopM (K w.params) 363 "heap" "Yard.heap" S69:=tm KX G 353 352 pm3
theorem T23 :L2.TopD (K w.params) mg "length" S3 [(.int (0) 352),(.int (1) 353)]:=L2.topD_mk (f:=138) (T:=131) (its:=[(.int (0) 352),(.int (1) 353)]) (n:=0) (to:=o77) (oc:=(.type "function")) (od:=none) (osl:=#[]) (kV:=.none) (doc:=.none) (pm:=(.str "boardglue.lengths" 294)) (an:=none) (cdv:=(.ref 137)) (ct:=.none) KX G (by kernel_rfl) (by kernel_rfl) (by kernel_rfl) (by kernel_rfl) (by kernel_rfl) rfl
theorem T24 :L2.TopD (K w.params) mg "fraction" S4 [(.int (1) 364)]:=L2.topD_mk (f:=146) (T:=139) (its:=[(.int (1) 364)]) (n:=0) (to:=o82) (oc:=(.type "function")) (od:=none) (osl:=#[]) (kV:=.none) (doc:=.none) (pm:=(.str "boardglue.lengths" 294)) (an:=none) (cdv:=(.ref 145)) (ct:=.none) KX G (by kernel_rfl) (by kernel_rfl) (by kernel_rfl) (by kernel_rfl) (by kernel_rfl) rfl
theorem T25:TT w mg "added" S6:=tp KX G 160 159 pm0
theorem T26:TT w mg "under" S10:=tp KX G 188 187 pm0
theorem T27:TT w mg "counts" S14:=tp KX G 216 215 pm1
theorem T28:TT w mg "common_bottom" S15:=tp KX G 223 222 pm1
theorem T29:TT w mg "undoing" S30:=tp KX G 389 388 pm4
theorem T30:TT w mg "names_behind" S33:=tp KX G 404 403 pm4
theorem T31:TT w mg "plus" S36:=tp KX G 430 429 pm7
theorem T32:TT w mg "times" S37:=tp KX G 437 436 pm7
theorem T33:TT w mg "_law_digits" S45:=tp KX G 498 497 pm6
theorem T34:TT w mg "_law_lowest" S47:=tp KX G 512 511 pm6
theorem T35:TT w mg "_law_root" S52:=tp KX G 545 544 pm6
theorem T36:L2.TopM (K w.params) 363 "check_names" "Yard.check_names" S65:=tm KX G 331 330 pm3
theorem T37:TT w mg "parts" S5:=tp KX G 153 152 pm0
theorem T38:TT w mg "taken" S7:=tp KX G 167 166 pm0
theorem T39:TT w mg "timed" S8:=tp KX G 174 173 pm0
theorem T40:TT w mg "first_base" S11:=tp KX G 195 194 pm1
theorem T41:TT w mg "is_length" S20:=tp KX G 254 253 pm8
theorem T42:TT w mg "glued_beside" S26:=tp KX G 299 298 pm3
theorem T43:TT w mg "stacked" S27:=tp KX G 306 305 pm3
theorem T44:TT w mg "followed" S35:=tp KX G 416 415 pm4
theorem T45:TT w mg "together" S40:=tp KX G 458 457 pm7
theorem T46:TT w mg "_law_plus" S49:=tp KX G 526 525 pm6
theorem T47:TT w mg "_law_share" S50:=tp KX G 533 532 pm6
theorem T48:TT w mg "_law_side" S53:=tp KX G 552 551 pm6
theorem T49:TT w mg "next_base" S12:=tp KX G 202 201 pm1
theorem T50:TT w mg "times_over" S17:=tp KX G 235 234 pm2
theorem T51:TT w mg "is_deed" S21:=tp KX G 264 263 pm3
theorem T52:TT w mg "cut_across" S25:=tp KX G 292 291 pm3
theorem T53:TT w mg "board_table" S39:=tp KX G 451 450 pm7
theorem T54:TT w mg "_law_below" S51:=tp KX G 540 539 pm6
theorem T55:TT w mg "_law_heap" S54:=tp KX G 557 556 pm6
theorem T56:TT w mg "_law_new" S55:=tp KX G 564 563 pm6
theorem T57:TT w mg "serving" S16:=tp KX G 228 227 pm1
theorem T58:TT w mg "normal_plan" S18:=tp KX G 242 241 pm2
theorem T59:TT w mg "table" S38:=tp KX G 444 443 pm7
theorem T60:TT w mg "_law_at" S56:=tp KX G 571 570 pm6
theorem T61:TT w mg "_law_done" S58:=tp KX G 581 580 pm6
theorem T62:L2.TopM (K w.params) 363 "put_by" "Yard.put_by" S66:=tm KX G 336 335 pm3
theorem T63:TT w mg "_law_deed" S57:=tp KX G 576 575 pm6
theorem T64:L2.TopM (K w.params) 363 "do" "Yard.do" S64:=tm KX G 324 323 pm3
theorem T65:TT w mg "yard_behind" S28:=tp KX G 374 373 pm4
theorem T66:TT w mg "_law_remade" S60:=tp KX G 593 592 pm6
theorem T67 :L2.TopD (K w.params) mg "walked" S29 [(.bool false)]:=L2.topD_mk (f:=382) (T:=375) (its:=[(.bool false)]) (n:=0) (to:=o184) (oc:=(.type "function")) (od:=none) (osl:=#[]) (kV:=.none) (doc:=.none) (pm:=(.str "boardglue.plans" 680)) (an:=none) (cdv:=(.ref 381)) (ct:=.none) KX G (by kernel_rfl) (by kernel_rfl) (by kernel_rfl) (by kernel_rfl) (by kernel_rfl) rfl
theorem T68:TT w mg "back" S32:=tp KX G 399 398 pm4
theorem T69:TT w mg "like" S42:=tp KX G 470 469 pm5
theorem T70:TT w mg "_law_led" S61:=tp KX G 598 597 pm6
theorem T71:TT w mg "law" S62:=tp KX G 605 604 pm6
theorem g_NOUGHT :L2.TopT (K w.params) mg "NOUGHT" [.int 0,.int 0,.int 1]:=L2.topT_mk (a:=95) (o:=o56) (its:=#[(.int (0) 296),(.int (0) 297),(.int (1) 298)]) (n:=0) KX G (by kernel_rfl) (by kernel_rfl) rfl rfl (by decide) (.cons ⟨_,rfl⟩ (.cons ⟨_,rfl⟩ (.cons ⟨_,rfl⟩ .nil)))
theorem g_GREAT_BITS :L2.TopI mg "GREAT_BITS" (8192):=L2.topI_mk (t:=300) KX G (by kernel_rfl)
theorem g_CUTS :L2.TopT (K w.params) mg "CUTS" [.str "across",.str "along"]:=L2.topT_mk (a:=255) (o:=o149) (its:=#[(.str "across" 535),(.str "along" 536)]) (n:=0) KX G (by kernel_rfl) (by kernel_rfl) rfl rfl (by decide) (.cons ⟨_,rfl⟩ (.cons ⟨_,rfl⟩ .nil))
theorem g_GLUINGS :L2.TopT (K w.params) mg "GLUINGS" [.str "beside",.str "atop"]:=L2.topT_mk (a:=256) (o:=o150) (its:=#[(.str "beside" 538),(.str "atop" 539)]) (n:=0) KX G (by kernel_rfl) (by kernel_rfl) rfl rfl (by decide) (.cons ⟨_,rfl⟩ (.cons ⟨_,rfl⟩ .nil))
theorem g_SHIFTS :L2.TopT (K w.params) mg "SHIFTS" [.str "stack",.str "spread"]:=L2.topT_mk (a:=257) (o:=o151) (its:=#[(.str "stack" 541),(.str "spread" 542)]) (n:=0) KX G (by kernel_rfl) (by kernel_rfl) rfl rfl (by decide) (.cons ⟨_,rfl⟩ (.cons ⟨_,rfl⟩ .nil))
theorem g_TURN :L2.TopS mg "TURN" (Str.ofString "turn"):=L2.topS_mk (t:=544) KX G (by kernel_rfl)
theorem g_EMPTY :L2.TopE (K w.params) mg "EMPTY":=L2.topE_mk (a:=423) (r0:=419) (r1:=422) (f0:=417) (f1:=418) (f2:=420) (f3:=421) KX G (by kernel_rfl) (L2.tupIn_mk (o:=o253) (its:=#[(.ref 419),(.ref 422)]) (n:=0) (by kernel_rfl) rfl rfl (by decide) (.cons rfl (.cons rfl .nil))) (L2.tupIn_mk (o:=o249) (its:=#[(.ref 417),(.ref 418)]) (n:=0) (by kernel_rfl) rfl rfl (by decide) (.cons rfl (.cons rfl .nil))) (L2.tupIn_mk (o:=o252) (its:=#[(.ref 420),(.ref 421)]) (n:=0) (by kernel_rfl) rfl rfl (by decide) (.cons rfl (.cons rfl .nil))) (L2.tupIn_mk (o:=o247) (its:=#[(.int (0) 748),(.int (1) 749)]) (n:=0) (by kernel_rfl) rfl rfl (by decide) (.cons ⟨_,rfl⟩ (.cons ⟨_,rfl⟩ .nil))) (L2.tupIn_mk (o:=o248) (its:=#[(.int (0) 750),(.int (1) 751)]) (n:=0) (by kernel_rfl) rfl rfl (by decide) (.cons ⟨_,rfl⟩ (.cons ⟨_,rfl⟩ .nil))) (L2.tupIn_mk (o:=o250) (its:=#[(.int (0) 752),(.int (1) 753)]) (n:=0) (by kernel_rfl) rfl rfl (by decide) (.cons ⟨_,rfl⟩ (.cons ⟨_,rfl⟩ .nil))) (L2.tupIn_mk (o:=o251) (its:=#[(.int (0) 754),(.int (1) 755)]) (n:=0) (by kernel_rfl) rfl rfl (by decide) (.cons ⟨_,rfl⟩ (.cons ⟨_,rfl⟩ .nil)))
theorem xs :Xs (K w.params) mg cs:=⟨(mg_of KX G (by kernel_rfl)),(mg_of KX G (by kernel_rfl)),(mg_of KX G (by kernel_rfl)),(mg_of KX G (by kernel_rfl)),(mg_of KX G (by kernel_rfl)),(mg_of KX G (by kernel_rfl)),(mg_of KX G (by kernel_rfl)),⟨(by kernel_rfl),(by kernel_rfl),(by kernel_rfl),(by kernel_rfl)⟩,(by unfold L2.NoAttr; kernel_rfl),(by unfold L2.NoAttr; kernel_rfl),(by unfold L2.NoAttr; kernel_rfl),(by unfold L2.NoAttr; kernel_rfl),(by unfold L2.NoAttr; kernel_rfl)⟩
end
end Hd
end
def PySem.W.Fast.tw15066782139229554932:PySem.Program:=PySem.Challenge.pw_boardglue_k58_whole_leading_on
theorem PySem.W.Fast.te15066782139229554932:PySem.Challenge.pw_boardglue_k58_whole_leading_on=PySem.W.Fast.tw15066782139229554932:=rfl
open PySem.W
set_option maxRecDepth 100000 in
set_option maxHeartbeats 0 in
theorem PySem.Challenge.cw_boardglue_k58_whole_leading_on_holds : PySem.Challenge.rw_boardglue_k58_whole_leading_on.Holds := by
  w_on; o_law;rename_i said;refine holds_open (r:=PySem.Challenge.rw_boardglue_k58_whole_leading_on.row) (q:=Hd.qv) (loose:=Hd.loose) (Xt:=Hd.Xt) (XP:=XL Hd.qv []) (Yf:=Hd.Yf) (Ya:=Hd.Ya) (YP:=InK Hd.K) (N:=7982) Hd.left (InK.of Hd.asK) InK.keeps (λs e=>xl_of s (Bool.and_eq_true_iff.mp e).1) XL.keeps (by rfl) (by rfl) (by rfl) (λs e=>recFacts_of (Bool.and_eq_true_iff.mp e).2) (by rfl) said (by decide +kernel) ⟨rfl,rfl,rfl,rfl,rfl,by decide +kernel⟩ ?hw ?hc
  case hw=>w_witness2
  refine L2.walk_B (l:=PySem.Challenge.rw_boardglue_k58_whole_leading_on) (k:=11) (x:="_law_script") rfl rfl ⟨rfl,by decide,by decide⟩ (λw h Y=>Y) ?F
  case F =>
    intro w mg fa h KX G hmg;have B:Bl mg:=Hd.bl KX G;have T_Yard___init__:=Hd.T19 KX G;have T_Yard_board_ever:=Hd.T20 KX G;have T_Yard_boards:=Hd.T21 KX G;have T_Yard_heap:=Hd.T22 KX G;have T_length:=Hd.T23 KX G;have T_fraction:=Hd.T24 KX G;have T_Yard_check_names:=Hd.T36 KX G;have T_Yard_put_by:=Hd.T62 KX G;have T_Yard_do:=Hd.T64 KX G;have T_walked:=Hd.T67 KX G;have T_law:=Hd.T71 KX G;have g_NOUGHT:=Hd.g_NOUGHT KX G;have g_GREAT_BITS:=Hd.g_GREAT_BITS KX G;have g_CUTS:=Hd.g_CUTS KX G;have g_GLUINGS:=Hd.g_GLUINGS KX G;have g_SHIFTS:=Hd.g_SHIFTS KX G;have g_TURN:=Hd.g_TURN KX G;have g_EMPTY:=Hd.g_EMPTY KX G;have X:=Hd.xs KX G;refine L2.law_mk T_law hmg (λ_ _ _ _ _ _ _=>rfl) λbase f fd F=>?_;have o0x:=Hd.ow base (Hd.T2 KX G) (λf fd F=>K0 F B ) (λ_ _ _ _ _ _=>Hd.u1 λ_=>rfl);have o1x:=Hd.ow base (Hd.T3 KX G) (λf fd F=>K1 F B g_GREAT_BITS) (λ_ _ _ _ _ _=>Hd.u2 λ_ _=>rfl);have o2x:=Hd.ow base (Hd.T4 KX G) (λf fd F=>K2 F B ) (λ_ _ _ _ _ _=>Hd.u2 λ_ _=>rfl);have o9x:=Hd.ow base (Hd.T5 KX G) (λf fd F=>K3 F B ) (λ_ _ _ _ _ _=>Hd.u3 λ_ _ _=>rfl);have o13x:=Hd.ow base (Hd.T6 KX G) (λf fd F=>K4 F B ) (λ_ _ _ _ _ _=>Hd.u2 λ_ _=>rfl);have o19x:=Hd.ow base (Hd.T7 KX G) (λf fd F=>K5 F B ) (λ_ _ _ _ _ _=>Hd.u2 λ_ _=>rfl);have o22x:=Hd.ow base (Hd.T8 KX G) (λf fd F=>K6 F B g_GLUINGS) (λ_ _ _ _ _ _=>Hd.u1 λ_=>rfl);have o23x:=Hd.ow base (Hd.T9 KX G) (λf fd F=>K7 F B g_CUTS) (λ_ _ _ _ _ _=>Hd.u1 λ_=>rfl);have o24x:=Hd.ow base (Hd.T10 KX G) (λf fd F=>K8 F B ) (λ_ _ _ _ _ _=>Hd.u1 λ_=>rfl);have o31x:=Hd.ow base (Hd.T11 KX G) (λf fd F=>K9 F B ) (λ_ _ _ _ _ _=>Hd.u1 λ_=>rfl);have o34x:=Hd.ow base (Hd.T12 KX G) (λf fd F=>K10 F B g_GLUINGS) (λ_ _ _ _ _ _=>Hd.u2 λ_ _=>rfl);have o41x:=Hd.ow base (Hd.T13 KX G) (λf fd F=>K11 F B ) (λ_ _ _ _ _ _=>Hd.u2 λ_ _=>rfl);have o43x:=Hd.ow base (Hd.T14 KX G) (λf fd F=>K12 F B ) (λ_ _ _ _ _ _=>Hd.u2 λ_ _=>rfl);have o45x:=Hd.ow base (Hd.T15 KX G) (λf fd F=>K13 F B ) (λ_ _ _ _ _ _=>Hd.u2 λ_ _=>rfl);have o47x:=Hd.ow base (Hd.T16 KX G) (λf fd F=>K14 F B ) (λ_ _ _ _ _ _=>Hd.u2 λ_ _=>rfl);have o49x:=Hd.ow base (Hd.T17 KX G) (λf fd F=>K15 F B ) (λ_ _ _ _ _ _=>Hd.u3 λ_ _ _=>rfl);have o60x:=Hd.ow base (Hd.T18 KX G) (λf fd F=>K16 F B ) (λ_ _ _ _ _ _=>Hd.u1 λ_=>rfl);have o64x:L2.OwnI Hd.p w (Hd.K w.params) mg base L2.CX0 Hd.cs.Yard 1 "Yard" ["self","d","heap","turning"] [] (P18 Hd.cs):=T_Yard___init__.own (ds:=[]) (λT _ _ _ _ _ _ us hl=>by have hl':us.length=4:=(by simpa using hl); match us,hl' with | [_,_,_,_],_=>exact ⟨_,rfl,rfl⟩) .nil (λf fd F=>K17 F B X);have o68x:L2.OwnM Hd.p w (Hd.K w.params) mg base L2.CX0 Hd.cs.Yard 1 "board_ever" ["self","name"] [] (P19 Hd.cs):=T_Yard_board_ever.own X.c_Yard (λ_ _ _ _ _ _=>Hd.u2 λ_ _=>rfl) (λf fd F=>K18 F B X);have o69x:L2.OwnM Hd.p w (Hd.K w.params) mg base L2.CX0 Hd.cs.Yard 1 "boards" ["self"] [] (P20 Hd.cs):=T_Yard_boards.own X.c_Yard (λ_ _ _ _ _ _=>Hd.u1 λ_=>rfl) (λf fd F=>K19 F B X);have o70x:L2.OwnM Hd.p w (Hd.K w.params) mg base L2.CX0 Hd.cs.Yard 1 "heap" ["self"] [] (P21 Hd.cs):=T_Yard_heap.own X.c_Yard (λ_ _ _ _ _ _=>Hd.u1 λ_=>rfl) (λf fd F=>K20 F B X);have o3x:L2.Own Hd.p w (Hd.K w.params) mg base 2 "length" ["a","b","n"] [] P22:=T_length.own (ds:=[]) (λT _ _ _ _ _ _ us hl=>by have hl':us.length=3:=(by simpa using hl); match us,hl' with | [_,_,_],_=>exact ⟨_,rfl,rfl⟩) .nil (λf fd F=>K21 F B o2x o1x o0x);have o4x:L2.Own Hd.p w (Hd.K w.params) mg base 2 "fraction" ["top","bottom"] [] P23:=T_fraction.own (ds:=[]) (λT _ _ _ _ _ _ us hl=>by have hl':us.length=2:=(by simpa using hl); match us,hl' with | [_,_],_=>exact ⟨_,rfl,rfl⟩) .nil (λf fd F=>K22 F B o2x o1x);have o6x:=Hd.ow base (Hd.T25 KX G) (λf fd F=>K23 F B o1x) (λ_ _ _ _ _ _=>Hd.u2 λ_ _=>rfl);have o10x:=Hd.ow base (Hd.T26 KX G) (λf fd F=>K24 F B o9x) (λ_ _ _ _ _ _=>Hd.u3 λ_ _ _=>rfl);have o14x:=Hd.ow base (Hd.T27 KX G) (λf fd F=>K25 F B o13x) (λ_ _ _ _ _ _=>Hd.u3 λ_ _ _=>rfl);have o15x:=Hd.ow base (Hd.T28 KX G) (λf fd F=>K26 F B o1x) (λ_ _ _ _ _ _=>Hd.u1 λ_=>rfl);have o30x:=Hd.ow base (Hd.T29 KX G) (λf fd F=>K27 F B o68x) (λ_ _ _ _ _ _=>Hd.u3 λ_ _ _=>rfl);have o33x:=Hd.ow base (Hd.T30 KX G) (λf fd F=>K28 F B o22x o23x) (λ_ _ _ _ _ _=>Hd.u2 λ_ _=>rfl);have o36x:=Hd.ow base (Hd.T31 KX G) (λf fd F=>K29 F B o1x) (λ_ _ _ _ _ _=>Hd.u2 λ_ _=>rfl);have o37x:=Hd.ow base (Hd.T32 KX G) (λf fd F=>K30 F B o1x) (λ_ _ _ _ _ _=>Hd.u2 λ_ _=>rfl);have o46x:=Hd.ow base (Hd.T33 KX G) (λf fd F=>K31 F B o45x) (λ_ _ _ _ _ _=>Hd.u2 λ_ _=>rfl);have o48x:=Hd.ow base (Hd.T34 KX G) (λf fd F=>K32 F B o47x) (λ_ _ _ _ _ _=>Hd.u3 λ_ _ _=>rfl);have o53x:=Hd.ow base (Hd.T35 KX G) (λf fd F=>K33 F B o45x) (λ_ _ _ _ _ _=>Hd.u2 λ_ _=>rfl);have o66x:L2.OwnM Hd.p w (Hd.K w.params) mg base L2.CX0 Hd.cs.Yard 2 "check_names" ["self","names"] [] (P35 Hd.cs):=T_Yard_check_names.own X.c_Yard (λ_ _ _ _ _ _=>Hd.u2 λ_ _=>rfl) (λf fd F=>K34 F B X o0x);have o5x:=Hd.ow base (Hd.T37 KX G) (λf fd F=>K35 F B o4x) (λ_ _ _ _ _ _=>Hd.u1 λ_=>rfl);have o7x:=Hd.ow base (Hd.T38 KX G) (λf fd F=>K36 F B o6x) (λ_ _ _ _ _ _=>Hd.u2 λ_ _=>rfl);have o8x:=Hd.ow base (Hd.T39 KX G) (λf fd F=>K37 F B o3x) (λ_ _ _ _ _ _=>Hd.u3 λ_ _ _=>rfl);have o11x:=Hd.ow base (Hd.T40 KX G) (λf fd F=>K38 F B o3x) (λ_ _ _ _ _ _=>Hd.u2 λ_ _=>rfl);have o20x:=Hd.ow base (Hd.T41 KX G) (λf fd F=>K39 F B o3x o0x) (λ_ _ _ _ _ _=>Hd.u1 λ_=>rfl);have o26x:=Hd.ow base (Hd.T42 KX G) (λf fd F=>K40 F B o6x) (λ_ _ _ _ _ _=>Hd.u2 λ_ _=>rfl);have o27x:=Hd.ow base (Hd.T43 KX G) (λf fd F=>K41 F B o3x) (λ_ _ _ _ _ _=>Hd.u2 λ_ _=>rfl);have o35x:=Hd.ow base (Hd.T44 KX G) (λf fd F=>K42 F B o33x o34x o23x) (λ_ _ _ _ _ _=>Hd.u3 λ_ _ _=>rfl);have o40x:=Hd.ow base (Hd.T45 KX G) (λf fd F=>K43 F B o36x) (λ_ _ _ _ _ _=>Hd.u2 λ_ _=>rfl);have o50x:=Hd.ow base (Hd.T46 KX G) (λf fd F=>K44 F B o48x) (λ_ _ _ _ _ _=>Hd.u3 λ_ _ _=>rfl);have o51x:=Hd.ow base (Hd.T47 KX G) (λf fd F=>K45 F B o48x) (λ_ _ _ _ _ _=>Hd.u3 λ_ _ _=>rfl);have o54x:=Hd.ow base (Hd.T48 KX G) (λf fd F=>K46 F B o49x o48x o46x) (λ_ _ _ _ _ _=>Hd.u3 λ_ _ _=>rfl);have o12x:=Hd.ow base (Hd.T49 KX G) (λf fd F=>K47 F B o10x o7x) (λ_ _ _ _ _ _=>Hd.u2 λ_ _=>rfl);have o17x:=Hd.ow base (Hd.T50 KX G) (λf fd F=>K48 F B o8x) (λ_ _ _ _ _ _=>Hd.u3 λ_ _ _=>rfl);have o21x:=Hd.ow base (Hd.T51 KX G) (λf fd F=>K49 F B g_CUTS g_SHIFTS g_GLUINGS g_TURN o20x o0x) (λ_ _ _ _ _ _=>Hd.u1 λ_=>rfl);have o25x:=Hd.ow base (Hd.T52 KX G) (λf fd F=>K50 F B g_NOUGHT o10x o7x) (λ_ _ _ _ _ _=>Hd.u3 λ_ _ _=>rfl);have o39x:=Hd.ow base (Hd.T53 KX G) (λf fd F=>K51 F B o5x o37x) (λ_ _ _ _ _ _=>Hd.u1 λ_=>rfl);have o52x:=Hd.ow base (Hd.T54 KX G) (λf fd F=>K52 F B o50x o49x) (λ_ _ _ _ _ _=>Hd.u3 λ_ _ _=>rfl);have o55x:=Hd.ow base (Hd.T55 KX G) (λf fd F=>K53 F B o54x o43x o46x) (λ_ _ _ _ _ _=>Hd.u3 λ_ _ _=>rfl);have o56x:=Hd.ow base (Hd.T56 KX G) (λf fd F=>K54 F B o50x o51x) (λ_ _ _ _ _ _=>Hd.u2 λ_ _=>rfl);have o16x:=Hd.ow base (Hd.T57 KX G) (λf fd F=>K55 F B o11x o15x o12x o3x o14x) (λ_ _ _ _ _ _=>Hd.u2 λ_ _=>rfl);have o18x:=Hd.ow base (Hd.T58 KX G) (λf fd F=>K56 F B o19x o14x o17x) (λ_ _ _ _ _ _=>Hd.u3 λ_ _ _=>rfl);have o38x:=Hd.ow base (Hd.T59 KX G) (λf fd F=>K57 F B g_EMPTY o40x o39x) (λ_ _ _ _ _ _=>Hd.u1 λ_=>rfl);have o57x:=Hd.ow base (Hd.T60 KX G) (λf fd F=>K58 F B o51x o52x) (λ_ _ _ _ _ _=>Hd.u4 λ_ _ _ _=>rfl);have o59x:=Hd.ow base (Hd.T61 KX G) (λf fd F=>K59 F B o56x) (λ_ _ _ _ _ _=>Hd.u3 λ_ _ _=>rfl);have o67x:L2.OwnM Hd.p w (Hd.K w.params) mg base L2.CX0 Hd.cs.Yard 5 "put_by" ["self","deed","boards"] [] (P61 Hd.cs):=T_Yard_put_by.own X.c_Yard (λ_ _ _ _ _ _=>Hd.u3 λ_ _ _=>rfl) (λf fd F=>K60 F B X o25x o24x o26x o27x);have o58x:=Hd.ow base (Hd.T63 KX G) (λf fd F=>K61 F B o46x o57x) (λ_ _ _ _ _ _=>Hd.u4 λ_ _ _ _=>rfl);have o65x:L2.OwnM Hd.p w (Hd.K w.params) mg base L2.CX0 Hd.cs.Yard 6 "do" ["self","deed"] [] (P63 Hd.cs):=T_Yard_do.own X.c_Yard (λ_ _ _ _ _ _=>Hd.u2 λ_ _=>rfl) (λf fd F=>K62 F B X g_TURN o22x o66x o67x o21x);have o28x:=Hd.ow base (Hd.T65 KX G) (λf fd F=>K63 F B X o64x o65x) (λ_ _ _ _ _ _=>Hd.u4 λ_ _ _ _=>rfl);have o61x:=Hd.ow base (Hd.T66 KX G) (λf fd F=>K64 F B o60x o58x o59x o45x o43x) (λ_ _ _ _ _ _=>Hd.u6 λ_ _ _ _ _ _=>rfl);have o29x_3:L2.Own Hd.p w (Hd.K w.params) mg base 8 "walked" ["d","heap","plan","turning"] [.bl false] (P66 Hd.cs):=T_walked.own (ds:=[.bool false]) (λT _ _ _ _ _ _ us hl=>by have hl':us.length=3:=(by simpa using hl); match us,hl' with | [_,_,_],_=>exact ⟨_,rfl,rfl⟩) (.cons rfl .nil) (λf fd F=>K65 F B o70x o28x);have o32x:=Hd.ow base (Hd.T68 KX G) (λf fd F=>K66 F B o28x o69x o22x o31x o23x o30x) (λ_ _ _ _ _ _=>Hd.u3 λ_ _ _=>rfl);have o42x:=Hd.ow base (Hd.T69 KX G) (λf fd F=>K67 F B o41x o16x o32x o35x o38x o18x) (λ_ _ _ _ _ _=>Hd.u3 λ_ _ _=>rfl);have o62x:=Hd.ow base (Hd.T70 KX G) (λf fd F=>K68 F B o42x o29x_3) (λ_ _ _ _ _ _=>Hd.u3 λ_ _ _=>rfl);exact K69 F B o53x o55x o61x o62x o42x o43x o45x
