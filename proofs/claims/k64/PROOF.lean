import PyProof.Rows.All
import Wide.All
import OpenK.AllK
import Wide.FinOn
import Lean
import PyProof.EqAt
import PyProof.EqKinds
import PyProof.TupleCall
import PySem.Challenge.RW_boardglue_k64_whole_cut_and_made_few
abbrev aa:=@List.length_map
abbrev ae:=@List.getElem?_eq_getElem
abbrev af:=@List.getElem?_eq_some_iff
abbrev ag:=@Nat.le_refl
abbrev ah:=@List.map_append
abbrev ai:=@List.length_append
abbrev aj:=@List.getElem?_map
abbrev ak:=@Int.mul_comm
abbrev am:=@Int.mul_assoc
abbrev ao:=@List.mem_singleton
abbrev aq:=@Option.some.inj
abbrev ar:=@Int.mul_ne_zero
abbrev au:=@List.take_length
abbrev av:=@Option.map_eq_some_iff
abbrev aw:=@List.mem_of_getElem?
abbrev ax:=@List.length_cons
abbrev ay:=@Int.eq_of_mul_eq_mul_right
abbrev az:=@List.length_take
abbrev aB:=@List.mem_cons_of_mem
abbrev aC:=@Rat.divInt_eq_divInt_iff
abbrev aE:=@List.mem_append
abbrev aG:=@List.mem_cons_self
abbrev aH:=@Int.dvd_trans
abbrev aI:=@Int.mul_pos
abbrev aJ:=@List.size_toArray
abbrev aK:=@List.length_nil
abbrev aM:=@List.getElem?_append_right
abbrev aN:=@Nat.lt_of_lt_of_le
abbrev aP:=@Bool.false_ne_true
abbrev aQ:=@Nat.ne_of_lt
abbrev aR:=@List.map_cons
abbrev aT:=@List.getElem?_append_left
abbrev aU:=@List.mem_map_of_mem
abbrev aV:=@List.mem_map
abbrev aW:=@List.mem_of_mem_take
abbrev aX:=@Nat.lt_of_le_of_lt
abbrev aY:=@Int.gcd_eq_natAbs_gcd_natAbs
abbrev aZ:=@PySem.F.slot_list_append
abbrev a6:=@PySem.F.type_list_append
abbrev a7:=@List.mem_cons
abbrev a8:=@PySem.F.plainAttrs_list
abbrev bg:=@List.mem_append_right
abbrev br:=@List.take_succ
abbrev bG:=@Int.mul_left_comm
abbrev bH:=@Int.gcd_dvd_left
abbrev bI:=@PySem.boot_len
abbrev bJ:=@Int.emod_nonneg
abbrev bK:=@Int.natAbs_dvd_natAbs
abbrev bL:=@Int.zero_mul
abbrev bM:=@Int.gcd_dvd_right
abbrev bO:=@Nat.le_of_lt
abbrev bQ:=@List.append_assoc
abbrev bS:=@Int.emod_lt_of_pos
abbrev bT:=@List.take_of_length_le
abbrev bU:=@Int.mul_zero
abbrev bW:=@Int.mul_fdiv_cancel_left
abbrev bZ:=@Int.mul_nonpos_of_nonneg_of_nonpos
abbrev b7:=@Int.dvd_mul_left
abbrev b8:=@Int.natAbs_natCast
abbrev b9:=@List.mem_range
abbrev ca:=@Int.eq_of_mul_eq_mul_left
abbrev ce:=@Nat.le_trans
abbrev cg:=@Int.add_zero
abbrev ck:=@Ne.symm
abbrev cq:=@Int.neg_mul_neg
abbrev cz:=@List.length_range
abbrev cB:=@Int.natAbs_mul
abbrev cC:=@Int.ediv_mul_cancel
abbrev cG:=@List.length_pos_iff
abbrev cH:=@Int.mul_one
abbrev cI:=@Nat.zero_le
abbrev cJ:=@List.map_nil
abbrev cK:=@Int.mul_le_mul_of_nonneg_right
abbrev cL:=@Int.dvd_refl
abbrev cM:=@List.pairwise_lt_range
abbrev cN:=@Bool.eq_iff_iff
abbrev cP:=@PySem.W.kia_one
abbrev cQ:=@List.length_drop
abbrev cR:=@List.getElem_mem
abbrev cS:=@List.lookup_cons
abbrev cT:=@List.take_append_of_le_length
abbrev cU:=@PySem.W.Fast.te14364793385576792824
abbrev cV:=@Int.mul_ediv_cancel_left
abbrev cW:=@PyProof.Rows.callWith_type1
abbrev cX:=@Int.gcd_pos_of_ne_zero_left
abbrev cY:=@Int.one_mul
abbrev cZ:=@List.mem_append_left
abbrev c9:=@Int.gcd_comm
abbrev dc:=@Int.zero_add
abbrev de:=@Rat.zero_divInt
abbrev df:=@Rat.num_divInt_den
abbrev dg:=@Bool.and_eq_true
abbrev dh:=@Nat.lt_irrefl
abbrev dj:=@List.mem_range'_1
abbrev dk:=@List.filterMap_cons
abbrev dm:=@PySem.mem_of_lookup
abbrev dn:=@List.getElem?_range
abbrev dq:=@Int.mul_nonpos_of_nonpos_of_nonneg
abbrev du:=@List.getD_eq_getElem?_getD
abbrev dw:=@List.filter_cons
abbrev dy:=@Nat.le_add_right
abbrev dA:=@List.getElem?_eq_none
abbrev dB:=@Nat.eq_of_mul_eq_mul_left
abbrev dC:=@Int.mul_neg_of_pos_of_neg
abbrev dD:=@Int.neg_mul
abbrev dE:=@List.nodup_cons
abbrev dF:=@PyProof.Rows.slot_tuple_getitem
abbrev dG:=@List.foldl_append
abbrev dH:=@Int.mul_le_mul_of_nonneg_left
abbrev dI:=@Int.mul_le_mul
abbrev dJ:=@List.drop_of_length_le
abbrev dL:=@List.append_nil
abbrev dM:=@List.take_append_drop
abbrev dN:=@List.find?_cons
abbrev dO:=@List.idxOf_lt_length_of_mem
abbrev dP:=@Nat.two_pow_pos
abbrev dQ:=@Int.mul_eq_zero
abbrev dR:=@PySem.W.mg_of
abbrev dS:=@List.map_take
abbrev dU:=@Int.dvd_mul_right
abbrev dW:=@List.take_add_one
abbrev d4:=@Int.fdiv_eq_ediv_of_nonneg
abbrev d5:=@List.getElem?_of_mem
abbrev d6:=@Int.mul_pos_of_neg_of_neg
abbrev d7:=@Int.gcd_mul_left
abbrev d8:=@List.all_eq_true
abbrev d9:=@List.getElem_map
abbrev ee:=@Array.length_toList
abbrev ei:=@Int.mul_sub
abbrev em:=@List.getElem?_take_of_lt
abbrev eC:=@Nat.sub_self
abbrev eE:=@Int.mul_nonneg_of_nonpos_of_nonpos
abbrev eI:=@List.mem_filter
abbrev eJ:=@List.any_cons
abbrev eK:=@Option.map_some
abbrev eM:=@Int.dvd_coe_gcd
abbrev eP:=@Int.ofNat.inj
abbrev eQ:=@List.range_succ
abbrev eU:=@Int.add_sub_cancel
abbrev eV:=@Nat.min_eq_left
abbrev eW:=@Nat.add_sub_cancel_left
abbrev eZ:=@List.length_range'
abbrev fe:=@Nat.le_mul_of_pos_right
abbrev fh:=@Nat.le_mul_of_pos_left
abbrev fi:=@Nat.le_succ
abbrev fj:=@Int.not_lt
abbrev fk:=@List.getElem?_inj
abbrev fm:=@List.range_eq_nil
abbrev fq:=@Classical.not_not
abbrev fz:=@Nat.Coprime.dvd_of_dvd_mul_left
abbrev fA:=@List.Nodup.length_le_of_subset
abbrev fC:=@Nat.lt_succ_self
abbrev fD:=@Int.lt_of_not_ge
abbrev fE:=@Nat.min_eq_right
abbrev fF:=@List.mem_of_mem_drop
abbrev fG:=@List.map_drop
abbrev fH:=@Nat.add_assoc
abbrev fI:=@Sum.inl.inj
abbrev fJ:=@PySem.W.plainGet_of
abbrev fK:=@Int.gcd_sub_mul_right_right
abbrev fM:=@Int.fdiv_mul_cancel
abbrev fN:=@Nat.mul_one
abbrev fR:=@Nat.div_eq_iff_eq_mul_right
abbrev fS:=@List.getElem_range'
abbrev fU:=@List.perm_ext_iff_of_nodup
abbrev fV:=@List.mem_filterMap
abbrev fW:=@PySem.W.callWith_K
abbrev gc:=@Nat.lt_trans
abbrev gf:=@Int.add_comm
abbrev gh:=@Int.gcd_zero_right
abbrev gi:=@Int.mul_nonneg
abbrev gj:=@Int.lt_of_mul_lt_mul_left
abbrev gq:=@Int.gcd_add_mul_left_left
abbrev gr:=@Decidable.byContradiction
abbrev gu:=@Classical.byContradiction
abbrev gv:=@List.pairwise_iff_getElem
abbrev gw:=@Option.isSome_iff_exists
abbrev gx:=@PySem.F.args_tuple_add_2
abbrev gy:=@PyProof.noPylong_of_log2
abbrev gz:=@Option.some.injEq
abbrev gA:=@List.Perm.eq_of_pairwise
abbrev gB:=@List.pairwise_map
abbrev gC:=@List.nodup_append
abbrev gD:=@List.getElem?_replicate
abbrev gE:=@PySem.F.entry_tuple_add
abbrev gF:=@Int.mul_neg
abbrev gG:=@Rat.add_assoc
abbrev gH:=@Int.le_refl
abbrev gI:=@List.take_nil
abbrev gJ:=@List.pairwise_lt_range'
abbrev gL:=@List.pairwise_singleton
abbrev gO:=@List.nodup_range
abbrev gP:=@List.take_append
abbrev gQ:=@List.ext_getElem
abbrev gR:=@List.getElem?_set_self
abbrev gS:=@PySem.W.cellsFrom_some
abbrev gU:=@PySem.F.slot_tuple_add
abbrev gW:=@Nat.ne_of_gt
abbrev gY:=@PySem.W.methodCall_KW
abbrev gZ:=@List.of_mem_zip
abbrev g4:=@List.length_replicate
abbrev g5:=@List.length_filter_le
abbrev g6:=@PySem.F.slot_dict_pop
abbrev g7:=@Int.lt_or_le
abbrev g8:=@Bool.beq_eq_decide_eq
abbrev hJ:=@Rat.add_comm
abbrev hU:=@Rat.zero_add
abbrev hW:=@Nat.le_total
abbrev hZ:=@List.cons.injEq
abbrev h7:=@Nat.add_zero
abbrev h8:=@Nat.sub_zero
abbrev h9:=@Int.sub_mul
abbrev ia:=@Nat.log2_lt
abbrev ib:=@Int.neg_add
abbrev ie:=@Int.dvd_sub
abbrev ig:=@Bool.or_false
abbrev ii:=@Nat.le_of_dvd
abbrev ij:=@Int.le_of_dvd
abbrev ik:=@Nat.mul_assoc
abbrev il:=@List.sum_cons
abbrev im:=@decide_eq_false
abbrev io:=@if_pos
abbrev ip:=@if_neg
abbrev iq:=@PySem.wpAny_mono
abbrev ir:=@PySem.wpAny_truthy_bool
abbrev iu:=@PySem.wpAny_execs_nil
abbrev iw:=@PyProof.Rows.assignInOrder_cons
abbrev ix:=@PySem.wpAny_bind
abbrev iy:=@PySem.wpAny_holding
abbrev iz:=@PySem.wpAny_standAt
abbrev iA:=@PySem.wpAny_pure
abbrev iB:=@PySem.wpAny_newObj_type
abbrev iC:=@PySem.wpAny_passesOwn
abbrev iD:=@PySem.wpAny_pyIter_list
abbrev iE:=@PySem.codeAny_mono
abbrev iF:=@PySem.wpAny_Call_Name_kw
abbrev iG:=@PySem.wpAny_typeOf
abbrev iH:=@decide_eq_true
abbrev iI:=@PySem.tupleKind_room_in1
abbrev iJ:=PySem.W.Frag
set_option maxHeartbeats 4000000
set_option Elab.async false
set_option linter.all false
set_option maxRecDepth 100000
namespace L2
local macro_rules | `(!1)=>`(by simp)
open PySem PySem.Spec PyProof.Rows
abbrev Key:=Sum Int Str
def Df:Key->Value->Bool
  | .inl k,v=>Value.isInt k v
  | .inr x,v=>Value.isStrOf x v
def keyH(w:World):Key->Int
  | .inl k=>hashInt k
  | .inr x=>hashStr w x
theorem keyIs_shape:∀ {k:Key} {v:Value},Df k v=true->(∃ i t,k=Sum.inl i/\v=Value.int i t)\/(∃ x t,k=Sum.inr x/\v=Value.str x t)
  | .inl i,v,h=>by
    obtain ⟨t,e⟩:=Value.isInt_shape (k:=i) (v:=v) h;exact .inl ⟨i,t,rfl,e⟩
  | .inr x,v,h=>by
    obtain ⟨t,e⟩:=Value.isStrOf_shape (x:=x) (v:=v) h;exact .inr ⟨x,t,rfl,e⟩
theorem Eg(i:Int)(t:Tok):Df (.inl i) (.int i t)=true:=by simp [Df,Value.isInt]
theorem EC(x:Str)(t:Tok):Df (.inr x) (.str x t)=true:=by simp [Df,Value.isStrOf]
theorem JH(a b:Int):decide ((Sum.inl a:Key)=Sum.inl b)=(a==b):=by
  by_cases e:a=b
  . subst e; simp
  . have h:¬ (Sum.inl a:Key)=Sum.inl b:=λq=>e (fI q);rw [im h];exact (beq_eq_false_iff_ne.mpr e).symm
theorem Lw(a b:Str):decide ((Sum.inr a:Key)=Sum.inr b)=decide (a=b):=by
  by_cases e:a=b
  . subst e; simp
  . have h:¬ (Sum.inr a:Key)=Sum.inr b:=λq=>e (Sum.inr.inj q);rw [im h,im e]
theorem LI(a:Int)(b:Str):decide ((Sum.inl a:Key)=Sum.inr b)=false:=im (λq=>nomatch q)
theorem LN(a:Str)(b:Int):decide ((Sum.inr a:Key)=Sum.inl b)=false:=im (λq=>nomatch q)
def zT(prog:Program)(w:World):PySem.KeyKind prog w Key where
  is:=Df
  hash:=keyH w
  inj:=λv a b ha hb=>by
    rcases keyIs_shape ha with ⟨i,t,rfl,rfl⟩|⟨x,t,rfl,rfl⟩
    . rcases keyIs_shape hb with ⟨j,u,rfl,e⟩ | ⟨y,u,rfl,e⟩
      . injection e with e1 _; rw [e1]
      . exact nomatch e
    . rcases keyIs_shape hb with ⟨j,u,rfl,e⟩ | ⟨y,u,rfl,e⟩
      . exact nomatch e
      . injection e with e1 _; rw [e1]
  byValue:=λk v h=>by
    rcases keyIs_shape h with ⟨i,t,rfl,rfl⟩|⟨x,t,rfl,rfl⟩ <;> rfl
  pyHash:=λhv h=>by
    rcases keyIs_shape hv with ⟨i,t,rfl,rfl⟩|⟨x,t,rfl,rfl⟩
    . exact wpAny_pyHash_int h
    . exact wpAny_pyHash_str h
  eqBool:=λhu hv h=>by
    rcases keyIs_shape hu with ⟨i,t,rfl,rfl⟩|⟨x,t,rfl,rfl⟩
    . rcases keyIs_shape hv with ⟨j,u,rfl,rfl⟩ | ⟨y,u,rfl,rfl⟩
      . rw [JH] at h; exact wpAny_eqBool_int h
      . rw [LI] at h; exact SeqAt.EqAt.int_str i t y u _ _ _ _ h
    . rcases keyIs_shape hv with ⟨j,u,rfl,rfl⟩ | ⟨y,u,rfl,rfl⟩
      . rw [LN] at h; exact SeqAt.EqAt.str_int x t j u _ _ _ _ h
      . rw [Lw] at h; exact wpAny_eqBool_str h
  «strs»:=λk x t v h=>by
    rcases keyIs_shape h with ⟨i,u,rfl,e⟩|⟨y,u,rfl,e⟩
    . exact nomatch e
    . injection e with e1 _;subst e1;cases v <;> rfl
theorem Bf(prog:Program)(w:World)(i:Int)(t:Tok):(zT prog w).is (.inl i) (.int i t)=true:=Eg i t
theorem BP(prog:Program)(w:World)(x:Str)(t:Tok):(zT prog w).is (.inr x) (.str x t)=true:=EC x t
inductive V where
  | non | bl (b:Bool) | int (i:Int) | str (x:Str) | byt (b:Array UInt8) | flt (b:UInt64) | ref (a:Addr) | ty (n:String)
  deriving DecidableEq
def RelV:V->Value->Prop
  | .non,u=>u=Value.none
  | .bl b,u=>u=Value.bool b
  | .int i,u=>∃ t,u=Value.int i t
  | .str x,u=>∃ t,u=Value.str x t
  | .byt b,u=>∃ t,u=Value.bytes b t
  | .flt b,u=>∃ t,u=Value.float b t
  | .ref a,u=>u=Value.ref a
  | .ty n,u=>u=Value.type n
abbrev Vals:List V->List Value->Prop:=Paired RelV
theorem Vals.length{xs:List V}{us:List Value}(r:Vals xs us):xs.length=us.length:=Paired.length r
theorem Vals.get:∀ {xs:List V} {us:List Value} {i:Nat} {x:V},Vals xs us->xs[i]?=some x->∃ u,us[i]?=some u/\RelV x u
  | _,_,_,_,.nil,e=>by simp at e
  | _,_,0,_,.cons r _,e=>by simp at e; subst e; exact ⟨_,rfl,r⟩
  | _,_,i+1,x,.cons _ t,e=>by
    obtain ⟨u,h1,h2⟩:=Vals.get (i:=i) (x:=x) t (by simpa using e);exact ⟨u,by simpa using h1,h2⟩
theorem Vals.set{x:V}{u:Value}(r:RelV x u):∀ {xs:List V} {us:List Value} (i:Nat),Vals xs us->Vals (xs.set i x) (us.set i u)
  | _,_,_,.nil=>.nil
  | _,_,0,.cons _ t=>.cons r t
  | _,_,i+1,.cons q t=>.cons q (Vals.set r i t)
theorem Vals.append:∀ {xs ys:List V} {us ws:List Value},Vals xs us->Vals ys ws->Vals (xs++ys) (us++ws)
  | _,_,_,_,.nil,s=>s
  | _,_,_,_,.cons r t,s=>.cons r (Vals.append t s)
theorem Vals.take:∀ {xs:List V} {us:List Value} (n:Nat),Vals xs us->Vals (xs.take n) (us.take n)
  | _,_,0,_=>.nil
  | _,_,_+1,.nil=>.nil
  | _,_,n+1,.cons r t=>.cons r (Vals.take n t)
theorem Vals.drop:∀ {xs:List V} {us:List Value} (n:Nat),Vals xs us->Vals (xs.drop n) (us.drop n)
  | _,_,0,r=>r
  | _,_,_+1,.nil=>.nil
  | _,_,n+1,.cons _ t=>Vals.drop n t
def RelO:Option V->Option Value->Prop
  | some v,some u=>RelV v u
  | none,none=>True
  | _,_=>False
def KV{κ:Type}:List (κ×V)->List (κ×Value)->Prop:=Paired λ(p:κ×V) (q:κ×Value)=>p.1=q.1/\RelV p.2 q.2
def kV:Key->V
  | .inl i=>.int i
  | .inr x=>.str x
inductive HO where
  | lst (xs:List V)
  | tup (xs:List V)
  | dK (kvs:List (Key×V)) | dT (kvs:List (List Key×V))
  | set (S:Int->Bool) (n:Nat)
  | ins (C dx:Addr) (fs:List (Str×V))
  | own (x:Addr)
  | xd (fs:List (Str×V))
  | met (f x:Addr)
  | rng (lo hi:Int)
  | frz (o:Obj) (u:HO)
  | tbl (ps:Array Value)
  | ext (φ:Heap->Prop)
abbrev Hp:=Addr->Option HO
def upd(H:Hp)(a:Addr)(o:HO):Hp:=λb=>if b=a then some o else H b
theorem zj{H:Hp}{a:Addr}{o:HO}:upd H a o a=some o:=by unfold upd; rw [io rfl]
theorem zn{H:Hp}{a b:Addr}{o:HO}(h:b≠a):upd H a o b=H b:=by unfold upd; rw [ip h]
theorem zX{H:Hp}{a b:Addr}{o u:HO}(h:H a=some o)(h':H b=some u)(d:o≠u):a≠b:=by
  intro e; subst e; rw [h] at h'; exact d (aq h')
theorem zb{H:Hp}{a b:Addr}{o:HO}(h:H a=some o)(h':H b=none):a≠b:=by
  intro e; subst e; rw [h] at h'; cases h'
section
variable (P:Program)(w:World)
def ObjOk(H:Hp)(h:Heap)(a:Addr):HO->Prop
  | .lst xs=>xs.length<=sizeLine/\∃ (its:List Value) (n:Nat),Vals xs its/\h.get? a=some { cls:=.type "list",data:=.seq its.toArray n }
  | .tup xs=>xs.length<=sizeLine/\∃ its:List Value,Vals xs its/\IsTup h a its.toArray
  | .dK kvs=>kvs.length<=sizeLine/\(a==sysModules)=false/\∃ vs,KV kvs vs/\h.DictOf (zT P w) a vs
  | .dT kvs=>kvs.length<=sizeLine/\(a==sysModules)=false/\∃ xs:List (List Key×Addr×Value),
      Paired (λ(p:List Key×V) (q:List Key×Addr×Value)=>p.1=q.1/\H q.2.1=some (.tup (p.1.map kV))/\RelV p.2 q.2.2) kvs xs /\
      ∃ o es ep,h.get? a=some o/\o.ExactDict/\o.data=.dict es ep/\es.toList=xs.map (entryOfKey (tupleKind (zT P w)))/\(xs.map (·.1)).Nodup
  | .set S n=>h.SetOf (intKind P w) a S n
  | .ins C dx fs=>H dx=some (.own a)/\fs.length<=1000/\dx≠a/\h.get? a=some (W.instObj C dx) /\
      ∃ mA,h.Ns1 dx mA/\(∀ f,RelO (fs.lookup f) (mA f))/\PySem.Within mA (fs.map (·.1))
  | .own _=>∃ o,h.get? a=some o
  | .xd fs=>∃ mA,h.Ns1 a mA/\∀ f,RelO (fs.lookup f) (mA f)
  | .rng lo hi=>∃ t u v,h.get? a=some { cls:=.type "range",data:=.fields #[.int lo t,.int hi u,.int 1 v] }
  | .frz o u=>h.get? a=some o/\ObjOk H h a u
  | .tbl ps=>h.get? a=some { cls:=.none,data:=.fields ps }
  | .met f x=>h.get? a=some (W.methodObj (.ref f) (.ref x))
  | .ext φ=>φ h/\(∃ o,h.get? a=some o)/\∀ h1 h2:Heap,φ h1->(∀ o,h1.get? a=some o->h2.get? a=some o)->φ h2
def HOk(H:Hp)(h:Heap):Prop:=∀ a o,H a=some o->ObjOk P w H h a o
end
variable {P:Program}{w:World}{H H':Hp}{h h':Heap}{a:Addr}{o:HO}
theorem ObjOk.lt(x:ObjOk P w H h a o):a<h.objs.size:=by
  cases o with
  | lst xs=>obtain ⟨_,_,_,_,e⟩:=x; exact Heap.lt_size e
  | tup xs=>obtain ⟨_,_,_,p⟩:=x; exact p.lt
  | dK kvs=>obtain ⟨_,_,_,_,o,_,_,e,_⟩:=x; exact Heap.lt_size e
  | dT kvs=>obtain ⟨_,_,_,_,o,_,_,e,_⟩:=x; exact Heap.lt_size e
  | set S n=>obtain ⟨o,_,_,_,e,_⟩:=x; exact Heap.lt_size e
  | ins C dx fs=>obtain ⟨_,_,_,e,_⟩:=x; exact Heap.lt_size e
  | own y=>obtain ⟨_,e⟩:=x; exact Heap.lt_size e
  | xd fs=>obtain ⟨_,⟨_,_,_,e,_⟩,_⟩:=x; exact Heap.lt_size e
  | rng lo hi=>obtain ⟨_,_,_,e⟩:=x; exact Heap.lt_size e
  | frz ob u=>obtain ⟨e,_⟩:=x; exact Heap.lt_size e
  | tbl ps=>exact Heap.lt_size (show h.get? a=some _ from x)
  | met f y=>exact Heap.lt_size (show h.get? a=some _ from x)
  | ext φ=>obtain ⟨_,⟨_,e⟩,_⟩:=x; exact Heap.lt_size e
theorem Paired.mapP{α β:Type}{F G:α->β->Prop}:∀ {l₁:List α} {l₂:List β},Paired F l₁ l₂->(∀ a b,F a b->G a b)->Paired G l₁ l₂
  | _,_,.nil,_=>.nil
  | _,_,.cons r t,f=>.cons (f _ _ r) (Paired.mapP t f)
theorem ObjOk.stay(x:ObjOk P w H h a o)(k:∀ b u,(b=a\/H b=some (.own a))->h.get? b=some u->h'.get? b=some u)(ho:∀ b,H b=some (.own a)->H' b=some (.own a))(ht:∀ b xs,H b=some (.tup xs)->H' b=some (.tup xs)):ObjOk P w H' h' a o:=by
  induction o with
  | lst xs=>obtain ⟨z,its,n,r,e⟩:=x; exact ⟨z,its,n,r,k _ _ (.inl rfl) e⟩
  | tup xs=>obtain ⟨z,its,r,ob,e,c⟩:=x; exact ⟨z,its,r,ob,k _ _ (.inl rfl) e,c⟩
  | dK kvs=>obtain ⟨z,y,vs,r,ob,es,ep,e,c⟩:=x; exact ⟨z,y,vs,r,ob,es,ep,k _ _ (.inl rfl) e,c⟩
  | dT kvs =>
    obtain ⟨z,y,xs,r,ob,es,ep,e,c⟩:=x;exact ⟨z,y,xs,Paired.mapP r λp q z=>⟨z.1,ht _ _ z.2.1,z.2.2⟩,ob,es,ep,k _ _ (.inl rfl) e,c⟩
  | set S n=>obtain ⟨ob,es,ep,t,e,c⟩:=x; exact ⟨ob,es,ep,t,k _ _ (.inl rfl) e,c⟩
  | ins C dx fs =>
    obtain ⟨d,z,ne,e,mA,⟨od,es,ep,e2,c⟩,r⟩:=x;exact ⟨ho _ d,z,ne,k _ _ (.inl rfl) e,mA,⟨od,es,ep,k _ _ (.inr d) e2,c⟩,r⟩
  | own y=>obtain ⟨ob,e⟩:=x; exact ⟨ob,k _ _ (.inl rfl) e⟩
  | xd fs=>obtain ⟨mA,⟨od,es,ep,e,c⟩,r⟩:=x; exact ⟨mA,⟨od,es,ep,k _ _ (.inl rfl) e,c⟩,r⟩
  | rng lo hi=>obtain ⟨t,u,v,e⟩:=x; exact ⟨t,u,v,k _ _ (.inl rfl) e⟩
  | frz ob u ih=>obtain ⟨e,q⟩:=x; exact ⟨k _ _ (.inl rfl) e,ih q⟩
  | tbl ps =>
    have e:h.get? a=some { cls:=.none,data:=.fields ps }:=x;show h'.get? a=some { cls:=.none,data:=.fields ps };exact k a _ (.inl rfl) e
  | met f y =>
    have e:h.get? a=some (W.methodObj (.ref f) (.ref y)):=x;show h'.get? a=some (W.methodObj (.ref f) (.ref y));exact k a _ (.inl rfl) e
  | ext φ=>obtain ⟨p,⟨o,e⟩,st⟩:=x; exact ⟨st _ _ p λo q=>k _ _ (.inl rfl) q,⟨o,k _ _ (.inl rfl) e⟩,st⟩
theorem HOk.lt(x:HOk P w H h)(e:H a=some o):a<h.objs.size:=(x a o e).lt
theorem HOk.fresh(x:HOk P w H h)(e:h.objs.size<=a):H a=none:=by
  cases q:H a with
  | none=>rfl
  | some u=>exact absurd (aN (x.lt q) e) (dh _)
theorem HOk.kept(x:HOk P w H h)(k:∀ b u,h.get? b=some u->h'.get? b=some u):HOk P w H h':=λa o e =>
  (x a o e).stay (λb u _ q=>k b u q) (λ_ q=>q) λ_ _ q=>q
theorem HOk.laid(x:HOk P w H h)(k:∀ b u,h.get? b=some u->h'.get? b=some u)(hp:h.objs.size<=a)(new:ObjOk P w (upd H a o) h' a o):HOk P w (upd H a o) h':=λb u e=>by
  have hn:=x.fresh hp;by_cases hb:b=a
  . subst hb; rw [zj] at e; cases e; exact new
  . rw [zn hb] at e;exact (x b u e).stay (λc v _ q=>k c v q) (λc q=>by rw [zn (zb q hn)]; exact q) λc xs q=>by rw [zn (zb q hn)]; exact q
def Rd(H:Hp)(a:Addr)(u:HO):Prop:=H a=some u\/∃ o,H a=some (.frz o u)
theorem Rd.ok{u:HO}(r:Rd H a u)(x:HOk P w H h):ObjOk P w H h a u:=by
  rcases r with r|⟨o,r⟩
  . exact x a u r
  . obtain ⟨_,q⟩:=x a _ r;exact q
def Mut:Option HO->Prop
  | some (.lst _)=>True
  | some (.dK _)=>True
  | some (.dT _)=>True
  | some (.set _ _)=>True
  | some (.ins _ _ _)=>True
  | some (.ext _)=>True
  | _=>False
variable {x e:Addr}{o':HO}
theorem HOk.write(ok:HOk P w H h)(mu:Mut (H x))(he:e=x\/H e=some (.own x))(k:∀ b u,b≠e->h.get? b=some u->h'.get? b=some u)(heo:∃ u,h'.get? e=some u)(new:ObjOk P w (upd H x o') h' x o'):HOk P w (upd H x o') h':=λb u q=>by
  have nown:∀ c y,H c=some (.own y)->c≠x:=λc y r z=>by subst z; rw [r] at mu; exact mu
  have ntup:∀ c xs,H c=some (.tup xs)->c≠x:=λc xs r z=>by subst z; rw [r] at mu; exact mu
  by_cases hb:b=x
  . subst hb; rw [zj] at q; cases q; exact new
  . rw [zn hb] at q;by_cases hbe:b=e
    . have q':H b=some (.own x):=by
        rcases he with z|z
        . exact absurd (hbe.trans z) hb
        . rw [hbe]; exact z
      rw [q] at q'; cases q';obtain ⟨v,hv⟩:=heo;exact ⟨v,by rw [hbe]; exact hv⟩
    . refine (ok b u q).stay (λc v hc r=>k c v ?_ r) (λc r=>by rw [zn (nown c b r)]; exact r) λc xs r=>by rw [zn (ntup c xs r)]; exact r
      rcases hc with rfl|hc
      . exact hbe
      . rintro rfl;rcases he with z|z
        . exact nown c b hc z
        . rw [hc] at z; cases z; exact hb rfl
structure Un(fs ex:List Addr)(H H':Hp)(h h':Heap):Prop where
  keep:∀ b o,h.get? b=some o->H b=none->b∉fs->b∉ex->h'.get? b=some o
  slot:∀ b o,h.get? b=some o->H b=none->b∈fs->b∉ex->∃ sl,h'.get? b=some { o with slots:=sl }
  free:∀ b o,h.get? b=some o->H b=none->b∉ex->H' b=none
  there:∀ b o,h.get? b=some o->b∉ex->∃ o',h'.get? b=some o'
  tups:∀ b xs,H b=some (.tup xs)->H' b=some (.tup xs)
  frzs:∀ b o u,H b=some (.frz o u)->H' b=some (.frz o u)
  tbls:∀ b ps,H b=some (.tbl ps)->∃ more,H' b=some (.tbl (ps++more))
section
variable {fs fs' ex ex':List Addr}{H1 H2:Hp}{h1 h2:Heap}
theorem Un.any(u:Un fs ex H H1 h h1){b:Addr}{ob:Obj}(q:h.get? b=some ob)(n:H b=none)(hx:b∉ex):∃ sl,h1.get? b=some { ob with slots:=sl }:=by
  by_cases hb:b∈fs
  . exact u.slot b ob q n hb hx
  . exact ⟨ob.slots,u.keep b ob q n hb hx⟩
theorem Un.kept(k:∀ b u,h.get? b=some u->h'.get? b=some u):Un fs ex H H h h' :=
  ⟨λb ob q _ _ _=>k b ob q,λb ob q _ _ _=>⟨ob.slots,k b ob q⟩,λ_ _ _ n _=>n,λb ob q _=>⟨ob,k b ob q⟩,λ_ _ q=>q,λ_ _ _ q=>q,λ_ ps q=>⟨#[],by rw [q]; simp⟩⟩
theorem Un.refl:Un fs ex H H h h:=Un.kept λ_ _ q=>q
theorem Un.laid(k:∀ b u,h.get? b=some u->h'.get? b=some u)(hp:h.objs.size<=a)(hn:H a=none):Un fs ex H (upd H a o) h h' where
  keep:=λb u q _ _ _=>k b u q
  slot:=λb u q _ _ _=>⟨u.slots,k b u q⟩
  free:=λb u q n _=>by rw [zn (aQ (aN (Heap.lt_size q) hp))]; exact n
  there:=λb u q _=>⟨u,k b u q⟩
  tups:=λb xs q=>by rw [zn (zb q hn)]; exact q
  frzs:=λb u xs q=>by rw [zn (zb q hn)]; exact q
  tbls:=λb ps q=>⟨#[],by rw [zn (zb q hn),q]; simp⟩
theorem Un.write(mu:Mut (H x))(he:e=x\/H e=some (.own x))(k:∀ b u,b≠e->h.get? b=some u->h'.get? b=some u)(heo:∃ u,h'.get? e=some u):Un fs ex H (upd H x o) h h':=by
  have hx:∀ b,H b=none->b≠x:=λb n z=>by subst z; rw [n] at mu; exact mu
  have hb:∀ b,H b=none->b≠e:=λb n z=>by
    subst z;rcases he with r|r
    . exact hx b n r
    . rw [n] at r; cases r
  have hm:∀ b u,H b=some u->¬ Mut (some u)->b≠x:=λb u q nm z=>by subst z; rw [q] at mu; exact nm mu
  refine ⟨λb u q n _ _=>k b u (hb b n) q,λb u q n _ _=>⟨u.slots,k b u (hb b n) q⟩,λb u q n _=>by rw [zn (hx b n)]; exact n,λb u q _=>?_,
    λb xs q=>by rw [zn (hm b _ q λz=>z)]; exact q,λb u xs q=>by rw [zn (hm b _ q λz=>z)]; exact q,λb ps q=>⟨#[],by rw [zn (hm b _ q λz=>z),q]; simp⟩⟩
  by_cases hbe:b=e
  . subst hbe; exact heo
  . exact ⟨u,k b u hbe q⟩
end
def trk(h:Heap)(H:Hp):List Addr:=(List.range h.objs.size).filter λa=>(H a).isSome
def hidT(h:Heap)(H:Hp):Heap:=W.hideAll h (trk h H)
theorem EK(h:Heap)(H:Hp):(hidT h H).objs.size=h.objs.size:=W.hideAll_size _ _
theorem Gi{b:Addr}{o:Obj}(e:h.get? b=some o)(n:H b=none):(hidT h H).get? b=some o :=
  W.hideAll_get _ e λhm=>by
    have q:(H b).isSome=true:=(eI.mp hm).2;rw [n] at q; simp at q
theorem Jh{b:Addr}{o:Obj}(e:(hidT h H).get? b=some o):h.get? b=some o/\H b=none:=by
  have e':h.get? b=some o:=W.of_hideAll (trk h H) e;refine ⟨e',?_⟩;cases q:H b with
  | none=>rfl
  | some x =>
    have hm:b∈trk h H:=eI.mpr ⟨b9.mpr (Heap.lt_size e'),by simp [q]⟩;have z:(hidT h H).get? b=none:=W.hideAll_none (trk h H) hm;rw [z] at e; cases e
def Iv(g h:Heap)(L:Addr):List (Addr×Obj):=(List.range h.objs.size).filterMap λa=>if a=L\/(g.get? a).isSome=true then none else (h.get? a).map λo=>(a,o)
def rest(g h:Heap)(L d:Addr):List (Addr×Obj):=(Iv g h L).filter λp=>decide (p.1≠d)
structure Mod(K:iJ)(mg:Str->Option Value)(base:Heap):Prop where
  kin:K.In base
  glob:base.Ns mainGlobals mg
  blt:∃ mb,base.Ns builtinsNs mb/\∀ x:Str,x≠"__name__"->mb x=bootBuiltins x
  nolimit:base.NoLimit
structure Cx where
  prog:Program
  w:World
  K:iJ
  mg:Str->Option Value
  base:Heap
  A:Around
  N:List Str
  s₀:Shared
  H₀:Hp
  env:Env
  outer:List Env
  stack:List Env
  ex:List Addr
  fn:Str->Bool
  calm:Bool
  pn:List (Addr×Obj)
  xe:Value->Shared->Prop
def frs(l:List Env):List Addr:=l.filterMap (·.frame)
abbrev Cx.fs(X:Cx):List Addr:=frs X.outer
def Vis(sc:Scope)(x:Str):Prop:=sc.names.lookup x=some .local\/sc.names.lookup x=some .cell\/sc.names.lookup x=some .free
def Loc(sc:Scope)(x:Str):Prop:=sc.names.lookup x=some .local\/sc.names.lookup x=some .cell
def Look(env:Env)(h:Heap)(m:Str->Option Value)(x:Str)(u:Value):Prop :=
  (env.kindOf x=some .local/\m x=some u)\/((env.kindOf x=some .cell\/env.kindOf x=some .free)/\∃ c,env.cells.lookup x=some c/\h.IsCell c (some u))
structure Cx.Ok(X:Cx):Prop where
  mod:Mod X.K X.mg X.base
  kind:X.env.scope.kind=.function
  glob:X.env.globals=mainGlobals
  blt:X.env.builtins=builtinsNs
  above:X.s₀.heap.objs.size<=X.env.locals
  inj:∀ x y c,X.env.cells.lookup x=some c->X.env.cells.lookup y=some c->x=y
  has:∀ x,(X.env.kindOf x=some .cell\/X.env.kindOf x=some .free)->∃ c,X.env.cells.lookup x=some c
  cab:∀ x c,X.fn x=true->X.env.cells.lookup x=some c->X.s₀.heap.objs.size<=c
  hd:X.calm=true->X.A.handled=none
  frames:X.A.frames=some X.stack
  stk:X.stack=X.outer\/(X.stack=X.env::X.outer/\X.env.frame=some X.env.locals)
  exf:∀ b∈X.ex,b≠X.env.locals/\∀ x c,X.env.cells.lookup x=some c->c≠b
  bs:∀ b o,X.base.get? b=some o->X.s₀.heap.get? b=some o/\X.H₀ b=none
  bsz:X.base.objs.size<=X.s₀.heap.objs.size
  noex:∀ b o,X.base.get? b=some o->b∉X.ex
  exfs:∀ b∈X.ex,b∉X.fs
  funs:X.s₀.heap.FunFrames X.base X.outer
  frf:∀ b∈X.fs,X.H₀ b=none
structure Inv(X:Cx)(pins:List (Addr×Obj))(σ:List (Option V))(H:Hp)(s:Shared):Prop where
  ok:X.Ok
  os:s.os=X.s₀.os
  bare:AllBare s.gens
  base:Un X.fs X.ex X.H₀ H X.s₀.heap s.heap
  loc:∃ m,s.heap.Ns X.env.locals m/\∀ (i:Nat) (x:Str) (v:V),X.N[i]?=some x->σ[i]?=some (some v)->Vis X.env.scope x->∃ u,RelV v u/\Look X.env s.heap m x u
  cell:∀ x c,X.env.cells.lookup x=some c->∃ v,s.heap.IsCell c v
  free:H X.env.locals=none
  freeC:∀ x c,X.env.cells.lookup x=some c->H c=none
  pin:∀ p∈X.pn++pins,s.heap.get? p.1=some p.2/\H p.1=none/\p.1≠X.env.locals/\p.1∉X.fs/\∀ v,p.2.data≠.cell v
  hok:HOk X.prog X.w H s.heap
  len:σ.length=X.N.length
variable {it:Addr}{g':Array GenState}{d':Drawn}{ch:List Addr}{M:Model}{t':Nat}{E:Value->Shared->Prop}
section
variable {X:Cx}{pins:List (Addr×Obj)}{σ:List (Option V)}{s:Shared}
theorem Cx.Ok.nofr(ok:X.Ok){b:Addr}{o:Obj}(e:X.base.get? b=some o):b∉X.fs:=λhb=>by
  have:=(ok.funs.mem hb).1;rw [e] at this; cases this
theorem Inv.bs(I:Inv X pins σ H s):∀ b o,X.base.get? b=some o->s.heap.get? b=some o/\H b=none:=λb o e =>
  ⟨I.base.keep b o (I.ok.bs b o e).1 (I.ok.bs b o e).2 (I.ok.nofr e) (I.ok.noex b o e),I.base.free b o (I.ok.bs b o e).1 (I.ok.bs b o e).2 (I.ok.noex b o e)⟩
theorem Inv.bk(I:Inv X pins σ H s):∀ b o,X.base.get? b=some o->s.heap.get? b=some o:=λb o e=>(I.bs b o e).1
theorem Inv.mod(I:Inv X pins σ H s):Mod X.K X.mg X.base:=I.ok.mod
theorem Inv.kIn(I:Inv X pins σ H s):X.K.In s.heap:=I.ok.mod.kin.keeps I.bk
theorem Inv.lt(I:Inv X pins σ H s):X.env.locals<s.heap.objs.size:=let ⟨_,hn,_⟩:=I.loc; hn.lt
theorem Inv.sz(I:Inv X pins σ H s):X.s₀.heap.objs.size<=s.heap.objs.size:=ce I.ok.above (bO I.lt)
theorem Inv.nofs(I:Inv X pins σ H s)(h:s.heap.objs.size<=a):a∉X.fs:=λhb=>by
  obtain ⟨_,o,ho,_⟩:=I.ok.funs.mem hb;exact absurd (aN (Heap.lt_size ho) (ce I.sz h)) (dh _)
theorem Inv.cne(I:Inv X pins σ H s):∀ x c,X.env.cells.lookup x=some c->c≠X.env.locals:=λx c e z=>by
  obtain ⟨v,o,ho,hd⟩:=I.cell x c e;obtain ⟨m,⟨o',es,ep,ho',hd',_⟩,_⟩:=I.loc;rw [z,ho'] at ho; cases ho; rw [hd'] at hd; cases hd
theorem Inv.funs(I:Inv X pins σ H s):s.heap.FunFrames X.base X.outer:=by
  have all:∀ (l:List Env),(∀ b∈frs l,b∈X.fs)->X.s₀.heap.FunFrames X.base l->s.heap.FunFrames X.base l:=by
    intro l;induction l with
    | nil=>intro _ _; trivial
    | cons env r ih =>
      intro hs hl;obtain ⟨hk,⟨L,o,hf,hn,ho,hd⟩,hr⟩:=hl;have hL:L∈X.fs:=hs L (by unfold frs; rw [dk,hf]; exact aG);obtain ⟨sl,e⟩:=I.base.slot L o ho (I.ok.frf L hL) hL λz=>I.ok.exfs L z hL;exact ⟨hk,⟨L,_,hf,hn,e,hd⟩,ih (λb hb=>hs b (by unfold frs; rw [dk,hf]; exact aB _ hb)) hr⟩
  exact all X.outer (λ_ hb=>hb) I.ok.funs
theorem Inv.stack(I:Inv X pins σ H s):s.heap.FunFrames X.base X.stack:=by
  rcases I.ok.stk with e|⟨e,hf⟩
  . rw [e]; exact I.funs
  . rw [e];obtain ⟨m,hn,_⟩:=I.loc;refine .cons (by rw [I.ok.kind]; decide) hf hn ?_ I.funs;exact Heap.get?_none_of_le (ce I.ok.bsz I.ok.above)
theorem Inv.stkSub(I:Inv X pins σ H s):∀ b∈frs X.stack,b∈X.env.locals::X.fs:=λb hb=>by
  rcases I.ok.stk with e|⟨e,hf⟩
  . rw [e] at hb; exact aB _ hb
  . rw [e] at hb;unfold frs at hb;rw [dk,hf] at hb;exact hb
theorem Inv.stkFree(I:Inv X pins σ H s):∀ b∈frs X.stack,H b=none:=λb hb=>by
  rcases a7.mp (I.stkSub b hb) with e|hb
  . rw [e]; exact I.free
  . obtain ⟨_,o,ho,_⟩:=I.ok.funs.mem hb;exact I.base.free b o ho (I.ok.frf b hb) λz=>I.ok.exfs b z hb
theorem Inv.step(I:Inv X pins σ H s)(hch:∀ b∈ch,(b∈X.ex\/X.s₀.heap.objs.size<=b)/\b≠X.env.locals/\(∀ x c,X.env.cells.lookup x=some c->c≠b)/\∀ p∈X.pn++pins,p.1≠b)(keep:∀ b o,b≠X.env.locals->b∉X.fs->b∉ch->s.heap.get? b=some o->H b=none->h'.get? b=some o)(slot:∀ b o,b≠X.env.locals->b∈X.fs->b∉ch->s.heap.get? b=some o->H b=none->∃ sl,h'.get? b=some { o with slots:=sl })(free:∀ b o,b∉ch->s.heap.get? b=some o->H b=none->H' b=none)(there:∀ b o,b∉ch->s.heap.get? b=some o->∃ o',h'.get? b=some o')(tups:∀ b xs,H b=some (.tup xs)->H' b=some (.tup xs))(frzs:∀ b o u,H b=some (.frz o u)->H' b=some (.frz o u))(tbls:∀ b ps,H b=some (.tbl ps)->∃ more,H' b=some (.tbl (ps++more)))(ns:∀ m,s.heap.Ns X.env.locals m->h'.Ns X.env.locals m)(hok:HOk X.prog X.w H' h')(hg:AllBare g') :
    Inv X pins σ H' { s with heap:=h',gens:=g',drawn:=d',toks:=t' }:=by
  have neL:∀ b o,X.s₀.heap.get? b=some o->b≠X.env.locals:=λb o e=>aQ (aN (Heap.lt_size e) I.ok.above);have neC:∀ b o,X.s₀.heap.get? b=some o->b∉X.ex->b∉ch:=λb o e hx hb=>by
    rcases (hch b hb).1 with z|z
    . exact hx z
    . exact absurd (aN (Heap.lt_size e) z) (dh _)
  have cellK:∀ x c,X.env.cells.lookup x=some c->∀ v,s.heap.IsCell c v->h'.IsCell c v:=λx c e v ⟨o,ho,hd⟩=>by
    have nch:c∉ch:=λz=>(hch c z).2.2.1 x c e rfl;by_cases hc:c∈X.fs
    . obtain ⟨sl,q⟩:=slot c o (I.cne x c e) hc nch ho (I.freeC x c e);exact ⟨_,q,hd⟩
    . exact ⟨o,keep c o (I.cne x c e) hc nch ho (I.freeC x c e),hd⟩
  refine ⟨I.ok,I.os,hg,⟨λb o e n hb hx=>?_,λb o e n hb hx=>?_,λb o e n hx=>?_,λb o e hx=>?_,λb xs e=>tups b xs (I.base.tups b xs e),λb o xs e=>frzs b o xs (I.base.frzs b o xs e),λb ps e=>?_⟩,?_,λx c e=>?_,?_,λx c e=>?_,λp hp=>?_,hok,I.len⟩
  . exact keep b o (neL b o e) hb (neC b o e hx) (I.base.keep b o e n hb hx) (I.base.free b o e n hx)
  . obtain ⟨sl,e1⟩:=I.base.slot b o e n hb hx;obtain ⟨sl',e2⟩:=slot b _ (neL b o e) hb (neC b o e hx) e1 (I.base.free b o e n hx);exact ⟨sl',e2⟩
  . obtain ⟨o',e1⟩:=I.base.there b o e hx;exact free b o' (neC b o e hx) e1 (I.base.free b o e n hx)
  . obtain ⟨o',e1⟩:=I.base.there b o e hx;exact there b o' (neC b o e hx) e1
  . obtain ⟨m1,e1⟩:=I.base.tbls b ps e;obtain ⟨m2,e2⟩:=tbls b _ e1;exact ⟨m1++m2,by rw [e2,Array.append_assoc]⟩
  . obtain ⟨m,hn,hl⟩:=I.loc;refine ⟨m,ns m hn,λi x v e1 e2 e3=>?_⟩;obtain ⟨u,r,l⟩:=hl i x v e1 e2 e3;refine ⟨u,r,?_⟩;rcases l with l|⟨k,c,e,z⟩
    . exact .inl l
    . exact .inr ⟨k,c,e,cellK x c e _ z⟩
  . obtain ⟨v,z⟩:=I.cell x c e;exact ⟨v,cellK x c e v z⟩
  . obtain ⟨m,⟨o,_,_,ho,_⟩,_⟩:=I.loc;exact free _ o (λz=>(hch _ z).2.1 rfl) ho I.free
  . obtain ⟨v,o,ho,hd⟩:=I.cell x c e;exact free c o (λz=>(hch c z).2.2.1 x c e rfl) ho (I.freeC x c e)
  . obtain ⟨e,n,ne,nf,d⟩:=I.pin p hp;have nch:p.1∉ch:=λz=>(hch p.1 z).2.2.2 p hp rfl;exact ⟨keep p.1 p.2 ne nf nch e n,free p.1 p.2 nch e n,ne,nf,d⟩
theorem Inv.un(I:Inv X pins σ H s)(u:Un X.fs [] H H' s.heap h')(hok:HOk X.prog X.w H' h'):Inv X pins σ H' { s with heap:=h',toks:=t' }:=by
  obtain ⟨m,⟨o,es,ep,ho,r⟩,_⟩:=id I.loc;obtain ⟨sl,hL⟩:=u.any ho I.free (!1);exact I.step (g':=s.gens) (d':=s.drawn) (ch:=[]) (λ_ z=>nomatch z) (λb o _ hb _ e n=>u.keep b o e n hb (!1)) (λb o _ hb _ e n=>u.slot b o e n hb (!1)) (λb o _ e n=>u.free b o e n (!1)) (λb o _ e=>u.there b o e (!1)) u.tups u.frzs u.tbls (λm' hm=>by
    obtain ⟨o',es',ep',ho',r'⟩:=hm;rw [ho] at ho'; cases ho';exact ⟨_,es',ep',hL,r'⟩) hok I.bare
theorem Inv.call(I:Inv X pins σ H s)(u:Un (frs X.stack) ch H H' s.heap h')(hok:HOk X.prog X.w H' h')(hg:AllBare g')(hch:∀ b∈ch,(b∈X.ex\/X.s₀.heap.objs.size<=b)/\b≠X.env.locals/\(∀ x c,X.env.cells.lookup x=some c->c≠b)/\∀ p∈X.pn++pins,p.1≠b) : Inv X pins σ H' { s with heap:=h',gens:=g',drawn:=d',toks:=t' }:=by
  obtain ⟨m,⟨o,es,ep,ho,r⟩,_⟩:=id I.loc;obtain ⟨sl,hL⟩:=u.any ho I.free λz=>(hch _ z).2.1 rfl;exact I.step (ch:=ch) hch (λb o hL hb hc e n=>u.keep b o e n (λz=>(a7.mp (I.stkSub b z)).elim hL hb) hc) (λb o _ _ hc e n=>u.any e n hc) (λb o hc e n=>u.free b o e n hc) (λb o hc e=>u.there b o e hc) u.tups u.frzs u.tbls (λm' hm=>by
    obtain ⟨o',es',ep',ho',r'⟩:=hm;rw [ho] at ho'; cases ho';exact ⟨_,es',ep',hL,r'⟩) hok hg
theorem Inv.turned(I:Inv X pins σ H s)(k:∀ b o,b≠it->s.heap.get? b=some o->h'.get? b=some o)(hn:H it=none)(hL:it≠X.env.locals)(h1:it∈X.ex\/X.s₀.heap.objs.size<=it)(h2:∀ x c,X.env.cells.lookup x=some c->c≠it)(h3:∀ p∈X.pn++pins,p.1≠it):Inv X pins σ H { s with heap:=h',toks:=t' }:=by
  have nit:∀ b u,H b=some u->b≠it:=λb u e z=>by rw [z,hn] at e; cases e
  refine I.step (g':=s.gens) (d':=s.drawn) (ch:=[it]) (λb hb=>?_) (λb o _ _ hc e _=>k b o (λz=>hc (by simp [z])) e) (λb o _ _ hc e _=>⟨o.slots,k b o (λz=>hc (by simp [z])) e⟩) (λ_ _ _ _ n=>n)
    (λb o hc e=>⟨o,k b o (λz=>hc (by simp [z])) e⟩) (λ_ _ e=>e) (λ_ _ _ e=>e) (λb ps e=>⟨#[],by rw [e]; simp⟩) (λm hm=>?_) (λb u e=>?_) I.bare
  . have e:b=it:=by simpa using hb
    subst e;exact ⟨h1,hL,h2,h3⟩
  . obtain ⟨o,es,ep,ho,r⟩:=hm;exact ⟨o,es,ep,k _ o (ck hL) ho,r⟩
  . refine (I.hok b u e).stay (λc v hc q=>k c v ?_ q) (λ_ q=>q) λ_ _ q=>q;rcases hc with z|z
    . rw [z]; exact nit b u e
    . exact nit c _ z
theorem Inv.tok(I:Inv X pins σ H s)(t:Nat):Inv X pins σ H { s with toks:=t }:=I.un (h':=s.heap) (t':=t) Un.refl I.hok
theorem Inv.kept{t':Nat}(I:Inv X pins σ H s)(k:∀ b u,s.heap.get? b=some u->h'.get? b=some u):Inv X pins σ H { s with heap:=h',toks:=t' }:=I.un (Un.kept k) (I.hok.kept k)
theorem Inv.laid{a:Addr}{o:HO}{t':Nat}(I:Inv X pins σ H s)(k:∀ b u,s.heap.get? b=some u->h'.get? b=some u)(hp:s.heap.objs.size<=a)(new:ObjOk X.prog X.w (upd H a o) h' a o) : Inv X pins σ (upd H a o) { s with heap:=h',toks:=t' }:=I.un (Un.laid k hp (I.hok.fresh hp)) (I.hok.laid k hp new)
theorem Inv.write{x e:Addr}{o:HO}{t':Nat}(I:Inv X pins σ H s)(mu:Mut (H x))(he:e=x\/H e=some (.own x))(k:∀ b u,b≠e->s.heap.get? b=some u->h'.get? b=some u)(heo:∃ u,h'.get? e=some u) (new:ObjOk X.prog X.w (upd H x o) h' x o):Inv X pins σ (upd H x o) { s with heap:=h',toks:=t' }:=I.un (Un.write mu he k heo) (I.hok.write mu he k heo new)
theorem Inv.pins_of{pins':List (Addr×Obj)}(I:Inv X pins σ H s)(h:∀ p∈pins',s.heap.get? p.1=some p.2/\H p.1=none/\p.1≠X.env.locals/\p.1∉X.fs/\∀ v,p.2.data≠.cell v):Inv X pins' σ H s :=
  ⟨I.ok,I.os,I.bare,I.base,I.loc,I.cell,I.free,I.freeC,λp hp=>(aE.mp hp).elim (λz=>I.pin p (cZ _ z)) (h p),I.hok,I.len⟩
variable {x:Str}
theorem BZ{N:List Str}(hN:N.Nodup){i j:Nat}(a:N[i]?=some x)(b:N[j]?=some x):i=j:=by
  obtain ⟨h1,e1⟩:=af.mp a;obtain ⟨h2,e2⟩:=af.mp b;exact (List.getElem_inj hN).mp (e1.trans e2.symm)
theorem AA{A:Around}{i:Nat}{v:V}{u:Value}{Q:Unit->Shared->Prop}(I:Inv X pins σ H s)(hN:X.N.Nodup)(hi:X.N[i]?=some x)(hx:Loc X.env.scope x)(r:RelV v u)(h:∀ s',Inv X pins (σ.set i (some v)) H s'->(∃ a,Heap.SameBut a s.heap s'.heap/\(a=X.env.locals\/X.env.cells.lookup x=some a))->Q () s')(hf:X.fn x=true\/X.env.scope.names.lookup x=some .local:=by first | exact .inl rfl | exact .inr rfl | assumption):wpAny M A (storeName X.env x u) Q E s:=by
  obtain ⟨m,hn,hl⟩:=id I.loc;have hcls:(X.env.scope.kind==.class || (X.env.scope.kind==.module && X.env.locals != X.env.globals))=false:=by rw [I.ok.kind]; rfl
  have hiσ:i<σ.length:=by rw [I.len]; exact (af.mp hi).1
  have cne:=I.cne;have tracked:∀ {a:Addr} {h':Heap},(∃ o,s.heap.get? a=some o/\H a=none)->Heap.SameBut a s.heap h'->HOk X.prog X.w H h':=λ{a h'} ha hs b ob e=>by
    obtain ⟨_,_,hfree⟩:=ha;refine (I.hok b ob e).stay (λc w' hc q=>(hs.2 c ?_).trans q) (λ_ q=>q) λ_ _ q=>q;rintro rfl;rcases hc with rfl|hc
    . rw [hfree] at e; cases e
    . rw [hfree] at hc; cases hc
  rcases hx with hk|hk
  . refine wpAny_storeName_local hk hn (λh' hn' hs=>?_) hcls;obtain ⟨oL,_,_,hoL,_⟩:=id hn;refine h _ ⟨I.ok,I.os,I.bare,⟨λb o e n hb hx=>?_,λb o e n hb hx=>?_,I.base.free,λb o e hx=>?_,I.base.tups,I.base.frzs,I.base.tbls⟩,⟨_,hn',λj y v' e1 e2 e3=>?_⟩,λy c e=>?_,I.free,I.freeC,λp hp=>?_,tracked ⟨oL,hoL,I.free⟩ hs,by simpa using I.len⟩ ⟨_,hs,.inl rfl⟩
    . exact (hs.2 b (aQ (aN (Heap.lt_size e) I.ok.above))).trans (I.base.keep b o e n hb hx)
    . obtain ⟨sl,e1⟩:=I.base.slot b o e n hb hx;exact ⟨sl,(hs.2 b (aQ (aN (Heap.lt_size e) I.ok.above))).trans e1⟩
    . obtain ⟨o',e1⟩:=I.base.there b o e hx;exact ⟨o',(hs.2 b (aQ (aN (Heap.lt_size e) I.ok.above))).trans e1⟩
    . by_cases hj:j=i
      . subst hj;rw [hi] at e1; cases e1;rw [gR hiσ] at e2;cases e2
        exact ⟨u,r,.inl ⟨hk,by simp⟩⟩
      . rw [List.getElem?_set_ne (ck hj)] at e2;obtain ⟨u',r',q⟩:=hl j y v' e1 e2 e3;refine ⟨u',r',?_⟩;rcases q with ⟨k,e⟩|⟨k,c,e,z⟩
        . refine .inl ⟨k,?_⟩;have:y≠x:=λe=>hj (BZ hN e1 (e ▸ hi));simp [this,e]
        . exact .inr ⟨k,c,e,z.sameBut hs (cne y c e)⟩
    . obtain ⟨w',z⟩:=I.cell y c e;exact ⟨w',z.sameBut hs (cne y c e)⟩
    . obtain ⟨e,n,ne,nf,d⟩:=I.pin p hp;exact ⟨(hs.2 p.1 ne).trans e,n,ne,nf,d⟩
  . have hfn:X.fn x=true:=by
      rcases hf with z|z
      . exact z
      . rw [z] at hk; cases hk
    obtain ⟨c,hc⟩:=I.ok.has x (.inl hk);obtain ⟨w',z⟩:=I.cell x c hc;refine wpAny_storeName_cell I.ok.kind hk hc z (λh' hc' hs=>?_);obtain ⟨oc,hoc,hocd⟩:=id z;refine h { s with heap:=h' } ⟨I.ok,I.os,I.bare,⟨λb o e n hb hx=>?_,λb o e n hb hx=>?_,I.base.free,λb o e hx=>?_,I.base.tups,I.base.frzs,I.base.tbls⟩,⟨m,hn.sameBut hs (ck (cne x c hc)),λj y v' e1 e2 e3=>?_⟩,λy c' e=>?_,I.free,I.freeC,λp hp=>?_,tracked ⟨oc,hoc,I.freeC x c hc⟩ hs,by simpa using I.len⟩ ⟨c,hs,.inr hc⟩
    . exact (hs.2 b (aQ (aN (Heap.lt_size e) (I.ok.cab x c hfn hc)))).trans (I.base.keep b o e n hb hx)
    . obtain ⟨sl,e1⟩:=I.base.slot b o e n hb hx;exact ⟨sl,(hs.2 b (aQ (aN (Heap.lt_size e) (I.ok.cab x c hfn hc)))).trans e1⟩
    . obtain ⟨o',e1⟩:=I.base.there b o e hx;exact ⟨o',(hs.2 b (aQ (aN (Heap.lt_size e) (I.ok.cab x c hfn hc)))).trans e1⟩
    . by_cases hj:j=i
      . subst hj;rw [hi] at e1; cases e1;rw [gR hiσ] at e2;cases e2
        exact ⟨u,r,.inr ⟨.inl hk,c,hc,hc'⟩⟩
      . rw [List.getElem?_set_ne (ck hj)] at e2;obtain ⟨u',r',q⟩:=hl j y v' e1 e2 e3;refine ⟨u',r',?_⟩;rcases q with q|⟨k,c',e,z'⟩
        . exact .inl q
        . refine .inr ⟨k,c',e,z'.sameBut hs ?_⟩;rintro rfl;exact hj (BZ hN e1 (I.ok.inj _ _ _ e hc ▸ hi))
    . by_cases hcc:c'=c
      . subst hcc; exact ⟨_,hc'⟩
      . obtain ⟨w2,z2⟩:=I.cell y c' e;exact ⟨w2,z2.sameBut hs hcc⟩
    . obtain ⟨e,n,ne,nf,d⟩:=I.pin p hp;refine ⟨(hs.2 p.1 ?_).trans e,n,ne,nf,d⟩;intro q;rw [q,hoc] at e;have q':oc=p.2:=aq e;exact d w' (by rw [<-q']; exact hocd)
theorem vn{A:Around}{i:Nat}{v:V}{u:Value}{Q:Unit->Shared->Prop}(I:Inv X pins σ H s)(hN:X.N.Nodup)(hi:X.N[i]?=some x)(hx:Loc X.env.scope x)(r:RelV v u)(h:∀ s',Inv X pins (σ.set i (some v)) H s'->Q () s')(hf:X.fn x=true\/X.env.scope.names.lookup x=some .local:=by first | exact .inl rfl | exact .inr rfl | assumption):wpAny M A (storeName X.env x u) Q E s :=
  AA I hN hi hx r (λs' I' _=>h s' I') hf
theorem Inv.call'{s':Shared}(I:Inv X pins σ H s)(ho:s'.os=s.os)(u:Un (frs X.stack) ch H H' s.heap s'.heap)(hok:HOk X.prog X.w H' s'.heap)(hg:AllBare s'.gens)(hch:∀ b∈ch,(b∈X.ex\/X.s₀.heap.objs.size<=b)/\b≠X.env.locals/\(∀ x c,X.env.cells.lookup x=some c->c≠b)/\∀ p∈X.pn++pins,p.1≠b):Inv X pins σ H' s':=by
  obtain ⟨h',g',d',t',o'⟩:=s';have e:o'=s.os:=ho;subst e;exact I.call (g':=g') (t':=t') (d':=d') u hok hg hch
end
abbrev XK:=Value->Option Addr->Hp->Prop
abbrev St:=List (Option V)
abbrev VK:=V->Hp->Prop
abbrev TE:=St->Hp->VK->Prop
abbrev TT:=St->Hp->(Bool->Hp->Prop)->Prop
abbrev TA:=St->Hp->(List V->Hp->Prop)->Prop
structure Ends where
  nx:St->Hp->Prop
  rt:VK
  bk:St->Hp->Prop:=λ_ _=>False
  ct:St->Hp->Prop:=λ_ _=>False
abbrev TS:=Ends->St->Hp->Prop
def EP(X:Cx)(pins:List (Addr×Obj))(σ:St)(Q:VK)(u:Value)(s':Shared):Prop:=∃ v H',Inv X pins σ H' s'/\RelV v u/\Q v H'
def TP(X:Cx)(pins:List (Addr×Obj))(σ:St)(Q:Bool->Hp->Prop)(b:Bool)(s':Shared):Prop:=∃ H',Inv X pins σ H' s'/\Q b H'
def AP(X:Cx)(pins:List (Addr×Obj))(σ:St)(Q:List V->Hp->Prop)(us:List Value)(s':Shared):Prop:=∃ vs H',Inv X pins σ H' s'/\Vals vs us/\Q vs H'
def SP(X:Cx)(pins:List (Addr×Obj))(D:Ends)(f:Flow)(s':Shared):Prop :=
  match f with
  | .next=>∃ σ' H',Inv X pins σ' H' s'/\D.nx σ' H'
  | .brk=>∃ σ' H',Inv X pins σ' H' s'/\D.bk σ' H'
  | .cont=>∃ σ' H',Inv X pins σ' H' s'/\D.ct σ' H'
  | .ret u=>∃ v σ' H',Inv X pins σ' H' s'/\RelV v u/\D.rt v H'
def PE(X:Cx)(e:Expr)(t:TE):Prop :=
  ∀ (pins:List (Addr×Obj)) (s:Shared) (σ:St) (H:Hp) (Q:VK),Inv X pins σ H s->t σ H Q->wpAny (model X.prog X.w) X.A (eval e X.env) (EP X pins σ Q) X.xe s
def PT(X:Cx)(e:Expr)(t:TT):Prop :=
  ∀ (pins:List (Addr×Obj)) (s:Shared) (σ:St) (H:Hp) (Q:Bool->Hp->Prop),Inv X pins σ H s->t σ H Q->wpAny (model X.prog X.w) X.A (isTrue e X.env (eval e X.env)) (TP X pins σ Q) X.xe s
def PW(X:Cx)(e:Expr)(t:TT):Prop :=
  ∀ (whole:Sem Value) (pins:List (Addr×Obj)) (s:Shared) (σ:St) (H:Hp) (Q:Bool->Hp->Prop),Inv X pins σ H s->t σ H Q->wpAny (model X.prog X.w) X.A (isTrue e X.env whole) (TP X pins σ Q) X.xe s
theorem PW.pt{X:Cx}{e:Expr}{t:TT}(h:PW X e t):PT X e t:=h _
def PA(X:Cx)(es:List Expr)(t:TA):Prop :=
  ∀ (pos:Pos) (pins:List (Addr×Obj)) (s:Shared) (σ:St) (H:Hp) (Q:List V->Hp->Prop),Inv X pins σ H s->t σ H Q->wpAny (model X.prog X.w) X.A (spliced (backTo pos (starEach es X.env))) (AP X pins σ Q) X.xe s
def PS(X:Cx)(st:Stmt)(t:TS):Prop :=
  ∀ (pins:List (Addr×Obj)) (s:Shared) (σ:St) (H:Hp) (D:Ends),Inv X pins σ H s->t D σ H->wpAny (model X.prog X.w) X.A (exec st X.env) (SP X pins D) X.xe s
def PSs(X:Cx)(st:List Stmt)(t:TS):Prop :=
  ∀ (pins:List (Addr×Obj)) (s:Shared) (σ:St) (H:Hp) (D:Ends),Inv X pins σ H s->t D σ H->wpAny (model X.prog X.w) X.A (execs st X.env) (SP X pins D) X.xe s
theorem thn{α:Type}{t:Sem α}{Q Q':α->Shared->Prop}{A:Around}{s:Shared}(h:wpAny M A t Q E s)(hQ:∀ a s,Q a s->Q' a s):wpAny M A t Q' E s:=iq h hQ λ_ _ x=>x
variable {op:CmpOp}{c:Expr}{pins:List (Addr×Obj)}
section
variable {X:Cx}
def tVar(i:Nat):TE:=λσ H Q=>∃ v,σ[i]?=some (some v)/\Q v H
def tC(v:V):TE:=λ_ H Q=>Q v H
variable {x:Str}
theorem Km{i:Nat}{pos:Pos}(hN:X.N[i]?=some x)(hv:Vis X.env.scope x)(hd:(x==("__debug__":Str))=false:=by decide)(hcd:(x==("__classdict__":Str))=false:=by decide):PE X (.Name x pos) (tVar i):=by
  intro pins s σ H Q I h;obtain ⟨v,e,h⟩:=h;obtain ⟨m,hn,hl⟩:=I.loc;obtain ⟨u,r,l⟩:=hl i x v hN e hv;have fin:EP X pins σ Q u s:=⟨v,H,I,r,h⟩
  rcases l with ⟨hk,hm⟩|⟨hk,c,hc,hcell⟩
  . exact wpAny_Name (wpAny_loadName_local I.ok.kind hk hn hm fin) hd
  . rcases hk with hk | hk
    . exact wpAny_Name (wpAny_loadName_cell I.ok.kind hk hc hcell fin) hd
    . exact wpAny_Name (wpAny_loadName_free I.ok.kind hk hc hcell fin hcd) hd
theorem zc{i j pos}:PE X (.Constant (.int i) j pos) (tC (.int i)):=λ_ _ _ H _ I h=>wpAny_Constant_int ⟨.int i,H,I.tok _,⟨_,rfl⟩,h⟩
theorem wP{b j pos}:PE X (.Constant (.bool b) j pos) (tC (.bl b)):=λ_ _ _ H _ I h=>Constant_bool ⟨.bl b,H,I,rfl,h⟩
theorem wW{j pos}:PE X (.Constant .none j pos) (tC .non):=λ_ _ _ H _ I h=>Constant_none ⟨.non,H,I,rfl,h⟩
theorem zP{x j pos}:PE X (.Constant (.str x) j pos) (tC (.str x)):=λ_ _ _ H _ I h=>Calls.Constant_str ⟨.str x,H,I.tok _,⟨_,rfl⟩,h⟩
def Gl(X:Cx)(x:Str):Prop:=X.env.kindOf x=some .globalImplicit
theorem Bz{s:Shared}{σ:St}{u:Value}{pos:Pos}{Q:Value->Shared->Prop}(I:Inv X pins σ H s)(hg:Gl X x)(hm:X.mg x=some u)(h:Q u s)(hd:(x==("__debug__":Str))=false:=by decide):wpAny (model X.prog X.w) X.A (eval (.Name x pos) X.env) Q E s :=
  Calls.Name_function_global I.ok.kind hg (Calls.loadGlobal_global (by rw [I.ok.glob]; exact I.mod.glob.keeps I.bk) hm h) hd
theorem v0{s:Shared}{σ:St}{u:Value}{pos:Pos}{Q:Value->Shared->Prop}(I:Inv X pins σ H s)(hg:Gl X x)(hm:X.mg x=none)(hv:bootBuiltins x=some u)(h:Q u s)(hn:x≠"__name__":=by decide)(hd:(x==("__debug__":Str))=false:=by decide):wpAny (model X.prog X.w) X.A (eval (.Name x pos) X.env) Q E s:=by
  obtain ⟨mb,h1,h2⟩:=I.mod.blt;exact Calls.Name_function_global I.ok.kind hg (Calls.loadGlobal_builtin (by rw [I.ok.glob]; exact I.mod.glob.keeps I.bk) hm (by rw [I.ok.blt]; exact h1.keeps I.bk) ((h2 x hn).trans hv) h) hd
theorem yk{v:V}{u:Value}{pos:Pos}(hg:Gl X x)(hm:X.mg x=some u)(r:RelV v u)(hd:(x==("__debug__":Str))=false:=by decide):PE X (.Name x pos) (tC v) :=
  λ_ _ _ H _ I h=>Bz I hg hm ⟨v,H,I,r,h⟩ hd
theorem vX{v:V}{u:Value}{pos:Pos}(hg:Gl X x)(hm:X.mg x=none)(hv:bootBuiltins x=some u)(r:RelV v u)(hn:x≠"__name__":=by decide)(hd:(x==("__debug__":Str))=false:=by decide):PE X (.Name x pos) (tC v) :=
  λ_ _ _ H _ I h=>v0 I hg hm hv ⟨v,H,I,r,h⟩ hn hd
variable {a b:Expr}{ta tb:TE}{pos:Pos}
def PC(X:Cx)(op:CmpOp)(a b:Expr)(t:TE):Prop :=
  ∀ (pins:List (Addr×Obj)) (s:Shared) (σ:St) (H:Hp) (Q:VK),Inv X pins σ H s->t σ H Q ->
    wpAny (model X.prog X.w) X.A (eval a X.env) (λv s₁=>wpAny (model X.prog X.w) X.A (eval b X.env) (λu s₂=>wpAny (model X.prog X.w) X.A (compareOp op v u) (EP X pins σ Q) X.xe s₂) X.xe s₁) X.xe s
def tB(t:TE):TT:=λσ H Q=>t σ H λx H1=>∃ c,x=.bl c/\Q c H1
variable {t:TE}
theorem Lu(h:PC X op a b t)(h1:behindInMarks op b=false:=by first | exact nobehind _ (by decide) (by decide) | rfl):PT X (.Compare a [op] [b] pos) (tB t):=by
  intro pins s σ H Q I hw;refine wpAny_isTrue_Compare1 (thn (h pins s σ H _ I hw) λv s1 h1=>thn h1 λu s2 h2=>thn h2 λc s3 ⟨x,H1,I1,r1,q1⟩=>?_) h1;obtain ⟨d,rfl,q⟩:=q1;cases r1
  exact ir ⟨H1,I1,q⟩
theorem yY{e:Expr}(h:PE X e t)(he:∀ whole,isTrue e X.env whole=(do let v <-whole; standAt e.pos; holding [v] (truthy v)):=by intro _; rfl):PT X e (tB t):=by
  intro pins s σ H Q I hw;refine isTrue_plain (thn (h pins s σ H _ I hw) λv s1 ⟨x,H1,I1,r1,q1⟩=>?_) (he _);obtain ⟨d,rfl,q⟩:=q1;cases r1
  exact ir ⟨H1,I1,q⟩
variable {tA tB':TT}{rest:List Expr}
def tAnd(t u:TT):TT:=λσ H Q=>t σ H λc H1=>if c=true then u σ H1 Q else Q false H1
def tOr(t u:TT):TT:=λσ H Q=>t σ H λc H1=>if c=true then Q true H1 else u σ H1 Q
def tNot(t:TT):TT:=λσ H Q=>t σ H λc H1=>Q (!c) H1
theorem yw(ha:PT X a tA):PW X (.BoolOp .And [a] pos) tA:=by
  intro wh pins s σ H Q I h;refine isTrue_and (thn (ha pins s σ H Q I h) λc s1 e=>?_);cases c with
  | true=>exact isTrue_and_nil e
  | false=>exact e
theorem xN(ha:PT X a tA):PW X (.BoolOp .Or [a] pos) tA:=by
  intro wh pins s σ H Q I h;refine isTrue_or (thn (ha pins s σ H Q I h) λc s1 e=>?_);cases c with
  | false=>exact isTrue_or_nil e
  | true=>exact e
theorem yQ(ha:PT X a tA)(hb:PW X (.BoolOp .And (b::rest) pos) tB'):PW X (.BoolOp .And (a::b::rest) pos) (tAnd tA tB'):=by
  intro wh pins s σ H Q I h;refine isTrue_and (thn (ha pins s σ H _ I h) λc s1 ⟨H1,I1,q1⟩=>?_);cases c with
  | true=>exact hb wh pins s1 σ H1 Q I1 q1
  | false=>exact ⟨H1,I1,q1⟩
theorem vx(ha:PT X a tA)(hb:PW X (.BoolOp .Or (b::rest) pos) tB'):PW X (.BoolOp .Or (a::b::rest) pos) (tOr tA tB'):=by
  intro wh pins s σ H Q I h;refine isTrue_or (thn (ha pins s σ H _ I h) λc s1 ⟨H1,I1,q1⟩=>?_);cases c with
  | true=>exact ⟨H1,I1,q1⟩
  | false=>exact hb wh pins s1 σ H1 Q I1 q1
theorem xZ(ha:PT X a tA):PT X (.UnaryOp .Not a pos) (tNot tA):=by
  intro pins s σ H Q I h;exact isTrue_not (ha pins s σ H (λc H1=>Q (!c) H1) I h)
def J9(ta tb:TE):TE:=λσ H Q=>ta σ H λx H1=>∃ c,x=.bl c/\if c=true then tb σ H1 Q else Q (.bl false) H1
def tOrV(ta tb:TE):TE:=λσ H Q=>ta σ H λx H1=>∃ c,x=.bl c/\if c=true then Q (.bl true) H1 else tb σ H1 Q
def JJ(ta:TE):TE:=λσ H Q=>ta σ H λx H1=>∃ c,x=.bl c/\Q (.bl (!c)) H1
theorem BU{op}(h:PE X a t):PE X (.BoolOp op [a] pos) t:=λpins s σ H Q I hw=>BoolOp_one (h pins s σ H Q I hw)
theorem Hx(ha:PE X a ta)(hb:PE X (.BoolOp .And (b::rest) pos) tb):PE X (.BoolOp .And (a::b::rest) pos) (J9 ta tb):=by
  intro pins s σ H Q I h;refine BoolOp_and (thn (ha pins s σ H _ I h) λv s1 ⟨x,H1,I1,r1,q1⟩=>?_);obtain ⟨c,rfl,q1⟩:=q1;cases r1
  refine ir ?_;cases c with
  | true=>exact hb pins s1 σ H1 Q I1 q1
  | false=>exact ⟨.bl false,H1,I1,rfl,q1⟩
theorem Kg(ha:PE X a ta)(hb:PE X (.BoolOp .Or (b::rest) pos) tb):PE X (.BoolOp .Or (a::b::rest) pos) (tOrV ta tb):=by
  intro pins s σ H Q I h;refine BoolOp_or (thn (ha pins s σ H _ I h) λv s1 ⟨x,H1,I1,r1,q1⟩=>?_);obtain ⟨c,rfl,q1⟩:=q1;cases r1
  refine ir ?_;cases c with
  | false=>exact hb pins s1 σ H1 Q I1 q1
  | true=>exact ⟨.bl true,H1,I1,rfl,q1⟩
theorem LK(ha:PE X a ta):PE X (.UnaryOp .Not a pos) (JJ ta):=by
  intro pins s σ H Q I h;refine UnaryOp_ (thn (ha pins s σ H _ I h) λv s1 ⟨x,H1,I1,r1,q1⟩=>?_);obtain ⟨c,rfl,q1⟩:=q1;cases r1
  exact not_of (ir ⟨.bl (!c),H1,I1,rfl,q1⟩)
def tIf(t:TT)(ta tb:TE):TE:=λσ H Q=>t σ H λc H1=>if c=true then ta σ H1 Q else tb σ H1 Q
theorem xj(hc:PT X c tA)(ha:PE X a ta)(hb:PE X b tb):PE X (.IfExp c a b pos) (tIf tA ta tb):=by
  intro pins s σ H Q I h;refine wpAny_IfExp (thn (hc pins s σ H _ I h) λd s1 ⟨H1,I1,q1⟩=>?_);cases d with
  | true=>exact ha pins s1 σ H1 Q I1 q1
  | false=>exact hb pins s1 σ H1 Q I1 q1
end
def SqL(K:iJ)(H:Hp)(a:Addr)(xs:List V):Prop :=
  Rd H a (.lst xs) \/
    ∃ (o:Obj) (its:Array Value) (n:Nat),K.lookup a=some o/\o.cls=.type "list"/\o.dict=none/\o.data=.seq its n/\its.size<=sizeLine/\Vals xs its.toList
def SqT(K:iJ)(H:Hp)(a:Addr)(xs:List V):Prop :=
  Rd H a (.tup xs) \/
    ∃ (o:Obj) (its:Array Value) (n:Nat),K.lookup a=some o/\o.cls=.type "tuple"/\o.data=.seq its n/\its.size<=sizeLine/\Vals xs its.toList
def absV:Value->Option V
  | .none=>some .non
  | .bool b=>some (.bl b)
  | .int i _=>some (.int i)
  | .str x _=>some (.str x)
  | .bytes b _=>some (.byt b)
  | .float b _=>some (.flt b)
  | .ref a=>some (.ref a)
  | .type n=>some (.ty n)
  | _=>none
theorem RelV.abs{x:V}{u:Value}(r:RelV x u):absV u=some x:=by
  cases x with
  | non=>cases r; rfl
  | bl _=>cases r; rfl
  | int _=>obtain ⟨t,rfl⟩:=r; rfl
  | str _=>obtain ⟨t,rfl⟩:=r; rfl
  | byt _=>obtain ⟨t,rfl⟩:=r; rfl
  | flt _=>obtain ⟨t,rfl⟩:=r; rfl
  | ref _=>cases r; rfl
  | ty _=>cases r; rfl
theorem RelV.inj{x y:V}{u:Value}(r:RelV x u)(q:RelV y u):x=y:=aq (r.abs.symm.trans q.abs)
theorem Vals.inj:∀ {xs ys:List V} {us:List Value},Vals xs us->Vals ys us->xs=ys
  | _,_,_,.nil,.nil=>rfl
  | _,_,_,.cons r t,.cons r' t'=>by rw [r.inj r',Vals.inj t t']
section
variable {X:Cx}{pins:List (Addr×Obj)}{σ:St}{s:Shared}{xs ys:List V}
theorem SqL.of{K:iJ}(h:H a=some (.lst xs)):SqL K H a xs:=.inl (.inl h)
theorem SqT.of{K:iJ}(h:H a=some (.tup xs)):SqT K H a xs:=.inl (.inl h)
theorem Inv.list(I:Inv X pins σ H s)(h:SqL X.K H a xs):∃ its:List Value,Vals xs its/\PlainL s.heap a its.toArray/\xs.length<=sizeLine:=by
  rcases h with h|⟨o,its,n,hk,hc,hd,hs,hz,r⟩
  . obtain ⟨z,its,n,r,e⟩:=h.ok I.hok;exact ⟨its,r,⟨_,n,e,rfl,rfl,rfl⟩,z⟩
  . refine ⟨its.toList,r,⟨o,n,I.kIn a o hk,hc,hd,by simpa using hs⟩,?_⟩;have e:=r.length;simp only [ee] at e;omega
theorem Inv.tuple(I:Inv X pins σ H s)(h:SqT X.K H a xs):∃ its:List Value,Vals xs its/\IsTup s.heap a its.toArray/\xs.length<=sizeLine:=by
  rcases h with h|⟨o,its,n,hk,hc,hs,hz,r⟩
  . obtain ⟨z,its,r,p⟩:=h.ok I.hok;exact ⟨its,r,p,z⟩
  . refine ⟨its.toList,r,⟨o,I.kIn a o hk,hc,n,by simpa using hs⟩,?_⟩;have e:=r.length;simp only [ee] at e;omega
theorem Inv.list_inj(I:Inv X pins σ H s)(h:SqL X.K H a xs)(h':SqL X.K H a ys):xs=ys:=by
  obtain ⟨its,r,⟨o,n,e,_,_,d⟩,_⟩:=I.list h;obtain ⟨its',r',⟨o',n',e',_,_,d'⟩,_⟩:=I.list h';rw [e] at e'; cases e';rw [d] at d';injection d' with d1 _;have:its=its':=by simpa using congrArg Array.toList d1
  subst this;exact r.inj r'
theorem Inv.tuple_inj(I:Inv X pins σ H s)(h:SqT X.K H a xs)(h':SqT X.K H a ys):xs=ys:=by
  obtain ⟨its,r,⟨o,e,_,n,d⟩,_⟩:=I.tuple h;obtain ⟨its',r',⟨o',e',_,n',d'⟩,_⟩:=I.tuple h';rw [e] at e'; cases e';rw [d] at d';injection d' with d1 _;have:its=its':=by simpa using congrArg Array.toList d1
  subst this;exact r.inj r'
end
abbrev Cx.wish(X:Cx)(E:Value->Shared->Prop):Cx:={ X with xe:=E }
abbrev Cx.nox(X:Cx):Cx:=X.wish λ_ _=>False
theorem Cx.Ok.wish{X:Cx}(ok:X.Ok)(E:Value->Shared->Prop):(X.wish E).Ok :=
  ⟨ok.mod,ok.kind,ok.glob,ok.blt,ok.above,ok.inj,ok.has,ok.cab,ok.hd,ok.frames,ok.stk,ok.exf,ok.bs,ok.bsz,ok.noex,ok.exfs,ok.funs,ok.frf⟩
theorem Cx.Ok.unwish{X:Cx}(ok:(X.wish E).Ok):X.Ok :=
  ⟨ok.mod,ok.kind,ok.glob,ok.blt,ok.above,ok.inj,ok.has,ok.cab,ok.hd,ok.frames,ok.stk,ok.exf,ok.bs,ok.bsz,ok.noex,ok.exfs,ok.funs,ok.frf⟩
section
variable {X:Cx}{pins:List (Addr×Obj)}{σ:St}{s:Shared}{E:Value->Shared->Prop}
theorem Inv.wish(I:Inv X pins σ H s)(E:Value->Shared->Prop):Inv (X.wish E) pins σ H s:=⟨I.ok.wish E,I.os,I.bare,I.base,I.loc,I.cell,I.free,I.freeC,I.pin,I.hok,I.len⟩
theorem Inv.unwish(I:Inv (X.wish E) pins σ H s):Inv X pins σ H s:=⟨I.ok.unwish,I.os,I.bare,I.base,I.loc,I.cell,I.free,I.freeC,I.pin,I.hok,I.len⟩
theorem SP.unwish{D:Ends}{f:Flow}{s':Shared}(h:SP (X.wish E) pins D f s'):SP X pins D f s':=by
  cases f with
  | next=>obtain ⟨σ',H',I,q⟩:=h; exact ⟨σ',H',I.unwish,q⟩
  | brk=>obtain ⟨σ',H',I,q⟩:=h; exact ⟨σ',H',I.unwish,q⟩
  | cont=>obtain ⟨σ',H',I,q⟩:=h; exact ⟨σ',H',I.unwish,q⟩
  | ret u=>obtain ⟨v,σ',H',I,r,q⟩:=h; exact ⟨v,σ',H',I.unwish,r,q⟩
theorem PSs.nox{st:List Stmt}{t:TS}(h:PSs X.nox st t):PSs X st t:=λpins s σ H D I hw =>
  iq (h pins s σ H D (I.wish _) hw) (λ_ _ q=>q.unwish) λ_ _ z=>False.elim z
end
variable {tc:TT}
section
variable {X:Cx}{st:Stmt}{rest:List Stmt}{t u:TS}{e:Expr}{te:TE}{pos:Pos}
def Lx:TS:=λD σ H=>D.nx σ H
def tSeq(t u:TS):TS:=λD σ H=>t { D with nx:=u D } σ H
theorem zo:PSs X [] Lx:=λ_ _ σ H _ I h=>iu ⟨σ,H,I,h⟩
theorem za(h1:PS X st t)(h2:PSs X rest u):PSs X (st::rest) (tSeq t u):=by
  intro pins s σ H D I h;refine wpAny_execs_cons (thn (h1 pins s σ H { D with nx:=u D } I h) λf s1 q=>?_);cases f with
  | next =>
    obtain ⟨σ',H',I',q⟩:=q;exact h2 pins s1 σ' H' D I' q
  | ret v=>exact q
  | brk=>exact q
  | cont=>exact q
theorem zd(h1:PS X st t):PSs X [st] t:=by
  intro pins s σ H D I h;refine wpAny_execs_cons (thn (h1 pins s σ H D I h) λf s1 q=>?_);cases f with
  | next=>exact iu q
  | ret v=>exact q
  | brk=>exact q
  | cont=>exact q
theorem Inv.quiet{σ:St}{s:Shared}(I:Inv X pins σ H s):interactive X.env=false:=by simp [interactive,I.ok.kind]
def Lz(te:TE):TS:=λD σ H=>te σ H λ_ H1=>D.nx σ H1
theorem zU(he:PE X e te)(hs:swapsWith e none pos.line X.env=pure false:=by rfl):PS X (.Expr e pos) (Lz te):=by
  intro pins s σ H D I h;exact wpAny_Expr_any (thn (he pins s σ H _ I h) λv s1 ⟨x,H1,I1,r1,q1⟩=>⟨σ,H1,I1,q1⟩) I.quiet hs
def tRet(te:TE):TS:=λD σ H=>te σ H D.rt
theorem zh(he:PE X e te):PS X (.Return (some e) pos) (tRet te):=by
  intro pins s σ H D I h;exact wpAny_Return_some (thn (he pins s σ H _ I h) λv s1 ⟨x,H1,I1,r1,q1⟩=>⟨x,σ,H1,I1,r1,q1⟩)
def tIfS(c:TT)(t u:TS):TS:=λD σ H=>c σ H λb H1=>if b=true then t D σ H1 else u D σ H1
theorem zw{a b:List Stmt}(hc:PT X c tc)(ha:PSs X a t)(hb:PSs X b u):PS X (.If c a b pos) (tIfS tc t u):=by
  intro pins s σ H D I h;refine wpAny_If (thn (hc pins s σ H _ I h) λd s1 ⟨H1,I1,q1⟩=>?_);cases d with
  | true=>exact ha pins s1 σ H1 D I1 q1
  | false=>exact hb pins s1 σ H1 D I1 q1
def Ht:TS:=λ_ _ _=>False
theorem yV:PS X st Ht:=λ_ _ _ _ _ _ h=>h.elim
theorem En{sts:List Stmt}:PSs X sts Ht:=λ_ _ _ _ _ _ h=>h.elim
end
abbrev TG:=V->St->Hp->(St->Hp->Prop)->Prop
abbrev TGs:=List V->St->Hp->(St->Hp->Prop)->Prop
def PG(X:Cx)(target:Expr)(t:TG):Prop :=
  ∀ (pins:List (Addr×Obj)) (s:Shared) (σ:St) (H:Hp) (v:V) (u:Value) (Q:St->Hp->Prop),Inv X pins σ H s->RelV v u->t v σ H Q ->
    wpAny (model X.prog X.w) X.A (assign target X.env u) (λ_ s'=>∃ σ' H',Inv X pins σ' H' s'/\Q σ' H') X.xe s
def PGs(X:Cx)(ts:List Expr)(t:TGs):Prop :=
  ∀ (pins:List (Addr×Obj)) (s:Shared) (σ:St) (H:Hp) (vs:List V) (us:List Value) (Q:St->Hp->Prop),Inv X pins σ H s->Vals vs us->t vs σ H Q ->
    wpAny (model X.prog X.w) X.A (assignInOrder ((assignEach ts X.env).map (·.2)) us) (λ_ s'=>∃ σ' H',Inv X pins σ' H' s'/\Q σ' H') X.xe s
abbrev TSet:=V->V->V->Hp->(Hp->Prop)->Prop
def PSet(X:Cx)(t:TSet):Prop :=
  ∀ (pins:List (Addr×Obj)) (s:Shared) (σ:St) (H:Hp) (o i v:V) (ov iv u:Value) (Q:Hp->Prop),Inv X pins σ H s->RelV o ov->RelV i iv->RelV v u->t o i v H Q ->
    wpAny (model X.prog X.w) X.A (setItem ov iv u) (λ_ s'=>∃ H',Inv X pins σ H' s'/\Q H') X.xe s
variable {X:Cx}{pos:Pos}
def Bj(i:Nat):TG:=λv σ H Q=>Q (σ.set i (some v)) H
theorem Jk{i:Nat}{x:Str}(hN:X.N.Nodup)(hi:X.N[i]?=some x)(hx:Loc X.env.scope x)(hf:X.fn x=true\/X.env.scope.names.lookup x=some .local:=by first | exact .inl rfl | exact .inr rfl | assumption):PG X (.Name x pos) (Bj i):=by
  intro pins s σ H v u Q I r h;exact wpAny_assign_Name (vn I hN hi hx r (λs' I'=>⟨_,H,I',h⟩) hf)
def gNil:TGs:=λvs σ H Q=>vs=[]/\Q σ H
def Lp(t:TG)(u:TGs):TGs:=λvs σ H Q=>∃ v r,vs=v::r/\t v σ H λσ' H'=>u r σ' H' Q
theorem wF:PGs X [] gNil:=by
  intro pins s σ H vs us Q I r h;obtain ⟨e,h⟩:=h;subst e;cases r
  exact assignInOrder_nil ⟨σ,H,I,h⟩
theorem ya{e:Expr}{es:List Expr}{t:TG}{u:TGs}(h1:PG X e t)(h2:PGs X es u)(hs:(assignEach (e::es) X.env).map (·.2)=assign e X.env::(assignEach es X.env).map (·.2):=by rfl):PGs X (e::es) (Lp t u):=by
  intro pins s σ H vs us Q I r h;obtain ⟨v,vr,e1,h⟩:=h;subst e1;cases r with
  | cons r rr =>
    rw [hs];refine iw (thn (h1 pins s σ H _ _ _ I r h) λ_ s1 ⟨σ1,H1,I1,q1⟩=>?_);exact h2 pins s1 σ1 H1 _ _ Q I1 rr q1
def gTup(K:iJ)(n:Nat)(t:TGs):TG:=λv σ H Q=>∃ a xs,v=.ref a/\SqT K H a xs/\xs.length=n/\t xs σ H Q
theorem uN{es:List Expr}{k:Nat}{t:TGs}{n:Nat}(hc:X.calm=true)(h:PGs X es t)(hn:(assignEach es X.env).length=n:=by rfl)(hst:(assignEach es X.env).findIdx? (·.1)=none:=by rfl):PG X (.Tuple es k pos) (gTup X.K n t):=by
  intro pins s σ H v u Q I r hw;obtain ⟨a,xs,e1,hq,hl,hw⟩:=hw;subst e1;cases r
  obtain ⟨its,rv,ht,hz⟩:=I.tuple hq;refine assign_Tuple_tuple (I.ok.hd hc) ht (by simp [hn,<-hl,rv.length]) hst λh' hx=>?_;have I1:Inv X pins σ H { s with heap:=h' }:=I.kept (t':=s.toks) λb o e=>hx b o (aQ (Heap.lt_size e)) e;exact h pins _ σ H xs _ Q I1 (by simpa using rv) hw
def gSub(to ti:TE)(t:TSet):TG:=λv σ H Q=>to σ H λo H1=>ti σ H1 λi H2=>t o i v H2 λH3=>Q σ H3
theorem Hw{o i:Expr}{to ti:TE}{t:TSet}(ho:PE X o to)(hi:PE X i ti)(hs:PSet X t)(ha:∀ v,assign (.Subscript o i pos) X.env v=(do
      let ov <-holding [v] (eval o X.env)
      let iv <-holding [v,ov] (eval i X.env)
      standAt pos
      holding [v,ov,iv] (setItem ov iv v)
      release [v,ov,iv] []):=by intro _; rfl):PG X (.Subscript o i pos) (gSub to ti t):=by
  intro pins s σ H v u Q I r h;rw [ha];refine ix (iy (thn (ho pins s σ H _ I h) λov s1 ⟨x,H1,I1,r1,q1⟩=>?_));refine ix (iy (thn (hi pins s1 σ H1 _ I1 q1) λiv s2 ⟨y,H2,I2,r2,q2⟩=>?_));refine ix (iz (ix (iy (thn (hs pins s2 σ H2 x y v ov iv u _ I2 r1 r2 r q2) λ_ s3 ⟨H3,I3,q3⟩=>?_))));exact wpAny_release ⟨σ,H3,I3,q3⟩
def tAsg(te:TE)(g:TG):TS:=λD σ H=>te σ H λx H1=>g x σ H1 D.nx
variable {g:TG}
theorem Fn{tg e:Expr}{te:TE}(he:PE X e te)(hg:PG X tg g)(hs:swapsWithSole [tg] e pos.line X.env=pure false:=by rfl)(hw:swappedStores [tg] e X.env=pure none:=by rfl)(h1:(assignEach [tg] X.env).map (·.2)=[assign tg X.env]:=by rfl):PS X (.Assign [tg] e pos) (tAsg te g):=by
  intro pins s σ H D I h;refine wpAny_Assign_stores (thn (he pins s σ H _ I h) λv s1 ⟨x,H1,I1,r1,q1⟩=>?_) hs hw;rw [h1];exact thn (hg pins s1 σ H1 x v _ I1 r1 q1) λ_ s2 q=>q
theorem HC{i:Nat}{x:Str}{e:Expr}{te:TE}{pos':Pos}(hN:X.N.Nodup)(hi:X.N[i]?=some x)(hx:Loc X.env.scope x)(he:PE X e te)(hs:swapsWith e (some (.Name x pos')) pos.line X.env=pure false:=by rfl)(hf:X.fn x=true\/X.env.scope.names.lookup x=some .local:=by first | exact .inl rfl | exact .inr rfl | assumption) :
    PS X (.Assign [.Name x pos'] e pos) (tAsg te (Bj i)):=by
  intro pins s σ H D I h;refine wpAny_Assign_Name (thn (he pins s σ H _ I h) λv s1 ⟨y,H1,I1,r1,q1⟩=>?_) hs;exact vn I1 hN hi hx r1 (λs2 I2=>⟨_,H1,I2,q1⟩) hf
def tPar(i j:Nat)(ta:TA):TS:=λD σ H=>ta σ H λvs H1=>∃ v w,vs=[v,w]/\D.nx ((σ.set i (some v)).set j (some w)) H1
theorem Fd{i j:Nat}{x y:Str}{a b:Expr}{ta:TA}{px py pt:Pos}{kt k2 pt2}(hc:X.calm=true)(hN:X.N.Nodup)(hi:X.N[i]?=some x)(hj:X.N[j]?=some y)(hij:i≠j)(hx:X.env.scope.names.lookup x=some .local)(hy:X.env.scope.names.lookup y=some .local)(ha:PA X [a,b] ta)(hw:swappedStores [.Tuple [.Name x px,.Name y py] kt pt] (.Tuple [a,b] k2 pt2) X.env=pure (some [x,y]))(hs:swapsWithSole [.Tuple [.Name x px,.Name y py] kt pt] (.Tuple [a,b] k2 pt2) pos.line X.env=pure false:=by rfl) :
    PS X (.Assign [.Tuple [.Name x px,.Name y py] kt pt] (.Tuple [a,b] k2 pt2) pos) (tPar i j ta):=by
  intro pins s σ H D I h;rw [exec_Assign_arm];refine ix (iz ?_);rw [hs];refine ix (iA ?_);rw [ip (by decide)];refine ix (Tuple_ (thn (ha _ pins s σ H _ I h) λus s1 ⟨vs,H1,I1,r1,q1⟩=>?_));obtain ⟨v,w,e1,q1⟩:=q1;subst e1;obtain ⟨u1,u2,rfl,rv,rw'⟩:∃ u1 u2,us=[u1,u2]/\RelV v u1/\RelV w u2:=by
    cases r1 with
    | cons p q =>
      cases q with
      | cons p' q' =>
        cases q'
        exact ⟨_,_,rfl,p,p'⟩
  refine iB ?_ (by show 2<=sizeLine; decide);have I2:Inv X pins σ H1 { s1 with heap:=s1.heap.push { cls:=.type "tuple",data:=.seq [u1,u2].toArray } }:=I1.kept (t':=s1.toks) λb o e=>Heap.get?_push_of_some _ e;rw [hw];refine ix (iA ?_);show wpAny (model X.prog X.w) X.A (do rule "assign.swapped-stores"; let items <-unpackItems (.ref s1.heap.objs.size) 2 none; assignInOrder [λv=>bindName X.env y v,λv=>bindName X.env x v] items.reverse; pure Flow.next) _ _ _;refine ix (wpAny_rule (ix (unpackItems_tuple (items:=#[u1,u2]) (I.ok.hd hc) (IsTup.new s1.heap _) λh' hx'=>?_)));have I3:=I2.kept (h':=h') (t':=s1.toks) λb o e=>hx' b o (aQ (Heap.lt_size e)) e;show wpAny _ _ (assignInOrder [λv=>bindName X.env y v,λv=>bindName X.env x v] [u2,u1] >>= λ_=>pure Flow.next) _ _ _;refine ix (iw (wpAny_bindName (vn I3 hN hj (.inl hy) rw' (λs2 I4=>?_) (.inr hy))));refine iw (wpAny_bindName (vn I4 hN hi (.inl hx) rv (λs3 I5=>assignInOrder_nil (iA ?_)) (.inr hx)));rw [List.set_comm _ _ (ck hij)] at I5;exact ⟨_,H1,I5,q1⟩
def B6(c:TT)(tb:TS):TS:=λD σ H=>∃ W:Nat->St->Hp->Prop,(∃ m,W m σ H)/\∀ m σ H,W m σ H ->
  c σ H λb H1=>if b=true then ∃ N:St->Hp->Prop,(∀ σ' H',N σ' H'->∃ m',m'<m/\W m' σ' H')/\tb { D with nx:=N,ct:=N,bk:=D.nx } σ H1 else D.nx σ H1
variable {body:List Stmt}
theorem wp{tb:TS}(hp:PassesOwn (model X.prog X.w) X.A X.env X.xe)(hc:PT X c tc)(hb:PSs X body tb):PS X (.While c body [] pos) (B6 tc tb):=by
  intro pins s σ H D I h;obtain ⟨W,⟨m0,w0⟩,turn⟩:=h;refine wpAny_While (codeAny_whileLoop (λn s'=>∃ σ' H',Inv X pins σ' H' s'/\W n σ' H') ?_ m0 ⟨σ,H,I,w0⟩);rintro n s1 ⟨σ1,H1,I1,w1⟩;refine iC hp (thn (hc pins s1 σ1 H1 _ I1 (turn n σ1 H1 w1)) λb s2 ⟨H2,I2,q2⟩=>?_);cases b with
  | true =>
    obtain ⟨N,hN,q2⟩:=q2;rw [io rfl];refine iC hp (thn (hb pins s2 σ1 H2 _ I2 q2) λf s3 q3=>?_);cases f with
    | next =>
      obtain ⟨σ3,H3,I3,n3⟩:=q3;obtain ⟨m',hm,w3⟩:=hN σ3 H3 n3;exact ⟨m',hm,σ3,H3,I3,w3⟩
    | cont =>
      obtain ⟨σ3,H3,I3,n3⟩:=q3;obtain ⟨m',hm,w3⟩:=hN σ3 H3 n3;exact ⟨m',hm,σ3,H3,I3,w3⟩
    | brk=>exact q3
    | ret v=>exact q3
  | false =>
    rw [ip aP];exact iu ⟨σ1,H2,I2,q2⟩
structure It where
  go:Nat->Hp->Prop
  yld:Nat->Hp->V->Hp->Prop
  stop:Nat->Hp->Prop
def FpOk(X:Cx)(pins:List (Addr×Obj))(H:Hp)(b:Addr):Prop :=
  H b=none/\b≠X.env.locals/\b∉X.fs/\(b∈X.ex\/X.s₀.heap.objs.size<=b)/\(∀ x c,X.env.cells.lookup x=some c->c≠b)/\∀ p∈X.pn++pins,p.1≠b
theorem Inv.fpOk{σ:St}{s:Shared}{b:Addr}(I:Inv X pins σ H s)(hb:s.heap.objs.size<=b)(hn:H' b=none):FpOk X pins H' b:=by
  refine ⟨hn,gW (aN I.lt hb),I.nofs hb,.inr (ce I.sz hb),λx c e z=>?_,λp hp z=>?_⟩
  . obtain ⟨v,q⟩:=I.cell x c e;exact absurd (aN q.lt (by rw [z]; exact hb)) (dh _)
  . exact absurd (aN (Heap.lt_size (I.pin p hp).1) (by rw [z]; exact hb)) (dh _)
structure Turn(P:Program)(w:World)(K:iJ)(tg:Expr)(J:It)(fp:List Addr)(it:Addr)(tn:Nat->Heap->Prop):Prop where
  mem:it∈fp
  obj:∀ i h,tn i h->∀ b∈fp,∃ o,h.get? b=some o/\∀ v,o.data≠.cell v
  keep:∀ i h h',tn i h->(∀ b∈fp,∀ o,h.get? b=some o->h'.get? b=some o)->tn i h'
  item:∀ (X:Cx),X.prog=P->X.w=w->X.K=K->X.calm=true->∀ (i:Nat) (pins:List (Addr×Obj)) (s:Shared) (σ:St) (H:Hp) (E:Value->Shared->Prop),Inv X pins σ H s->(∀ b∈fp,FpOk X pins H b)->tn i s.heap->J.go i H ->
    wpAny (model P w) X.A (pyNext (.ref it)) (λr s1=>∃ u,r=some u /\
      wpAny (model P w) X.A (letOwnedTupleGo tg (.ref it) u) (λ_ s2=>∃ x H',Inv X pins σ H' s2/\RelV x u/\J.yld i H x H'/\tn (i+1) s2.heap/\∀ b∈fp,H' b=none) E s1) E s
  done:∀ (X:Cx),X.prog=P->X.w=w->X.K=K->X.calm=true->∀ (i:Nat) (pins:List (Addr×Obj)) (s:Shared) (σ:St) (H:Hp) (E:Value->Shared->Prop),Inv X pins σ H s->(∀ b∈fp,FpOk X pins H b)->tn i s.heap->J.stop i H ->
    wpAny (model P w) X.A (pyNext (.ref it)) (λr s1=>r=none/\Inv X pins σ H s1) E s
  self:∀ (A:Around) (i:Nat) (s:Shared) (Q:Value->Shared->Prop) (E:Value->Shared->Prop),tn i s.heap->Q (.ref it) s->wpAny (model P w) A (pyIter (.ref it)) Q E s
abbrev TI:=St->Hp->(It->Hp->Prop)->Prop
def PIE(X:Cx)(pins:List (Addr×Obj))(σ:St)(tg:Expr)(R:It->Hp->Prop)(itv:Value)(s2:Shared):Prop :=
  ∃ (it:Addr) (fp:List Addr) (tn:Nat->Heap->Prop) (J:It) (H':Hp),itv=.ref it/\Inv X pins σ H' s2/\Turn X.prog X.w X.K tg J fp it tn/\tn 0 s2.heap/\(∀ b∈fp,FpOk X pins H' b)/\R J H'
def PI(X:Cx)(tg iter:Expr)(wi:TI):Prop :=
  ∀ (pins:List (Addr×Obj)) (s:Shared) (σ:St) (H:Hp) (R:It->Hp->Prop),Inv X pins σ H s->wi σ H R ->
    wpAny (model X.prog X.w) X.A (eval iter X.env) (λv s1=>wpAny (model X.prog X.w) X.A (pyIter v) (PIE X pins σ tg R) X.xe s1) X.xe s
theorem D4{A:Around}{s:Shared}{tg:Expr}{u:Value}{o:Obj}{n:String}{vs:Array Value}{Q:Unit->Shared->Prop}(ho:s.heap.get? it=some o)(hc:o.cls=.type n)(hd:o.data=.fields vs)(hn:["enumerate","zip","dict_itemiterator","dict_reverseitemiterator","odict_iterator","itertools.zip_longest","itertools.pairwise"].contains n=false)(hQ:Q () s):wpAny M A (letOwnedTupleGo tg (.ref it) u) Q E s:=by
  unfold letOwnedTupleGo;cases tg <;> first
    | exact iA hQ
    | (cases u <;> first
        | exact iA hQ
        | (refine ix (wpAny_load ho ?_)
           rw [hc,hd];show wpAny M A (if (["enumerate","zip","dict_itemiterator","dict_reverseitemiterator","odict_iterator","itertools.zip_longest","itertools.pairwise"].contains n && vs[0]?==some (rawInt _))=true then _ else _) Q E s;rw [ip (by intro h; rw [hn,Bool.false_and] at h; cases h)];exact iA hQ))
def Itl(K:iJ)(a:Addr):It :=
  ⟨λi H=>∃ xs x,SqL K H a xs/\xs[i]?=some x,λi H x H'=>H'=H/\∀ xs,SqL K H a xs->xs[i]?=some x,λi H=>∃ xs,SqL K H a xs/\xs.length<=i⟩
def Itt(K:iJ)(a:Addr):It :=
  ⟨λi H=>∃ xs x,SqT K H a xs/\xs[i]?=some x,λi H x H'=>H'=H/\∀ xs,SqT K H a xs->xs[i]?=some x,λi H=>∃ xs,SqT K H a xs/\xs.length<=i⟩
def Itr(lo:Int)(n:Nat):It:=⟨λi _=>i<n,λi H x H'=>H'=H/\x=.int (lo+i),λi _=>n<=i⟩
theorem D3{K:iJ}{tg:Expr}(a it:Addr):Turn P w K tg (Itl K a) [it] it (λi h=>h.IsListIter it a i) where
  mem:=by simp
  obj:=λi h st b hb=>by
    have e:b=it:=by simpa using hb
    subst e;obtain ⟨o,e,c,d⟩:=st;exact ⟨o,e,λv z=>by rw [d] at z; cases z⟩
  keep:=λi h h' st k=>st.at λo e=>k it (!1) o e
  item:=by
    intro X hP hw hK hc i pins s σ H E I hf st hg;subst hP hw hK;obtain ⟨xs,x,hq,hx⟩:=hg;obtain ⟨its,rv,p,hz⟩:=I.list hq;obtain ⟨u,hu,ru⟩:=rv.get hx;obtain ⟨f0,f1,f2,f3,f4,f5⟩:=hf it (!1);refine wpAny_pyNext_list_item st p.isList (x:=u) (by simpa using hu) λh' st' sb=>?_;have I1:Inv X pins σ H { s with heap:=h' }:=I.turned (t':=s.toks) (λb o hb e=>(sb.2 b hb).trans e) f0 f1 f3 f4 f5;obtain ⟨o,e,c,d⟩:=id st';exact ⟨u,rfl,D4 (s:={ s with heap:=h' }) e c d (by decide) ⟨x,H,I1,ru,⟨rfl,λys hy=>by rw [I.list_inj hy hq]; exact hx⟩,st',λb hb=>(hf b hb).1⟩⟩
  done:=by
    intro X hP hw hK hc i pins s σ H E I hf st hg;subst hP hw hK;obtain ⟨xs,hq,hx⟩:=hg;obtain ⟨its,rv,p,hz⟩:=I.list hq;obtain ⟨f0,f1,f2,f3,f4,f5⟩:=hf it (!1);have hl:=rv.length;exact wpAny_pyNext_list_end (I.ok.hd hc) st p.isList (by simp; omega) λh' eb=>⟨rfl,I.turned (t':=s.toks) (λb o hb e=>eb b o hb e) f0 f1 f3 f4 f5⟩
  self:=λ_ _ _ _ _ st h=>wpAny_pyIter_listiter st h
theorem Dp{K:iJ}{tg:Expr}(a it:Addr):Turn P w K tg (Itt K a) [it] it (λi h=>h.IsTupleIter it a i) where
  mem:=by simp
  obj:=λi h st b hb=>by
    have e:b=it:=by simpa using hb
    subst e;obtain ⟨o,e,c,d⟩:=st;exact ⟨o,e,λv z=>by rw [d] at z; cases z⟩
  keep:=λi h h' st k=>st.at λo e=>k it (!1) o e
  item:=by
    intro X hP hw hK hc i pins s σ H E I hf st hg;subst hP hw hK;obtain ⟨xs,x,hq,hx⟩:=hg;obtain ⟨its,rv,p,hz⟩:=I.tuple hq;obtain ⟨u,hu,ru⟩:=rv.get hx;obtain ⟨f0,f1,f2,f3,f4,f5⟩:=hf it (!1);refine wpAny_pyNext_tuple_item st (show s.heap.IsTuple a its.toArray from p) (x:=u) (by simpa using hu) λh' st' sb=>?_;have I1:Inv X pins σ H { s with heap:=h' }:=I.turned (t':=s.toks) (λb o hb e=>(sb.2 b hb).trans e) f0 f1 f3 f4 f5;obtain ⟨o,e,c,d⟩:=id st';exact ⟨u,rfl,D4 (s:={ s with heap:=h' }) e c d (by decide) ⟨x,H,I1,ru,⟨rfl,λys hy=>by rw [I.tuple_inj hy hq]; exact hx⟩,st',λb hb=>(hf b hb).1⟩⟩
  done:=by
    intro X hP hw hK hc i pins s σ H E I hf st hg;subst hP hw hK;obtain ⟨xs,hq,hx⟩:=hg;obtain ⟨its,rv,p,hz⟩:=I.tuple hq;obtain ⟨f0,f1,f2,f3,f4,f5⟩:=hf it (!1);have hl:=rv.length;exact wpAny_pyNext_tuple_end (I.ok.hd hc) st (show s.heap.IsTuple a its.toArray from p) (by simp; omega) λh' eb=>⟨rfl,I.turned (t':=s.toks) (λb o hb e=>eb b o hb e) f0 f1 f3 f4 f5⟩
  self:=λ_ _ _ _ _ st h=>wpAny_pyIter_tupleiter st h
theorem Di{K:iJ}{tg:Expr}(it:Addr)(lo:Int)(n:Nat):Turn P w K tg (Itr lo n) [it] it (λi h=>IsRangeIter h it (lo+(i:Nat)*1) ((n:Int) - (i:Nat)) 1) where
  mem:=by simp
  obj:=λi h st b hb=>by
    have e:b=it:=by simpa using hb
    subst e;exact ⟨_,st,λv z=>by
      have z':Data.fields _=Data.cell v:=z;cases z'⟩
  keep:=λi h h' st k=>k it (!1) _ st
  item:=by
    intro X hP hw hK hc i pins s σ H E I hf st hg;subst hP hw hK;obtain ⟨f0,f1,f2,f3,f4,f5⟩:=hf it (!1);have W:=Walks.range (prog:=X.prog) (w:=X.w) (I.ok.hd hc) it lo 1 n;refine W.item i s _ _ hg st λv h' tk hv st' kk=>?_;obtain ⟨t,rfl⟩:=hv;have I1:Inv X pins σ H { s with heap:=h',toks:=tk }:=I.turned (λb o hb e=>kk b o (by simpa using hb) e) f0 f1 f3 f4 f5;refine ⟨_,rfl,D4 (s:={ s with heap:=h',toks:=tk }) (n:="range_iterator") st' rfl rfl (by decide) ⟨.int (lo+i),H,I1,⟨t,?_⟩,⟨rfl,rfl⟩,st',λb hb=>(hf b hb).1⟩⟩;rw [cH]
  done:=by
    intro X hP hw hK hc i pins s σ H E I hf st hg;subst hP hw hK;obtain ⟨f0,f1,f2,f3,f4,f5⟩:=hf it (!1);exact wpAny_pyNext_range_end (I.ok.hd hc) st (by have:n<=i:=hg; omega) λh' eb=>⟨rfl,I.turned (t':=s.toks) (λb o hb e=>eb b o hb e) f0 f1 f3 f4 f5⟩
  self:=λ_ _ _ _ _ st h=>wpAny_pyIter_rangeiter st h
variable {tg:Expr}
def IH(K:iJ)(tl:TE):TI:=λσ H R=>tl σ H λx H1=>∃ a,x=.ref a/\(∃ xs,SqL K H1 a xs)/\R (Itl K a) H1
def iTup(K:iJ)(tl:TE):TI:=λσ H R=>tl σ H λx H1=>∃ a,x=.ref a/\(∃ xs,SqT K H1 a xs)/\R (Itt K a) H1
variable {l:Expr}{tl:TE}
theorem zA(hl:PE X l tl):PI X tg l (IH X.K tl):=by
  intro pins s σ H R I h;refine thn (hl pins s σ H _ I h) λv s1 ⟨x,H1,I1,r1,q1⟩=>?_;obtain ⟨a,e,⟨xs,hq⟩,q⟩:=q1;subst e;cases r1
  obtain ⟨its,rv,p,hz⟩:=I1.list hq;refine iD p.isList ?_;refine ⟨s1.heap.objs.size,[s1.heap.objs.size],_,_,H1,rfl,I1.kept (t':=s1.toks) λb o e=>Heap.get?_push_of_some _ e,D3 a _,⟨_,Heap.get?_push_size _ rfl,rfl,rfl⟩,λb hb=>?_,q⟩;have e:b=s1.heap.objs.size:=by simpa using hb
  subst e;exact I1.fpOk (ag _) (I1.hok.fresh (ag _))
theorem HE(hl:PE X l tl):PI X tg l (iTup X.K tl):=by
  intro pins s σ H R I h;refine thn (hl pins s σ H _ I h) λv s1 ⟨x,H1,I1,r1,q1⟩=>?_;obtain ⟨a,e,⟨xs,hq⟩,q⟩:=q1;subst e;cases r1
  obtain ⟨its,rv,p,hz⟩:=I1.tuple hq;refine wpAny_pyIter_tuple (show s1.heap.IsTuple a its.toArray from p) ?_;refine ⟨s1.heap.objs.size,[s1.heap.objs.size],_,_,H1,rfl,I1.kept (t':=s1.toks) λb o e=>Heap.get?_push_of_some _ e,Dp a _,⟨_,Heap.get?_push_size _ rfl,rfl,rfl⟩,λb hb=>?_,q⟩;have e:b=s1.heap.objs.size:=by simpa using hb
  subst e;exact I1.fpOk (ag _) (I1.hok.fresh (ag _))
variable {lo:Int}
theorem B2{σ:St}{s:Shared}{R:It->Hp->Prop}{hi:Int}{t u v:Tok}{tk:Nat}(I:Inv X pins σ H s)(h1:-(2 ^ 62)<=lo)(h2:lo<2 ^ 62)(h3:-(2 ^ 62)<=hi)(h4:hi<2 ^ 62)(q:R (Itr lo (hi - lo).toNat) H):wpAny (model X.prog X.w) X.A (pyIter (.ref s.heap.objs.size)) (PIE X pins σ tg R) E { s with heap:=s.heap.push { cls:=.type "range",data:=.fields #[.int lo t,.int hi u,.int 1 v] },toks:=tk }:=by
  refine wpAny_pyIter_range (IsRange.new ..) (small_one h1 h2 h3 h4) ?_;have I1:Inv X pins σ H { s with heap:=s.heap.push { cls:=.type "range",data:=.fields #[.int lo t,.int hi u,.int 1 v] },toks:=tk }:=I.kept λb o e=>Heap.get?_push_of_some _ e;refine ⟨(s.heap.push { cls:=.type "range",data:=.fields #[.int lo t,.int hi u,.int 1 v] }).objs.size,[(s.heap.push { cls:=.type "range",data:=.fields #[.int lo t,.int hi u,.int 1 v] }).objs.size],_,_,H,rfl,
    I1.kept (t':=tk) λb o e=>Heap.get?_push_of_some _ e,Di _ lo (hi - lo).toNat,?_,λb hb=>?_,q⟩
  . have e1:lo+((0:Nat):Int)*1=lo:=by simp
    have e2:(((hi - lo).toNat:Nat):Int) - ((0:Nat):Int)=Builtin.Range.rangeSize lo hi 1:=by rw [rangeSize_one]; split <;> omega
    show IsRangeIter _ _ (lo+((0:Nat):Int)*1) ((((hi - lo).toNat:Nat):Int) - ((0:Nat):Int)) 1;rw [e1,e2];exact Heap.get?_push_size _ rfl
  . have e:b=(s.heap.push { cls:=.type "range",data:=.fields #[.int lo t,.int hi u,.int 1 v] }).objs.size:=by simpa using hb
    subst e;exact I1.fpOk (ag _) (I1.hok.fresh (ag _))
def Jf(ta:TA):TI:=λσ H R=>ta σ H λvs H1=>∃ j:Int,vs=[.int j]/\-(2 ^ 62)<=j/\j<2 ^ 62/\R (Itr 0 j.toNat) H1
def ID(ta:TA):TI:=λσ H R=>ta σ H λvs H1=>∃ i j:Int,vs=[.int i,.int j]/\(-(2 ^ 62)<=i/\i<2 ^ 62/\-(2 ^ 62)<=j/\j<2 ^ 62)/\R (Itr i (j - i).toNat) H1
theorem yz{a:Expr}{ta:TA}{p:Pos}(hg:Gl X "range")(hm:X.mg "range"=none)(ha:PA X [a] ta)(hs:starEach [a] X.env=[(false,eval a X.env)]:=by rfl):PI X tg (.Call (.Name "range" p) [a] [] pos) (Jf ta):=by
  intro pins s σ H R I h;refine Call_ (v0 I hg hm boot_range (cW (thn (ha pos pins s σ H _ I h) λus s1 ⟨vs,H1,I1,r1,q1⟩=>?_) hs rfl));obtain ⟨j,e,q1,q2,q⟩:=q1;subst e;cases r1 with
  | cons r rr =>
    cases rr
    obtain ⟨t,rfl⟩:=r;exact call_range_1 (B2 I1 (by omega) (by omega) q1 q2 (by simpa using q))
theorem wt{a b:Expr}{ta:TA}{p:Pos}(hg:Gl X "range")(hm:X.mg "range"=none)(ha:PA X [a,b] ta)(hs:starEach [a,b] X.env=[(false,eval a X.env),(false,eval b X.env)]:=by rfl)(hs2:starEach [b] X.env=[(false,eval b X.env)]:=by rfl) :
    PI X tg (.Call (.Name "range" p) [a,b] [] pos) (ID ta):=by
  intro pins s σ H R I h;refine Call_ (v0 I hg hm boot_range (cW (thn (ha pos pins s σ H _ I h) λus s1 ⟨vs,H1,I1,r1,q1⟩=>?_) (by rw [hs,hs2]) (by rw [hs2]; rfl)));obtain ⟨i,j,e,⟨q1,q2,q3,q4⟩,q⟩:=q1;subst e;cases r1 with
  | cons r rr =>
    cases rr with
    | cons r' rr =>
      cases rr
      obtain ⟨t,rfl⟩:=r;obtain ⟨t',rfl⟩:=r';exact call_range_2 (B2 I1 q1 q2 q3 q4 q)
def tFor(wi:TI)(g:TG)(tb:TS):TS:=λD σ H=>wi σ H λJ H1=>∃ W:Nat->Nat->St->Hp->Prop,(∃ m,W 0 m σ H1)/\∀ i m σ H,W i m σ H ->
  (J.stop i H/\D.nx σ H)\/(J.go i H/\∃ N:St->Hp->Prop,(∀ σ' H',N σ' H'->∃ m',m'<m/\W (i+1) m' σ' H')/\∀ x H',J.yld i H x H'->g x σ H' λσ2 H2=>tb { D with nx:=N,ct:=N,bk:=D.nx } σ2 H2)
def Av(fp:List Addr)(h:Heap):List (Addr×Obj):=fp.filterMap λb=>(h.get? b).map λo=>(b,o)
variable {fp:List Addr}
theorem xG{b:Addr}{o:Obj}(hb:b∈fp)(e:h.get? b=some o):(b,o)∈Av fp h:=fV.mpr ⟨b,hb,by rw [e]; rfl⟩
theorem EL{p:Addr×Obj}(hp:p∈Av fp h):p.1∈fp/\h.get? p.1=some p.2:=by
  obtain ⟨b,hb,e⟩:=fV.mp hp;cases q:h.get? b with
  | none=>rw [q] at e; cases e
  | some o =>
    rw [q] at e;have e':(b,o)=p:=aq e;subst e';exact ⟨hb,q⟩
theorem Inv.pinned{σ:St}{s:Shared}(I:Inv X pins σ H s)(hf:∀ b∈fp,FpOk X pins H b)(ho:∀ b∈fp,∃ o,s.heap.get? b=some o/\∀ v,o.data≠.cell v):Inv X (pins++Av fp s.heap) σ H s :=
  I.pins_of λp hp=>(aE.mp hp).elim (λz=>I.pin p (bg _ z)) λz=>by
    obtain ⟨hb,e⟩:=EL z;obtain ⟨f0,f1,f2,_⟩:=hf p.1 hb;obtain ⟨o,e',d⟩:=ho p.1 hb;rw [e] at e'; cases e';exact ⟨e,f0,f1,f2,d⟩
theorem Inv.unpinned{pl:List (Addr×Obj)}{σ:St}{s:Shared}(I:Inv X (pins++pl) σ H s):Inv X pins σ H s:=I.pins_of λp hp=>I.pin p (bg _ (cZ _ hp))
theorem zH{iter:Expr}{wi:TI}{tb:TS}(hp:PassesOwn (model X.prog X.w) X.A X.env X.xe)(hc:X.calm=true)(hi:PI X tg iter wi)(hg:PG X tg g)(hb:PSs X body tb)(hs:∀ x,foldedSetIterable iter X.env x=pure x:=by intro _; rfl):PS X (.For tg iter body [] pos) (tFor wi g tb):=by
  intro pins s σ H D I h;refine wpAny_For (thn (hi pins s σ H _ I h) λv s1 h1=>thn h1 λitv s2 h2=>?_) hs;obtain ⟨it,fp,tn,J,H2,e,I2,T,st2,f2,W,⟨m0,w0⟩,turn⟩:=h2;subst e;have stat:∀ {H':Hp},(∀ b∈fp,H' b=none)->∀ b∈fp,FpOk X pins H' b:=λhn b hb=>⟨hn b hb,(f2 b hb).2⟩
  refine codeAny_forLoop_any (λn s'=>∃ i σ' H',Inv X pins σ' H' s'/\tn i s'.heap/\(∀ b∈fp,H' b=none)/\W i n σ' H') ?_ m0 ⟨0,σ,H2,I2,st2,λb hb=>(f2 b hb).1,w0⟩;rintro n s3 ⟨i,σ3,H3,I3,st3,fr3,w3⟩;rcases turn i n σ3 H3 w3 with ⟨stop,qn⟩|⟨go,N,hN,step⟩
  . refine iC hp (thn (T.done X rfl rfl rfl hc i pins s3 σ3 H3 X.xe I3 (stat fr3) st3 stop) λr s4 ⟨hr,I4⟩=>?_);subst hr;exact iu ⟨σ3,H3,I4,qn⟩
  . refine iC hp (thn (T.item X rfl rfl rfl hc i pins s3 σ3 H3 X.xe I3 (stat fr3) st3 go) λr s4 ⟨u,hr,h4⟩=>?_);subst hr;refine iC hp (thn h4 λ_ s5 ⟨x,H5,I5,r5,y5,st5,fr5⟩=>?_);have I5':=I5.pinned (stat fr5) (T.obj _ _ st5);refine iC hp (thn (hg _ s5 σ3 H5 x u _ I5' r5 (step x H5 y5)) λ_ s6 ⟨σ6,H6,I6,q6⟩=>?_);refine iC hp (thn (hb _ s6 σ6 H6 _ I6 q6) λf s7 q7=>?_);have again:∀ {σ7:St} {H7:Hp},Inv X (pins++Av fp s5.heap) σ7 H7 s7->N σ7 H7->∃ m,m<n/\∃ i σ' H',Inv X pins σ' H' s7/\tn i s7.heap/\(∀ b∈fp,H' b=none)/\W i m σ' H':=λ{σ7 H7} I7 n7=>by
      obtain ⟨m',hm,w7⟩:=hN σ7 H7 n7;refine ⟨m',hm,i+1,σ7,H7,I7.unpinned,T.keep _ _ _ st5 λb hb o e=>(I7.pin (b,o) (bg _ (bg _ (xG hb e)))).1,λb hb=>?_,w7⟩;obtain ⟨o,e,d⟩:=T.obj _ _ st5 b hb;exact (I7.pin (b,o) (bg _ (bg _ (xG hb e)))).2.1
    cases f with
    | next=>obtain ⟨σ7,H7,I7,n7⟩:=q7; exact again I7 n7
    | cont=>obtain ⟨σ7,H7,I7,n7⟩:=q7; exact again I7 n7
    | brk=>obtain ⟨σ7,H7,I7,q7⟩:=q7; exact ⟨σ7,H7,I7.unpinned,q7⟩
    | ret v=>obtain ⟨x7,σ7,H7,I7,r7,q7⟩:=q7; exact ⟨x7,σ7,H7,I7.unpinned,r7,q7⟩
variable {D:Ends}
theorem zJ{K:iJ}{xs:List V}{tb:TS}{σ:St}(Pv:Nat->St->Hp->Prop)(h0:Pv 0 σ H)(hl:∀ i σ H,i<=xs.length->Pv i σ H->SqL K H a xs)(hs:∀ i x σ H,xs[i]?=some x->Pv i σ H->g x σ H λσ2 H2=>tb { D with nx:=Pv (i+1),ct:=Pv (i+1),bk:=D.nx } σ2 H2)(hd:∀ σ H,Pv xs.length σ H->D.nx σ H) :
    ∃ W:Nat->Nat->St->Hp->Prop,(∃ m,W 0 m σ H)/\∀ i m σ H,W i m σ H ->
      ((Itl K a).stop i H/\D.nx σ H)\/((Itl K a).go i H/\∃ N:St->Hp->Prop,(∀ σ' H',N σ' H'->∃ m',m'<m/\W (i+1) m' σ' H')/\∀ x H',(Itl K a).yld i H x H'->g x σ H' λσ2 H2=>tb { D with nx:=N,ct:=N,bk:=D.nx } σ2 H2):=by
  refine ⟨λi m σ H=>m=xs.length - i/\i<=xs.length/\Pv i σ H,⟨xs.length,by simp,cI _,h0⟩,?_⟩;rintro i m σ H ⟨rfl,hi,p⟩;have q:=hl i σ H hi p;by_cases hlt:i<xs.length
  . refine .inr ⟨⟨xs,xs[i],q,by simp [hlt]⟩,Pv (i+1),λσ' H' p'=>⟨xs.length - (i+1),by omega,rfl,hlt,p'⟩,λx H' y=>?_⟩;obtain ⟨e,y⟩:=y;subst e;exact hs i x σ _ (y xs q) p
  . have e:i=xs.length:=by omega
    subst e;exact .inl ⟨⟨xs,q,ag _⟩,hd σ H p⟩
theorem yB{n:Nat}{tb:TS}{σ:St}(Pv:Nat->St->Hp->Prop)(h0:Pv 0 σ H)(hs:∀ i σ H,i<n->Pv i σ H->g (.int (lo+i)) σ H λσ2 H2=>tb { D with nx:=Pv (i+1),ct:=Pv (i+1),bk:=D.nx } σ2 H2)(hd:∀ σ H,Pv n σ H->D.nx σ H) :
    ∃ W:Nat->Nat->St->Hp->Prop,(∃ m,W 0 m σ H)/\∀ i m σ H,W i m σ H ->
      ((Itr lo n).stop i H/\D.nx σ H)\/((Itr lo n).go i H/\∃ N:St->Hp->Prop,(∀ σ' H',N σ' H'->∃ m',m'<m/\W (i+1) m' σ' H')/\∀ x H',(Itr lo n).yld i H x H'->g x σ H' λσ2 H2=>tb { D with nx:=N,ct:=N,bk:=D.nx } σ2 H2):=by
  refine ⟨λi m σ H=>m=n - i/\i<=n/\Pv i σ H,⟨n,by simp,cI _,h0⟩,?_⟩;rintro i m σ H ⟨rfl,hi,p⟩;by_cases hlt:i<n
  . refine .inr ⟨hlt,Pv (i+1),λσ' H' p'=>⟨n - (i+1),by omega,rfl,hlt,p'⟩,λx H' y=>?_⟩;obtain ⟨e,y⟩:=y;subst e y;exact hs i σ _ hlt p
  . have e:i=n:=by omega
    subst e;exact .inl ⟨ag _,hd σ H p⟩
theorem GD{c:TT}{tb:TS}{σ:St}(Pv:St->Hp->Prop)(μ:St->Hp->Nat)(h0:Pv σ H)(hs:∀ σ H,Pv σ H->c σ H λb H1=>if b=true then tb { D with nx:=λσ' H'=>Pv σ' H'/\μ σ' H'<μ σ H,ct:=λσ' H'=>Pv σ' H'/\μ σ' H'<μ σ H,bk:=D.nx } σ H1 else D.nx σ H1)(mono:∀ σ H Q Q',(∀ b H1,Q b H1->Q' b H1)->c σ H Q->c σ H Q'):B6 c tb D σ H:=by
  refine ⟨λm σ H=>m=μ σ H/\Pv σ H,⟨_,rfl,h0⟩,?_⟩;rintro m σ H ⟨rfl,p⟩;refine mono σ H _ _ (λb H1 q=>?_) (hs σ H p);cases b with
  | true=>exact ⟨_,λσ' H' ⟨p',l⟩=>⟨_,l,rfl,p'⟩,q⟩
  | false=>exact q
abbrev R2:=V->V->Hp->VK->Prop
def OpR(X:Cx)(f:Value->Value->Sem Value)(r:R2):Prop :=
  ∀ (pins:List (Addr×Obj)) (s:Shared) (σ:St) (H:Hp) (x y:V) (v u:Value) (Q:VK),Inv X pins σ H s->RelV x v->RelV y u->r x y H Q ->
    wpAny (model X.prog X.w) X.A (f v u) (EP X pins σ Q) X.xe s
def UnR(X:Cx)(f:Value->Sem Value)(r:V->Hp->VK->Prop):Prop :=
  ∀ (pins:List (Addr×Obj)) (s:Shared) (σ:St) (H:Hp) (x:V) (v:Value) (Q:VK),Inv X pins σ H s->RelV x v->r x H Q ->
    wpAny (model X.prog X.w) X.A (f v) (EP X pins σ Q) X.xe s
def xi(X:Cx)(f:Value)(r:List V->Hp->VK->Prop):Prop :=
  ∀ (pins:List (Addr×Obj)) (s:Shared) (σ:St) (H:Hp) (xs:List V) (us:List Value) (Q:VK),Inv X pins σ H s->Vals xs us->r xs H Q ->
    wpAny (model X.prog X.w) X.A (call f us) (EP X pins σ Q) X.xe s
def tOp(r:R2)(ta tb:TE):TE:=λσ H Q=>ta σ H λx H1=>tb σ H1 λy H2=>r x y H2 Q
def tUn(r:V->Hp->VK->Prop)(ta:TE):TE:=λσ H Q=>ta σ H λx H1=>r x H1 Q
def rI(C:Int->Int->Prop)(g:Int->Int->V):R2:=λx y H Q=>∃ i j,x=.int i/\y=.int j/\C i j/\Q (g i j) H
def rI0(g:Int->Int->V):R2:=λx y H Q=>∃ i j,x=.int i/\y=.int j/\Q (g i j) H
def rU(g:Int->V):V->Hp->VK->Prop:=λx H Q=>∃ i,x=.int i/\Q (g i) H
variable {r:R2}
section
variable {a b c:Expr}{ta tb tc:TE}
variable {f:Value->Value->Sem Value}
theorem binT(ha:PE X a ta)(hb:PE X b tb){s:Shared}{σ:St}{R:V->V->Hp->Prop}(I:Inv X pins σ H s)(h:ta σ H λx H1=>tb σ H1 λy H2=>R x y H2){Q:Value->Shared->Prop}(hf:∀ v u s2 x y H2,Inv X pins σ H2 s2->RelV x v->RelV y u->R x y H2->wpAny (model X.prog X.w) X.A (f v u) Q X.xe s2) : wpAny (model X.prog X.w) X.A (eval a X.env) (λv s₁=>wpAny (model X.prog X.w) X.A (eval b X.env) (λu s₂=>wpAny (model X.prog X.w) X.A (f v u) Q X.xe s₂) X.xe s₁) X.xe s:=by
  refine thn (ha pins s σ H _ I h) λv s1 ⟨x,H1,I1,r1,q1⟩=>?_;refine thn (hb pins s1 σ H1 _ I1 q1) λu s2 ⟨y,H2,I2,r2,q2⟩=>?_;exact hf v u s2 x y H2 I2 r1 r2 q2
theorem zf{op:Operator}(ho:OpR X (binaryOp op) r)(ha:PE X a ta)(hb:PE X b tb):PE X (.BinOp a op b pos) (tOp r ta tb):=by
  intro pins s σ H Q I h;exact wpAny_BinOp (binT ha hb I h λv u s2 x y H2 I2 rx ry q=>ho pins s2 σ H2 x y v u Q I2 rx ry q)
theorem Dt{op:UnaryOp}{r:V->Hp->VK->Prop}(ho:UnR X (unaryOp op) r)(ha:PE X a ta):PE X (.UnaryOp op a pos) (tUn r ta):=by
  intro pins s σ H Q I h;exact UnaryOp_ (thn (ha pins s σ H _ I h) λv s1 ⟨x,H1,I1,r1,q1⟩=>ho pins s1 σ H1 x v Q I1 r1 q1)
theorem opI{C:Int->Int->Prop}{g:Int->Int->Int}(rule:∀ (i j:Int) (t u:Tok) (s:Shared) (Q:Value->Shared->Prop) (E:Value->Shared->Prop),C i j->Q (.int (g i j) s.toks) { s with toks:=s.toks+1 }->wpAny (model X.prog X.w) X.A (f (.int i t) (.int j u)) Q E s) :
    OpR X f (rI C λi j=>.int (g i j)):=by
  intro pins s σ H x y v u Q I rx ry h;obtain ⟨i,j,rfl,rfl,hc,q⟩:=h;obtain ⟨t,rfl⟩:=rx;obtain ⟨t',rfl⟩:=ry;exact rule i j t t' s _ _ hc ⟨.int (g i j),H,I.tok _,⟨_,rfl⟩,q⟩
theorem opI0{g:Int->Int->Int}(rule:∀ (i j:Int) (t u:Tok) (s:Shared) (Q:Value->Shared->Prop) (E:Value->Shared->Prop),Q (.int (g i j) s.toks) { s with toks:=s.toks+1 }->wpAny (model X.prog X.w) X.A (f (.int i t) (.int j u)) Q E s) :
    OpR X f (rI0 λi j=>.int (g i j)):=by
  intro pins s σ H x y v u Q I rx ry h;obtain ⟨i,j,rfl,rfl,q⟩:=h;obtain ⟨t,rfl⟩:=rx;obtain ⟨t',rfl⟩:=ry;exact rule i j t t' s _ _ ⟨.int (g i j),H,I.tok _,⟨_,rfl⟩,q⟩
theorem opB0{g:Int->Int->Bool}(rule:∀ (i j:Int) (t u:Tok) (s:Shared) (Q:Value->Shared->Prop) (E:Value->Shared->Prop),Q (.bool (g i j)) s->wpAny (model X.prog X.w) X.A (f (.int i t) (.int j u)) Q E s) : OpR X f (rI0 λi j=>.bl (g i j)):=by
  intro pins s σ H x y v u Q I rx ry h;obtain ⟨i,j,rfl,rfl,q⟩:=h;obtain ⟨t,rfl⟩:=rx;obtain ⟨t',rfl⟩:=ry;exact rule i j t t' s _ _ ⟨.bl (g i j),H,I,rfl,q⟩
theorem Dm(k:Nat):(0:Int)<=2 ^ k:=by
  rw [two_pow_cast];exact Int.natCast_nonneg _
theorem zv:OpR X (binaryOp .Add) (rI0 λi j=>.int (i+j)):=opI0 λ_ _ _ _ _ _ _ q=>add_int q
theorem yX:OpR X (binaryOp .Sub) (rI0 λi j=>.int (i - j)):=opI0 λ_ _ _ _ _ _ _ q=>sub_int q
theorem zO:OpR X (binaryOp .Mod) (rI (λ_ j=>0<j) λi j=>.int (i % j)):=opI λi j _ _ _ _ _ hc q=>by
  have h1:(0:Int)<j:=hc;exact mod_int' (by omega) (by rw [Int.fmod_eq_emod_of_nonneg i (by omega)]; exact q)
theorem IC:OpR X (binaryOp .Mod) (rI (λ_ j=>j≠0) λi j=>.int (i.fmod j)):=opI λ_ _ _ _ _ _ _ hc q=>mod_int' hc q
theorem GX:OpR X (binaryOp .RShift) (rI (λ_ j=>0<=j) λi j=>.int (i / 2 ^ j.toNat)):=opI λi j _ _ _ _ _ hc q =>
  rshift_int hc (by rw [d4 i (Dm _)]; exact q)
theorem unI{f:Value->Sem Value}{g:Int->Int}(rule:∀ (i:Int) (t:Tok) (s:Shared) (Q:Value->Shared->Prop) (E:Value->Shared->Prop),Q (.int (g i) s.toks) { s with toks:=s.toks+1 }->wpAny (model X.prog X.w) X.A (f (.int i t)) Q E s) :
    UnR X f (rU λi=>.int (g i)):=by
  intro pins s σ H x v Q I rx h;obtain ⟨i,rfl,q⟩:=h;obtain ⟨t,rfl⟩:=rx;exact rule i t s _ _ ⟨.int (g i),H,I.tok _,⟨_,rfl⟩,q⟩
theorem uF:UnR X (unaryOp .USub) (rU λi=>.int (-i)):=unI λ_ _ _ _ _ q=>neg_int q
end
def scal:V->V->Bool
  | .non,.non=>true | .non,.int _=>true | .int _,.non=>true | .non,.bl _=>true | .bl _,.non=>true | .non,.str _=>true | .str _,.non=>true
  | .int _,.int _=>true | .bl _,.bl _=>true | .str _,.str _=>true | .byt _,.byt _=>true
  | .int _,.str _=>true | .str _,.int _=>true | .bl _,.str _=>true | .str _,.bl _=>true
  | _,_=>false
def rEq:R2:=λx y H Q=>scal x y=true/\Q (.bl (decide (x=y))) H
def rNe:R2:=λx y H Q=>scal x y=true/\Q (.bl (!decide (x=y))) H
theorem tG{i j:Int}:decide (V.int i=V.int j)=(i==j):=by
  rw [cN];simp
theorem dec_bl{i j:Bool}:decide (V.bl i=V.bl j)=(i==j):=by
  rw [cN];simp
theorem DI{i j:Str}:decide (V.str i=V.str j)=(i==j):=by
  rw [cN];simp
theorem EX{i j:Array UInt8}:decide (V.byt i=V.byt j)=(i.toList==j.toList):=by
  rw [cN];cases i
  cases j
  simp
variable {us:List Value}{y:V}
section
variable {a b c:Expr}{ta tb tc:TE}
theorem fin_bl{σ:St}{s:Shared}{Q:VK}{k k':Bool}(I:Inv X pins σ H s)(q:Q (.bl k) H)(e:k=k'):EP X pins σ Q (.bool k') s:=by
  subst e;exact ⟨.bl k,H,I,rfl,q⟩
theorem zW:OpR X (compareOp .Eq) rEq:=by
  intro pins s σ H x y v u Q I rx ry h;obtain ⟨hs,q⟩:=h;cases x with
  | non =>
    cases rx
    cases y with
    | non=>cases ry; exact PySem.EqNone.eq_none_none (fin_bl I q (!1))
    | bl j=>cases ry; exact PySem.EqNone.eq_none_bool (fin_bl I q (!1))
    | int j=>obtain ⟨t',rfl⟩:=ry; exact PySem.EqNone.eq_none_int (fin_bl I q (!1))
    | str j=>obtain ⟨t',rfl⟩:=ry; exact PySem.EqNone.eq_none_str (fin_bl I q (!1))
    | _=>exact absurd (show false=true from hs) aP
  | bl i =>
    cases rx
    cases y with
    | non=>cases ry; exact PySem.EqNone.eq_bool_none (fin_bl I q (!1))
    | bl j=>cases ry; exact eq_bool (fin_bl I q dec_bl)
    | str j=>obtain ⟨t',rfl⟩:=ry; exact PySem.EqMixed.eq_bool_str (fin_bl I q (!1))
    | _=>exact absurd (show false=true from hs) aP
  | int i =>
    obtain ⟨t,rfl⟩:=rx;cases y with
    | non=>cases ry; exact PySem.EqNone.eq_int_none (fin_bl I q (!1))
    | int j=>obtain ⟨t',rfl⟩:=ry; exact eq_int (fin_bl I q tG)
    | str j=>obtain ⟨t',rfl⟩:=ry; exact PySem.EqMixed.eq_int_str (fin_bl I q (!1))
    | _=>exact absurd (show false=true from hs) aP
  | str i =>
    obtain ⟨t,rfl⟩:=rx;cases y with
    | non=>cases ry; exact PySem.EqNone.eq_str_none (fin_bl I q (!1))
    | bl j=>cases ry; exact PySem.EqMixed.eq_str_bool (fin_bl I q (!1))
    | int j=>obtain ⟨t',rfl⟩:=ry; exact PySem.EqMixed.eq_str_int (fin_bl I q (!1))
    | str j=>obtain ⟨t',rfl⟩:=ry; exact eq_str (fin_bl I q DI)
    | _=>exact absurd (show false=true from hs) aP
  | byt i =>
    obtain ⟨t,rfl⟩:=rx;cases y with
    | byt j=>obtain ⟨t',rfl⟩:=ry; exact W.eq_bytes (fin_bl I q EX)
    | _=>exact absurd (show false=true from hs) aP
  | _=>cases y <;> exact absurd (show false=true from hs) aP
theorem vZ:OpR X (compareOp .NotEq) rNe:=by
  intro pins s σ H x y v u Q I rx ry h;obtain ⟨hs,q⟩:=h;cases x with
  | non =>
    cases rx
    cases y with
    | non=>cases ry; exact PySem.EqNone.ne_none_none (fin_bl I q (!1))
    | bl j=>cases ry; exact PySem.EqNone.ne_none_bool (fin_bl I q (!1))
    | int j=>obtain ⟨t',rfl⟩:=ry; exact PySem.EqNone.ne_none_int (fin_bl I q (!1))
    | str j=>obtain ⟨t',rfl⟩:=ry; exact PySem.EqNone.ne_none_str (fin_bl I q (!1))
    | _=>exact absurd (show false=true from hs) aP
  | bl i =>
    cases rx
    cases y with
    | non=>cases ry; exact PySem.EqNone.ne_bool_none (fin_bl I q (!1))
    | bl j=>cases ry; exact ne_bool (fin_bl I q (congrArg not dec_bl))
    | str j=>obtain ⟨t',rfl⟩:=ry; exact PySem.EqMixed.ne_bool_str (fin_bl I q (!1))
    | _=>exact absurd (show false=true from hs) aP
  | int i =>
    obtain ⟨t,rfl⟩:=rx;cases y with
    | non=>cases ry; exact PySem.EqNone.ne_int_none (fin_bl I q (!1))
    | int j=>obtain ⟨t',rfl⟩:=ry; exact ne_int (fin_bl I q (congrArg not tG))
    | str j=>obtain ⟨t',rfl⟩:=ry; exact PySem.EqMixed.ne_int_str (fin_bl I q (!1))
    | _=>exact absurd (show false=true from hs) aP
  | str i =>
    obtain ⟨t,rfl⟩:=rx;cases y with
    | non=>cases ry; exact PySem.EqNone.ne_str_none (fin_bl I q (!1))
    | bl j=>cases ry; exact PySem.EqMixed.ne_str_bool (fin_bl I q (!1))
    | int j=>obtain ⟨t',rfl⟩:=ry; exact PySem.EqMixed.ne_str_int (fin_bl I q (!1))
    | str j=>obtain ⟨t',rfl⟩:=ry; exact ne_str (fin_bl I q (congrArg not DI))
    | _=>exact absurd (show false=true from hs) aP
  | byt i =>
    obtain ⟨t,rfl⟩:=rx;cases y with
    | byt j=>obtain ⟨t',rfl⟩:=ry; exact W.ne_bytes (fin_bl I q (congrArg not EX))
    | _=>exact absurd (show false=true from hs) aP
  | _=>cases y <;> exact absurd (show false=true from hs) aP
theorem ue:OpR X (compareOp .Lt) (rI0 λi j=>.bl (decide (i<j))):=opB0 λ_ _ _ _ _ _ _ q=>lt_int q
theorem DB:OpR X (compareOp .LtE) (rI0 λi j=>.bl (decide (i<=j))):=opB0 λ_ _ _ _ _ _ _ q=>le_int q
theorem xM:OpR X (compareOp .Gt) (rI0 λi j=>.bl (decide (j<i))):=opB0 λ_ _ _ _ _ _ _ q=>gt_int q
theorem DP:OpR X (compareOp .GtE) (rI0 λi j=>.bl (decide (j<=i))):=opB0 λ_ _ _ _ _ _ _ q=>ge_int q
theorem LC:OpR X (compareOp .Is) (λx y H Q=>y=.non/\Q (.bl (decide (x=.non))) H):=by
  intro pins s σ H x y v u Q I rx ry h;obtain ⟨rfl,q⟩:=h;cases ry
  refine is_none_gen (fin_bl I q ?_);cases x <;> first
    | (cases rx; rfl)
    | (obtain ⟨t,rfl⟩:=rx; rfl)
theorem Je:OpR X (compareOp .IsNot) (λx y H Q=>y=.non/\Q (.bl (!decide (x=.non))) H):=by
  intro pins s σ H x y v u Q I rx ry h;obtain ⟨rfl,q⟩:=h;cases ry
  refine isnot_none_gen (fin_bl I q ?_);cases x <;> first
    | (cases rx; rfl)
    | (obtain ⟨t,rfl⟩:=rx; rfl)
theorem zm(b:Expr)(h:op≠.In:=by decide)(h2:op≠.NotIn:=by decide):behindInMarks op b=false:=by
  have e1:(op==CmpOp.In)=false:=by cases op <;> first | rfl | exact absurd rfl h
  have e2:(op==CmpOp.NotIn)=false:=by cases op <;> first | rfl | exact absurd rfl h2
  cases b <;> simp [behindInMarks,e1,e2]
theorem yp(ho:OpR X (compareOp op) r)(ha:PE X a ta)(hb:PE X b tb)(hm:behindInMarks op b=false):PE X (.Compare a [op] [b] pos) (tOp r ta tb):=by
  intro pins s σ H Q I h;exact wpAny_Compare1 (binT ha hb I h λv u s2 x y H2 I2 rx ry q=>ho pins s2 σ H2 x y v u Q I2 rx ry q) hm
def Kn(t:TE):TT:=λσ H Q=>t σ H λx H'=>∃ k,x=.bl k/\Q k H'
theorem zg(ho:OpR X (compareOp op) r)(ha:PE X a ta)(hb:PE X b tb)(hm:behindInMarks op b=false):PT X (.Compare a [op] [b] pos) (Kn (tOp r ta tb)):=by
  intro pins s σ H Q I h;refine wpAny_isTrue_Compare1 (thn (ha pins s σ H _ I h) λv s1 ⟨x,H1,I1,r1,q1⟩=>thn (hb pins s1 σ H1 _ I1 q1) λu s2 ⟨y,H2,I2,r2,q2⟩ =>
    thn (ho pins s2 σ H2 x y v u _ I2 r1 r2 q2) λc s3 ⟨z,H3,I3,r3,k,e,q3⟩=>?_) hm
  subst e;cases r3
  exact ir ⟨H3,I3,q3⟩
theorem Al:(sizeLine:Nat)<2 ^ 63:=by rw [sizeLine_eq]; decide
variable {x:V}
theorem CT(r:Vals [x] us):∃ u,us=[u]/\RelV x u:=by
  cases r with
  | cons r1 r2=>cases r2; exact ⟨_,rfl,r1⟩
theorem Mc(r:Vals [x,y] us):∃ u w',us=[u,w']/\RelV x u/\RelV y w':=by
  cases r with
  | cons r1 r2 =>
    cases r2 with
    | cons r3 r4=>cases r4; exact ⟨_,_,rfl,r1,r3⟩
theorem Gx:xi X (.builtin "abs") (λxs H Q=>∃ i,xs=[.int i]/\Q (.int (if i<0 then -i else i)) H):=by
  intro pins s σ H xs us Q I r h;obtain ⟨i,rfl,q⟩:=h;obtain ⟨u,rfl,t,rfl⟩:=CT r;exact call_abs_int λu tk=>⟨.int (if i<0 then -i else i),H,I.tok _,⟨_,rfl⟩,q⟩
theorem Ej:xi X (.type "int") (λxs H Q=>(∃ i,xs=[.int i]/\Q (.int i) H)\/∃ k,xs=[.bl k]/\Q (.int (if k then 1 else 0)) H):=by
  intro pins s σ H xs us Q I r h;rcases h with ⟨i,rfl,q⟩|⟨k,rfl,q⟩
  . obtain ⟨u,rfl,t,rfl⟩:=CT r;exact call_int_int ⟨.int i,H,I,⟨_,rfl⟩,q⟩
  . obtain ⟨u,rfl,r1⟩:=CT r;cases r1
    exact call_int_bool ⟨.int (if k then 1 else 0),H,I.tok _,⟨_,rfl⟩,q⟩
end
structure ObjM(h:Heap)(x dx C:Addr)(mA:Str->Option Value):Prop where
  obj:h.get? x=some (W.instObj C dx)
  ns:h.Ns1 dx mA
  ne:dx≠x
variable {dx:Addr}{mA:Str->Option Value}
theorem FL(n:h.Ns1 dx mA):∃ od,h.get? dx=some od/\∀ name,W.lookIn name od=some (mA name):=by
  obtain ⟨o,es,ep,ho,hd,hk,_,hm⟩:=n;refine ⟨o,ho,λname=>?_⟩;have e:=hm name;unfold nsFind findBy at e;rw [<-Array.find?_toList] at e;unfold W.lookIn;rw [hd];dsimp only;split
  . rename_i y q;rw [q] at e;exact congrArg some e
  . rename_i q;rw [q] at e;have a:es.toList.any (·.refKey)=false:=by
      rw [List.any_eq_false];intro y hy;obtain ⟨z,t,hkey⟩:=hk y (Array.mem_toList_iff.mp hy);simp [DictEntry.refKey,hkey]
    have a':¬ es.toList.any (·.refKey)=true:=by rw [a]; exact aP
    rw [ip a'];exact congrArg some e
variable {C:Addr}
theorem ObjM.look(I:ObjM h x dx C mA):∃ od,PySem.W.InstAt h x (W.instObj C dx) C (some od)/\∀ name,W.lookIn name od=some (mA name) :=
  let ⟨od,ho,hl⟩:=FL I.ns
  ⟨od,⟨I.obj,rfl,rfl,ho⟩,hl⟩
variable {kw:List (Str×Value)}{pl:Sem Bool}
section
variable {prog:Program}{A:Around}{E:Value->Shared->Prop}{s:Shared}{K:iJ}{dx C f:Addr}{mA:Str->Option Value}{name:Str}{v:Value}
theorem Ic{expr:Bool}{Q:Value->Shared->Prop}(X:K.In s.heap)(I:ObjM s.heap x dx C mA)(hg:W.plainGet K C name=true)(hh:W.hasDictIn K C=true)(ha:W.findIn K (.ref C) name=some none)(hv:mA name=some v)(hv':W.handedIn v=true)(h:Q v { s with toks:=s.toks+1 }) :
    wpAny (model prog w) A (getAttr (.ref x) name expr) Q E s:=by
  obtain ⟨od,J,hl⟩:=I.look;exact W.get_value X J (fJ hg).1 (W.findObj_own hh ha rfl (by rw [hl,hv])) hv' h
theorem F2{Q:Value×List Value->Shared->Prop}(X:K.In s.heap)(I:ObjM s.heap x dx C mA)(hg:W.plainGet K C name=true)(hf:W.findIn K (.ref C) name=some (some (.ref f)))(ht:W.isFn K (.ref f)=true)(hv:mA name=none)(h:Q (.ref f,[.ref x]) s) : wpAny (model prog w) A (getMethod (.ref x) name pl) Q E s:=by
  obtain ⟨od,J,hl⟩:=I.look;exact W.method_fn X J (fJ hg).1 (fJ hg).2 hf (beq_iff_eq.mp ht) (by show (W.lookIn name od).map (·.isSome)=some false; rw [hl,hv]; rfl) h
theorem IE{ns:List Str}{Q:Unit->Shared->Prop}(X:K.In s.heap)(I:ObjM s.heap x dx C mA)(hs:W.findIn K (.ref C) "__setattr__"=some (some (.builtin "object.__setattr__")))(hp:W.plainOver K C=true)(ht:W.takerIn K C name=some none)(hh:W.hasDictIn K C=true)(hw:PySem.Within mA ns)(hsz:ns.length<=sizeLine)(h:∀ h',ObjM h' x dx C (λy=>if y=name then some v else mA y)->Heap.SameBut dx s.heap h'->Q () { s with heap:=h',toks:=s.toks+2 }) :
    wpAny (model prog w) A (setAttr (.ref x) name v) Q E s:=by
  obtain ⟨od,J,hl⟩:=I.look;refine W.set_plain X J hs (W.osa_open (s:={ s with toks:=s.toks+1 }) (r:=none) X J hp ht λb=>?_);obtain ⟨cd,hc,hd'⟩:=W.any_some hh;have hx:s.heap.get? x=some ⟨.ref C,some dx,.plain,#[]⟩:=I.obj;refine ix (iA (ix (ix (wpAny_loadPart hx (ix (PySem.W.Looks.here (s:={ s with toks:=s.toks+1 }) (W.looks_clsIn X hc) ?_))))));rw [hd'];refine iA (a:=some dx) (ix (iA (ix ?_)));refine wpAny_nsSet1 (s:={ s with toks:=s.toks+1 }) I.ns λh' hn2 hs2=>?_;obtain ⟨oD,esD,epD,hoD,hdD,hcD⟩:=hn2.count (PySem.Within.cons name v hw);refine ix (wpAny_lookBehind hoD (by rw [hdD]; exact pastItsLine_dict (ce hcD (by rw [ax]; omega))) ?_);exact iA (h _ ⟨(hs2.2 _ (ck I.ne)).trans I.obj,hn2,I.ne⟩ hs2)
theorem Gb{R:Result->Shared->Prop}{vs:List Value}(X:K.In s.heap)(hm:W.makesIn K C=true)(hi:W.findIn K (.ref C) "__init__"=some (some (.ref f)))(hf:W.typeIn K (.ref f)=some (.type "function"))(h:codeAny (model prog w) (A.under (.builtin "type.__call__" ⟨.ref C::vs,kw⟩)) (.call (.ref f) ⟨.ref (s.heap.objs.size+1)::vs,kw⟩) (PySem.W.InitBack (s.heap.objs.size+1) R)
      { s with heap:=(s.heap.push W.emptyDict).push (W.instObj C s.heap.objs.size) }) :
    codeAny (model prog w) A (.call (.ref C) ⟨vs,kw⟩) R s:=by
  obtain ⟨hh,g,d,t,os⟩:=s;exact W.make_core (W.makes_of X hm) (W.looks_findIn X hi) (λself=>W.bind_fn X self hf) (.inl rfl) h
end
def putF(f:Str)(v:V):List (Str×V)->List (Str×V)
  | []=>[(f,v)]
  | (g,x)::r=>if g=f then (g,v)::r else (g,x)::putF f v r
theorem vD(f g:Str)(v:V):∀ fs:List (Str×V),(putF f v fs).lookup g=if g=f then some v else fs.lookup g
  | []=>by
    show List.lookup g [(f,v)]=_;by_cases h:g=f
    . have hb:(g==f)=true:=beq_iff_eq.mpr h;simp only [List.lookup,hb,io h]
    . have hb:(g==f)=false:=beq_eq_false_iff_ne.mpr h;simp only [List.lookup,hb,ip h]
  | (k,x)::r=>by
    have ih:=vD f g v r;rw [show putF f v ((k,x)::r)=(if k=f then (k,v)::r else (k,x)::putF f v r) from rfl];by_cases hk:k=f
    . rw [io hk];by_cases h:g=k
      . have hb:(g==k)=true:=beq_iff_eq.mpr h;simp only [List.lookup,hb,io (h.trans hk)]
      . have hb:(g==k)=false:=beq_eq_false_iff_ne.mpr h;simp only [List.lookup,hb,ip (λe:g=f=>h (e.trans hk.symm))]
    . rw [ip hk];by_cases h:g=k
      . have hb:(g==k)=true:=beq_iff_eq.mpr h;simp only [List.lookup,hb,ip (λe:g=f=>hk (h.symm.trans e))]
      . have hb:(g==k)=false:=beq_eq_false_iff_ne.mpr h;simp only [List.lookup,hb];exact ih
theorem vG(f:Str)(v:V):∀ fs:List (Str×V),f∈(putF f v fs).map (·.1)/\∀ g,g∈fs.map (·.1)->g∈(putF f v fs).map (·.1)
  | []=>⟨by simp [putF],λg h=>by simp at h⟩
  | (k,x)::r=>by
    obtain ⟨i1,i2⟩:=vG f v r;rw [show putF f v ((k,x)::r)=(if k=f then (k,v)::r else (k,x)::putF f v r) from rfl];by_cases hk:k=f
    . rw [io hk];subst hk;exact ⟨by simp,λg h=>by simpa using h⟩
    . rw [ip hk];refine ⟨?_,λg h=>?_⟩
      . rw [aR];exact aB _ i1
      . rw [aR] at h ⊢;rcases a7.mp h with e|e
        . exact a7.mpr (.inl e)
        . exact aB _ (i2 g e)
theorem xW(f:Str)(v:V):∀ fs:List (Str×V),(putF f v fs).length<=fs.length+1
  | []=>by simp [putF]
  | (k,x)::r=>by
    have ih:=xW f v r;rw [show putF f v ((k,x)::r)=(if k=f then (k,v)::r else (k,x)::putF f v r) from rfl];by_cases hk:k=f
    . rw [io hk,ax,ax]; omega
    . rw [ip hk,ax,ax]; omega
theorem RelO.some_of{v:V}{o:Option Value}(r:RelO (some v) o):∃ u,o=some u/\RelV v u:=by
  cases o with
  | none=>exact (show False from r).elim
  | some u=>exact ⟨u,rfl,r⟩
theorem RelO.none_of{o:Option Value}(r:RelO none o):o=none:=by
  cases o with
  | none=>rfl
  | some u=>exact (show False from r).elim
theorem Fi{v:V}{u:Value}(r:RelV v u):W.handedIn u=true:=by
  cases v with
  | non=>cases (show u=Value.none from r); rfl
  | bl b=>cases (show u=Value.bool b from r); rfl
  | int i=>obtain ⟨t,e⟩:=(show ∃ t,u=Value.int i t from r); cases e; rfl
  | str x=>obtain ⟨t,e⟩:=(show ∃ t,u=Value.str x t from r); cases e; rfl
  | byt b=>obtain ⟨t,e⟩:=(show ∃ t,u=Value.bytes b t from r); cases e; rfl
  | flt b=>obtain ⟨t,e⟩:=(show ∃ t,u=Value.float b t from r); cases e; rfl
  | ref a=>cases (show u=Value.ref a from r); rfl
  | ty n=>cases (show u=Value.type n from r); rfl
section
variable {C dx:Addr}{fs fs':List (Str×V)}
theorem uU(hok:HOk P w H h)(e:H a=some (.ins C dx fs)):∃ mA,ObjM h a dx C mA/\(∀ f,RelO (fs.lookup f) (mA f))/\PySem.Within mA (fs.map (·.1))/\fs.length<=1000/\H dx=some (.own a):=by
  obtain ⟨d,z,ne,ob,mA,n,r,q⟩:=(show ObjOk P w H h a (.ins C dx fs) from hok a _ e)
  exact ⟨mA,⟨ob,n,ne⟩,r,q,z,d⟩
end
structure Cls(K:iJ)(C:Addr):Prop where
  pg:W.plainGet K C Str.empty=true
  hd:W.hasDictIn K C=true
  po:W.plainOver K C=true
  sa:W.findIn K (.ref C) "__setattr__"=some (some (.builtin "object.__setattr__"))
theorem Cls.get{K:iJ}(c:Cls K C)(f:Str):W.plainGet K C f=true:=c.pg
def NoAttr(K:iJ)(C:Addr)(f:Str):Prop:=W.findIn K (.ref C) f=some none
theorem NoAttr.taker{K:iJ}{f:Str}(n:NoAttr K C f):W.takerIn K C f=some none:=by
  unfold W.takerIn;rw [show W.findIn K (.ref C) f=some none from n];rfl
structure Meth(K:iJ)(C:Addr)(m:Str)(f:Addr):Prop where
  at_:W.findIn K (.ref C) m=some (some (.ref f))
  fn:W.isFn K (.ref f)=true
  kp:W.keepIn K (.ref f)=true
section
variable {pins:List (Addr×Obj)}{σ:St}{s:Shared}{C dx:Addr}{fs:List (Str×V)}{f:Str}{v:V}{A:Around}{E:Value->Shared->Prop}
theorem CW{b:Bool}{Q:Value->Shared->Prop}(I:Inv X pins σ H s)(e:H a=some (.ins C dx fs))(c:Cls X.K C)(n:NoAttr X.K C f)(l:fs.lookup f=some v)(h:∀ u s',Inv X pins σ H s'->RelV v u->Q u s'):wpAny (model X.prog X.w) A (getAttr (.ref a) f b) Q E s:=by
  obtain ⟨mA,O,r,_,_,_⟩:=uU I.hok e;obtain ⟨u,hu,ru⟩:=RelO.some_of (v:=v) (o:=mA f) (by rw [<-l]; exact r f);exact Ic I.kIn O (c.get f) c.hd n hu (Fi ru) (h u _ (I.tok _) ru)
theorem uB{m:Str}{g:Addr}{Q:Value×List Value->Shared->Prop}(I:Inv X pins σ H s)(e:H a=some (.ins C dx fs))(c:Cls X.K C)(k:Meth X.K C m g)(l:fs.lookup m=none)(h:Q (.ref g,[.ref a]) s):wpAny (model X.prog X.w) A (getMethod (.ref a) m pl) Q E s:=by
  obtain ⟨mA,O,r,_,_,_⟩:=uU I.hok e;have hn:mA m=none:=RelO.none_of (by rw [<-l]; exact r m);exact F2 I.kIn O (c.get m) k.at_ k.fn hn h
theorem Du{u:Value}{Q:Unit->Shared->Prop}(I:Inv X pins σ H s)(e:H a=some (.ins C dx fs))(c:Cls X.K C)(n:NoAttr X.K C f)(hl:fs.length<1000)(ry:RelV y u)(h:∀ s',Inv X pins σ (upd H a (.ins C dx (putF f y fs))) s'->Q () s'):wpAny (model X.prog X.w) A (setAttr (.ref a) f u) Q E s:=by
  obtain ⟨mA,O,r,wi,_,ho⟩:=uU I.hok e;have hz:(fs.map (·.1)).length<=sizeLine:=by rw [aa,sizeLine_eq]; omega
  refine IE I.kIn O c.sa c.po n.taker c.hd wi hz λh' O' sb=>h _ ?_;have hd:∃ o,h'.get? dx=some o:=let ⟨o,_,_,e',_⟩:=O'.ns; ⟨o,e'⟩
  refine I.write (x:=a) (e:=dx) (by rw [e]; exact True.intro) (.inr ho) (λb q hb z=>(sb.2 b hb).trans z) hd ?_;refine ⟨by rw [zn O.ne]; exact ho,?_,O.ne,O'.obj,_,O'.ns,λg=>?_,λg hg=>?_⟩
  . have:=xW f y fs; omega
  . show RelO ((putF f y fs).lookup g) (if g=f then some u else mA g);rw [vD];by_cases q:g=f
    . rw [io q,io q]; exact ry
    . rw [ip q,ip q]; exact r g
  . by_cases q:g=f
    . rw [q]; exact (vG f y fs).1
    . refine (vG f y fs).2 g (wi g λz=>hg ?_);show (if g=f then some u else mA g)=none;rw [ip q]; exact z
theorem Inv.made(I:Inv X pins σ H s):Inv X pins σ (upd (upd H s.heap.objs.size (.own (s.heap.objs.size+1))) (s.heap.objs.size+1) (.ins C s.heap.objs.size [])) { s with heap:=(s.heap.push W.emptyDict).push (W.instObj C s.heap.objs.size) }:=by
  have e1:(s.heap.push W.emptyDict).get? s.heap.objs.size=some W.emptyDict:=Heap.get?_push_size s.heap rfl;have e2:((s.heap.push W.emptyDict).push (W.instObj C s.heap.objs.size)).get? (s.heap.objs.size+1)=some (W.instObj C s.heap.objs.size):=by
    have:=Heap.get?_push_size (s.heap.push W.emptyDict) (o:=W.instObj C s.heap.objs.size) rfl
    rwa [Heap.size_push] at this
  have e3:(s.heap.push W.emptyDict).Ns s.heap.objs.size (λ_=>none):=⟨W.emptyDict,#[],_,e1,rfl,(λe he=>absurd he (!1)),λ_=>rfl⟩
  have I1:=I.laid (a:=s.heap.objs.size) (o:=.own (s.heap.objs.size+1)) (h':=s.heap.push W.emptyDict) (t':=s.toks) (λb u q=>Heap.get?_push_of_some _ q) (ag _) ⟨_,e1⟩;refine I1.laid (a:=s.heap.objs.size+1) (o:=.ins C s.heap.objs.size []) (t':=s.toks) (λb u q=>Heap.get?_push_of_some _ q) (Nat.le_of_eq (Heap.size_push _ _)) ?_;have ne:s.heap.objs.size≠s.heap.objs.size+1:=aQ (fC _);refine ⟨by rw [zn ne,zj],cI _,ne,e2,λ_=>none,(Heap.Ns1.of_empty e3).at λo q=>Heap.get?_push_of_some _ q,λ_=>True.intro,λy hy=>absurd rfl hy⟩
theorem IO{prog:Program}{env:Env}{e:Expr}{s:Shared}{Q:Value->Shared->Prop}(hb:attributeBase e f env (eval e env)=eval e env)(h:wpAny (model prog w) A (eval e env) (λo s₁=>wpAny (model prog w) A (getAttr o f true) Q E s₁) E s):wpAny (model prog w) A (eval (.Attribute e f pos) env) Q E s :=
  Attribute_any_ h (by rw [arm_eval_Attribute,hb])
end
def tFld(K:iJ)(ta:TE)(f:Str):TE:=λσ H Q=>ta σ H λx H1=>∃ a C dx fs v,x=.ref a/\H1 a=some (.ins C dx fs)/\Cls K C/\NoAttr K C f/\fs.lookup f=some v/\Q v H1
def sFld(K:iJ)(ta tv:TE)(f:Str):TS:=λD σ H=>tv σ H λy H1=>ta σ H1 λx H2=>∃ a C dx fs,x=.ref a/\H2 a=some (.ins C dx fs)/\Cls K C/\NoAttr K C f/\fs.length<1000 /\
  D.nx σ (upd H2 a (.ins C dx (putF f y fs)))
variable {o e value:Expr}{f:Str}{pos' tpos:Pos}{ta tv:TE}
theorem JR(he:PE X e ta)(hb:attributeBase e f X.env (eval e X.env)=eval e X.env):PE X (.Attribute e f pos) (tFld X.K ta f):=by
  intro pins s σ H Q I h;refine IO hb (thn (he pins s σ H _ I h) λu s1 ⟨x,H1,I1,rx,a,C,dx,fs,v,ex,ea,c,n,l,q⟩=>?_);subst ex;obtain rfl:u=Value.ref a:=rx;exact CW I1 ea c n l λu' s2 I2 ru=>⟨v,H1,I2,ru,q⟩
theorem An(ha:PE X o ta)(hv:PE X value tv)(hs:swapsWith value (some (.Attribute o f pos')) pos.line X.env=pure false):PS X (.Assign [.Attribute o f pos'] value pos) (sFld X.K ta tv f):=by
  intro pins s σ H D I h;refine plainObj_wpAny_Assign_Attribute (thn (hv pins s σ H _ I h) λu s1 ⟨y,H1,I1,ry,q⟩=>thn (ha pins s1 σ H1 _ I1 q) λov s2 ⟨x,H2,I2,rx,a,C,dx,fs,ex,ea,c,n,l,q2⟩=>?_) hs;subst ex;obtain rfl:ov=Value.ref a:=rx;exact Du I2 ea c n l ry λs3 I3=>⟨σ,_,I3,q2⟩
section
variable {pins:List (Addr×Obj)}{σ:St}{s:Shared}{A:Around}{E:Value->Shared->Prop}{Q:Value->Shared->Prop}{c:Value}{b:Bool}
inductive TyOf(K:iJ)(H:Hp):V->Value->Prop where
  | non:TyOf K H .non (.type "NoneType")
  | bl (x:Bool):TyOf K H (.bl x) (.type "bool")
  | int (i:Int):TyOf K H (.int i) (.type "int")
  | str (x:Str):TyOf K H (.str x) (.type "str")
  | flt (x:UInt64):TyOf K H (.flt x) (.type "float")
  | lst {a:Addr} {xs:List V} (e:H a=some (.lst xs)):TyOf K H (.ref a) (.type "list")
  | frz {a:Addr} {o:Obj} {xs:List V} (e:H a=some (.frz o (.lst xs))):TyOf K H (.ref a) (.type "list")
  | tup {a:Addr} {xs:List V} (e:H a=some (.tup xs)):TyOf K H (.ref a) (.type "tuple")
  | dK {a:Addr} {kvs:List (Key×V)} (e:H a=some (.dK kvs)):TyOf K H (.ref a) (.type "dict")
  | dT {a:Addr} {kvs:List (List Key×V)} (e:H a=some (.dT kvs)):TyOf K H (.ref a) (.type "dict")
  | ins {a C dx:Addr} {fs:List (Str×V)} (e:H a=some (.ins C dx fs)) (cl:Cls K C) (ha:W.findIn K (.ref C) "__class__"=some (some (.builtin "object.__class__")))
      (hn:W.specialIn K (.builtin "object.__class__") "__get__"=some (some (.builtin "getset_descriptor.__get__"))) (htk:W.takesIn K (.builtin "object.__class__")=some true)
      (hm:W.mroIn K C (.type "object")=some true):TyOf K H (.ref a) (.ref C)
theorem EU{x:V}{u t:Value}(I:Inv X pins σ H s)(rx:RelV x u)(ty:TyOf X.K H x t)(e:W.kitOne X.K t c=some b)(h:∀ tk,Q (.bool b) { s with toks:=tk }) :
    wpAny (model X.prog X.w) A (call (.builtin "isinstance") [u,c]) Q E s:=by
  cases ty with
  | non=>cases (show u=Value.none from rx); exact cP W.kitx_none I.kIn True.intro e (λz=>nomatch z) h
  | bl y=>cases (show u=Value.bool y from rx); exact cP W.kitx_bool I.kIn True.intro e (λz=>nomatch z) h
  | int i=>obtain ⟨t,q⟩:=(show ∃ t,u=Value.int i t from rx); cases q; exact cP W.kitx_int I.kIn True.intro e (λz=>nomatch z) h
  | str y=>obtain ⟨t,q⟩:=(show ∃ t,u=Value.str y t from rx); cases q; exact cP W.kitx_str I.kIn True.intro e (λz=>nomatch z) h
  | flt y=>obtain ⟨t,q⟩:=(show ∃ t,u=Value.float y t from rx); cases q; exact cP W.kitx_float I.kIn True.intro e (λz=>nomatch z) h
  | @lst a xs ea =>
    cases (show u=Value.ref a from rx)
    obtain ⟨_,_,n,_,h1⟩:=(show ObjOk X.prog X.w H s.heap a (.lst xs) from I.hok a _ ea)
    exact cP W.kitx_list I.kIn ⟨_,h1,rfl⟩ e (λz=>nomatch z) h
  | @frz a ob xs ea =>
    cases (show u=Value.ref a from rx)
    obtain ⟨_,_,_,n,_,h1⟩:=(show ObjOk X.prog X.w H s.heap a (.frz ob (.lst xs)) from I.hok a _ ea)
    exact cP W.kitx_list I.kIn ⟨_,h1,rfl⟩ e (λz=>nomatch z) h
  | @tup a xs ea =>
    cases (show u=Value.ref a from rx)
    obtain ⟨_,_,_,p⟩:=(show ObjOk X.prog X.w H s.heap a (.tup xs) from I.hok a _ ea)
    obtain ⟨o,h1,h2,_⟩:=p;exact cP W.kitx_tuple I.kIn ⟨o,h1,h2⟩ e (λz=>nomatch z) h
  | @dK a kvs ea =>
    cases (show u=Value.ref a from rx)
    obtain ⟨_,_,vs,_,p⟩:=(show ObjOk X.prog X.w H s.heap a (.dK kvs) from I.hok a _ ea)
    obtain ⟨o,es,ep,h1,h2,_⟩:=p;exact cP W.kitx_dict I.kIn ⟨o,h1,h2.1⟩ e (λz=>nomatch z) h
  | @dT a kvs ea =>
    cases (show u=Value.ref a from rx)
    obtain ⟨_,_,xs,_,o,es,ep,h1,h2,_⟩:=(show ObjOk X.prog X.w H s.heap a (.dT kvs) from I.hok a _ ea)
    exact cP W.kitx_dict I.kIn ⟨o,h1,h2.1⟩ e (λz=>nomatch z) h
  | @ins a C dx fs ea cl ha hn htk hm =>
    cases (show u=Value.ref a from rx)
    obtain ⟨mA,O,_⟩:=uU I.hok ea;obtain ⟨od,J,_⟩:=O.look;exact cP (W.kitx_own (cl.get _) cl.hd ha hn htk hm) I.kIn J e (λz=>nomatch z) h
end
structure Room(k:Nat)(A:Around):Prop where
  hd:A.handled=none
  dp:A.depth+3*k+5<recursionLimit
  un:A.units+16*k+200<cLine
theorem Room.mono{j k:Nat}{A:Around}(r:Room k A)(h:j<=k):Room j A:=⟨r.hd,by have:=r.dp; omega,by have:=r.un; omega⟩
theorem Room.deeper{k:Nat}{A:Around}(r:Room (k+1) A)(env:Env):Room k (A.deeper env) :=
  ⟨r.hd,by have:=r.dp; show A.depth+1+3*k+5<_; omega,by have:=r.un; show A.units+3+16*k+200<_; omega⟩
theorem De{A:Around}:(A.under (.builtin "type.__call__" ⟨.ref C::us,kw⟩)).depth=A.depth+1:=by
  first | rfl | simp [Around.under,Code.weight,Code.isCreation,Code.isGuard,Code.isCaller,Code.frames,Code.isFrame,guardIds]
theorem Dh{A:Around}:(A.under (.builtin "type.__call__" ⟨.ref C::us,kw⟩)).units=A.units+1:=by
  first | rfl | simp [Around.under,Code.cUnits,Code.frames,Code.isFrame]
theorem Room.make{k:Nat}{A:Around}(r:Room (k+1) A)(C:Addr)(us:List Value)(kw:List (Str×Value)):Room k (A.under (.builtin "type.__call__" ⟨.ref C::us,kw⟩)) :=
  ⟨r.hd,by have:=r.dp; rw [De]; omega,by have:=r.un; rw [Dh]; omega⟩
theorem Room.depth{k:Nat}{A:Around}(r:Room k A):A.depth<recursionLimit:=by have:=r.dp; omega
theorem Room.units{k:Nat}{A:Around}(r:Room k A):A.units+64<cLine:=by have:=r.un; omega
def tNil:TA:=λ_ H Q=>Q [] H
def tz(ta:TE)(tr:TA):TA:=λσ H Q=>ta σ H λx H1=>tr σ H1 λxs H2=>Q (x::xs) H2
variable {es:List Expr}{te:TE}{t:TA}
theorem yU:PA X [] tNil:=λ_ _ _ _ H Q I h=>Calls.spliced_nil ⟨[],H,I,.nil,h⟩
theorem zM(ha:PE X e te)(hr:PA X es t)(hs:starEach (e::es) X.env=(false,eval e X.env)::starEach es X.env:=by rfl):PA X (e::es) (tz te t):=by
  intro pos pins s σ H Q I h;rw [hs];show wpAny _ _ (spliced ((false,eval e X.env)::backTo pos (starEach es X.env))) _ _ s;refine Calls.spliced_cons (thn (ha pins s σ H _ I h) λu s1 ⟨x,H1,I1,r1,q1⟩=>?_);exact thn (hr pos pins s1 σ H1 _ I1 q1) λus s2 ⟨xs,H2,I2,r2,q2⟩=>⟨x::xs,H2,I2,.cons r1 r2,q2⟩
def tTup(t:TA):TE:=λσ H Q=>t σ H λxs H1=>xs.length<=sizeLine/\∀ p,H1 p=none->Q (.ref p) (upd H1 p (.tup xs))
def tLst(t:TA):TE:=λσ H Q=>t σ H λxs H1=>xs.length<=sizeLine/\∀ p,H1 p=none->Q (.ref p) (upd H1 p (.lst xs))
theorem zq{x1}(h:PA X es t):PE X (.Tuple es x1 pos) (tTup t):=by
  intro pins s σ H Q I hq;refine wpAny_Tuple_spliced (thn (h pos pins s σ H _ I hq) λus s1 ⟨xs,H1,I1,r,z,q⟩=>⟨by rw [<-r.length]; exact z,?_⟩);have hf:H1 s1.heap.objs.size=none:=I1.hok.fresh (ag _);refine ⟨.ref s1.heap.objs.size,upd H1 s1.heap.objs.size (.tup xs),I1.laid (t':=s1.toks) (λb u e=>Heap.get?_push_of_some _ e) (ag _) ?_,rfl,q _ hf⟩;exact ⟨z,us,r,⟨_,Heap.get?_push_size _ rfl,rfl,_,rfl⟩⟩
theorem zI(h:PA X es t):PE X (.List es pos) (tLst t):=by
  intro pins s σ H Q I hq;refine wpAny_List_spliced (thn (h pos pins s σ H _ I hq) λus s1 ⟨xs,H1,I1,r,z,q⟩=>⟨by rw [<-r.length]; exact z,?_⟩);have hf:H1 s1.heap.objs.size=none:=I1.hok.fresh (ag _);refine ⟨.ref s1.heap.objs.size,upd H1 s1.heap.objs.size (.lst xs),I1.laid (t':=s1.toks) (λb u e=>Heap.get?_push_of_some _ e) (ag _) ?_,rfl,q _ hf⟩;exact ⟨z,us,0,r,Heap.get?_push_size _ rfl⟩
abbrev Sp:=List V->Hp->VK->XK->Prop
abbrev CXT:=List Env->Hp->Shared->XK->Value->Shared->Prop
structure Env0(P:Program)(w:World)(K:iJ)(mg:Str->Option Value)(base:Heap)(A:Around)(outer:List Env)(s:Shared)(H:Hp):Prop where
  frames:A.frames=some outer
  mod:Mod K mg base
  bs:∀ b o,base.get? b=some o->s.heap.get? b=some o/\H b=none
  bsz:base.objs.size<=s.heap.objs.size
  funs:s.heap.FunFrames base outer
  frf:∀ b∈frs outer,H b=none
  hok:HOk P w H s.heap
  bare:AllBare s.gens
def CE(outer:List Env)(P:Program)(w:World)(H:Hp)(s:Shared)(Q:VK)(u:Value)(s':Shared):Prop :=
  ∃ v H',s'.os=s.os/\AllBare s'.gens/\Un (frs outer) [] H H' s.heap s'.heap/\HOk P w H' s'.heap/\RelV v u/\Q v H'
def CR(CX:CXT)(outer:List Env)(P:Program)(w:World)(H:Hp)(s:Shared)(Q:VK)(E:XK)(r:Result)(s':Shared):Prop :=
  match r with
  | .ok (.ret u)=>CE outer P w H s Q u s'
  | .ok _=>False
  | .error e=>CX outer H s E e s'
structure FnOk(P:Program)(w:World)(K:iJ)(mg:Str->Option Value)(base:Heap)(CX:CXT)(k:Nat)(f:Addr)(fd:FuncData)(ps:List Str)(sp:Sp):Prop where
  len:∀ vs H Q E,sp vs H Q E->vs.length=ps.length
  run:∀ (A:Around) (outer:List Env) (s:Shared) (H:Hp) (args:Args) (us:List Value) (vs:List V) (Q:VK) (E:XK),Room k A->Env0 P w K mg base A outer s H->BindsTo s fd args (ps.zip us)->Vals vs us->sp vs H Q E ->
    codeAny (model P w) A (.call (.ref f) args) (CR CX outer P w H s Q E) s
variable {base:Heap}{outer:List Env}{mg:Str->Option Value}
theorem Env0.make{K:iJ}{A:Around}{s:Shared}(e:Env0 P w K mg base A outer s H)(C:Addr)(us:List Value)(kw:List (Str×Value)) : Env0 P w K mg base (A.under (.builtin "type.__call__" ⟨.ref C::us,kw⟩)) outer s H:=⟨by first | exact e.frames | (simpa [Around.under,Code.envs,Code.isFrame,pushEnvs] using e.frames),e.mod,e.bs,e.bsz,e.funs,e.frf,e.hok,e.bare⟩
section
variable {pins:List (Addr×Obj)}{σ:St}{s s':Shared}
theorem Inv.env0(I:Inv X pins σ H s):Env0 X.prog X.w X.K X.mg X.base X.A X.stack s H :=
  ⟨I.ok.frames,I.ok.mod,I.bs,ce I.ok.bsz I.sz,I.stack,I.stkFree,I.hok,I.bare⟩
theorem Inv.after{Q:VK}{u:Value}(I:Inv X pins σ H s)(h:CE X.stack X.prog X.w H s Q u s'):EP X pins σ Q u s':=by
  obtain ⟨v,H',os,bare,un,hok,r,q⟩:=h;obtain ⟨hh,g,d,t,os'⟩:=s';obtain rfl:os'=s.os:=os;exact ⟨v,H',I.call (h':=hh) (g':=g) (d':=d) (t':=t) (ch:=[]) un hok bare (λb z=>absurd z (!1)),r,q⟩
end
def Ig(sp:Sp)(dvs:List V)(E:XK)(t:TA):TE:=λσ H Q=>t σ H λvs H1=>sp (vs++dvs) H1 Q E
def DJ(C:Addr)(m:Str)(sp:Sp)(dvs:List V)(E:XK)(ta:TE)(t:TA):TE:=λσ H Q=>ta σ H λx H1=>∃ a dx fs,x=.ref a/\H1 a=some (.ins C dx fs)/\fs.lookup m=none /\
  t σ H1 λvs H2=>sp (x::(vs++dvs)) H2 Q E
def IB(C:Addr)(sp:Sp)(dvs:List V)(E:XK)(t:TA):TE:=λσ H Q=>t σ H λvs H1=>∀ x dx,H1 x=none->H1 dx=none->dx≠x ->
  sp (.ref x::(vs++dvs)) (upd (upd H1 dx (.own x)) x (.ins C dx [])) (λv H2=>v=.non/\Q (.ref x) H2) E
def Binds(K:iJ)(fd:FuncData)(ps:List Str)(ds:List Value):Prop :=
  ∀ (s:Shared) (us:List Value),K.In s.heap->(us++ds).length=ps.length->BindsTo s fd ⟨us,[]⟩ (ps.zip (us++ds))
variable {ps:List Str}
theorem Binds.all{K:iJ}{fd:FuncData}(h:∀ us:List Value,us.length=ps.length->bindArgs fd ⟨us,[]⟩=pure (ps.zip us)):Binds K fd ps []:=λs us _ hl=>by
  rw [dL] at hl ⊢;exact .of_eq (h us hl)
def xO(CX:CXT)(X:Cx)(E:XK):Prop:=∀ (pins:List (Addr×Obj)) (σ:St) (H:Hp) (s:Shared) (e:Value) (s':Shared),Inv X pins σ H s->CX X.stack H s E e s'->X.xe e s'
variable {vs:List V}
section
variable {CX:CXT}{k:Nat}{f C:Addr}{fd:FuncData}{ps:List Str}{sp:Sp}{dvs:List V}{ds:List Value}{E:XK}{x m:Str}{p apos:Pos}
theorem Fp{σ:St}{s:Shared}{Q:VK}(F:FnOk X.prog X.w X.K X.mg X.base CX k f fd ps sp)(hr:Room k X.A)(hb:Binds X.K fd ps ds)(hd:Vals dvs ds)(hx:xO CX X E)(I:Inv X pins σ H s)(r:Vals vs us)(h:sp (vs++dvs) H Q E):wpAny (model X.prog X.w) X.A (call (.ref f) us) (EP X pins σ Q) X.xe s:=by
  have r2:Vals (vs++dvs) (us++ds):=r.append hd;have hl:(us++ds).length=ps.length:=by rw [<-r2.length]; exact F.len _ _ _ _ h
  refine wpAny_call (iE (F.run X.A X.stack s H ⟨us,[]⟩ (us++ds) (vs++dvs) Q E hr I.env0 (hb s us I.kIn hl) r2 h) λr s' hq=>?_);cases r with
  | error e=>exact hx pins σ H s e s' I hq
  | ok fl =>
    cases fl with
    | ret u=>exact I.after hq
    | next=>exact False.elim hq
    | brk=>exact False.elim hq
    | cont=>exact False.elim hq
theorem Jd(F:FnOk X.prog X.w X.K X.mg X.base CX k f fd ps sp)(hr:Room k X.A)(hg:Gl X x)(hm:X.mg x=some (.ref f))(hk:W.keepIn X.K (.ref f)=true)(hb:Binds X.K fd ps ds)(hd:Vals dvs ds)(hx:xO CX X E)(ha:PA X (e::es) t)(hdb:(x==("__debug__":Str))=false:=by decide)(he:starEach (e::es) X.env=(false,eval e X.env)::starEach es X.env:=by rfl)(hpl:(backTo pos (starEach es X.env)).any (·.1)=false:=by rfl) :
    PE X (.Call (.Name x p) (e::es) [] pos) (Ig sp dvs E t):=by
  intro pins s σ H Q I h;refine iF (Bz I hg hm ?_ hdb);refine fW (h₀:=X.base) I.ok.mod.kin hk (thn (ha pos pins s σ H _ I h) λus s1 ⟨vs,H1,I1,r,q⟩=>⟨I1.kIn,?_⟩) he hpl;exact Fp F hr hb hd hx I1 r q
theorem Jb(he:PE X o ta)(c:Cls X.K C)(hm:Meth X.K C m f)(F:FnOk X.prog X.w X.K X.mg X.base CX k f fd ps sp)(hr:Room k X.A)(hb:Binds X.K fd ps ds)(hd:Vals dvs ds)(hx:xO CX X E)(ha:PA X (e::es) t)(hst:starEach (e::es) X.env=(false,eval e X.env)::starEach es X.env:=by rfl)(hpl:(backTo pos (starEach es X.env)).any (·.1)=false:=by rfl)(ht:eval (.Call (.Attribute o m apos) (e::es) [] pos) X.env=(do
      let ov <-eval o X.env
      standAt apos.atName
      let (f,first) <-holding [ov] (getMethod ov m pl)
      callWith pos f first (backTo pos (starEach (e::es) X.env)) (backToKw pos (keywordEach [] X.env))):=by rfl) :
    PE X (.Call (.Attribute o m apos) (e::es) [] pos) (DJ C m sp dvs E ta t):=by
  intro pins s σ H Q I h;refine gY (pl:=pl) (thn (he pins s σ H _ I h) λu s1 ⟨x,H1,I1,rx,a,dx,fs,ex,ea,l,q⟩=>?_) ht;subst ex;obtain rfl:u=Value.ref a:=rx;refine uB I1 ea c hm l ?_;refine fW (first:=[.ref a]) (h₀:=X.base) I.ok.mod.kin hm.kp (thn (ha pos pins s1 σ H1 _ I1 q) λus s2 ⟨vs,H2,I2,r,q2⟩=>⟨I2.kIn,?_⟩) hst hpl;exact Fp (us:=.ref a::us) (vs:=.ref a::vs) F hr hb hd hx I2 (.cons rfl r) q2
theorem Ge(he:PE X o ta)(c:Cls X.K C)(hm:Meth X.K C m f)(F:FnOk X.prog X.w X.K X.mg X.base CX k f fd ps sp)(hr:Room k X.A)(hb:Binds X.K fd ps ds)(hd:Vals dvs ds)(hx:xO CX X E)(ht:eval (.Call (.Attribute o m apos) [] [] pos) X.env=(do
      let ov <-eval o X.env
      standAt apos.atName
      let (f,first) <-holding [ov] (getMethod ov m pl)
      callWith pos f first (backTo pos (starEach [] X.env)) (backToKw pos (keywordEach [] X.env))):=by rfl) :
    PE X (.Call (.Attribute o m apos) [] [] pos) (DJ C m sp dvs E ta tNil):=by
  intro pins s σ H Q I h;refine gY (pl:=pl) (thn (he pins s σ H _ I h) λu s1 ⟨x,H1,I1,rx,a,dx,fs,ex,ea,l,q⟩=>?_) ht;subst ex;obtain rfl:u=Value.ref a:=rx;refine uB I1 ea c hm l ?_;exact W.callWith_K0 (first:=[.ref a]) I1.kIn hm.kp (Fp (us:=[.ref a]) (vs:=[.ref a]) F hr hb hd hx I1 (.cons rfl .nil) q)
structure Mk(K:iJ)(C f:Addr):Prop where
  makes:W.makesIn K C=true
  init:W.findIn K (.ref C) "__init__"=some (some (.ref f))
  fn:W.isFn K (.ref f)=true
  kp:W.keepIn K (.ref C)=true
theorem GH{σ:St}{s:Shared}{Q:VK}(M:Mk X.K C f)(F:FnOk X.prog X.w X.K X.mg X.base CX k f fd ps sp)(hr:Room (k+1) X.A)(hb:Binds X.K fd ps ds)(hd:Vals dvs ds)(hx:xO CX X E)(I:Inv X pins σ H s)(r:Vals vs us)(h:∀ x dx,H x=none->H dx=none->dx≠x->sp (.ref x::(vs++dvs)) (upd (upd H dx (.own x)) x (.ins C dx [])) (λv H2=>v=.non/\Q (.ref x) H2) E) : wpAny (model X.prog X.w) X.A (call (.ref C) us) (EP X pins σ Q) X.xe s:=by
  have hq:=h (s.heap.objs.size+1) s.heap.objs.size (I.hok.fresh (fi _)) (I.hok.fresh (ag _)) (aQ (fC _));have I2:=Inv.made (C:=C) I;have r2:Vals (V.ref (s.heap.objs.size+1)::(vs++dvs)) (Value.ref (s.heap.objs.size+1)::(us++ds)):=.cons rfl (r.append hd);have hl:(Value.ref (s.heap.objs.size+1)::us++ds).length=ps.length:=by
    have e:=r2.length;rw [F.len _ _ _ _ hq] at e;exact e.symm
  refine wpAny_call (Gb (f:=f) I.kIn M.makes M.init (beq_iff_eq.mp M.fn) (iE (F.run _ X.stack _ _ ⟨Value.ref (s.heap.objs.size+1)::us,[]⟩ (Value.ref (s.heap.objs.size+1)::(us++ds)) _ _ E (hr.make C us [])
    (I2.env0.make C us []) (hb _ (Value.ref (s.heap.objs.size+1)::us) I2.kIn hl) r2 hq) λr s' hq'=>?_))
  cases r with
  | error e=>exact hx pins σ _ _ e s' I2 hq'
  | ok fl =>
    cases fl with
    | ret u =>
      obtain ⟨v,H',I3,rv,ev,q3⟩:=I2.after hq';subst ev;exact ⟨rv,⟨V.ref (s.heap.objs.size+1),H',I3,rfl,q3⟩⟩
    | next=>exact False.elim hq'
    | brk=>exact False.elim hq'
    | cont=>exact False.elim hq'
theorem IN(M:Mk X.K C f)(F:FnOk X.prog X.w X.K X.mg X.base CX k f fd ps sp)(hr:Room (k+1) X.A)(hg:Gl X x)(hm:X.mg x=some (.ref C))(hb:Binds X.K fd ps ds)(hd:Vals dvs ds)(hx:xO CX X E)(ha:PA X (e::es) t)(hdb:(x==("__debug__":Str))=false:=by decide)(he:starEach (e::es) X.env=(false,eval e X.env)::starEach es X.env:=by rfl)(hpl:(backTo pos (starEach es X.env)).any (·.1)=false:=by rfl) :
    PE X (.Call (.Name x p) (e::es) [] pos) (IB C sp dvs E t):=by
  intro pins s σ H Q I h;refine iF (Bz I hg hm ?_ hdb);refine fW (h₀:=X.base) I.ok.mod.kin M.kp (thn (ha pos pins s σ H _ I h) λus s1 ⟨vs,H1,I1,r,q⟩=>⟨I1.kIn,?_⟩) he hpl;exact GH M F hr hb hd hx I1 r q
end
section
variable {CX:CXT}{k:Nat}{f C:Addr}{fd:FuncData}{ps ks:List Str}{sp:Sp}{E:XK}{x m:Str}{p apos kpos:Pos}{kws:List Keyword}{tk:TA}{nm:Option Str}
variable {g:List Value->List Value->List Value}{gV:List V->List V->List V}
end
structure FnScope(N P:List Str)(sc:Scope):Prop where
  kind:sc.kind=.function
  co:sc.isCoroutine=false
  gen:sc.isGenerator=false
  nd:N.Nodup
  pre:N.take P.length=P
  par:∀ x∈P,sc.names.lookup x=some .local\/sc.names.lookup x=some .cell
  nofree:∀ y∈sc.names,y.2≠.free
theorem AH{kindOf:Str->Option NameKind}{x:Str}:∀ {binds:List (Str×Value)} {m:Str->Option Value},(∀ v,(x,v)∉binds)->bindL kindOf binds m x=m x
  | [],_,_=>rfl
  | (n,v)::r,m,h=>by
    unfold bindL;rw [AH λw hw=>h w (aB _ hw)];split
    . have:x≠n:=by rintro rfl; exact h v aG
      simp [this]
    . rfl
theorem Ab{kindOf:Str->Option NameKind}{x:Str}:∀ {binds:List (Str×Value)} {m:Str->Option Value},(∀ v,(x,v)∉binds)->bindC kindOf binds m x=m x
  | [],_,_=>rfl
  | (n,v)::r,m,h=>by
    unfold bindC;rw [Ab λw hw=>h w (aB _ hw)];split
    . rfl
    . have:x≠n:=by rintro rfl; exact h v aG
      simp [this]
theorem AV{kindOf:Str->Option NameKind}{x:Str}{v:Value}:∀ {P:List Str} {vs:List Value} {i:Nat} {m:Str->Option Value},P.Nodup->P[i]?=some x->vs[i]?=some v->kindOf x=some .local -> bindL kindOf (P.zip vs) m x=some v
  | [],_,_,_,_,h,_,_=>by simp at h
  | _::_,[],_,_,_,_,h,_=>by simp at h
  | p::P,w::vs,0,m,nd,h1,h2,hk=>by
    simp at h1 h2; subst h1; subst h2;show bindL kindOf ((p,w)::P.zip vs) m p=_;unfold bindL;rw [AH λv hv=>(dE.mp nd).1 (gZ hv).1,io hk];simp
  | p::P,w::vs,i+1,m,nd,h1,h2,hk=>by
    show bindL kindOf ((p,w)::P.zip vs) m x=_;unfold bindL;exact AV (i:=i) (dE.mp nd).2 (by simpa using h1) (by simpa using h2) hk
theorem Au{kindOf:Str->Option NameKind}{x:Str}{v:Value}:∀ {P:List Str} {vs:List Value} {i:Nat} {m:Str->Option Value},P.Nodup->P[i]?=some x->vs[i]?=some v->kindOf x≠some .local -> bindC kindOf (P.zip vs) m x=some v
  | [],_,_,_,_,h,_,_=>by simp at h
  | _::_,[],_,_,_,_,h,_=>by simp at h
  | p::P,w::vs,0,m,nd,h1,h2,hk=>by
    simp at h1 h2; subst h1; subst h2;show bindC kindOf ((p,w)::P.zip vs) m p=_;unfold bindC;rw [Ab λv hv=>(dE.mp nd).1 (gZ hv).1,ip hk];simp
  | p::P,w::vs,i+1,m,nd,h1,h2,hk=>by
    show bindC kindOf ((p,w)::P.zip vs) m x=_;unfold bindC;exact Au (i:=i) (dE.mp nd).2 (by simpa using h1) (by simpa using h2) hk
def start(N:List Str)(vs:List V):St:=vs.map some++List.replicate (N.length - vs.length) none
def cxOf(CX:CXT)(P:Program)(w:World)(K:iJ)(mg:Str->Option Value)(base:Heap)(N:List Str)(qual:Str)(scope:Scope)(f:Addr)(cd:Value)(A:Around)(outer:List Env)(s:Shared)(H:Hp)(E:XK):Cx where
  prog:=P
  w:=w
  K:=K
  mg:=mg
  base:=base
  A:=A.deeper (envOfC qual scope s.heap.objs.size f cd)
  N:=N
  s₀:=s
  H₀:=H
  env:=envOfC qual scope s.heap.objs.size f cd
  outer:=outer
  stack:=envOfC qual scope s.heap.objs.size f cd::outer
  ex:=[]
  calm:=true
  fn:=λ_=>true
  pn:=[]
  xe:=λe s'=>wpAny (model P w) (A.deeper (envOfC qual scope s.heap.objs.size f cd)) (leaving (envOfC qual scope s.heap.objs.size f cd) e) (λ_ s''=>CX outer H s E e s'') (λe' s''=>CX outer H s E e' s'') s'
theorem BX{sc:Scope}{n:Nat}{x:Str}(h:sc.names.lookup x=some .cell):∃ c,(cellsFrom n sc.names []).lookup x=some c:=by
  have q:=gS sc.names n [] (.inl h);exact gw.mp q
variable {CX:CXT}{scope:Scope}{qual:Str}
theorem Ek{K:iJ}{N:List Str}{f:Addr}{cd:Value}{A:Around}{s s1:Shared}{E:XK}(S:FnScope N ps scope)(hd:A.handled=none)(e0:Env0 P w K mg base A outer s H)(hl:vs.length=ps.length)(r:Vals vs us)(x:InCallC s s.heap.objs.size (bindL (envOfC qual scope s.heap.objs.size f cd).kindOf (ps.zip us) λ_=>none) (cellsFrom (s.heap.objs.size+1) scope.names []) (bindC (envOfC qual scope s.heap.objs.size f cd).kindOf (ps.zip us) λ_=>none) s1) : Inv (cxOf CX P w K mg base N qual scope f cd A outer s H E) [] (start N vs) H s1:=by
  have hpl:ps.length<=N.length:=by have:=congrArg List.length S.pre; rw [az] at this; omega
  obtain ⟨h1,tk,rfl,hk⟩:=x.done;have noA:∀ b:Addr,b∉(cxOf CX P w K mg base N qual scope f cd A outer s H E).ex:=λb z=>absurd (show b∈([]:List Addr) from z) (!1);refine ⟨⟨e0.mod,S.kind,rfl,rfl,ag _,λy z c h1 h2=>?_,λy hy=>?_,λy c _ h=>?_,λ_=>hd,Around.frames_deeper e0.frames,.inr ⟨rfl,rfl⟩,λb z=>absurd z (noA b),e0.bs,e0.bsz,λb _ _=>noA b,λb z=>absurd z (noA b),e0.funs,e0.frf⟩,
    rfl,e0.bare,Un.kept hk,⟨_,x.toInCall.ns,λi y v h1 h2 h3=>?_⟩,λy c h=>⟨_,x.cell y c h⟩,e0.hok.fresh (ag _),λy c h=>?_,λp hp=>absurd (show p∈([]:List (Addr×Obj)) from hp) (!1),e0.hok.kept hk,?_⟩
  . exact name_of_addr x.apart (dm h1) (dm h2)
  . have hy:scope.names.lookup y=some .cell\/scope.names.lookup y=some .free:=hy;rcases hy with hy|hy
    . exact BX hy
    . exact absurd rfl (S.nofree _ (dm hy))
  . exact bO (x.above y c (dm h))
  . have hi:i<vs.length:=by
      unfold start at h2;by_cases hi:i<vs.length
      . exact hi
      . rw [aM (by simpa using hi)] at h2;rw [gD] at h2;split at h2 <;> cases h2
    have ha:vs[i]?=some v:=by
      unfold start at h2;rw [aT (by simpa using hi),aj] at h2;cases e:vs[i]? with
      | none=>rw [e] at h2; cases h2
      | some a=>rw [e] at h2; cases h2; rfl
    obtain ⟨u,hu,rv⟩:=r.get ha;have hp:ps[i]?=some y:=by
      rw [<-S.pre,em (by omega)]; exact h1
    have ndP:ps.Nodup:=by rw [<-S.pre]; exact S.nd.sublist (List.take_sublist _ _)
    refine ⟨u,rv,?_⟩;rcases S.par y (aw hp) with k|k
    . exact .inl ⟨k,AV ndP hp hu k⟩
    . obtain ⟨c,e⟩:=BX (n:=s.heap.objs.size+1) k;refine .inr ⟨.inl k,c,e,?_⟩;have q:=x.cell y c e;rw [Au ndP hp hu (by show scope.names.lookup y≠_; rw [k]; decide)] at q;exact q
  . exact e0.hok.fresh (bO (x.above y c (dm h)))
  . unfold start;show _=N.length;rw [ai,aa,g4];omega
theorem Ke{K:iJ}{k:Nat}{f:Addr}{name:Str}{params:Arguments}{dV kV doc pm cdv ct oc:Value}{an od:Option Addr}{osl:Array (Option Value)}{N:List Str}{sp:Sp}(lk:K.lookup f=some ⟨oc,od,.func (W.fnOf name qual params body scope dV kV doc pm an cdv ct),osl⟩)(hcd:W.codeIn K cdv qual=true)(S:FnScope N ps scope)(len:∀ vs H Q E,sp vs H Q E->vs.length=ps.length)(hbody:∀ (A:Around) (outer:List Env) (s:Shared) (H:Hp) (vs:List V) (Q:VK) (E:XK),Room k (A.deeper (envOfC qual scope s.heap.objs.size f cdv))->sp vs H Q E ->
      ∃ t,PSs (cxOf CX P w K mg base N qual scope f cdv A outer s H E) body t/\t { nx:=λ_ H'=>Q .non H',rt:=Q } (start N vs) H) :
    FnOk P w K mg base CX (k+1) f (W.fnOf name qual params body scope dV kV doc pm an cdv ct) ps sp:=by
  refine ⟨len,λA outer s H args us vs Q E hr e0 hb r hsp=>?_⟩;have hl:=len _ _ _ _ hsp;have KX:K.In s.heap:=e0.mod.kin.keeps λb o e=>(e0.bs b o e).1;have lim:s.heap.NoLimit:=e0.mod.nolimit.keeps λb o e=>(e0.bs b o e).1;have hkind:∀ y∈ps.zip us,scope.names.lookup y.1=some .local\/(scope.names.lookup y.1=some .cell/\((cellsFrom (s.heap.objs.size+1) scope.names []).lookup y.1).isSome=true):=λ⟨n,v⟩ hy=>by
    rcases S.par n (gZ hy).1 with q|q
    . exact .inl q
    . exact .inr ⟨q,gS _ _ _ (.inl q)⟩
  refine codeAny_call_function hr.depth (KX _ _ lk) rfl S.co S.gen rfl (W.codeRec_of KX hcd) (hb _ _ _ _ ?_);refine wpAny_newFunctionEnv_cells S.kind hkind λenv he s1 x=>?_;subst he;refine ⟨lim.keeps x.toInCall.keep,codeAny_func ?_⟩;obtain ⟨t,ht,hq⟩:=hbody A outer s H vs Q E (hr.deeper _) hsp;have I:Inv (cxOf CX P w K mg base N qual scope f cdv A outer s H E) [] (start N vs) H s1:=Ek S hr.hd e0 hl r x;refine iq (ht [] s1 (start N vs) H _ I hq) (λfl s' hs=>?_) λe s' hs=>hs;have fin:∀ {σ':St} {H':Hp} {v:V} {u:Value},Inv (cxOf CX P w K mg base N qual scope f cdv A outer s H E) [] σ' H' s'->RelV v u->Q v H'->CE outer P w H s Q u s' :=
    λ{σ' H' v u} J rv q=>⟨v,H',J.os,J.bare,J.base,J.hok,rv,q⟩
  cases fl with
  | ret u =>
    obtain ⟨v,σ',H',J,rv,q⟩:=hs;exact fin J rv q
  | next =>
    obtain ⟨σ',H',J,q⟩:=hs;exact fin (v:=V.non) (u:=Value.none) J rfl q
  | brk =>
    obtain ⟨_,_,_,q⟩:=hs;exact False.elim q
  | cont =>
    obtain ⟨_,_,_,q⟩:=hs;exact False.elim q
section
variable {x:Str}{p:Pos}{id T:String}{r:List V->Hp->VK->Prop}
def tCB(r:List V->Hp->VK->Prop)(t:TA):TE:=λσ H Q=>t σ H λvs H1=>r vs H1 Q
theorem zp(hc:xi X (.builtin id) r)(hg:Gl X x)(hm:X.mg x=none)(hv:bootBuiltins x=some (.builtin id))(ha:PA X (e::es) t)(hn:x≠"__name__":=by decide)(hdb:(x==("__debug__":Str))=false:=by decide)(he:starEach (e::es) X.env=(false,eval e X.env)::starEach es X.env:=by rfl)(hpl:(backTo pos (starEach es X.env)).any (·.1)=false:=by rfl):PE X (.Call (.Name x p) (e::es) [] pos) (tCB r t):=by
  intro pins s σ H Q I h;refine iF (v0 I hg hm hv ?_ hn hdb);exact PyProof.Rows.callWith_builtin1 (thn (ha pos pins s σ H _ I h) λus s1 ⟨vs,H1,I1,r1,q1⟩=>hc pins s1 σ H1 vs us Q I1 r1 q1) he hpl
theorem zR(hc:xi X (.type T) r)(hg:Gl X x)(hm:X.mg x=none)(hv:bootBuiltins x=some (.type T))(ha:PA X (e::es) t)(hn:x≠"__name__":=by decide)(hdb:(x==("__debug__":Str))=false:=by decide)(he:starEach (e::es) X.env=(false,eval e X.env)::starEach es X.env:=by rfl)(hpl:(backTo pos (starEach es X.env)).any (·.1)=false:=by rfl):PE X (.Call (.Name x p) (e::es) [] pos) (tCB r t):=by
  intro pins s σ H Q I h;refine iF (v0 I hg hm hv ?_ hn hdb);exact cW (thn (ha pos pins s σ H _ I h) λus s1 ⟨vs,H1,I1,r1,q1⟩=>hc pins s1 σ H1 vs us Q I1 r1 q1) he hpl
end
end L2
namespace HT
open PySem PyProof.Rows
open PySem.SeqAt
open PySem.AutoSeq1 (wpAny_loadPart')
open PySem.MeetsSeq PySem.MeetsSeq2 PySem.MeetsSeq3
variable {sl t:Addr}{hi lo:Option Int}{vl vu:Value}
section
variable {prog:Program}{w:World}{A:Around}{E:Value->Shared->Prop}{s:Shared}
theorem cat_tup{b:Addr}{vs ws:List Value}{Q:Value->Shared->Prop}(ht:IsTup s.heap t vs.toArray)(hb:IsTup s.heap b ws.toArray)(hv:vs≠[])(h1:ws=[]->Q (.ref t) s)(h2:ws≠[]->Q (.ref s.heap.objs.size) { s with heap:=s.heap.push { cls:=.type "tuple",data:=.seq (vs++ws).toArray } })(hsz:vs.length+ws.length<=sizeLine):wpAny (model prog w) A (binaryOp .Add (.ref t) (.ref b)) Q E s:=by
  obtain ⟨⟨cls,dd,data,sl⟩,ho,hc,n,hd⟩:=id ht;obtain ⟨⟨cls2,dd2,data2,sl2⟩,ho2,hc2,n2,hd2⟩:=id hb;simp only at hc hd hc2 hd2;subst hc hd hc2 hd2;have e:vs.toArray++ws.toArray=(vs++ws).toArray:=by simp
  by_cases hw:ws=[]
  . exact concat_meets ⟨_,ho,rfl⟩ ⟨_,ho2,rfl⟩ noFill_tuple_add seq_tuple_add gU gE (gx _ _)
      (tuple_addW1 t b vs.toArray ws.toArray n n2 dd dd2 sl sl2 (by simpa using hv) (by simp [hw])) ⟨ho,ho2,h1 hw⟩
  . refine concat_meets ⟨_,ho,rfl⟩ ⟨_,ho2,rfl⟩ noFill_tuple_add seq_tuple_add gU gE (gx _ _)
      (tuple_addW2 t b vs.toArray ws.toArray n n2 dd dd2 sl sl2 (by simpa using hv) (by simpa using hw) (by rw [aJ,aJ]; exact hsz)) ⟨ho,ho2,?_⟩
    rw [e];exact h2 hw
def sIx(n d:Nat):Option Int->Nat
  | none=>d
  | some v=>if v<0 then (v+(n:Int)).toNat else min v.toNat n
theorem sIx_none(n d:Nat):sIx n d none=d:=rfl
theorem sIx_nat(n d k:Nat):sIx n d (some (k:Int))=min k n:=by
  show (if (k:Int)<0 then ((k:Int)+(n:Int)).toNat else min (k:Int).toNat n)=min k n;rw [ip (by omega),Int.toNat_natCast]
theorem KG(n d:Nat)(hd:d<=n)(o:Option Int):sIx n d o<=n:=by
  cases o with
  | none=>exact hd
  | some v =>
    show (if v<0 then (v+(n:Int)).toNat else min v.toNat n)<=n;by_cases hv:v<0
    . rw [io hv]; omega
    . rw [ip hv]; exact Nat.min_le_right _ _
theorem Fy(v:Int)(n d:Nat):(if v<0 then max (v+(n:Int)) 0 else min v (n:Int))=((sIx n d (some v):Nat):Int):=by
  show (if v<0 then max (v+(n:Int)) 0 else min v (n:Int))=(((if v<0 then (v+(n:Int)).toNat else min v.toNat n):Nat):Int)
  by_cases hv:v<0
  . simp only [io hv]; omega
  . simp only [ip hv]; omega
theorem CZ(lo hi:Option Int)(n:Nat):Builtin.Slice.sliceAdjust lo hi 1 (n:Int)=(((sIx n 0 lo:Nat):Int),((sIx n n hi:Nat):Int)):=by
  have h1:¬ ((1:Int)<0):=by omega
  unfold Builtin.Slice.sliceAdjust;simp only [h1,if_false];refine Prod.ext ?_ ?_
  . cases lo with
    | none=>rfl
    | some v=>exact Fy v n 0
  . cases hi with
    | none=>rfl
    | some v=>exact Fy v n n
theorem Dl(i j:Nat):Builtin.Slice.slicePlaces (i:Int) (j:Int) 1=j - i:=by
  unfold Builtin.Slice.slicePlaces;have h1:(1:Int) > 0:=by omega
  simp only [h1,if_true,Int.ediv_one];split <;> omega
theorem uL{v:Value}{o:Option Int}{Q:Option Int->Shared->Prop}(p:IsPart v o)(h:Q o s):wpAny (model prog w) A (Builtin.Slice.slicePartIndex v) Q E s:=by
  cases p with
  | none=>exact slicePart_none h
  | int i t=>exact slicePart_int h
theorem vc{n:Nat}{Q:Int×Int×Nat->Shared->Prop}(hs:s.heap.IsSliceOf sl vl vu .none)(pl:IsPart vl lo)(pu:IsPart vu hi)(h:Q (((sIx n 0 lo:Nat):Int),1,sIx n n hi - sIx n 0 lo) s):wpAny (model prog w) A (Builtin.Slice.sliceApplied (.ref sl) (pure (n:Int))) Q E s:=by
  obtain ⟨os,hos,hcs,hds⟩:=id hs;unfold Builtin.Slice.sliceApplied Builtin.Slice.sliceFields;refine ix (ix (wpAny_field hos hds (x:=vl) rfl (ix (wpAny_field hos hds (x:=vu) rfl (ix (wpAny_field hos hds (x:=.none) rfl (iA ?_)))))));refine ix (slicePart_none ?_);show wpAny _ _ (if ((1:Int)==0)=true then _ else _) _ _ s;rw [ip (by decide)];refine ix (uL pl (ix (uL pu (ix (iA ?_)))));show wpAny _ _ (match Builtin.Slice.sliceAdjust lo hi 1 (n:Int) with | (lo,hi)=>pure (lo,(1:Int),Builtin.Slice.slicePlaces lo hi 1)) _ _ s;rw [CZ lo hi n];show wpAny _ _ (pure (((sIx n 0 lo:Nat):Int),(1:Int),Builtin.Slice.slicePlaces ((sIx n 0 lo:Nat):Int) ((sIx n n hi:Nat):Int) 1)) _ _ s;rw [Dl];exact iA h
theorem F5(xs:Array Value)(i k:Nat):((List.range k).filterMap λ(m:Nat)=>xs[((i:Int)+(m:Int)*1).toNat]?).toArray=((xs.toList.drop i).take k).toArray:=by
  have e:(λ(m:Nat)=>xs[((i:Int)+(m:Int)*1).toNat]?)=λm=>xs[i+m]?:=by
    funext m;have:((i:Int)+(m:Int)*1).toNat=i+m:=by omega
    rw [this]
  rw [e];have:=pick_run xs i k;rw [List.filterMap_map] at this;have e2:((λx=>xs[x]?) ∘ λx=>i+x)=λm=>xs[i+m]?:=rfl;rw [e2] at this;rw [this]
theorem getItem_tuple_cut{items:Array Value}{Q:Value->Shared->Prop}(ht:IsTup s.heap t items)(hs:s.heap.IsSliceOf sl vl vu .none)(pl:IsPart vl lo)(pu:IsPart vu hi)(hw:¬ (sIx items.size 0 lo=0/\sIx items.size items.size hi=items.size))(h:Q (.ref s.heap.objs.size) { s with heap:=s.heap.push { cls:=.type "tuple",data:=.seq ((items.toList.drop (sIx items.size 0 lo)).take (sIx items.size items.size hi - sIx items.size 0 lo)).toArray } })(hsz:items.size<=sizeLine):wpAny (model prog w) A (getItem (.ref t) (.ref sl)) Q E s:=by
  have htake:sizeOk (.seq ((items.toList.drop (sIx items.size 0 lo)).take (sIx items.size items.size hi - sIx items.size 0 lo)).toArray):=by
    show ((items.toList.drop (sIx items.size 0 lo)).take (sIx items.size items.size hi - sIx items.size 0 lo)).toArray.size<=sizeLine;rw [aJ,az,cQ,ee];omega
  have hj:sIx items.size items.size hi<=items.size:=KG _ _ (ag _) hi;obtain ⟨os,hos,hcs,hds⟩:=id hs;have hTs:s.TypeIs (.ref sl) "slice":=⟨os,hos,hcs⟩
  unfold getItem;try with_reducible refine iy ?_
  first | refine ix (iA ?_) | skip
  refine ix (wpAny_sequenceKey ht.typeIs (by decide) ?_);refine ix (wpAny_callSpecial?_slot (name:=Str.ofString "__getitem__") ht.typeIs dF
    (wpAny_call_entry dF ht.typeIs entry_tuple_getitem ?_ (args_tuple_getitem _ _)))
  show wpAny _ _ (Builtin.Tuple.tupleItemsOf (.ref t) >>= _) _ _ s;refine ix (tupleItemsOf_ ht ?_);refine ix (iG hTs ?_);rw [io (by decide)];refine ix (vc hs pl pu ?_);have hno:¬ ((((sIx items.size 0 lo:Nat):Int)==0 && (1:Int)==1 && (sIx items.size items.size hi - sIx items.size 0 lo)==items.size)=true):=by
    intro q;rw [dg,dg] at q;have q1:((sIx items.size 0 lo:Nat):Int)=0:=eq_of_beq q.1.1;have q2:sIx items.size items.size hi - sIx items.size 0 lo=items.size:=eq_of_beq q.2;exact hw ⟨by omega,by omega⟩
  show wpAny _ _ (if (((sIx items.size 0 lo:Nat):Int)==0 && (1:Int)==1 && (sIx items.size items.size hi - sIx items.size 0 lo)==items.size)=true then _ else _) _ _ s;rw [ip hno,F5];first
    | exact ix (m:=Builtin.Tuple.tupleExact _) (iB (iA ⟨_,rfl,iA h⟩) htake)
    | exact ix (m:=Builtin.Tuple.tupleExact _) (iB (ix (iA (iA ⟨_,rfl,iA h⟩))) htake)
    | exact ix (ix (m:=Builtin.Tuple.tupleExact _) (iB (iA (iA ⟨_,rfl,iA h⟩)) htake))
    | exact ix (ix (m:=Builtin.Tuple.tupleExact _) (iB (iA ⟨_,rfl,iA h⟩) htake))
end
end HT
namespace L2
local macro_rules | `(!4)=>`(by omega)
open PySem PySem.Spec PyProof.Rows
abbrev TO:=St->Hp->(Option Int->Hp->Prop)->Prop
def PO(X:Cx)(e:Option Expr)(t:TO):Prop :=
  ∀ (pins:List (Addr×Obj)) (s:Shared) (σ:St) (H:Hp) (Q:Option Int->Hp->Prop),Inv X pins σ H s->t σ H Q ->
    wpAny (model X.prog X.w) X.A (evalPart e X.env) (λu s'=>∃ o H',Inv X pins σ H' s'/\IsPart u o/\Q o H') X.xe s
def Ee:TO:=λ_ H Q=>Q none H
def LQ(t:TE):TO:=λσ H Q=>t σ H λx H1=>∃ i,x=.int i/\Q (some i) H1
variable {X:Cx}{e:Expr}{te:TE}{lo hi:Option Expr}{tl th:TO}{pos p2:Pos}
theorem yL:PO X none Ee:=by
  intro pins s σ H Q I h;rw [evalPart_none];exact iA ⟨none,H,I,.none,h⟩
theorem yc(h:PE X e te):PO X (some e) (LQ te):=by
  intro pins s σ H Q I hw;rw [evalPart_some];refine thn (h pins s σ H _ I hw) λu s1 ⟨x,H1,I1,r1,q1⟩=>?_;obtain ⟨i,rfl,q⟩:=q1;obtain ⟨t,rfl⟩:=r1;exact ⟨some i,H1,I1,.int i t,q⟩
def SlR(X:Cx)(r:V->Option Int->Option Int->Hp->VK->Prop):Prop :=
  ∀ (pins:List (Addr×Obj)) (s:Shared) (σ:St) (H:Hp) (x:V) (v vl vu:Value) (lo hi:Option Int) (sl:Addr) (Q:VK),Inv X pins σ H s->RelV x v->s.heap.IsSliceOf sl vl vu .none->IsPart vl lo->IsPart vu hi->r x lo hi H Q ->
    ∃ T id,typeLookup (.type T) "__getitem__"=pure (some (.builtin id))/\s.TypeIs v T/\wpAny (model X.prog X.w) X.A (getItem v (.ref sl)) (EP X pins σ Q) X.xe s
def tSl(r:V->Option Int->Option Int->Hp->VK->Prop)(te:TE)(tl th:TO):TE:=λσ H Q=>te σ H λx H1=>tl σ H1 λl H2=>th σ H2 λu H3=>r x l u H3 Q
theorem z5{r:V->Option Int->Option Int->Hp->VK->Prop}(hr:SlR X r)(he:PE X e te)(hl:PO X lo tl)(hu:PO X hi th):PE X (.Subscript e (.Slice lo hi none p2) pos) (tSl r te tl th):=by
  intro pins s σ H Q I h;refine Subscript_ (thn (he pins s σ H _ I h) λv s1 ⟨x,H1,I1,r1,q1⟩=>?_);refine wpAny_Slice (thn (hl pins s1 σ H1 _ I1 q1) λvl s2 ⟨l,H2,I2,pl,q2⟩=>thn (hu pins s2 σ H2 _ I2 q2) λvu s3 ⟨u,H3,I3,pu,q3⟩=>?_);rw [evalPart_none];refine iA ?_;have I4:Inv X pins σ H3 { s3 with heap:=s3.heap.push { cls:=.type "slice",data:=.fields #[vl,vu,.none] } }:=I3.kept (t':=s3.toks) λb ob q=>Heap.get?_push_of_some _ q;obtain ⟨T,id,hT,ht,hg⟩:=hr pins { s3 with heap:=s3.heap.push { cls:=.type "slice",data:=.fields #[vl,vu,.none] } } σ H3 x v vl vu l u s3.heap.objs.size Q I4 r1 (Heap.IsSliceOf.new ..) pl pu q3;show wpAny (model X.prog X.w) X.A (subscriptTail e (.Slice lo hi none p2) v (.ref s3.heap.objs.size)) (EP X pins σ Q) X.xe { s3 with heap:=s3.heap.push { cls:=.type "slice",data:=.fields #[vl,vu,.none] } };exact tail_any (ops:=[.ref s3.heap.objs.size,v]) ht hT hg (by with_unfolding_all rfl)
def cutV(xs:List V)(lo hi:Option Int):List V:=(xs.drop (HT.sIx xs.length 0 lo)).take (HT.sIx xs.length xs.length hi - HT.sIx xs.length 0 lo)
theorem vQ(xs:List V)(lo hi:Option Int):(cutV xs lo hi).length<=xs.length:=by
  unfold cutV;rw [az,cQ];omega
def rSlT(K:iJ):V->Option Int->Option Int->Hp->VK->Prop:=λx lo hi H Q=>∃ a xs,x=.ref a/\SqT K H a xs /\
  ¬ (HT.sIx xs.length 0 lo=0/\HT.sIx xs.length xs.length hi=xs.length)/\∀ p,H p=none->Q (.ref p) (upd H p (.tup (cutV xs lo hi)))
theorem Kw:SlR X (rSlT X.K):=by
  intro pins s σ H x v vl vu lo hi sl Q I rx hs pl pu h;obtain ⟨a,xs,rfl,hx,hw,q⟩:=h;cases rx
  obtain ⟨its,r,ht,hz⟩:=I.tuple hx;have hlen:its.toArray.size=xs.length:=by rw [aJ]; exact r.length.symm
  refine ⟨"tuple",_,dF.lookup,ht.typeIs,?_⟩;refine HT.getItem_tuple_cut ht hs pl pu (by rw [hlen]; exact hw) ?_ (by rw [hlen]; exact hz);rw [hlen];refine ⟨.ref s.heap.objs.size,_,I.laid (t':=s.toks) (o:=.tup (cutV xs lo hi)) (λb ob q=>Heap.get?_push_of_some _ q) (ag _) ?_,rfl,q _ (I.hok.fresh (ag _))⟩;exact ⟨ce (vQ xs lo hi) hz,_,(r.drop (HT.sIx xs.length 0 lo)).take (HT.sIx xs.length xs.length hi - HT.sIx xs.length 0 lo),IsTup.new _ _⟩
def Lg(K:iJ):R2:=λx y H Q=>∃ a b xs ys,x=.ref a/\y=.ref b/\SqT K H a xs/\SqT K H b ys/\xs≠[]/\xs.length+ys.length<=sizeLine /\
  (ys=[]->Q (.ref a) H)/\(ys≠[]->∀ p,H p=none->Q (.ref p) (upd H p (.tup (xs++ys))))
theorem Vals.nil_iff{xs:List V}{us:List Value}(r:Vals xs us):us=[]↔xs=[]:=by
  cases r with
  | nil=>simp
  | cons _ _=>simp
theorem IW:OpR X (binaryOp .Add) (Lg X.K):=by
  intro pins s σ H x y v u Q I rx ry h;obtain ⟨a,b,xs,ys,rfl,rfl,ha,hb,hx,hz,q1,q2⟩:=h;cases rx
  cases ry
  obtain ⟨its,r1,p1,_⟩:=I.tuple ha;obtain ⟨its2,r2,p2,_⟩:=I.tuple hb;refine HT.cat_tup p1 p2 (λz=>hx (r1.nil_iff.mp z)) (λz=>⟨.ref a,H,I,rfl,q1 (r2.nil_iff.mp z)⟩) (λz=>?_) (by rw [<-r1.length,<-r2.length]; exact hz);refine ⟨.ref s.heap.objs.size,_,I.laid (t':=s.toks) (o:=.tup (xs++ys)) (λb ob q=>Heap.get?_push_of_some _ q) (ag _) ?_,rfl,q2 (λw=>z (r2.nil_iff.mpr w)) _ (I.hok.fresh (ag _))⟩;exact ⟨by rw [ai]; exact hz,_,r1.append r2,IsTup.new _ _⟩
def ixN(n:Nat)(i:Int):Option Nat:=if 0<=i then (if i<n then some i.toNat else none) else if -(n:Int)<=i then some (i+n).toNat else none
def atI{α:Type}(xs:List α)(i:Int):Option α:=(ixN xs.length i).bind λj=>xs[j]?
theorem Eu{n:Nat}{i:Int}{j:Nat}(h:ixN n i=some j):seqIndex? i n=some j/\j<n/\-(n:Int)<=i/\i<n:=by
  unfold ixN at h;by_cases h0:0<=i
  . rw [io h0] at h;by_cases h1:i<n
    . rw [io h1] at h;have e:i.toNat=j:=aq h;exact ⟨by rw [seqIndex_of h0 h1,e],by omega,by omega,h1⟩
    . rw [ip h1] at h; cases h
  . rw [ip h0] at h;by_cases h1:-(n:Int)<=i
    . rw [io h1] at h;have e:(i+n).toNat=j:=aq h;exact ⟨by rw [seqIndex_neg (!4) h1,e],by omega,h1,by omega⟩
    . rw [ip h1] at h; cases h
theorem Bm{α:Type}{xs:List α}{i:Int}{v:α}(h:atI xs i=some v):∃ j,seqIndex? i xs.length=some j/\xs[j]?=some v/\j<xs.length/\-(xs.length:Int)<=i/\i<xs.length:=by
  unfold atI at h;cases e:ixN xs.length i with
  | none=>rw [e] at h; cases h
  | some j =>
    rw [e] at h;obtain ⟨h1,h2,h3,h4⟩:=Eu e;exact ⟨j,h1,h,h2,h3,h4⟩
theorem xt{α:Type}{xs:List α}{j:Nat}{v:α}(h:xs[j]?=some v):atI xs (j:Int)=some v:=by
  have hj:j<xs.length:=(af.mp h).1;have e:ixN xs.length (j:Int)=some j:=by
    unfold ixN;rw [io (!4),io (!4)]; simp
  unfold atI; rw [e]; exact h
def tj(b:Expr):Prop:=∀ o i,subscripted b false o i=operate [o,i] (getItem o i)
def IxR(X:Cx)(r:R2):Prop :=
  ∀ (value slice:Expr) (pins:List (Addr×Obj)) (s:Shared) (σ:St) (H:Hp) (x y:V) (v u:Value) (Q:VK),Inv X pins σ H s->RelV x v->RelV y u->r x y H Q ->
    subscripted slice false v u=operate [v,u] (getItem v u)->wpAny (model X.prog X.w) X.A (subscriptTail value slice v u) (EP X pins σ Q) X.xe s
def MtR(X:Cx)(id:String)(r:V->List V->Hp->VK->Prop):Prop :=
  ∀ (pins:List (Addr×Obj)) (s:Shared) (σ:St) (H:Hp) (x:V) (xs:List V) (v:Value) (us:List Value) (Q:VK),Inv X pins σ H s->RelV x v->Vals xs us->r x xs H Q ->
    wpAny (model X.prog X.w) X.A (call (.builtin id) (v::us)) (EP X pins σ Q) X.xe s
variable {H:Hp}{pins:List (Addr×Obj)}{its its':List Value}{x y:V}
section
variable {a b:Expr}{ta tb:TE}
theorem IxR.or{r r':R2}(h:IxR X r)(h':IxR X r'):IxR X (λx y H Q=>r x y H Q\/r' x y H Q):=by
  intro value slice pins s σ H x y v u Q I rx ry q hs;rcases q with q|q
  . exact h value slice pins s σ H x y v u Q I rx ry q hs
  . exact h' value slice pins s σ H x y v u Q I rx ry q hs
theorem IY{r:R2}(hr:IxR X r)(ha:PE X a ta)(hb:PE X b tb)(hs:tj b):PE X (.Subscript a b pos) (tOp r ta tb):=by
  intro pins s σ H Q I h;exact Subscript_ (binT ha hb I h λv u s2 x y H2 I2 rx ry q=>hr a b pins s2 σ H2 x y v u Q I2 rx ry q (hs _ _))
def rIxL(K:iJ):R2:=λx y H Q=>∃ p xs i v,x=.ref p/\y=.int i/\SqL K H p xs/\atI xs i=some v/\Q v H
def rIxT(K:iJ):R2:=λx y H Q=>∃ p xs i v,x=.ref p/\y=.int i/\SqT K H p xs/\atI xs i=some v/\Q v H
def rIxS:R2:=λx y H Q=>∃ z i c,x=.str z/\y=.int i/\z.length<=sizeLine/\atI z.cps.toList i=some c/\Q (.str ⟨#[c]⟩) H
theorem ix_list:IxR X (rIxL X.K):=by
  intro value slice pins s σ H x y v u Q I rx ry h hs;obtain ⟨p,xs,i,z,rfl,rfl,hq,he,q⟩:=h;cases rx
  obtain ⟨t,rfl⟩:=ry;obtain ⟨its,r,pl,hz⟩:=I.list hq;obtain ⟨j,h1,h2,h3,h4,h5⟩:=Bm he;obtain ⟨w,ew,rw'⟩:=r.get h2;have hl:=r.length;have hn:=Al;have fin:EP X pins σ Q w s:=⟨z,H,I,rw',q⟩
  by_cases h0:0<=i
  . have hj:i.toNat=j:=by
      rw [seqIndex_of h0 h5] at h1;exact aq h1
    exact item_listR pl.isList h0 (!4) (by rw [hj]; simpa using ew) fin hs
  . have hj:(i+(its.toArray.size:Int)).toNat=j:=by
      rw [seqIndex_neg (!4) h4] at h1;rw [aJ,<-hl];exact aq h1
    exact subscriptTail_builtinR (x:=w) pl.isList.typeIs slot_list_getitem.lookup
      (wpAny_getItem_list_neg (Q:=λr s'=>r=w/\EP X pins σ Q r s') pl.isList (!4) (by rw [aJ] <;> omega) (!4) (by rw [hj]; simpa using ew) ⟨rfl,fin⟩) hs
theorem ix_tup:IxR X (rIxT X.K):=by
  intro value slice pins s σ H x y v u Q I rx ry h hs;obtain ⟨p,xs,i,z,rfl,rfl,hq,he,q⟩:=h;cases rx
  obtain ⟨t,rfl⟩:=ry;obtain ⟨its,r,pl,hz⟩:=I.tuple hq;obtain ⟨j,h1,h2,h3,h4,h5⟩:=Bm he;obtain ⟨w,ew,rw'⟩:=r.get h2;have hl:=r.length;have hn:=Al;have fin:EP X pins σ Q w s:=⟨z,H,I,rw',q⟩
  exact subscriptTail_builtinR (x:=w) pl.typeIs slot_tuple_getitem.lookup
    (getItem_tuple (j:=j) (Q:=λr s'=>r=w/\EP X pins σ Q r s') pl (!4) (!4) (by rw [aJ,<-hl]; exact h1) (by simpa using ew) ⟨rfl,fin⟩) hs
theorem J5:IxR X rIxS:=by
  intro value slice pins s σ H x y v u Q I rx ry h hs;obtain ⟨z,i,c,rfl,rfl,hz,he,q⟩:=h;obtain ⟨t,rfl⟩:=rx;obtain ⟨t',rfl⟩:=ry;obtain ⟨j,h1,h2,h3,h4,h5⟩:=Bm he;have hl:z.cps.toList.length=z.length:=by simp [Str.length]
  rw [hl] at h1 h4 h5;have hn:=Al;exact tail_any (typeIs_str s z t) slot_str_getitem.lookup (getItem_str (c:=c) (by
    have e1:decide (i < -(2 ^ 63:Int))=false:=im (!4);have e2:decide (i>=2 ^ 63)=false:=im (!4);rw [e1,e2,ig]) (by rw [h1]; simpa using h2) ⟨.str ⟨#[c]⟩,H,I.tok _,⟨_,rfl⟩,q⟩) hs
def rIx(K:iJ):R2:=λx y H Q=>rIxL K x y H Q\/rIxT K x y H Q\/rIxS x y H Q
theorem yH:IxR X (rIx X.K):=ix_list.or (ix_tup.or J5)
theorem Do(its:List Value)(n j:Nat)(u:Value):Obj.mapSeq (·.setIfInBounds j u) { cls:=.type "list",data:=.seq its.toArray n }={ cls:=.type "list",data:=.seq (its.set j u).toArray n }:=by
  simp [Obj.mapSeq]
theorem Inv.lst{pins:List (Addr×Obj)}{σ:St}{H:Hp}{s:Shared}{p:Addr}{xs:List V}(I:Inv X pins σ H s)(h:H p=some (.lst xs)) : ∃ (its:List Value) (n:Nat),Vals xs its/\s.heap.get? p=some { cls:=.type "list",data:=.seq its.toArray n }/\xs.length<=sizeLine:=by
  obtain ⟨z,its,n,r,e⟩:=I.hok p _ h;exact ⟨its,n,r,e,z⟩
theorem Inv.lstUpd{σ:St}{s:Shared}{p:Addr}{xs ys:List V}{n n':Nat}{f:Obj->Obj}(I:Inv X pins σ H s)(h:H p=some (.lst xs))(ho:s.heap.get? p=some { cls:=.type "list",data:=.seq its.toArray n })(hf:f { cls:=.type "list",data:=.seq its.toArray n }={ cls:=.type "list",data:=.seq its'.toArray n' })(r:Vals ys its')(hz:ys.length<=sizeLine)(t:Nat) :
    Inv X pins σ (upd H p (.lst ys)) { s with heap:=s.heap.update p f,toks:=t }:=by
  have e:(s.heap.update p f).get? p=some { cls:=.type "list",data:=.seq its'.toArray n' }:=by
    rw [Heap.get?_update_self f ho (by rw [hf] <;> rfl),hf]
  refine I.write (x:=p) (e:=p) (by rw [h]; trivial) (.inl rfl) (λb u hb q=>(Heap.get?_update_other _ _ (ck hb)).trans q) ⟨_,e⟩ ?_;exact ⟨hz,its',n',r,e⟩
def JD:V->V->V->Hp->(Hp->Prop)->Prop:=λo i v H Q=>∃ p xs k j,o=.ref p/\i=.int k/\H p=some (.lst xs)/\ixN xs.length k=some j/\Q (upd H p (.lst (xs.set j v)))
theorem BS:PSet X JD:=by
  intro pins s σ H o i v ov iv u Q I ro ri rv h;obtain ⟨p,xs,k,j,rfl,rfl,hp,hj,q⟩:=h;cases ro
  obtain ⟨t,rfl⟩:=ri;obtain ⟨its,n,r,ho,hz⟩:=I.lst hp;obtain ⟨h1,h2,h3,h4⟩:=Eu hj;have hl:=r.length;have hn:=Al;have I':Inv X pins σ (upd H p (.lst (xs.set j v))) { s with heap:=s.heap.update p (Obj.mapSeq (·.setIfInBounds j u)) } :=
    I.lstUpd hp ho (Do its n j u) (r.set rv j) (by rw [List.length_set]; exact hz) s.toks
  by_cases h0:0<=k
  . have hk:k.toNat=j:=by
      rw [seqIndex_of h0 h4] at h1;exact aq h1
    exact W.ki_setAt ho h0 (!4) (by rw [aJ,<-hl]; exact h4) (by rw [hk]; exact ⟨_,I',q⟩)
  . have hk:(k+(its.toArray.size:Int)).toNat=j:=by
      rw [seqIndex_neg (!4) h3] at h1;rw [aJ,<-hl];exact aq h1
    exact W.ki_setBack ho (!4) (by rw [aJ,<-hl]; exact h3) (!4) (by rw [hk]; exact ⟨_,I',q⟩)
theorem AT(lo hi:Option Int)(n:Nat):(sliceBounds lo hi none n).1=((HT.sIx n 0 lo:Nat):Int)/\(sliceBounds lo hi none n).2.1=((HT.sIx n n hi:Nat):Int)/\(sliceBounds lo hi none n).2.2=1:=by
  refine ⟨?_,?_,rfl⟩
  . cases lo with
    | none=>simp [sliceBounds,HT.sIx]
    | some i =>
      simp only [sliceBounds,HT.sIx,Option.getD_none,show (1:Int) > 0 by decide,if_true];by_cases h:i<0
      . simp only [h,if_true] <;> omega
      . simp only [h,if_false] <;> omega
  . cases hi with
    | none=>simp [sliceBounds,HT.sIx]
    | some i =>
      simp only [sliceBounds,HT.sIx,Option.getD_none,show (1:Int) > 0 by decide,if_true];by_cases h:i<0
      . simp only [h,if_true] <;> omega
      . simp only [h,if_false] <;> omega
theorem tZ(its:List Value)(lo hi:Option Int):slicePick its.toArray lo hi none=((its.drop (HT.sIx its.length 0 lo)).take (HT.sIx its.length its.length hi - HT.sIx its.length 0 lo)).toArray:=by
  obtain ⟨h1,h2,h3⟩:=AT lo hi its.toArray.size;unfold slicePick;rw [h1,h2,h3];simp only [sliceRange_one,pick_run,aJ] <;> rfl
def rSlL(K:iJ):V->Option Int->Option Int->Hp->VK->Prop:=λx lo hi H Q=>∃ a xs,x=.ref a/\SqL K H a xs/\∀ p,H p=none->Q (.ref p) (upd H p (.lst (cutV xs lo hi)))
theorem yG:SlR X (rSlL X.K):=by
  intro pins s σ H x v vl vu lo hi sl Q I rx hs pl pu h;obtain ⟨a,xs,rfl,hx,q⟩:=h;cases rx
  obtain ⟨its,r,ht,hz⟩:=I.list hx;have hlen:=r.length;refine ⟨"list",_,slot_list_getitem.lookup,ht.isList.typeIs,?_⟩;refine wpAny_getItem_list_slice ht.isList hs pl pu .none (by simp) ?_ (by rw [aJ] <;> omega);rw [tZ,<-hlen];refine ⟨.ref s.heap.objs.size,_,I.laid (t':=s.toks) (o:=.lst (cutV xs lo hi)) (λb ob q=>Heap.get?_push_of_some _ q) (ag _) ?_,rfl,q _ (I.hok.fresh (ag _))⟩;exact ⟨ce (vQ xs lo hi) hz,_,0,(r.drop (HT.sIx xs.length 0 lo)).take (HT.sIx xs.length xs.length hi - HT.sIx xs.length 0 lo),Heap.get?_push_size _ rfl⟩
def uw:V->Bool
  | .non=>true
  | .bl _=>true
  | .int _=>true
  | .str _=>true
  | _=>false
def eqV:V->V->Bool
  | .non,.non=>true
  | .bl a,.bl b=>a==b
  | .bl a,.int b=>(if a then 1 else 0)==b
  | .int a,.bl b=>a==(if b then 1 else 0)
  | .int a,.int b=>a==b
  | .str a,.str b=>a==b
  | _,_=>false
theorem Lk{A:Around}{s:Shared}{u v:Value}(ry:RelV y u)(rx:RelV x v)(fy:uw y=true)(fx:uw x=true):SeqAt.EqAt A s u v (eqV y x):=by
  cases y with
  | non =>
    cases ry
    cases x with
    | non=>cases rx; exact SeqAt.EqAt.same _
    | bl b=>cases rx; exact SeqAt.EqAt.none_bool b
    | int b=>obtain ⟨t,rfl⟩:=rx; exact SeqAt.EqAt.none_int b t
    | str b=>obtain ⟨t,rfl⟩:=rx; exact SeqAt.EqAt.none_str b t
    | _=>exact absurd (show false=true from fx) aP
  | bl a =>
    cases ry
    cases x with
    | non=>cases rx; exact SeqAt.EqAt.bool_none a
    | bl b=>cases rx; exact SeqAt.EqAt.bool_bool a b
    | int b=>obtain ⟨t,rfl⟩:=rx; exact SeqAt.EqAt.bool_int a b t
    | str b=>obtain ⟨t,rfl⟩:=rx; exact SeqAt.EqAt.bool_str a b t
    | _=>exact absurd (show false=true from fx) aP
  | int a =>
    obtain ⟨t',rfl⟩:=ry;cases x with
    | non=>cases rx; exact SeqAt.EqAt.int_none a t'
    | bl b=>cases rx; exact SeqAt.EqAt.int_bool a t' b
    | int b=>obtain ⟨t,rfl⟩:=rx; exact SeqAt.EqAt.int_int a t' b t
    | str b=>obtain ⟨t,rfl⟩:=rx; exact SeqAt.EqAt.int_str a t' b t
    | _=>exact absurd (show false=true from fx) aP
  | str a =>
    obtain ⟨t',rfl⟩:=ry;cases x with
    | non=>cases rx; exact SeqAt.EqAt.str_none a t'
    | bl b=>cases rx; exact SeqAt.EqAt.str_bool a t' b
    | int b=>obtain ⟨t,rfl⟩:=rx; exact SeqAt.EqAt.str_int a t' b t
    | str b=>obtain ⟨t,rfl⟩:=rx; exact SeqAt.EqAt.str_str a t' b t
    | _=>exact absurd (show false=true from fx) aP
  | _=>exact absurd (show false=true from fy) aP
def eqU(x:V)(u:Value):Bool:=match u with
  | .none=>eqV .non x
  | .bool b=>eqV (.bl b) x
  | .int i _=>eqV (.int i) x
  | .str z _=>eqV (.str z) x
  | _=>false
theorem HM{u:Value}(r:RelV y u)(f:uw y=true):eqU x u=eqV y x:=by
  cases y with
  | non=>cases r; rfl
  | bl b=>cases r; rfl
  | int i=>obtain ⟨t,rfl⟩:=r; rfl
  | str z=>obtain ⟨t,rfl⟩:=r; rfl
  | _=>exact absurd (show false=true from f) aP
theorem vC{x:V}:∀ {xs:List V} {us:List Value},Vals xs us->xs.all uw=true->us.any (eqU x)=xs.any λy=>eqV y x
  | _,_,.nil,_=>rfl
  | y::xs,u::us,.cons r t,f=>by
    rw [List.all_cons,dg] at f;rw [eJ,eJ,HM r f.1,vC t f.2]
theorem wk{A:Around}{s:Shared}{x:V}{v:Value}(rx:RelV x v)(fx:uw x=true):∀ {xs:List V} {us:List Value},Vals xs us->xs.all uw=true->∀ u∈us,SeqAt.EqAt A s u v (eqU x u)
  | _,_,.nil,_=>λu hu=>by cases hu
  | y::xs,u::us,.cons r t,f=>λu' hu=>by
    rw [List.all_cons,dg] at f;rcases a7.mp hu with rfl|hu
    . rw [HM r f.1]; exact Lk r rx f.1 fx
    . exact wk rx fx t f.2 u' hu
def inV(x:V)(xs:List V):Bool:=xs.any λy=>eqV y x
def rIn(K:iJ)(neg:Bool):R2:=λx y H Q=>∃ p xs,y=.ref p/\(SqL K H p xs\/SqT K H p xs)/\uw x=true/\xs.all uw=true/\Q (.bl (if neg then !inV x xs else inV x xs)) H
theorem xb:OpR X (compareOp .In) (rIn X.K false):=by
  intro pins s σ H x y v u Q I rx ry h;obtain ⟨p,xs,rfl,hq,fx,fs,q⟩:=h;cases ry
  rcases hq with hq|hq
  . obtain ⟨its,r,pl,hz⟩:=I.list hq;refine SeqAt.in_listAt (eqU x) pl.isList (λw hw=>wk rx fx r fs w (by simpa using hw)) ⟨.bl _,H,I,rfl,?_⟩;rw [show its.toArray.any (eqU x)=its.any (eqU x) by simp,vC r fs];exact q
  . obtain ⟨its,r,pl,hz⟩:=I.tuple hq;refine SeqAt.in_tupleAt (eqU x) pl (λw hw=>wk rx fx r fs w (by simpa using hw)) ⟨.bl _,H,I,rfl,?_⟩;rw [show its.toArray.any (eqU x)=its.any (eqU x) by simp,vC r fs];exact q
theorem Af:OpR X (compareOp .NotIn) (rIn X.K true):=by
  intro pins s σ H x y v u Q I rx ry h;obtain ⟨p,xs,rfl,hq,fx,fs,q⟩:=h;cases ry
  rcases hq with hq|hq
  . obtain ⟨its,r,pl,hz⟩:=I.list hq;refine SeqAt.notIn_listAt (eqU x) pl.isList (λw hw=>wk rx fx r fs w (by simpa using hw)) ⟨.bl _,H,I,rfl,?_⟩;rw [show its.toArray.any (eqU x)=its.any (eqU x) by simp,vC r fs];exact q
  . obtain ⟨its,r,pl,hz⟩:=I.tuple hq;refine SeqAt.notIn_tupleAt (eqU x) pl (λw hw=>wk rx fx r fs w (by simpa using hw)) ⟨.bl _,H,I,rfl,?_⟩;rw [show its.toArray.any (eqU x)=its.any (eqU x) by simp,vC r fs];exact q
theorem Ad:xi X (.builtin "len") (λxs H Q=>∃ p ys,xs=[.ref p]/\(SqL X.K H p ys\/SqT X.K H p ys)/\Q (.int ys.length) H):=by
  intro pins s σ H xs us Q I r h;obtain ⟨p,ys,rfl,hq,q⟩:=h;obtain ⟨u,rfl,rx⟩:=CT r;cases rx
  have hn:=Al;rcases hq with hq|hq
  . obtain ⟨its,r',pl,hz⟩:=I.list hq;have hlen:=r'.length;exact Calls.call_len_list pl.isList (by simp only [aJ] <;> omega) ⟨.int ys.length,H,I.tok _,⟨s.toks+1,by rw [aJ,hlen]⟩,q⟩
  . obtain ⟨its,r',pl,hz⟩:=I.tuple hq;have hlen:=r'.length;exact len_tuple pl (by simp only [aJ] <;> omega) ⟨.int ys.length,H,I.tok _,⟨s.toks+1,by rw [aJ,hlen]⟩,q⟩
theorem Az:xi X (.type "list") (λxs H Q=>∃ p ys,xs=[.ref p]/\(SqL X.K H p ys\/SqT X.K H p ys)/\∀ l,H l=none->Q (.ref l) (upd H l (.lst ys))):=by
  intro pins s σ H xs us Q I r h;obtain ⟨p,ys,rfl,hq,q⟩:=h;obtain ⟨u,rfl,rx⟩:=CT r;cases rx
  have fin:∀ (its:List Value),Vals ys its->ys.length<=sizeLine->∀ (h':Heap) (c':Nat),(∀ b o',s.heap.get? b=some o'->h'.get? b=some o') ->
      h'.get? s.heap.objs.size=some { cls:=.type "list",dict:=none,data:=.seq its.toArray c',slots:=#[] }->EP X pins σ Q (.ref s.heap.objs.size) { s with heap:=h' }:=λits r' hz h' c' kp e =>
    ⟨.ref s.heap.objs.size,_,I.laid (t':=s.toks) kp (ag _) (show ObjOk X.prog X.w _ h' _ (.lst ys) from ⟨hz,its,c',r',e⟩),rfl,q _ (I.hok.fresh (ag _))⟩
  rcases hq with hq|hq
  . obtain ⟨its,r',pl,hz⟩:=I.list hq;have hlen:=r'.length;obtain ⟨o,ho,hc,n,hd⟩:=pl.isList;exact call_list_seq p (.inl rfl) ho hc hd (λh' c' kp e=>fin its r' hz h' c' kp e) (by simp only [aJ] <;> omega)
  . obtain ⟨its,r',pl,hz⟩:=I.tuple hq;have hlen:=r'.length;obtain ⟨o,ho,hc,n,hd⟩:=pl;exact call_list_seq p (.inr rfl) ho hc hd (λh' c' kp e=>fin its r' hz h' c' kp e) (by simp only [aJ] <;> omega)
theorem uV:xi X (.type "tuple") (λxs H Q=>∃ p ys,xs=[.ref p]/\((SqL X.K H p ys/\∀ l,H l=none->Q (.ref l) (upd H l (.tup ys)))\/(SqT X.K H p ys/\Q (.ref p) H))):=by
  intro pins s σ H xs us Q I r h;obtain ⟨p,ys,rfl,h⟩:=h;obtain ⟨u,rfl,rx⟩:=CT r;cases rx
  rcases h with ⟨hq,q⟩|⟨hq,q⟩
  . obtain ⟨its,r',pl,hz⟩:=I.list hq;have hlen:=r'.length;refine call_tuple_list pl.isList (λh' kp=>?_) (by simp only [aJ] <;> omega);have I1:Inv X pins σ H { s with heap:=h' }:=I.kept (t':=s.toks) kp;have I2:Inv X pins σ (upd H h'.objs.size (.tup ys)) { s with heap:=h'.push { cls:=.type "tuple",data:=.seq its.toArray } } :=
      I1.laid (t':=s.toks) (λb o e=>Heap.get?_push_of_some _ e) (ag _) (show ObjOk X.prog X.w _ _ _ (.tup ys) from ⟨hz,its,r',IsTup.new _ _⟩)
    exact ⟨.ref h'.objs.size,_,I2,rfl,q _ (I1.hok.fresh (ag _))⟩
  . obtain ⟨its,r',pl,hz⟩:=I.tuple hq;exact call_tuple_same pl ⟨.ref p,H,I,rfl,q⟩
def tyV(K:iJ)(T:String)(x:V)(H:Hp):Prop:=match x with
  | .str _=>T="str"
  | .int _=>T="int"
  | .ref p=>(T="list"/\∃ xs,SqL K H p xs)\/(T="tuple"/\∃ o,K.lookup p=some o/\o.cls=.type "tuple"/\o.dict=none) \/
      (T="dict"/\((∃ kvs,H p=some (.dK kvs))\/∃ kvs,H p=some (.dT kvs)))\/(T="set"/\∃ S n,H p=some (.set S n))
  | _=>False
theorem Hv{σ:St}{s:Shared}{T:String}{v:Value}(I:Inv X pins σ H s)(r:RelV x v)(ty:tyV X.K T x H) : s.TypeIs v T/\∀ a,v=.ref a->∃ ob,s.heap.get? a=some ob/\ob.dict=none:=by
  cases x with
  | str z =>
    obtain ⟨t,rfl⟩:=r;cases (show T="str" from ty)
    exact ⟨typeIs_str s z t,λ_ e=>nomatch e⟩
  | int i =>
    obtain ⟨t,rfl⟩:=r;cases (show T="int" from ty)
    exact ⟨typeIs_int s i t,λ_ e=>nomatch e⟩
  | ref p =>
    cases r
    rcases ty with ⟨rfl,xs,hq⟩|⟨rfl,o,hk,hc,hd⟩|⟨rfl,hk⟩|⟨rfl,S,n,hk⟩
    . obtain ⟨its,_,pl,_⟩:=I.list hq;refine ⟨pl.isList.typeIs,λa e=>?_⟩;cases e
      obtain ⟨o,n,e,c,hd,_⟩:=pl;exact ⟨o,e,hd⟩
    . refine ⟨⟨o,I.kIn p o hk,hc⟩,λa e=>?_⟩;cases e
      exact ⟨o,I.kIn _ o hk,hd⟩
    . have z:∃ o,s.heap.get? p=some o/\o.ExactDict:=by
        rcases hk with ⟨kvs,hk⟩|⟨kvs,hk⟩
        . obtain ⟨_,_,_,_,o,_,_,e,ex,_⟩:=I.hok p _ hk;exact ⟨o,e,ex⟩
        . obtain ⟨_,_,_,_,o,_,_,e,ex,_⟩:=I.hok p _ hk;exact ⟨o,e,ex⟩
      obtain ⟨o,e,ex⟩:=z;refine ⟨⟨o,e,ex.1⟩,λa e2=>?_⟩;cases e2
      exact ⟨o,e,ex.2.1⟩
    . obtain ⟨o,_,_,_,e,ex,_⟩:=I.hok p _ hk;refine ⟨⟨o,e,ex.1⟩,λa e2=>?_⟩;cases e2
      exact ⟨o,e,ex.2.1⟩
  | _=>exact False.elim ty
def tBM0(K:iJ)(T:String)(r:V->List V->Hp->VK->Prop)(to:TE):TE:=λσ H Q=>to σ H λx H1=>tyV K T x H1/\r x [] H1 Q
def tBM(K:iJ)(T:String)(r:V->List V->Hp->VK->Prop)(to:TE)(t:TA):TE:=λσ H Q=>to σ H λx H1=>tyV K T x H1/\t σ H1 λxs H2=>r x xs H2 Q
variable {o:Expr}{es:List Expr}{to:TE}{t:TA}{name:Str}{apos cpos:Pos}{T id:String}{r:V->List V->Hp->VK->Prop}
theorem KI(pa:PlainAttrs T)(slot:Slot T name id)(hty:typeOf (.builtin id)=pure (.type "method_descriptor"))(hm:MtR X id r)(ho:PE X o to)(hbase:attributeBase o name X.env (eval o X.env)=eval o X.env:=by rfl)(hline:(apos.endLine==cpos.line)=true:=by rfl):PE X (.Call (.Attribute o name apos) [] [] cpos) (tBM0 X.K T r to):=by
  intro pins s σ H Q I h;refine wpAny_Call_method0_late hbase hline (thn (ho pins s σ H _ I h) λv s1 ⟨x,H1,I1,r1,ty,q1⟩=>?_);obtain ⟨h1,h2⟩:=Hv I1 r1 ty;exact ⟨T,id,pa,slot,hty,h1,h2,Calls.callWith_builtin rfl (PySem.evalArgs_none (hm pins s1 σ H1 x [] v [] Q I1 r1 .nil q1))⟩
theorem wo(pa:PlainAttrs T)(slot:Slot T name id)(hty:typeOf (.builtin id)=pure (.type "method_descriptor"))(hm:MtR X id r)(ho:PE X o to)(ha:PA X (e::es) t)(hbase:attributeBase o name X.env (eval o X.env)=eval o X.env:=by rfl)(hfew:((backTo cpos (starEach (e::es) X.env)).all (λx=>!x.1) && (backToKw cpos (keywordEach [] X.env)).all (λx=>x.1.isSome)
      && decide ((e::es).length+([]:List Keyword).length+(if ([]:List Keyword).isEmpty then 0 else 1)<30))=true:=by rfl)(hline:(apos.endLine==cpos.line)=true:=by rfl)(hs:starEach (e::es) X.env=(false,eval e X.env)::starEach es X.env:=by rfl)(hplain:(backTo cpos (starEach es X.env)).any (·.1)=false:=by rfl) :
    PE X (.Call (.Attribute o name apos) (e::es) [] cpos) (tBM X.K T r to t):=by
  intro pins s σ H Q I h;refine wpAny_Call_method_late hbase hfew hline rfl (thn (ho pins s σ H _ I h) λv s1 ⟨x,H1,I1,r1,ty,q1⟩=>?_);obtain ⟨h1,h2⟩:=Hv I1 r1 ty;refine ⟨T,id,pa,slot,hty,h1,h2,?_⟩;have hA:=ha cpos pins s1 σ H1 _ I1 q1;rw [hs] at hA ⊢;refine Calls.callWith_builtin (by show (false || (backTo cpos (starEach es X.env)).any (·.1))=false; rw [hplain] <;> rfl) (Calls.evalArgs_plain ?_);exact thn hA λus s2 ⟨vs,H2,I2,r2,q2⟩=>hm pins s2 σ H2 x vs v us Q I2 r1 r2 q2
end
def MtM(X:Cx)(id:String)(r:V->List V->Hp->VK->Prop):Prop :=
  ∀ (pins:List (Addr×Obj)) (s:Shared) (σ:St) (H:Hp) (x:V) (xs:List V) (v:Value) (us:List Value) (Q:VK),Inv X pins σ H s->RelV x v->Vals xs us->r x xs H Q ->
    wpAny (model X.prog X.w) X.A (call (.builtin id) (v::us)) (EP X pins σ Q) X.xe s
theorem Vals.one:∀ {x:V} {us:List Value},Vals [x] us->∃ u,us=[u]/\RelV x u
  | _,_,.cons r .nil=>⟨_,rfl,r⟩
theorem Vals.two:∀ {x y:V} {us:List Value},Vals [x,y] us->∃ u v,us=[u,v]/\RelV x u/\RelV y v
  | _,_,_,.cons r (.cons q .nil)=>⟨_,_,rfl,r,q⟩
theorem Vals.zero:∀ {us:List Value},Vals [] us->us=[]
  | _,.nil=>rfl
variable {t':Nat}
section
variable {pins:List (Addr×Obj)}{σ:St}{H:Hp}{s:Shared}{l b:Addr}{xs ys zs:List V}
theorem Inv.lset{n:Nat}{f:Array Value->Array Value}(I:Inv X pins σ H s)(hH:H l=some (.lst xs))(e:s.heap.get? l=some { cls:=.type "list",data:=.seq its.toArray n })(hf:f its.toArray=its'.toArray)(hv:Vals ys its')(hz:ys.length<=sizeLine) :
    Inv X pins σ (upd H l (.lst ys)) { s with heap:=s.heap.update l (Obj.mapSeq f),toks:=t' }:=by
  have q:=PySem.IsL.update e f;rw [hf] at q;refine I.write (x:=l) (e:=l) (by rw [hH]; exact trivial) (.inl rfl) (λb' u hb hu=>(Heap.get?_update_other s.heap (Obj.mapSeq f) (ck hb)).trans hu) ⟨_,q⟩ ?_;exact ⟨hz,its',_,hv,q⟩
theorem Inv.lnew(I:Inv X pins σ H s)(hv:Vals ys its)(hz:ys.length<=sizeLine) : Inv X pins σ (upd H s.heap.objs.size (.lst ys)) { s with heap:=s.heap.push { cls:=.type "list",data:=.seq its.toArray },toks:=t' } :=
  I.laid (λ_ _ q=>Heap.get?_push_of_some _ q) (ag _) ⟨hz,its,0,hv,Heap.get?_push_size _ rfl⟩
theorem Inv.fresh(I:Inv X pins σ H s):H s.heap.objs.size=none:=I.hok.fresh (ag _)
theorem Inv.lstM(I:Inv X pins σ H s)(hH:H l=some (.lst xs)):xs.length<=sizeLine/\∃ (its:List Value) (n:Nat),Vals xs its/\xs.length=its.length/\s.heap.get? l=some { cls:=.type "list",data:=.seq its.toArray n }:=by
  obtain ⟨z,its,n,r,e⟩:=I.hok l _ hH;exact ⟨z,its,n,r,r.length,e⟩
end
def z7:V->List V->Hp->VK->Prop:=λx vs H Q=>∃ l xs y,x=.ref l/\vs=[y]/\H l=some (.lst xs)/\xs.length<sizeLine/\Q .non (upd H l (.lst (xs++[y])))
theorem zF:MtM X "list.append" z7:=by
  intro pins s σ H x vs v us Q I rx rv h;obtain ⟨l,xs,y,rfl,rfl,hH,hz,q⟩:=h;cases rx
  obtain ⟨u,rfl,ru⟩:=rv.one;obtain ⟨z,its,n,r,hl,e⟩:=I.lstM hH;refine call_meets F.slot_list_append ⟨_,e,rfl⟩ F.entry_list_append (F.args_list_append_2 _ _) (PySem.list_append l its.toArray n u (by rw [aJ]; omega)) ⟨e,?_⟩;refine ⟨.non,_,I.lset (its':=its++[u]) hH e (by simp) (r.append (.cons ru .nil)) ?_,rfl,q⟩;rw [ai,List.length_singleton];omega
def rCat:R2:=λx y H Q=>∃ l b xs zs,x=.ref l/\y=.ref b/\H l=some (.lst xs)/\H b=some (.lst zs)/\xs.length+zs.length<=sizeLine/\∀ p,H p=none->Q (.ref p) (upd H p (.lst (xs++zs)))
theorem vz:OpR X (binaryOp .Add) rCat:=by
  intro pins s σ H x y v u Q I rx ry h;obtain ⟨l,b,xs,zs,rfl,rfl,hH,hB,hz,q⟩:=h;cases rx
  cases ry
  obtain ⟨z,its,n,r,hl,e⟩:=I.lstM hH;obtain ⟨z2,its2,n2,r2,hl2,e2⟩:=I.lstM hB;refine PySem.P.add_list e e2 ?_ (by rw [aJ,aJ]; omega);have ea:its.toArray++its2.toArray=(its++its2).toArray:=by simp
  rw [ea];exact ⟨.ref _,_,I.lnew (t':=s.toks) (r.append r2) (by rw [ai]; omega),rfl,q _ I.fresh⟩
section
variable {prog:Program}{w:World}{A:Around}{E:Value->Shared->Prop}{s:Shared}
end
end L2
namespace Att
open PySem PySem.W PySem.Calls PyProof.Rows
variable {h:Heap}{P:Params}
theorem vL:∀ (ns:List Int) (vs:List Value),WellAll P h vs (ns.map WData.int)->IntsAre vs ns:=by
  intro ns;induction ns with
  | nil =>
    intro vs w;rw [cJ] at w;cases w
    exact .nil
  | cons n ns ih =>
    intro vs w;rw [aR] at w;cases w with
    | cons a b =>
      cases a
      exact .cons _ _ (ih _ b)
theorem EI{l:OpenLaw}{n:Nat}(hn:l.most=some n){args:List WData}{vals:List Value}(hpre:l.row.toRowW.claim.pre args=true)(hwl:WellAll P h vals args) : ∃ a vs ns,vals=[Value.ref a]/\args=[WData.list (ns.map WData.int)]/\h.get? a=some { cls:=.type "list",data:=.seq vs.toArray }/\IntsAre vs ns/\ns.length<=n:=by
  have hsh:WShape.hasAll [] args [.list .int]=true:=(pre_splitW hpre).1;have hc:l.pre.holds [] { args:=args }=true:=(pre_splitW hpre).2;obtain ⟨d,r,rfl,h1,h2⟩:=hasAllW_cons hsh;obtain rfl:=hasAllW_nil h2;obtain ⟨xs,rfl,h3⟩:=hasW_list h1;obtain ⟨ns,rfl⟩:=items_int h3;have hlen:ns.length<=n:=by
    unfold OpenLaw.pre at hc;have h4:(WTm.not (.lt (.lit (.int (n:Int))) (.len (.arg 0)))).holds [] { args:=[.list (ns.map .int)] }=true:=by
      have h4:=(holds_andW hc).1;rw [hn] at h4;exact h4
    have h5:=condW_of h4 (w_not (w_lt w_lit (w_len_list (w_arg rfl))));rw [aa] at h5;refine Nat.le_of_not_lt λq=>?_;have q':(n:Int)<((ns.length:Nat):Int):=by omega
    first
      | (rw [iH q'] at h5; exact absurd h5 (by decide))
      | (simp at h5; omega)
  cases hwl with
  | cons w1 w2 =>
    cases w2
    cases w1 with
    | list ho hall=>exact ⟨_,_,ns,rfl,rfl,ho,vL ns _ hall,hlen⟩
theorem DG(l:OpenLaw)(args:List WData):l.row.toRowW.claim.post args (.bool true) args=true :=
  postW_of (r:=l.row.toRowW) (X:=(true==true))
    (show WShape.has [] (.bool true) .bool=true by first | rfl | decide | simp [WShape.has,WShape.arms,WShape.armsAll])
    (show (WTm.eq .res (.lit (.bool true))).value [] { args:=args,res:=some (.bool true),after:=args }=some (.bool (true==true)) from w_eq_bool (w_res rfl) w_lit) rfl
section
variable {prog:Program}{w:World}{A:Around}{E:Value->Shared->Prop}{s:Shared}{K:Frag}
end
end Att
namespace L2
open PySem PySem.Spec PyProof.Rows
theorem Ak:∀ {vs:List Value} {ns:List Int},IntsAre vs ns->Vals (ns.map V.int) vs
  | _,_,.nil=>.nil
  | _,_,.cons n t h=>.cons ⟨t,rfl⟩ (Ak h)
def Only(H:Hp):Prop:=∀ b,H b=none\/∃ o xs,H b=some (.frz o (.lst xs))
variable {a:Addr}{fd:FuncData}{sp:Sp}{x:Str}
theorem GA{P:Program}{w:World}{K:iJ}{mg mb:Str->Option Value}{CX:CXT}{k:Nat}{fa:Addr}{s₁:Shared}{vs:List Value}{ns:List Int}(KX:K.In s₁.heap)(hns:s₁.heap.Ns mainGlobals mg)(hb:s₁.heap.Ns builtinsNs mb)(hbb:∀ x:Str,x≠"__name__"->mb x=bootBuiltins x)(hlim:s₁.heap.NoLimit)(hg:s₁.gens=#[])(ha:s₁.heap.get? a=some { cls:=.type "list",data:=.seq vs.toArray })(hi:IntsAre vs ns)(hl:ns.length<=sizeLine)(hr:Room k callerA)(F:∀ base:Heap,K.In base->base.Ns mainGlobals mg->FnOk P w K mg base CX k fa fd [x] sp)(hbind:∀ (s:Shared) (u:Value),BindsTo s fd ⟨[u],[]⟩ [(x,u)])(hsp:∀ H:Hp,Only H->SqL K H a (ns.map V.int)->sp [.ref a] H (λv _=>v=.bl true) λ_ _ _=>False)(hCX:∀ H e s',CX [] H s₁ (λ_ _ _=>False) e s'->False) :
    codeAny (model P w) callerA (.call (.ref fa) ⟨[.ref a],[]⟩) (λr s'=>r=.ok (.ret (.bool true))/\OldK s₁.heap s'.heap/\s'.os=s₁.os/\AllBare s'.gens) s₁:=by
  have rv:=Ak hi;have lenV:=hi.length;have core:∀ H:Hp,Only H->SqL K H a (ns.map V.int)->HOk P w H s₁.heap->(∀ b,H b≠none->b=a)->(H a≠none->K.lookup a=none) ->
      codeAny (model P w) callerA (.call (.ref fa) ⟨[.ref a],[]⟩) (λr s'=>r=.ok (.ret (.bool true))/\OldK s₁.heap s'.heap/\s'.os=s₁.os/\AllBare s'.gens) s₁:=by
    intro H hO hS hok hA hK;have base_of:∀ {b:Addr} {o:Obj},s₁.heap.get? b=some o->H b=none->(hidT s₁.heap H).get? b=some o:=λe n=>Gi e n;have noA:∀ {b:Addr} {o:Obj} {es:Array DictEntry} {ep:Nat},s₁.heap.get? b=some o->o.data=.dict es ep->H b=none:=λ{b o es ep} e d=>by
      cases q:H b with
      | none=>rfl
      | some u =>
        have e':b=a:=hA b (by rw [q]; simp);subst e';rw [ha] at e; cases e;have d':Data.seq vs.toArray _=Data.dict es ep:=d;cases d'
    have nsK:∀ {b:Addr} {m:Str->Option Value},s₁.heap.Ns b m->(hidT s₁.heap H).Ns b m:=λ{b m} ⟨o,es,ep,e,d,r⟩=>⟨o,es,ep,base_of e (noA e d),d,r⟩
    have hKb:K.In (hidT s₁.heap H):=λb o e=>base_of (KX b o e) (by
      cases q:H b with
      | none=>rfl
      | some u =>
        have e':b=a:=hA b (by rw [q]; simp);subst e';rw [hK (by rw [q]; simp)] at e; cases e)
    have hM:Mod K mg (hidT s₁.heap H):=⟨hKb,nsK hns,⟨mb,nsK hb,hbb⟩,let ⟨mc,h1,h2⟩:=hlim; ⟨mc,nsK h1,h2⟩⟩
    have e0:Env0 P w K mg (hidT s₁.heap H) callerA [] s₁ H:=⟨rfl,hM,λb o e=>Jh e,Nat.le_of_eq (EK _ _),trivial,λb hb=>absurd (show b∈([]:List Addr) from hb) (by simp),hok,.of_eq hg⟩
    refine iE ((F _ hKb (nsK hns)).run callerA [] s₁ H ⟨[.ref a],[]⟩ [.ref a] [.ref a] _ _ hr e0 (hbind s₁ (.ref a)) (.cons rfl .nil) (hsp H hO hS)) λr s' h=>?_;cases r with
    | error e=>exact (hCX H e s' h).elim
    | ok fl =>
      cases fl with
      | next=>exact False.elim h
      | brk=>exact False.elim h
      | cont=>exact False.elim h
      | ret u =>
        obtain ⟨v,H',os,bare,un,hok',r',q⟩:=h;have q':v=.bl true:=q;subst q';obtain rfl:u=Value.bool true:=r';refine ⟨rfl,OldK.of_keep λb o e=>?_,os,bare⟩;cases q:H b with
        | none=>exact un.keep b o e q (by intro z; exact absurd (show b∈([]:List Addr) from z) (by simp)) (by simp)
        | some u =>
          rcases hO b with z|⟨ob,xs,z⟩
          . rw [q] at z; cases z
          . have z2:=un.frzs b ob _ z;obtain ⟨e1,_⟩:=hok b _ z;obtain ⟨e2,_⟩:=hok' b _ z2;rw [e] at e1; cases e1;exact e2
  cases hk:K.lookup a with
  | some o =>
    have e:=KX a o hk;rw [ha] at e;cases e
    refine core (λ_=>none) (λ_=>.inl rfl) (.inr ⟨_,vs.toArray,_,hk,rfl,rfl,rfl,by rw [aJ,lenV]; exact hl,by simpa using rv⟩) (λb u z=>by have z':(none:Option HO)=some u:=z; cases z') (λb z=>absurd rfl z) λz=>absurd rfl z
  | none =>
    refine core (λb=>if b=a then some (.frz { cls:=.type "list",data:=.seq vs.toArray } (.lst (ns.map V.int))) else none) (λb=>?_) (.inl (.inr ⟨{ cls:=.type "list",data:=.seq vs.toArray },io rfl⟩)) (λb u z=>?_) (λb z=>?_) λ_=>hk
    . by_cases hb:b=a
      . exact .inr ⟨_,_,io hb⟩
      . exact .inl (ip hb)
    . by_cases hb:b=a
      . have z':=(io hb).symm.trans z;cases z'
        subst hb;exact ⟨ha,by rw [aa]; exact hl,vs,_,rv,ha⟩
      . have z':=(ip hb).symm.trans z;cases z'
    . by_cases hb:b=a
      . exact hb
      . exact absurd (ip hb) z
def xX(s:Stmt)(j:Nat):Stmt:=match s with
  | .ClassDef _ _ _ body _ _ _ _ _ _ _=>body.getD j (.Pass ⟨0,0,0,0⟩)
  | _=>.Pass ⟨0,0,0,0⟩
def defArgs(s:Stmt):Arguments:=match s with
  | .FunctionDef _ a _ _ _ _ _ _ _ _=>a
  | _=>{ posonlyargs:=[],args:=[],vararg:=none,kwonlyargs:=[],kw_defaults:=[],kwarg:=none,defaults:=[] }
def defBody(s:Stmt):List Stmt:=match s with
  | .FunctionDef _ _ b _ _ _ _ _ _ _=>b
  | _=>[]
def defScope(s:Stmt):Scope:=match s with
  | .FunctionDef _ _ _ _ _ _ sc _ _ _=>sc
  | _=>{ kind:=.function,names:=[],isGenerator:=false,isCoroutine:=false }
abbrev CX0:CXT:=λ_ _ _ _ _ _=>False
abbrev E0:XK:=λ_ _ _=>False
theorem t8{X:Cx}:xO CX0 X E0:=λ_ _ _ _ _ _ _ h=>h.elim
structure Fun(K:iJ)(x qual:Str)(st:Stmt)(f:Addr)(fd:FuncData):Prop where
  ex:∃ (oc:Value) (od:Option Addr) (kV doc pm:Value) (an:Option Addr) (cdv ct:Value) (osl:Array (Option Value)),
    fd=W.fnOf x qual (defArgs st) (defBody st) (defScope st) .none kV doc pm an cdv ct/\K.lookup f=some ⟨oc,od,.func fd,osl⟩/\W.codeIn K cdv qual=true
  kp:W.keepIn K (.ref f)=true
variable {f:Addr}{ps:List Str}{qual:Str}
section
variable {P:Program}{w:World}{K:iJ}{mg:Str->Option Value}{base:Heap}
theorem Fun.ok{st:Stmt}{N:List Str}{k:Nat}(F:Fun K x qual st f fd)(S:FnScope N ps (defScope st))(len:∀ vs H Q E,sp vs H Q E->vs.length=ps.length)(hbody:∀ (cdv:Value) (A:Around) (outer:List Env) (s:Shared) (H:Hp) (vs:List V) (Q:VK) (E:XK),Room k (A.deeper (envOfC qual (defScope st) s.heap.objs.size f cdv))->sp vs H Q E ->
      ∃ t,PSs (cxOf CX0 P w K mg base N qual (defScope st) f cdv A outer s H E).nox (defBody st) t/\t { nx:=λ_ H'=>Q .non H',rt:=Q } (start N vs) H):FnOk P w K mg base CX0 (k+1) f fd ps sp:=by
  obtain ⟨oc,od,kV,doc,pm,an,cdv,ct,osl,rfl,lk,hcd⟩:=F.ex;refine Ke lk hcd S len λA outer s H vs Q E hr hsp=>?_;obtain ⟨t,h,q⟩:=hbody cdv A outer s H vs Q E hr hsp;exact ⟨t,h.nox,q⟩
theorem Fun.binds{st:Stmt}(F:Fun K x qual st f fd)(h:∀ (kV doc pm:Value) (an:Option Addr) (cdv ct:Value) (us:List Value),us.length=ps.length->bindArgs (W.fnOf x qual (defArgs st) (defBody st) (defScope st) .none kV doc pm an cdv ct) ⟨us,[]⟩=pure (ps.zip us)):Binds K fd ps []:=by
  obtain ⟨oc,od,kV,doc,pm,an,cdv,ct,osl,rfl,lk,hcd⟩:=F.ex;exact .all (h kV doc pm an cdv ct)
theorem HP{st:Stmt}{oc:Value}{od an:Option Addr}{osl:Array (Option Value)}{kV doc pm cdv ct:Value}(l:K.lookup f=some ⟨oc,od,.func (W.fnOf x qual (defArgs st) (defBody st) (defScope st) .none kV doc pm an cdv ct),osl⟩)(c:W.codeIn K cdv qual=true)(k:W.keepIn K (.ref f)=true):Fun K x qual st f (W.fnOf x qual (defArgs st) (defBody st) (defScope st) .none kV doc pm an cdv ct):=⟨⟨oc,od,kV,doc,pm,an,cdv,ct,osl,rfl,l,c⟩,k⟩
end
theorem uR{A:Around}{k:Nat}(hr:Room k A):A.units+1<cLine:=aX (Nat.add_le_add_left (by decide:1<=64) _) hr.units
theorem FB{n:Nat}(h:n<=1000):n<sizeLine:=aX h (by decide)
variable {X:Cx}
theorem pv(i:Nat){pos:Pos}(hN:X.N[i]?=some x:=by rfl)(hv:Vis X.env.scope x:=by first | exact Or.inl rfl | exact Or.inr (Or.inl rfl) | exact Or.inr (Or.inr rfl))(hd:(x==("__debug__":Str))=false:=by decide)(hcd:(x==("__classdict__":Str))=false:=by decide):PE X (.Name x pos) (tVar i):=Km hN hv hd hcd
def Same(H H':Hp):Prop:=∀ b o,H b=some o->H' b=some o
theorem Same.refl(H:Hp):Same H H:=λ_ _ h=>h
variable {H:Hp}
theorem Same.trans{H1 H2:Hp}(a:Same H H1)(b:Same H1 H2):Same H H2:=λc o h=>b c o (a c o h)
variable {H':Hp}
theorem Same.free(e:Same H H'){l:Addr}(h:H' l=Option.none):H l=Option.none:=by
  cases q:H l with
  | none=>rfl
  | some o =>
    rw [e l o q] at h;cases h
theorem Same.seq{K:iJ}{xs:List V}(e:Same H H')(h:SqL K H a xs):SqL K H' a xs:=by
  rcases h with (h|⟨o,h⟩)|h
  . exact .inl (.inl (e _ _ h))
  . exact .inl (.inr ⟨o,e _ _ h⟩)
  . exact .inr h
end L2
noncomputable section
set_option linter.all false
namespace Hd
open PySem PySem.W PySem.Calls PyProof.Rows
abbrev lf0:Life:=@PySem.Life.mk (@List.nil.{0} @Nat) (@List.nil.{0} @Nat) (@List.nil.{0} @Nat) (@OfNat.ofNat.{0} @Nat (nat_lit 0) (@instOfNatNat (nat_lit 0))) (@List.nil.{0} (@Prod.{0,0} @Nat @Nat)) (@List.nil.{0} @Nat) @Bool.false (@List.toArray.{0} @Nat (@List.nil.{0} @Nat)) (@List.nil.{0} @Nat) (@OfNat.ofNat.{0} @Nat (nat_lit 0) (@instOfNatNat (nat_lit 0))) @Bool.false @Bool.false @Bool.false (@OfNat.ofNat.{0} @Int (nat_lit 0) (@instOfNat (nat_lit 0))) (@List.cons.{0} @Int (@OfNat.ofNat.{0} @Int (nat_lit 2000) (@instOfNat (nat_lit 2000))) (@List.cons.{0} @Int (@OfNat.ofNat.{0} @Int (nat_lit 10) (@instOfNat (nat_lit 10))) (@List.cons.{0} @Int (@OfNat.ofNat.{0} @Int (nat_lit 10) (@instOfNat (nat_lit 10))) (@List.nil.{0} @Int)))) @Bool.false (@OfNat.ofNat.{0} @Nat (nat_lit 0) (@instOfNatNat (nat_lit 0))) @Bool.true (@List.nil.{0} @Nat) (@List.nil.{0} @Nat) (@OfNat.ofNat.{0} @Nat (nat_lit 0) (@instOfNatNat (nat_lit 0))) @Bool.false
abbrev dr1:Drawn:=@PySem.Drawn.mk (@OfNat.ofNat.{0} @Nat (nat_lit 0) (@instOfNatNat (nat_lit 0))) (@OfNat.ofNat.{0} @Nat (nat_lit 0) (@instOfNatNat (nat_lit 0))) (@OfNat.ofNat.{0} @Nat (nat_lit 0) (@instOfNatNat (nat_lit 0))) (@OfNat.ofNat.{0} @Nat (nat_lit 0) (@instOfNatNat (nat_lit 0)))
abbrev p:Program:=PySem.Challenge.pw_boardglue_k64_whole_cut_and_made_few
def top(i:Nat):Stmt:=p.main.body.getD i (.Pass ⟨0,0,0,0⟩)
def sub(s:Stmt)(j:Nat):Stmt:=match s with | .ClassDef (body:=b) ..=>b.getD j (.Pass ⟨0,0,0,0⟩) | _=>s
def fn(x q:Str)(s:Stmt)(g:Addr)(cl:List (Str×Addr))(dV kV doc pm:Value)(an:Option Addr)(cd ct:Value)(bl:Addr):FuncData:={ name:=x,qualname:=q,params:=L2.defArgs s,body:=.stmts (L2.defBody s),scope:=L2.defScope s,globals:=g,closure:=cl,defaults:=dV,kwdefaults:=kV,doc:=doc,pyModule:=pm,annotations:=an,code:=cd,closureTuple:=ct,builtins:=bl }
def z0:Value:=.int 0 0
def cp (n:Tok):Value:=.str "/claim/cut.py" n
def co (a:Array Value):Obj:=⟨.type "code",none,.fields a,#[]⟩
def fo (f:FuncData):Obj:=⟨.type "function",none,.func f,#[]⟩
abbrev so(x:String):Str:=Str.ofString x
abbrev R(n:Addr):Value:=.ref n
abbrev N:=@BT.node
abbrev Z:BT:=.nil
abbrev L(o:Obj):BT:=.node o .nil .nil
def cO(x:String)(t:Tok)(y:String)(u v:Tok)(l a b c n:Int)(e:Value)(g:Bool)(k:Int)(m A B C D:Value)(i j:Int)(z:Tok):Obj:=co #[.str x t,.str y u,cp v,.int l 0,.int a 0,.int b 0,.int c 0,.int n 0,e,.bool g,.int k 0,m,A,B,C,D,.int i 0,.int j 0,cp z]
def f0(x q:Str)(s:Stmt):Obj:=⟨.none,none,.func (fn x q s 0 [] .none .none .none .none none .none .none 0),#[]⟩
def fO(x q:Str)(s:Stmt)(d m:Value)(c:Addr):Obj:=fo (fn x q s 3 [] d .none .none m none (.ref c) .none 0)
abbrev m0m:Value:=.str "__main__" 164
abbrev m1m:Value:=.str "boardglue.lengths" 294
abbrev m2m:Value:=.str "boardglue.bases" 439
abbrev m3m:Value:=.str "boardglue.normal" 494
abbrev m4m:Value:=.str "boardglue.boards" 548
abbrev m5m:Value:=.str "boardglue.yard" 556
abbrev m6m:Value:=.str "boardglue.plans" 703
abbrev m7m:Value:=.str "boardglue.tables" 769
abbrev m8m:Value:=.str "boardglue.likes" 844
abbrev m9m:Value:=.str "boardglue.fewest" 862
abbrev m10m:Value:=.str "law_boardglue_k64_whole_cut_and_made_few" 909
def tu (a:Array Value):Obj:=⟨.type "tuple",none,.seq a 0,#[]⟩
def en(P:Params)(x:String)(t:Tok)(v:Value):DictEntry:=⟨PyData.keyHash P x,.str x t,v⟩
def env:Env:={ scope:=p.main.scope,locals:=mainNs,globals:=mainNs,cells:=[],code:=(.ref 13),frame:=some 14 }
abbrev b:List Stmt:=behindTheImports p
abbrev cE:Code:=.body b env
abbrev q:Pos:=⟨0,0,0,0⟩
abbrev B:List Frame:=[topFrame q]
abbrev m0:Nat:=nat_lit 11
abbrev ann:Option Value:=(some (.ref 6))
def o0:Obj:=tu #[]
def o1:Obj:=⟨.none,none,(.fields #[]),#[]⟩
def o2:Obj:=cO "<module>" 182 "<module>" 183 184 1 0 0 0 0 (R 11) false 181 (R 12) .none .none .none .none 185 1 186
def o3:Obj:=⟨(.type "frame"),none,.plain,#[(some (.ref 13)),(some (.ref 3)),(some (.ref 3)),none,(some (.str "__main__" 164)),none,(some (.ref 0))]⟩
def Ha(P:Params):Heap:=⟨⟨[boot_o_0 P,boot_o_1 P,boot_o_2 P,boot_o_3 P,boot_o_4 P,boot_o_5 P,boot_o_6 P,boot_o_7 P,boot_o_8 P,boot_o_9 P,boot_o_10 P,o0,o1,o2,o3]⟩,lf0⟩
def T0(P:Params):BT:=(N (boot_o_0 P) (N (boot_o_1 P) (N (boot_o_3 P) (L (boot_o_7 P)) (L o0)) (N (boot_o_5 P) (L (boot_o_9 P)) (L o2))) (N (boot_o_2 P) (N (boot_o_4 P) (L (boot_o_8 P)) (L o1)) (N (boot_o_6 P) (L (boot_o_10 P)) (L o3))))
theorem pre'(w:World):(λos=>PySem.W.Fast.tw15667345088766844465 PySem.W.Fast.tw14364793385576792824 p w m0 ann (nat_lit 12) (⟨boot_heap w.params,⟨[]⟩,boot_drawn,boot_toks,os⟩:Shared) (W.topStub p))=λos=>some ((⟨Ha w.params,⟨[]⟩,dr1,nat_lit 187,os⟩:Shared),Thread.mk (PySem.W.Fast.tw11892475500146522536 PySem.W.Fast.tw14364793385576792824 cE) cE ⟨0,0,0,0⟩ B):=by kernel_rfl
theorem pre(w:World)(os:OsState):topGo treeTable p w m0 ann (nat_lit 12) (⟨boot_heap w.params,⟨[]⟩,boot_drawn,boot_toks,os⟩:Shared) (topStub p)=some ((⟨Ha w.params,⟨[]⟩,dr1,nat_lit 187,os⟩:Shared),Thread.mk (denote treeTable cE) cE ⟨0,0,0,0⟩ B):=by
  rw [PySem.W.Fast.te15667345088766844465,cU,PySem.W.Fast.te11892475500146522536];exact congrFun (pre' w) os
theorem blk'(w:World):(λos=>PySem.W.Fast.tw14374325043358763698 PySem.W.Fast.tw14364793385576792824 p w m0 ann (nat_lit 1) (nat_lit 1) (⟨Ha w.params,⟨[]⟩,dr1,nat_lit 187,os⟩:Shared) (W.blockOf b env cE ⟨0,0,0,0⟩ B))=λos=>some (Flow.next,SharedT.abs (⟨T0 w.params,nat_lit 15,lf0,⟨[]⟩,dr1,nat_lit 187,os⟩:SharedT),cE,⟨0,0,0,0⟩):=by kernel_rfl
theorem blk(w:World)(os:OsState):segRun treeTable p w m0 ann (nat_lit 1) (nat_lit 1) (⟨Ha w.params,⟨[]⟩,dr1,nat_lit 187,os⟩:Shared) (blockOf b env cE ⟨0,0,0,0⟩ B)=some (Flow.next,SharedT.abs (⟨T0 w.params,nat_lit 15,lf0,⟨[]⟩,dr1,nat_lit 187,os⟩:SharedT),cE,⟨0,0,0,0⟩):=by
  rw [PySem.W.Fast.te14374325043358763698,cU];exact congrFun (blk' w) os
def nm:Stmt->Str | .FunctionDef (name:=n) ..=>n | _=>⟨#[]⟩
def ln:Stmt->Nat | .FunctionDef _ _ _ _ _ _ _ _ _ q=>q.line | _=>0
def vr(s:Stmt):List Str:=((L2.defScope s).names.filter λx=>match x.2 with | .local=>true | _=>false).map (·.1)
def sT:Tok->List Str->List Value
  | _,[]=>[]
  | n,x::r=>.str x n::sT (n+1) r
def tS(n:Tok)(l:List Str):Obj:=tu ⟨sT n l⟩
def cD(x y:Str)(s:Stmt)(e t i:Nat)(A B C:Value):Obj:=co #[.str x t,.str y (t+1),cp (t+2),.int (ln s) 0,.int (L2.defArgs s).args.length 0,z0,z0,.int 3 0,.ref e,.bool true,.int 181 0,.ref (e+1),.none,A,B,C,.int i 0,.int (ln s) 0,cp (i+1)]
def fP(x y:Str)(s:Stmt)(e t:Nat)(d m:Value):List Obj:=[o0,o1,tS (t+3) (vr s),o0,f0 x y s,cD x y s e t (t+3+(vr s).length) (R (e+2)) (R (e+3)) (R (e+4)),fO x y s d m (e+5)]
def fQ(x y:Str)(s:Stmt)(e t:Nat)(d m:Value):List Obj:=[o0,o1,f0 x y s,cD x y s e t (t+3) .none .none (R (e+2)),fO x y s d m (e+3)]
structure Op where
  e:Addr
  ks:List Nat
  os:Params->List Obj
  d:List (Str×Tok×Value)
  l:List Value
def ll(l:Int)(c:Addr):List Value:=[.int l 0,z0,.ref c]
def F(i e t:Nat)(m:Value):Op:=⟨e,[0,2,3,5,6],λ_=>fP (nm (top i)) (nm (top i)) (top i) e t .none m,[(nm (top i),t+5+(vr (top i)).length,.ref (e+6))],ll (ln (top i)) (e+5)⟩
def Q(i e t:Nat)(m:Value):Op:=⟨e,[0,3,4],λ_=>fQ (nm (top i)) (nm (top i)) (top i) e t .none m,[(nm (top i),t+5,.ref (e+4))],ll (ln (top i)) (e+3)⟩
def Dv(i e t:Nat)(m:Value)(v:List Value):Op:=⟨e - 1,[0,1,3,4,6,7],λ_=>tu ⟨v⟩::fP (nm (top i)) (nm (top i)) (top i) e t (.ref (e - 1)) m,[(nm (top i),t+5+(vr (top i)).length,.ref (e+6))],ll (ln (top i)) (e+5)⟩
def bm (x:String) (v:Value):Obj:=⟨.type "builtin_function_or_method",none,.fields #[.builtin x,v],#[]⟩
def di (l:List DictEntry) (n:Nat):Obj:=⟨.type "dict",none,.dict ⟨l⟩ n,#[]⟩
def me:Value:=.str "boardglue.errors" 194
def Kl (x:Str) (b t:Nat) (l:Int):Op:=⟨b,[0,7,8,9],λP=>[tu #[.ref 31],bm "type.__prepare__" (.type "type"),di [en P "__module__" (t+7) me,en P "__qualname__" (t+9) (.str x (t+8)),en P "__firstlineno__" (t+11) (.int l (t+10)),en P "__static_attributes__" (t+12) (.ref (b+7))] 4,o0,o1,co #[.str x (t+2),.str x (t+3),cp (t+4),.int l 0,z0,z0,z0,z0,.ref (b+3),.bool false,.int 181 0,.ref (b+4),.none,.none,.none,.none,.int (t+5:Nat) 0,.int l 0,cp (t+6)],⟨.type "frame",none,.plain,#[some (.ref (b+5)),some (.ref 3),some (.ref (b+2)),none,some me,none,some (.ref 0)]⟩,o0,di [en P "__module__" (t+7) me,en P "__firstlineno__" (t+11) (.int l (t+10)),en P "__static_attributes__" (t+12) (.ref (b+7)),en P "__doc__" (t+13) .none] 2,⟨.type "type",none,.cls ⟨x,[.ref 31],[.ref (b+9),.ref 31,.type "ValueError",.type "Exception",.type "BaseException",.type "object"],b+8,x,true,[],[],false,none,false⟩,#[some (.ref b),none,some (.str x t),some (.str x (t+8)),some (.builtin "ValueError.__new__"),some (.bool true)]⟩,⟨.type "super",none,.fields #[.ref (b+9),.ref (b+9),.ref (b+9)],#[]⟩,bm "object.__init_subclass__" (.ref (b+9))],[(x,t+15,.ref (b+9))],ll l (b+5)⟩
def ops:List Op:=[F 0 15 187 m0m,⟨22,[0,7,8,9,10],λP=>[tu #[(.type "ValueError")],⟨(.type "builtin_function_or_method"),none,(.fields #[(.builtin "type.__prepare__"),(.type "type")]),#[]⟩,⟨(.type "dict"),none,(.dict #[en P "__module__" 203 (.str "boardglue.errors" 194),en P "__qualname__" 205 (.str "YardError" 204),en P "__firstlineno__" 207 (.int (5) 206),en P "__static_attributes__" 208 (.ref 29)] 4),#[]⟩,o0,o1,cO "YardError" 198 "YardError" 199 200 5 0 0 0 0 (R 25) false 181 (R 26) .none .none .none .none 201 5 202,⟨(.type "frame"),none,.plain,#[(some (.ref 27)),(some (.ref 3)),(some (.ref 24)),none,(some (.str "boardglue.errors" 194)),none,(some (.ref 0))]⟩,o0,⟨(.type "dict"),none,(.dict #[en P "__module__" 203 (.str "boardglue.errors" 194),en P "__firstlineno__" 207 (.int (5) 206),en P "__static_attributes__" 208 (.ref 29),en P "__weakref__" 210 (.ref 32),en P "__doc__" 211 .none] 3),#[]⟩,⟨(.type "type"),none,(.cls ⟨"YardError",[(.type "ValueError")],[(.ref 31),(.type "ValueError"),(.type "Exception"),(.type "BaseException"),(.type "object")],30,"YardError",true,[],[(.ref 44),(.ref 56),(.ref 68),(.ref 80),(.ref 92)],false,none,false⟩),#[(some (.ref 22)),none,(some (.str "YardError" 196)),(some (.str "YardError" 204)),(some (.builtin "ValueError.__new__")),(some (.bool true))]⟩,⟨(.type "getset_descriptor"),none,(.fields #[(.str "__weakref__" 209),(.ref 31),(.builtin "ExceptionGroup.__weakref__"),.none]),#[]⟩,⟨(.type "super"),none,(.fields #[(.ref 31),(.ref 31),(.ref 31)]),#[]⟩,⟨(.type "builtin_function_or_method"),none,(.fields #[(.builtin "object.__init_subclass__"),(.ref 31)]),#[]⟩],[("YardError",213,.ref 31)],ll 5 27⟩,Kl "NoLength" 35 214 7,Kl "NoDeed" 47 230 9,Kl "NoName" 59 246 11,Kl "Grain" 71 262 13,Kl "Unfit" 83 278 15,⟨95,[0],λ_=>[tu #[(.int (0) 296),(.int (0) 297),(.int (1) 298)]],[("NOUGHT",299,.ref 95)],[]⟩,⟨0,[],λ_=>[],[("GREAT_BITS",301,(.int (8192) 300))],[]⟩,⟨0,[],λ_=>[],[("HEAD_BITS",303,(.int (64) 302))],[]⟩,F 12 96 304 m1m,F 13 103 311 m1m,F 14 110 321 m1m,F 15 117 331 m1m,F 16 124 344 m1m,Dv 17 132 354 m1m [(.int (0) 352),(.int (1) 353)],Dv 18 140 365 m1m [(.int (1) 364)],F 19 147 374 m1m,F 20 154 381 m1m,F 21 161 390 m1m,F 22 168 404 m1m,F 23 175 412 m1m,F 24 182 421 m1m,F 25 189 430 m1m,F 27 196 441 m2m,F 28 203 449 m2m,F 29 210 459 m2m,F 30 217 467 m2m,F 31 224 479 m2m,Q 32 231 488 m2m,F 34 236 496 m3m,F 35 243 505 m3m,F 36 250 519 m3m,F 37 257 536 m3m,Q 39 264 550 m4m,⟨269,[0],λ_=>[tS 558 ["across","along"]],[("CUTS",560,.ref 269)],[]⟩,⟨270,[0],λ_=>[tS 561 ["beside","atop"]],[("GLUINGS",563,.ref 270)],[]⟩,⟨271,[0],λ_=>[tS 564 ["stack","spread"]],[("SHIFTS",566,.ref 271)],[]⟩,⟨0,[],λ_=>[],[("TURN",568,(.str "turn" 567))],[]⟩,F 45 272 569 m5m,F 46 279 576 m5m,F 47 286 583 m5m,F 48 293 590 m5m,F 49 300 597 m5m,F 50 307 606 m5m,F 51 314 614 m5m,⟨321,[7,8,11,12,13,16,17,18,20,21,23,24,25,28,29,30,32,33,35,36,37,40,41,42,45,46,47,49,50,52,53,54,55,56,57,58],λP=>[o0,⟨(.type "builtin_function_or_method"),none,(.fields #[(.builtin "type.__prepare__"),(.type "type")]),#[]⟩,⟨(.type "dict"),none,(.dict #[en P "__module__" 631 (.str "boardglue.yard" 556),en P "__qualname__" 633 (.str "Yard" 632),en P "__firstlineno__" 635 (.int (204) 634),en P "__init__" 641 (.ref 333),en P "do" 647 (.ref 338),en P "check_names" 656 (.ref 345),en P "put_by" 662 (.ref 350),en P "board_ever" 670 (.ref 357),en P "boards" 676 (.ref 362),en P "heap" 682 (.ref 367),en P "log" 689 (.ref 374),en P "__static_attributes__" 695 (.ref 375)] 12),#[]⟩,o0,⟨.none,none,(.fields #[(.int (206) 0),(.int (4) 0),(.ref 332),(.int (213) 0),(.int (4) 0),(.ref 337),(.int (228) 0),(.int (4) 0),(.ref 344),(.int (235) 0),(.int (4) 0),(.ref 349),(.int (251) 0),(.int (4) 0),(.ref 356),(.int (254) 0),(.int (4) 0),(.ref 361),(.int (257) 0),(.int (4) 0),(.ref 366),(.int (260) 0),(.int (4) 0),(.ref 373)]),#[]⟩,cO "Yard" 626 "Yard" 627 628 204 0 0 0 0 (R 324) false 181 (R 325) .none .none .none .none 629 204 630,⟨(.type "frame"),none,.plain,#[(some (.ref 326)),(some (.ref 3)),(some (.ref 323)),none,(some (.str "boardglue.yard" 556)),none,(some (.ref 0))]⟩]++[tu #[(.bool false)]]++fQ "__init__" "Yard.__init__" (sub (top 52) 0) 329 636 (.ref 328) m5m++fQ "do" "Yard.do" (sub (top 52) 1) 334 642 .none m5m++fP "check_names" "Yard.check_names" (sub (top 52) 2) 339 648 .none m5m++fQ "put_by" "Yard.put_by" (sub (top 52) 3) 346 657 .none m5m++fP "board_ever" "Yard.board_ever" (sub (top 52) 4) 351 663 .none m5m++fQ "boards" "Yard.boards" (sub (top 52) 5) 358 671 .none m5m++fQ "heap" "Yard.heap" (sub (top 52) 6) 363 677 .none m5m++fP "log" "Yard.log" (sub (top 52) 7) 368 683 .none m5m++[tS 690 ["done","known","lying","root","turning"],⟨(.type "dict"),none,(.dict #[en P "__module__" 631 (.str "boardglue.yard" 556),en P "__firstlineno__" 635 (.int (204) 634),en P "__init__" 641 (.ref 333),en P "do" 647 (.ref 338),en P "check_names" 656 (.ref 345),en P "put_by" 662 (.ref 350),en P "board_ever" 670 (.ref 357),en P "boards" 676 (.ref 362),en P "heap" 682 (.ref 367),en P "log" 689 (.ref 374),en P "__static_attributes__" 695 (.ref 375),en P "__dict__" 697 (.ref 378),en P "__weakref__" 699 (.ref 379),en P "__doc__" 700 .none] 4),#[]⟩,⟨(.type "type"),none,(.cls ⟨"Yard",[(.type "object")],[(.ref 377),(.type "object")],376,"Yard",true,[],[],false,none,false⟩),#[none,none,(some (.str "Yard" 624)),(some (.str "Yard" 632)),(some (.builtin "object.__new__")),(some (.bool true))]⟩,⟨(.type "getset_descriptor"),none,(.fields #[(.str "__dict__" 696),(.ref 377),(.builtin "function.__dict__"),(.builtin "function.__dict__#set")]),#[]⟩,⟨(.type "getset_descriptor"),none,(.fields #[(.str "__weakref__" 698),(.ref 377),(.builtin "ExceptionGroup.__weakref__"),.none]),#[]⟩,⟨(.type "super"),none,(.fields #[(.ref 377),(.ref 377),(.ref 377)]),#[]⟩,⟨(.type "builtin_function_or_method"),none,(.fields #[(.builtin "object.__init_subclass__"),(.ref 377)]),#[]⟩],[("Yard",702,.ref 377)],ll 204 326⟩,F 54 382 705 m6m,Dv 55 390 717 m6m [(.bool false)],F 56 397 727 m6m,Q 57 404 737 m6m,Q 58 409 743 m6m,Q 59 414 749 m6m,F 60 419 755 m6m,Q 61 426 763 m6m,⟨431,[0,1,2,3,4,5,6],λ_=>[tu #[(.int (0) 771),(.int (1) 772)],tu #[(.int (0) 773),(.int (1) 774)],tu #[(.ref 431),(.ref 432)],tu #[(.int (0) 775),(.int (1) 776)],tu #[(.int (0) 777),(.int (1) 778)],tu #[(.ref 434),(.ref 435)],tu #[(.ref 433),(.ref 436)]],[("EMPTY",779,.ref 437)],[]⟩,F 64 438 780 m7m,F 65 445 791 m7m,F 66 452 801 m7m,F 67 459 809 m7m,F 68 466 818 m7m,F 69 473 827 m7m,F 70 480 835 m7m,F 72 487 846 m8m,Q 73 494 856 m8m,F 75 499 864 m9m,Q 76 506 871 m9m,F 77 511 877 m9m,F 78 518 888 m9m,F 79 525 898 m9m,F 81 532 911 m10m,F 82 539 920 m10m,F 83 546 931 m10m,F 84 553 941 m10m,Q 85 560 950 m10m,F 86 565 956 m10m,F 87 572 969 m10m,F 88 579 977 m10m,F 89 586 989 m10m,F 90 593 998 m10m,F 91 600 1007 m10m,F 92 607 1016 m10m,Q 93 614 1034 m10m,F 94 619 1040 m10m,F 95 626 1055 m10m]
def o4 (P:Params):Obj:=⟨.type "dict",none,.dict ⟨[en P "__name__" 165 (.str "law_boardglue_k64_whole_cut_and_made_few" 909),en P "__doc__" 166 .none,en P "__package__" 167 .none,en P "__loader__" 168 (.builtin "__main__.__loader__#opaque"),en P "__spec__" 169 .none,en P "__annotations__" 170 (.ref 6),en P "__builtins__" 171 (.ref 4),en P "__file__" 173 (cp 172),en P "__cached__" 174 .none]++(ops.flatMap (·.d)).map λx=>⟨PyData.keyHash P x.1,.str x.1 x.2.1,x.2.2⟩⟩ 94,#[]⟩
def ob(P:Params):List Obj:=[(boot_o_0 P),(boot_o_1 P),(boot_o_2 P),o4 P,(boot_o_4 P),(boot_o_5 P),(boot_o_6 P),(boot_o_7 P),(boot_o_8 P),(boot_o_9 P),(boot_o_10 P),(o0),⟨.none,none,.fields ⟨ops.flatMap (·.l)⟩,#[]⟩,(o2),(o3)]++ops.flatMap (·.os P)
noncomputable def ev (l:List Obj):Bool->List Obj:=List.rec (λ_=>[]) (λx _ h b=>bif b then x::h false else h true) l
noncomputable def tr (n:Nat):List Obj->BT:=Nat.rec (λ_=>.nil) (λ_ h l=>match l with | []=>.nil | x::r=>.node x (h (ev r true)) (h (ev r false))) n
def T1(P:Params):BT:=tr 12 (ob P)
theorem pc0'(w:World):(λos=>PySem.W.Fast.tw10110043849684766642 PySem.W.Fast.tw14364793385576792824 p w m0 ann (nat_lit 1) (nat_lit 4064) (⟨T0 w.params,nat_lit 15,lf0,⟨[]⟩,dr1,nat_lit 187,os⟩:SharedT) (W.piecesOf ((b.drop 0).take 96) env cE ⟨0,0,0,0⟩ B))=λos=>some (Flow.next,(⟨T1 w.params,nat_lit 633,lf0,⟨[]⟩,dr1,nat_lit 1067,os⟩:SharedT),cE,⟨511,0,525,15⟩):=by kernel_rfl
theorem pc0(w:World)(os:OsState):segRun treeTable p w m0 ann (nat_lit 1) (nat_lit 4064) (SharedT.abs (⟨T0 w.params,nat_lit 15,lf0,⟨[]⟩,dr1,nat_lit 187,os⟩:SharedT)) (piecesOf ((b.drop 0).take 96) env cE ⟨0,0,0,0⟩ B)=some (Flow.next,SharedT.abs (⟨T1 w.params,nat_lit 633,lf0,⟨[]⟩,dr1,nat_lit 1067,os⟩:SharedT),cE,⟨511,0,525,15⟩):=by
  refine segRun_of ?_;rw [PySem.W.Fast.te10110043849684766642,cU];exact congrFun (pc0' w) os
def H1(P:Params):Heap:=⟨⟨ob P⟩,lf0⟩
theorem fin'(w:World):(λos=>PySem.W.Fast.tw14082659384304107361 PySem.W.Fast.tw14364793385576792824 p w m0 ann (nat_lit 2) (SharedT.abs (⟨T1 w.params,nat_lit 633,lf0,⟨[]⟩,dr1,nat_lit 1067,os⟩:SharedT)) (Thread.mk (W.doneF Flow.next) cE ⟨511,0,525,15⟩ B))=λos=>some (⟨H1 w.params,⟨[]⟩,dr1,nat_lit 1067,os⟩:Shared):=by kernel_rfl
theorem fin(w:World)(os:OsState):topRun treeTable p w m0 ann (nat_lit 2) (SharedT.abs (⟨T1 w.params,nat_lit 633,lf0,⟨[]⟩,dr1,nat_lit 1067,os⟩:SharedT)) (Thread.mk (doneF Flow.next) cE ⟨511,0,525,15⟩ B)=some (⟨H1 w.params,⟨[]⟩,dr1,nat_lit 1067,os⟩:Shared):=by
  rw [PySem.W.Fast.te14082659384304107361,cU];exact congrFun (fin' w) os
def as:List Addr:=[2,3]++ops.flatMap λx=>x.ks.map (x.e+·)
def K(P:Params):Frag:=[(2,boot_o_2 P),(3,o4 P)]++ops.flatMap λx=>x.ks.map λk=>(x.e+k,(x.os P).getD k o0)
theorem asK(P:Params):as=(K P).map (·.1):=by kernel_rfl
theorem at_{w:World}{n N:Nat}{s s' r:Shared}{i k:Nat}{pos p':Pos}(h:segRun treeTable p w m0 ann 1 n s (piecesOf ((b.drop i).take k) env cE pos B)=some (.next,s',cE,p'))(g:topRun treeTable p w m0 ann N s' (restOf (b.drop (i+k)) env cE p' B)=some r):topRun treeTable p w m0 ann (n+N) s (restOf (b.drop i) env cE pos B)=some r:=by
  have z:=piece_app h g
  rwa [<-List.drop_drop,dM] at z
theorem bend:b.drop 96=[]:=by kernel_rfl
theorem run(w:World)(os:OsState):topRun treeTable p w m0 ann (12+(1+(4064+2))) (⟨boot_heap w.params,⟨[]⟩,boot_drawn,boot_toks,os⟩:Shared) (topStub p)=some (⟨H1 w.params,⟨[]⟩,dr1,nat_lit 1067,os⟩:Shared):=go_top (pre w os) (piece_block (blk w os) (show topRun treeTable p w m0 ann _ _ (restOf (b.drop 0) env cE _ B)=_ from (at_ (i:=0) (k:=96) (pc0 w os) (by rw [show b.drop 96=[] from bend]; exact piece_nil (fin w os)))))
theorem size (w:World):((boot_heap w.params).isNs mainGlobals && (⟨[]⟩:Array GenState).size==0,(boot_heap w.params).objs.size,(boot_heap w.params).nsMap mainGlobals "__annotations__")=(true,m0,ann):=by kernel_rfl
def qv:Program:=view p [95]
def loose:List Str:=((ops.flatMap (·.d)).map (·.1)).dropLast
def Xt(s:Shared):Bool:=xlAt qv [] s && recOk [] s
def Yf(s:Shared):List (Option Obj):=as.map s.heap.get?
def Ya(w:World):List (Option Obj):=(K w.params).map λp=>some p.2
theorem LR(w:World):(λos:OsState=>(staticsOk (importedModules p.main.body) (boot_heap w.params) (H1 w.params) && namesBound p (H1 w.params) && gensDone (⟨H1 w.params,⟨[]⟩,dr1,nat_lit 1067,os⟩:Shared) && laidKept (boot_heap w.params) (H1 w.params)))=λ_=>true:=by kernel_rfl
theorem LH(w:World):(λos:OsState=>openSeen qv loose (importedModules p.main.body) Xt true (⟨H1 w.params,⟨[]⟩,dr1,nat_lit 1067,os⟩:Shared))=λ_=>openGood qv loose:=by kernel_rfl
theorem Li(w:World):(λos:OsState=>Yf (⟨H1 w.params,⟨[]⟩,dr1,nat_lit 1067,os⟩:Shared))=λ_=>Ya w:=by kernel_rfl
theorem left:LeftO p qv loose Xt Yf Ya 8252:=by
  refine LeftO.of_pieces (H₀:=boot_heap) (H₁:=H1) (gs₀:=⟨[]⟩) (gs₁:=⟨[]⟩) (d₀:=boot_drawn) (d₁:=dr1) (k₀:=boot_toks) (k₁:=nat_lit 1067) (m₀:=m0) (ann:=ann) (M:=(12+(1+(4064+2)))) (boot_open (by kernel_rfl) (by decide) (λs=>by kernel_rfl)) size run (by decide) (λw=>funext λos=>?_);exact looks_pair (congrFun (LR w) os) (looks_pair (congrFun (LH w) os) (congrFun (Li w) os))
end Hd
end
local macro_rules | `(tactic| omega)=>`(tactic| first | lia | omega +splitNatSub)
namespace L2
open PySem PySem.Spec PyProof.Rows
variable {κ:Type}[DecidableEq κ]
def valV(kvs:List (κ×V))(k:κ):Option V:=(kvs.find? λkv=>decide (kv.1=k)).map (·.2)
def putK(kvs:List (κ×V))(k:κ)(v:V):List (κ×V) :=
  if (kvs.any λkv=>decide (kv.1=k))=true then kvs.map (λkv=>if kv.1=k then (kv.1,v) else kv) else kvs++[(k,v)]
def Aw(kvs:List (κ×V))(k:κ):List (κ×V):=kvs.filter λkv=>decide (kv.1≠k)
theorem yb{p:κ×V}{r:List (κ×V)}{k:κ}(e:p.1=k):valV (p::r) k=some p.2:=by simp [valV,dN,e]
theorem zZ{p:κ×V}{r:List (κ×V)}{k:κ}(e:¬ p.1=k):valV (p::r) k=valV r k:=by simp [valV,dN,e]
theorem wc(k:κ):∀ kvs:List (κ×V),(kvs.any λkv=>decide (kv.1=k))=(valV kvs k).isSome
  | []=>rfl
  | p::r=>by
    rw [eJ];by_cases e:p.1=k
    . simp only [yb e,iH e,Bool.true_or,Option.isSome_some]
    . rw [zZ e,im e,Bool.false_or]; exact wc k r
theorem CK(k j:κ)(y:V):∀ kvs:List (κ×V),valV (kvs.map λkv=>if kv.1=k then (kv.1,y) else kv) j=(valV kvs j).map λx=>if j=k then y else x
  | []=>rfl
  | p::r=>by
    have ih:=CK k j y r;rw [aR];by_cases h:p.1=k
    . rw [io h];by_cases e:p.1=j
      . rw [yb (p:=(p.1,y)) e,yb e,eK,io (e.symm.trans h)]
      . rw [zZ (p:=(p.1,y)) e,zZ e,ih]
    . rw [ip h];by_cases e:p.1=j
      . rw [yb (p:=p) e,yb e,eK,ip (λz=>h (e.trans z))]
      . rw [zZ (p:=p) e,zZ e,ih]
theorem AU(k j:κ)(y:V):∀ kvs:List (κ×V),valV kvs k=none->valV (kvs++[(k,y)]) j=if j=k then some y else valV kvs j
  | [],_=>by
    by_cases e:k=j
    . rw [io e.symm]; exact yb (p:=(k,y)) e
    . rw [ip (λz=>e z.symm)]; exact zZ (p:=(k,y)) e
  | p::r,hn=>by
    rw [List.cons_append];have hk:¬ p.1=k:=λz=>by rw [yb z] at hn; cases hn
    rw [zZ hk] at hn;have ih:=AU k j y r hn;by_cases e:p.1=j
    . rw [yb e,yb e,ip (λz=>hk (e.trans z))]
    . rw [zZ e,zZ e,ih]
theorem wl(kvs:List (κ×V))(k j:κ)(y:V):valV (putK kvs k y) j=if j=k then some y else valV kvs j:=by
  unfold putK;by_cases a:(kvs.any λkv=>decide (kv.1=k))=true
  . rw [io a,CK];rw [wc] at a;by_cases e:j=k
    . obtain ⟨x,hx⟩:=gw.mp a;rw [io e,e,hx,eK,io rfl]
    . rw [ip e];cases valV kvs j with
      | none=>rfl
      | some x=>rw [eK,ip e]
  . rw [ip a];refine AU k j y kvs ?_;rw [wc] at a;cases q:valV kvs k with
    | none=>rfl
    | some x=>rw [q] at a; exact (a rfl).elim
theorem yJ(kvs:List (κ×V))(k:κ)(v:V):(putK kvs k v).length<=kvs.length+1:=by
  unfold putK;split
  . rw [aa]; omega
  . rw [ai,ax,aK]; omega
theorem CA{kvs:List (κ×V)}{k:κ}(v:V)(h:valV kvs k=none):putK kvs k v=kvs++[(k,v)]:=by
  unfold putK;rw [wc,h];exact ip (by decide)
variable {o:Option V}
theorem RelO.isSome_eq{u:Option Value}(r:RelO o u):o.isSome=u.isSome:=by
  cases o with
  | none=>cases u with
    | none=>rfl
    | some _=>exact (show False from r).elim
  | some _=>cases u with
    | none=>exact (show False from r).elim
    | some _=>rfl
theorem KV.val{kvs:List (κ×V)}{vs:List (κ×Value)}(r:KV kvs vs)(k:κ):RelO (valV kvs k) (valueAt vs k):=by
  unfold KV at r;induction r with
  | nil=>exact True.intro
  | @cons p q ps qs h t ih =>
    obtain ⟨h1,h2⟩:=h;by_cases e:p.1=k
    . have e':q.1=k:=h1.symm.trans e;have b:valueAt (q::qs) k=some q.2:=by simp [valueAt,dN,e']
      rw [yb e,b]; exact h2
    . have e':¬ q.1=k:=λz=>e (h1.trans z);have b:valueAt (q::qs) k=valueAt qs k:=by simp [valueAt,dN,e']
      rw [zZ e,b]; exact ih
theorem KV.any{kvs:List (κ×V)}{vs:List (κ×Value)}(r:KV kvs vs)(k:κ):(kvs.any λkv=>decide (kv.1=k))=vs.any λkv=>decide (kv.1=k):=by
  unfold KV at r;induction r with
  | nil=>rfl
  | cons h t ih=>rw [eJ,eJ,ih,h.1]
variable {y:V}
theorem KV.repl{kvs:List (κ×V)}{vs:List (κ×Value)}(r:KV kvs vs)(k:κ){u:Value}(ry:RelV y u) : KV (kvs.map λkv=>if kv.1=k then (kv.1,y) else kv) (vs.map λkv=>if kv.1=k then (kv.1,u) else kv):=by
  unfold KV at r ⊢;induction r with
  | nil=>exact .nil
  | @cons p q ps qs h t ih =>
    rw [aR,aR];refine .cons ?_ ih;obtain ⟨h1,h2⟩:=h;by_cases e:p.1=k
    . rw [io e,io (h1.symm.trans e)]; exact ⟨h1,ry⟩
    . rw [ip e,ip (λz=>e (h1.trans z))]; exact ⟨h1,h2⟩
theorem KV.put{kvs:List (κ×V)}{vs:List (κ×Value)}(r:KV kvs vs)(k:κ){u:Value}(ry:RelV y u):KV (putK kvs k y) (stored vs k u):=by
  unfold putK stored;rw [r.any k];by_cases e:(vs.any λkv=>decide (kv.1=k))=true
  . rw [io e,io e]; exact r.repl k ry
  . rw [ip e,ip e]; exact Paired.snoc r ⟨rfl,ry⟩
theorem KV.drop{kvs:List (κ×V)}{vs:List (κ×Value)}(r:KV kvs vs)(k:κ):KV (Aw kvs k) (without vs k):=by
  unfold KV at r ⊢;unfold Aw without;induction r with
  | nil=>exact .nil
  | @cons p q ps qs h t ih =>
    obtain ⟨h1,h2⟩:=h;rw [dw,dw];by_cases e:p.1=k
    . have a:¬ decide (p.1≠k)=true:=by simp [e]
      have b:¬ decide (q.1≠k)=true:=by simp [h1.symm.trans e]
      rw [ip a,ip b]; exact ih
    . have e':¬ q.1=k:=λz=>e (h1.trans z);have a:decide (p.1≠k)=true:=by simp [e]
      have b:decide (q.1≠k)=true:=by simp [e']
      rw [io a,io b]; exact .cons ⟨h1,h2⟩ ih
theorem KV.keys{kvs:List (κ×V)}{vs:List (κ×Value)}(r:KV kvs vs):kvs.map (·.1)=vs.map (·.1):=by
  unfold KV at r;induction r with
  | nil=>rfl
  | cons h t ih=>rw [aR,aR,ih,h.1]
theorem KV.length{kvs:List (κ×V)}{vs:List (κ×Value)}(r:KV kvs vs):kvs.length=vs.length:=Paired.length r
theorem FT(kvs:List (κ×V))(k:κ):(Aw kvs k).length<=kvs.length:=g5 _ _
theorem Dk{P:Program}{w:World}{k:Key}{u:Value}(r:RelV (kV k) u):(zT P w).is k u=true:=by
  cases k with
  | inl i=>obtain ⟨t,e⟩:=(show ∃ t,u=Value.int i t from r); subst e; exact Bf P w i t
  | inr x=>obtain ⟨t,e⟩:=(show ∃ t,u=Value.str x t from r); subst e; exact BP P w x t
theorem AM{P:Program}{w:World}:∀ {ks:List Key} {us:List Value},Vals (ks.map kV) us->ItemsAre (zT P w) ks us
  | [],_,r=>by rw [cJ] at r; cases r; exact .nil
  | k::ks,_,r=>by
    rw [aR] at r;cases r with
    | cons h t=>exact .cons (Dk h) (AM t)
abbrev KT(H:Hp):List (List Key×V)->List (List Key×Addr×Value)->Prop:=Paired λp q=>p.1=q.1/\H q.2.1=some (.tup (p.1.map kV))/\RelV p.2 q.2.2
variable {kvs:List (List Key×V)}
theorem KT.val{H:Hp}{xs:List (List Key×Addr×Value)}(r:KT H kvs xs)(k:List Key):RelO (valV kvs k) ((atKey xs k).map (·.2)):=by
  induction r with
  | nil=>exact True.intro
  | @cons p q ps qs h t ih =>
    obtain ⟨h1,_,h2⟩:=h;by_cases e:p.1=k
    . have e':q.1=k:=h1.symm.trans e;have b:atKey (q::qs) k=some q.2:=by simp [atKey,dN,e']
      rw [yb e,b]; exact h2
    . have e':¬ q.1=k:=λz=>e (h1.trans z);have b:atKey (q::qs) k=atKey qs k:=by simp [atKey,dN,e']
      rw [zZ e,b]; exact ih
theorem KT.repl{H:Hp}{xs:List (List Key×Addr×Value)}(r:KT H kvs xs)(k:List Key){u:Value}(ry:RelV y u) : KT H (kvs.map λkv=>if kv.1=k then (kv.1,y) else kv) (xs.map (putAt k u)):=by
  induction r with
  | nil=>exact .nil
  | @cons p q ps qs h t ih =>
    rw [aR,aR];refine .cons ?_ ih;obtain ⟨h1,h2,h3⟩:=h;unfold putAt;by_cases e:p.1=k
    . rw [io e,io (h1.symm.trans e)]; exact ⟨h1,h2,ry⟩
    . rw [ip e,ip (λz=>e (h1.trans z))]; exact ⟨h1,h2,h3⟩
theorem KT.put{H:Hp}{xs:List (List Key×Addr×Value)}(r:KT H kvs xs)(k:List Key){b:Addr}{u:Value}(hb:H b=some (.tup (k.map kV)))(ry:RelV y u) : KT H (putK kvs k y) (storedH xs k b u):=by
  have e:(kvs.any λkv=>decide (kv.1=k))=(atKey xs k).isSome:=by
    rw [wc,(r.val k).isSome_eq,Option.isSome_map]
  unfold putK storedH;rw [e];by_cases q:(atKey xs k).isSome=true
  . rw [io q,io q]; exact r.repl k ry
  . rw [ip q,ip q]; exact Paired.snoc r ⟨rfl,hb,ry⟩
variable {H':Hp}
theorem KT.keeps{H:Hp}{xs:List (List Key×Addr×Value)}(r:KT H kvs xs)(ht:∀ b ys,H b=some (.tup ys)->H' b=some (.tup ys)):KT H' kvs xs :=
  Paired.mapP r λ_ _ z=>⟨z.1,ht _ _ z.2.1,z.2.2⟩
variable {P:Program}{w:World}{H:Hp}{h:Heap}{a:Addr}
theorem Le{u:HO}(ok:HOk P w H h)(e:Rd H a u):ObjOk P w H h a u:=e.ok ok
theorem FC{kvs:List (Key×V)}(ok:HOk P w H h)(e:Rd H a (.dK kvs)):kvs.length<=sizeLine/\(a==sysModules)=false/\∃ vs,KV kvs vs/\h.DictOf (zT P w) a vs :=
  show ObjOk P w H h a (.dK kvs) from Le ok e
theorem Kb{kvs:List (Key×V)}(ok:HOk P w H h)(e:H a=some (.dK kvs)):kvs.length<=sizeLine/\(a==sysModules)=false/\∃ vs,KV kvs vs/\h.DictOf (zT P w) a vs:=FC ok (.inl e)
theorem CN{ks:List Key}(ok:HOk P w H h)(e:H a=some (.tup (ks.map kV))):(tupleKind (zT P w)).is h ks a:=by
  obtain ⟨_,its,r,o,h1,h2,n,h3⟩:=(show ObjOk P w H h a (.tup (ks.map kV)) from ok a _ e)
  exact ⟨o,its.toArray,n,h1,h2,h3,by simpa using AM r⟩
theorem DE(ok:HOk P w H h)(e:Rd H a (.dT kvs)):kvs.length<=sizeLine/\(a==sysModules)=false /\ ∃ xs,KT H kvs xs/\h.DictOfH (tupleKind (zT P w)) a xs:=by
  obtain ⟨z,y,xs,r,o,es,ep,h1,h2,h3,h4,h5⟩:=(show ObjOk P w H h a (.dT kvs) from Le ok e)
  refine ⟨z,y,xs,r,o,es,ep,h1,h2,h3,h4,λx hx=>?_,h5⟩;have all:∀ {l:List (List Key×V)} {m:List (List Key×Addr×Value)},KT H l m->∀ x∈m,(tupleKind (zT P w)).is h x.1 x.2.1:=by
    intro l m q;induction q with
    | nil=>intro x hx; exact nomatch hx
    | @cons p q ps qs hq t ih =>
      intro x hx;rcases a7.mp hx with e|hx
      . subst e;exact CN ok (by rw [<-hq.1]; exact hq.2.1)
      . exact ih x hx
  exact all r x hx
theorem My(ok:HOk P w H h)(e:H a=some (.dT kvs)):kvs.length<=sizeLine/\(a==sysModules)=false /\ ∃ xs,KT H kvs xs/\h.DictOfH (tupleKind (zT P w)) a xs:=DE ok (.inl e)
def DGet(H:Hp)(a:Addr)(y:V)(r:Option V):Prop :=
  (∃ kvs k,Rd H a (.dK kvs)/\y=kV k/\r=valV kvs k)\/∃ kvs k b,Rd H a (.dT kvs)/\y=.ref b/\H b=some (.tup (k.map kV))/\r=valV kvs k
def DPut(H:Hp)(a:Addr)(y v:V)(H':Hp):Prop :=
  (∃ kvs k,H a=some (.dK kvs)/\y=kV k/\kvs.length<sizeLine/\H'=upd H a (.dK (putK kvs k v))) \/
  ∃ kvs k b,H a=some (.dT kvs)/\y=.ref b/\H b=some (.tup (k.map kV))/\kvs.length<sizeLine/\H'=upd H a (.dT (putK kvs k v))
theorem DGet.k{H:Hp}{a:Addr}{kvs:List (Key×V)}{k:Key}(e:H a=some (.dK kvs)):DGet H a (kV k) (valV kvs k):=.inl ⟨kvs,k,.inl e,rfl,rfl⟩
theorem DPut.k{H:Hp}{a:Addr}{kvs:List (Key×V)}{k:Key}{v:V}(e:H a=some (.dK kvs))(hl:kvs.length<sizeLine):DPut H a (kV k) v (upd H a (.dK (putK kvs k v))):=.inl ⟨kvs,k,e,rfl,hl,rfl⟩
variable {h':Heap}
section
variable {X:Cx}{pins:List (Addr×Obj)}{σ:St}{s:Shared}{y v:V}{u r:Value}{o:Option V}{A:Around}{E:Value->Shared->Prop}
theorem Inv.big(I:Inv X pins σ H s):sysModules<s.heap.objs.size:=by
  have h:mainGlobals<s.heap.objs.size:=(I.mod.glob.keeps I.bk).lt;exact gc (by decide) h
theorem Fk{Q:Value->Shared->Prop}(hu:A.units+1<cLine)(I:Inv X pins σ H s)(g:DGet H a y (some v))(ry:RelV y u)(h:∀ w' s',Inv X pins σ H s'->RelV v w'->Q w' s') : wpAny (model X.prog X.w) A (getItem (.ref a) u) Q E s:=by
  rcases g with ⟨kvs,k,e,ey,l⟩|⟨kvs,k,b,e,ey,eb,l⟩
  . subst ey;obtain ⟨z,hd,vs,rel,dd⟩:=FC I.hok e;obtain ⟨w',hw,rw'⟩:=RelO.some_of (v:=v) (o:=valueAt vs k) (by rw [l]; exact rel.val k);exact wpAny_getItem_of (Dk ry) dd.mapOf hw (h w' _ (I.tok _) rw')
  . subst ey;cases (show u=Value.ref b from ry)
    obtain ⟨z,hd,xs,rel,dd⟩:=DE I.hok e;obtain ⟨w',hw,rw'⟩:=RelO.some_of (v:=v) (o:=(atKey xs k).map (·.2)) (by rw [l]; exact rel.val k);obtain ⟨p,hp,hp2⟩:=av.mp hw;refine wpAny_getItem_heap (iI hu) (CN I.hok eb) dd hp ?_;rw [hp2];exact h w' _ (I.tok _) rw'
theorem IR{Q:Value->Shared->Prop}(hu:A.units+1<cLine)(I:Inv X pins σ H s)(g:DGet H a y o)(ry:RelV y u)(h:∀ s',Inv X pins σ H s'->Q (.bool (!o.isSome)) s') : wpAny (model X.prog X.w) A (compareOp .NotIn u (.ref a)) Q E s:=by
  rcases g with ⟨kvs,k,e,ey,l⟩|⟨kvs,k,b,e,ey,eb,l⟩
  . subst ey;obtain ⟨z,hd,vs,rel,dd⟩:=FC I.hok e;refine wpAny_notIn_of (Dk ry) hd dd.mapOf ?_;rw [<-(rel.val k).isSome_eq,<-l];exact h _ (I.tok _)
  . subst ey;cases (show u=Value.ref b from ry)
    obtain ⟨z,hd,xs,rel,dd⟩:=DE I.hok e;refine wpAny_notIn_heap (iI hu) (CN I.hok eb) hd dd ?_;have q:=(rel.val k).isSome_eq;rw [Option.isSome_map] at q;rw [<-q,<-l];exact h _ (I.tok _)
theorem AY{t':Nat}{ob:HO}(I:Inv X pins σ H s)(mu:Mut (H a))(hs:Heap.SameBut a s.heap h')(he:∃ q,h'.get? a=some q)(new:ObjOk X.prog X.w (upd H a ob) h' a ob) : Inv X pins σ (upd H a ob) { s with heap:=h',toks:=t' } :=
  I.write (x:=a) (e:=a) mu (.inl rfl) (λb q hb z=>(hs.2 b hb).trans z) he new
theorem Ef{kvs:List (Key×V)}{vs:List (Key×Value)}(z:kvs.length<=sizeLine)(hd:(a==sysModules)=false)(rel:KV kvs vs)(dd:h'.DictOf (zT P w) a vs) : ObjOk P w H' h' a (.dK kvs):=⟨z,hd,vs,rel,dd⟩
theorem Ea{Q:Unit->Shared->Prop}(hu:A.units+1<cLine)(I:Inv X pins σ H s)(g:DPut H a y v H')(ry:RelV y u)(rv:RelV v r)(h:∀ s',Inv X pins σ H' s'->Q () s') : wpAny (model X.prog X.w) A (setItem (.ref a) u r) Q E s:=by
  rcases g with ⟨kvs,k,e,ey,l,eH⟩|⟨kvs,k,b,e,ey,eb,l,eH⟩
  . subst ey eH;obtain ⟨z,hd,vs,rel,dd⟩:=Kb I.hok e;have hz:vs.length<=sizeLine:=by rw [<-rel.length]; exact z
    have hl:(putK kvs k v).length<=sizeLine:=by have:=yJ kvs k v; omega
    refine wpAny_setItem_pairs (hsz:=hz) (Dk ry) dd λh' dd' hs=>h _ ?_;have he:∃ q,h'.get? a=some q:=let ⟨q,_,_,hq,_⟩:=dd'; ⟨q,hq⟩
    exact AY I (by rw [e]; exact True.intro) hs he (Ef hl hd (rel.put k rv) dd')
  . subst ey eH;cases (show u=Value.ref b from ry)
    obtain ⟨z,hd,xs,rel,dd⟩:=My I.hok e;have hz:xs.length<=sizeLine:=by rw [<-Paired.length rel]; exact z
    have hl:(putK kvs k v).length<=sizeLine:=by have:=yJ kvs k v; omega
    refine wpAny_setItem_heap (hsz:=hz) (iI hu) (CN I.hok eb) dd λh' dd' hs=>h _ ?_;obtain ⟨q,es,ep,hq,h2,h3,h4,_,h5⟩:=dd';refine AY I (by rw [e]; exact True.intro) hs ⟨q,hq⟩ ⟨hl,hd,_,(rel.put k eb rv).keeps λc ys ec=>?_,q,es,ep,hq,h2,h3,h4,h5⟩;rw [zn (zX ec e (λz=>nomatch z))];exact ec
end
section
variable {X:Cx}{pins:List (Addr×Obj)}{σ:St}{s:Shared}{kvs:List (Key×V)}{k:Key}{u:Value}{A:Around}{E:Value->Shared->Prop}
theorem Mb{v:V}{more:List Value}{Q:Value->Shared->Prop}(I:Inv X pins σ H s)(e:H a=some (.dK kvs))(ry:RelV (kV k) u)(l:valV kvs k=some v)(hm:more=[]\/∃ x,more=[x])(h:∀ w' s',Inv X pins σ (upd H a (.dK (Aw kvs k))) s'->RelV v w'->Q w' s'):wpAny (model X.prog X.w) A (call (.builtin "dict.pop") (.ref a::u::more)) Q E s:=by
  obtain ⟨z,hd,vs,rel,dd⟩:=Kb I.hok e;obtain ⟨w',hw,rw'⟩:=RelO.some_of (v:=v) (o:=valueAt vs k) (by rw [<-l]; exact rel.val k);have hp:(keyPart u).isSome=true:=by
    cases k with
    | inl i=>obtain ⟨t,q⟩:=(show ∃ t,u=Value.int i t from ry); subst q; rfl
    | inr x=>obtain ⟨t,q⟩:=(show ∃ t,u=Value.str x t from ry); subst q; rfl
  have ha:argsOk "dict.pop" ⟨.ref a::u::more,[]⟩:=by
    rcases hm with q|⟨x,q⟩
    . subst q; exact PySem.F.args_dict_pop_2 _ _
    . subst q; exact PySem.F.args_dict_pop_3 _ _ _
  refine call_meetsIn g6 dd.typeIs PySem.F.entry_dict_pop ha (meets_dict_pop_there (zT X.prog X.w) a (Dk ry) more hm hp)
    ⟨vs,w',dd,by rw [<-rel.length]; exact z,hw,λh' dd' hs=>h w' _ ?_ rw'⟩
  have he:∃ q,h'.get? a=some q:=let ⟨q,_,_,hq,_⟩:=dd'; ⟨q,hq⟩
  exact AY I (by rw [e]; exact True.intro) hs he (Ef (ce (FT kvs k) z) hd (rel.drop k) dd')
end
def NoSl(i:Expr):Prop:=∀ ov iv,subscripted i false ov iv=operate [ov,iv] (getItem ov iv)
theorem IA{prog:Program}{A:Around}{E:Value->Shared->Prop}{s:Shared}{env:Env}{value slice:Expr}{pos:Pos}{T id:String}{Q:Value->Shared->Prop}(hl:typeLookup (.type T) "__getitem__"=pure (some (.builtin id)))(hs:NoSl slice)(h:wpAny (model prog w) A (eval value env) (λo s₁=>wpAny (model prog w) A (eval slice env) (λi s₂=>s₂.TypeIs o T/\wpAny (model prog w) A (getItem o i) Q E s₂) E s₁) E s) : wpAny (model prog w) A (eval (.Subscript value slice pos) env) Q E s:=by
  refine Subscript_ (iq h (λo s₁ h₁=>iq h₁ (λi s₂ h₂=>?_) λ_ _ x=>x) λ_ _ x=>x);obtain ⟨hT,h₂⟩:=h₂;unfold subscriptTail;refine ix ?_;rw [getitemInPython_of_ne hT.not_modules];refine ix (wpAny_specialOf hT hl ?_);have fin:wpAny (model prog w) A (subscripted slice false o i) (λr s₃=>wpAny (model prog w) A (letTemporaryGo value o r >>= λ_=>pure r) Q E s₃) E s₂:=by
    rw [hs o i];exact wpAny_operating (iq h₂ (λr s₃ h₃=>ix (wpAny_letTemporaryGo (iA h₃))) λ_ _ x=>x)
  first
    | exact iA (ix fin)
    | exact ix (iA (ix fin))
    | exact ix fin
variable {pins:List (Addr×Obj)}
theorem BM{X:Cx}{σ:St}{s:Shared}(I:Inv X pins σ H s)(g:DGet H a y o):s.TypeIs (.ref a) "dict":=by
  rcases g with ⟨kvs,k,e,_,_⟩|⟨kvs,k,b,e,_,_,_⟩
  . obtain ⟨_,_,vs,_,dd⟩:=FC I.hok e;exact dd.typeIs
  . obtain ⟨_,_,xs,_,dd⟩:=DE I.hok e;exact dd.typeIs
def Kd(td ty:TE):TE:=λσ H Q=>td σ H λx H1=>ty σ H1 λy H2=>∃ a v,x=.ref a/\DGet H2 a y (some v)/\Q v H2
def EO(ty td:TE):TE:=λσ H Q=>ty σ H λy H1=>td σ H1 λx H2=>∃ a o,x=.ref a/\DGet H2 a y o/\Q (.bl (!o.isSome)) H2
def Ko(td ty tv:TE):TS:=λD σ H=>tv σ H λv H1=>td σ H1 λx H2=>ty σ H2 λy H3=>∃ a H4,x=.ref a/\DPut H3 a y v H4/\D.nx σ H4
section
variable {X:Cx}{o i e value:Expr}{pos pos' tpos:Pos}{td ty tv:TE}
theorem Bw(hu:X.A.units+1<cLine)(ho:PE X o td)(hi:PE X i ty)(hs:NoSl i):PE X (.Subscript o i pos) (Kd td ty):=by
  intro pins s σ H Q I h;refine IA PySem.F.slot_dict_getitem.lookup hs (thn (ho pins s σ H _ I h) λu s1 ⟨x,H1,I1,rx,q1⟩=>thn (hi pins s1 σ H1 _ I1 q1) λiv s2 ⟨y,H2,I2,ry,a,v,ex,g,q2⟩=>?_);subst ex;obtain rfl:u=Value.ref a:=rx;exact ⟨BM I2 g,Fk hu I2 g ry λw' s3 I3 rw'=>⟨v,H2,I3,rw',q2⟩⟩
theorem EQ(hu:X.A.units+1<cLine)(hi:PE X i ty)(ho:PE X o td):PC X .NotIn i o (EO ty td):=by
  intro pins s σ H Q I h;refine thn (hi pins s σ H _ I h) λiv s1 ⟨y,H1,I1,ry,q1⟩=>thn (ho pins s1 σ H1 _ I1 q1) λu s2 ⟨x,H2,I2,rx,a,ov,ex,g,q2⟩=>?_;subst ex;obtain rfl:u=Value.ref a:=rx;exact IR hu I2 g ry λs3 I3=>⟨.bl (!ov.isSome),H2,I3,rfl,q2⟩
theorem vO(hu:X.A.units+1<cLine)(ho:PE X o td)(hi:PE X i ty)(hv:PE X value tv)(hs:swapsWith value (some (.Subscript o i pos')) pos.line X.env=pure false) : PS X (.Assign [.Subscript o i pos'] value pos) (Ko td ty tv):=by
  intro pins s σ H D I h;refine wpAny_Assign_Subscript (thn (hv pins s σ H _ I h) λr s1 ⟨v,H1,I1,rv,q1⟩=>thn (ho pins s1 σ H1 _ I1 q1) λu s2 ⟨x,H2,I2,rx,q2⟩=>thn (hi pins s2 σ H2 _ I2 q2) λiv s3 ⟨y,H3,I3,ry,a,H4,ex,g,q3⟩=>?_) hs;subst ex;obtain rfl:u=Value.ref a:=rx;exact Ea hu I3 g ry rv λs4 I4=>⟨σ,H4,I4,q3⟩
end
variable {X:Cx}{pos:Pos}
structure M1(X:Cx)(o:Expr)(m:Str)(apos:Pos)(e:Expr)(cpos:Pos):Prop where
  base:attributeBase o m X.env (eval o X.env)=eval o X.env
  few:((backTo cpos (starEach [e] X.env)).all (λx=>!x.1) && (backToKw cpos (keywordEach [] X.env)).all (λx=>x.1.isSome)
    && decide (([e]:List Expr).length+([]:List Keyword).length+(if ([]:List Keyword).isEmpty then 0 else 1)<30))=true
  line:(apos.endLine==cpos.line)=true
  trees:backTo cpos (starEach [e] X.env)=[(false,eval e X.env)]
def IsD(H:Hp)(a:Addr):Prop:=(∃ kvs,Rd H a (.dK kvs))\/∃ kvs,Rd H a (.dT kvs)
theorem KD{σ:St}{s:Shared}(I:Inv X pins σ H s)(d:IsD H a) : s.TypeIs (.ref a) "dict"/\(∀ b,Value.ref a=.ref b->∃ ob,s.heap.get? b=some ob/\ob.dict=none)/\(a==sysModules)=false:=by
  rcases d with ⟨kvs,e⟩|⟨kvs,e⟩
  . obtain ⟨_,hd,vs,_,dd⟩:=FC I.hok e;refine ⟨dd.typeIs,λb q=>?_,hd⟩;cases q
    obtain ⟨ob,_,_,h1,h2,_⟩:=dd;exact ⟨ob,h1,h2.2.1⟩
  . obtain ⟨_,hd,xs,_,dd⟩:=DE I.hok e;refine ⟨dd.typeIs,λb q=>?_,hd⟩;cases q
    obtain ⟨ob,_,_,h1,h2,_⟩:=dd;exact ⟨ob,h1,h2.2.1⟩
section
variable {pins:List (Addr×Obj)}{σ:St}{s:Shared}{y d:V}{u r:Value}{o:Option V}{A:Around}{E:Value->Shared->Prop}
end
def Hr(td ty:TE):TE:=λσ H Q=>td σ H λx H1=>∃ a,x=.ref a/\IsD H1 a/\ty σ H1 λy H2=>∃ kvs k v,H2 a=some (.dK kvs)/\y=kV k/\valV kvs k=some v/\Q v (upd H2 a (.dK (Aw kvs k)))
section
variable {o e f:Expr}{apos cpos:Pos}{td ty tx:TE}
theorem CO(ho:PE X o td)(he:PE X e ty)(m:M1 X o "pop" apos e cpos):PE X (.Call (.Attribute o "pop" apos) [e] [] cpos) (Hr td ty):=by
  intro pins s σ H Q I h;refine wpAny_Call_method m.base m.few m.line PySem.F.plainAttrs_dict g6 PySem.F.type_dict_pop (thn (ho pins s σ H _ I h) λu s1 ⟨x,H1,I1,rx,a,ex,d,q1⟩=>?_);subst ex;obtain rfl:u=Value.ref a:=rx;obtain ⟨t1,t2,_⟩:=KD I1 d;refine ⟨t1,t2,?_⟩;rw [m.trees];refine Calls.callWith_builtin rfl (Calls.evalArgs_plain (Calls.spliced_cons (thn (he pins s1 σ H1 _ I1 q1) λiv s2 ⟨y,H2,I2,ry,kvs,k,v,ea,ey,l,q2⟩=>Calls.spliced_nil ?_)));subst ey;exact Mb I2 ea ry l (.inl rfl) λw' s3 I3 rw'=>⟨v,_,I3,rw',q2⟩
end
section
variable {pins:List (Addr×Obj)}{σ:St}{s:Shared}{kvs:List (Key×V)}{A:Around}{E:Value->Shared->Prop}
end
section
variable {pins:List (Addr×Obj)}{σ:St}{s:Shared}{y:V}{u:Value}{A:Around}{E:Value->Shared->Prop}
end
end L2
namespace Att
open PySem PySem.W PySem.Calls PyProof.Rows
end Att
namespace L2
open PySem PySem.Spec PyProof.Rows
variable {X:Cx}
variable {κ:Type}[DecidableEq κ]
end L2
namespace Bg
theorem F8(a b:Int):Int.gcd b (a.fmod b)=Int.gcd a b:=by
  rw [Int.fmod_def,ak,fK,c9]
theorem Cv(a b:Int):Int.gcd b (a % b)=Int.gcd a b:=by
  rw [Int.emod_def,ak,fK,c9]
variable {a:Int}
theorem IS{b:Int}(h:b≠0):(a.fmod b).natAbs<b.natAbs:=by
  rw [Int.fmod_eq_emod];have h1:=bJ a h;have h2:=Int.emod_lt a h;by_cases c:0<=b\/b∣a
  . rw [io c]; omega
  . rw [ip c];have hb:b<0:=by
      rcases g7 b 0 with z|z
      . exact z
      . exact absurd (Or.inl z) c
    have hd:¬ b∣a:=λz=>c (Or.inr z);have hn:a % b≠0:=λz=>hd (Int.dvd_of_emod_eq_zero z);omega
def Bd(k:Nat)(x:Int):Prop:=x.natAbs<2 ^ k
instance {k:Nat} {x:Int}:Decidable (Bd k x):=inferInstanceAs (Decidable (x.natAbs<2 ^ k))
variable {x:Int}
theorem Bd.mono{j k:Nat}(h:Bd j x)(l:j<=k):Bd k x:=aN h (Nat.pow_le_pow_right (by decide) l)
theorem Bd.neg{k:Nat}(h:Bd k x):Bd k (-x):=by unfold Bd at *; rw [Int.natAbs_neg]; exact h
variable {y:Int}
theorem Bd.mul{j k:Nat}(h:Bd j x)(g:Bd k y):Bd (j+k) (x*y):=by
  unfold Bd at *
  rw [cB,Nat.pow_add];exact Nat.mul_lt_mul_of_lt_of_lt h g
theorem Bd.add{k:Nat}(h:Bd k x)(g:Bd k y):Bd (k+1) (x+y):=by
  unfold Bd at *
  rw [Nat.pow_succ];omega
theorem Bd.sub{k:Nat}(h:Bd k x)(g:Bd k y):Bd (k+1) (x - y):=by
  unfold Bd at *
  rw [Nat.pow_succ];omega
theorem Bd.of_le{k:Nat}(h:Bd k y)(l:x.natAbs<=y.natAbs):Bd k x:=aX l h
theorem Bd.abs{k:Nat}(h:Bd k x):Bd k (if x<0 then -x else x):=by
  split
  . exact h.neg
  . exact h
theorem natAbs_fdiv_le(a b:Int):(a.fdiv b).natAbs<=a.natAbs:=by
  by_cases hb:b=0
  . subst hb; simp
  have key:∀ a b:Int,0<b->(a.fdiv b).natAbs<=a.natAbs:=λa b hb=>by
    rw [d4 a (by omega)];have h1:b*(a / b)+a % b=a:=Int.mul_ediv_add_emod a b;have h2:=bJ a (show b≠0 by omega);have h3:=bS a hb;rcases g7 (a / b) 0 with q|q
    . have e:a<=a / b:=by
        have:b*(a / b)<=1*(a / b) - (b - 1):=by
          have z:(b - 1)*(a / b)<=(b - 1)*(-1):=dH (by omega) (by omega);have z2:b*(a / b)=(b - 1)*(a / b)+a / b:=by rw [h9]; omega
          omega
        omega
      omega
    . have e:a / b<=a:=by
        have z:1*(a / b)<=b*(a / b):=cK (by omega) q;omega
      omega
  rcases g7 b 0 with h|h
  . have e:a.fdiv b=(-a).fdiv (-b):=by rw [Int.neg_fdiv_neg]
    rw [e];have:=key (-a) (-b) (by omega);omega
  . exact key a b (by omega)
theorem Bd.fdiv{k:Nat}{x:Int}(h:Bd k x)(y:Int):Bd k (x.fdiv y):=h.of_le (natAbs_fdiv_le x y)
theorem Bd.emod{k:Nat}(h:Bd k y)(hy:y≠0)(x:Int):Bd k (x % y):=by
  refine h.of_le ?_;have h1:=bJ x hy;have h2:=Int.emod_lt x hy;omega
theorem Bd.log{k:Nat}(h:Bd k x):x.natAbs.log2<=k:=by
  by_cases z:x.natAbs=0
  . rw [z]; simp
  . exact bO ((ia z).mpr h)
def g3(a b n:Int):Nat:=Int.gcd (Int.gcd n a) b
def gd(a b n:Int):Int:=if n<0 then -(g3 a b n:Int) else (g3 a b n:Int)
theorem g3_n(a b n:Int):(g3 a b n:Int)∣n:=aH (bH ..) (bH ..)
theorem g3_a(a b n:Int):(g3 a b n:Int)∣a:=aH (bH ..) (bM ..)
theorem g3_b(a b n:Int):(g3 a b n:Int)∣b:=bM ..
theorem EJ{b n:Int}(h:n≠0):0<g3 a b n:=by
  rcases Nat.eq_zero_or_pos (g3 a b n) with z|z
  . have:=g3_n a b n;rw [z] at this;exact absurd (Int.zero_dvd.mp (by simpa using this)) h
  . exact z
theorem Ju{b n:Int}(h:n≠0):gd a b n≠0:=by
  have:=EJ (a:=a) (b:=b) h;unfold gd;split <;> omega
theorem Hs(a b n:Int):(gd a b n).natAbs=g3 a b n:=by
  unfold gd;split <;> simp
theorem Ft{b n:Int}(h:(g3 a b n:Int)∣x):gd a b n∣x:=by
  unfold gd;split
  . exact Int.neg_dvd.mpr h
  . exact h
theorem Ir{k:Nat}{b n:Int}(hn:n≠0)(h:Bd k n):Bd k (gd a b n):=by
  refine h.of_le ?_;rw [Hs];exact ii (by omega) (by
    have:=bK.mpr (g3_n a b n);simpa using this)
def lA(a b n:Int):Int:=a.fdiv (gd a b n)
def lB(a b n:Int):Int:=b.fdiv (gd a b n)
def lN(a b n:Int):Int:=n.fdiv (gd a b n)
theorem GS{b n:Int}:lA a b n*gd a b n=a:=fM (Ft (g3_a a b n))
theorem GU{b n:Int}:lB a b n*gd a b n=b:=fM (Ft (g3_b a b n))
theorem lN_mul{b n:Int}:lN a b n*gd a b n=n:=fM (Ft (g3_n a b n))
theorem l_a{b n:Int}:lA a b n*n=a*lN a b n:=by
  have h1:=GS (a:=a) (b:=b) (n:=n);have h2:=lN_mul (a:=a) (b:=b) (n:=n)
  calc lA a b n*n=lA a b n*(lN a b n*gd a b n):=by rw [h2]
    _=lA a b n*gd a b n*lN a b n:=by rw [am,ak (gd a b n)]
    _=a*lN a b n:=by rw [h1]
theorem l_b{b n:Int}:lB a b n*n=b*lN a b n:=by
  have h1:=GU (a:=a) (b:=b) (n:=n);have h2:=lN_mul (a:=a) (b:=b) (n:=n)
  calc lB a b n*n=lB a b n*(lN a b n*gd a b n):=by rw [h2]
    _=lB a b n*gd a b n*lN a b n:=by rw [am,ak (gd a b n)]
    _=b*lN a b n:=by rw [h1]
theorem l_n{b n:Int}(h:n≠0):1<=lN a b n:=by
  have h2:=lN_mul (a:=a) (b:=b) (n:=n);have hp:=EJ (a:=a) (b:=b) h;have hs:0<lN a b n:=by
    by_cases c:n<0
    . have e:gd a b n=-(g3 a b n:Int):=io c;rw [e] at h2;refine fD λz=>?_;have:0<=lN a b n*-(g3 a b n:Int):=eE z (by omega);omega
    . have e:gd a b n=(g3 a b n:Int):=ip c;rw [e] at h2;refine fD λz=>?_;have:lN a b n*(g3 a b n:Int)<=0:=dq z (by omega);omega
  omega
theorem xq{b n:Int}(h:n≠0):g3 (lA a b n) (lB a b n) (lN a b n)=1:=by
  have hp:=EJ (a:=a) (b:=b) h;have e:g3 a b n=g3 (lA a b n) (lB a b n) (lN a b n)*(gd a b n).natAbs:=by
    have h1:=GS (a:=a) (b:=b) (n:=n);have h2:=GU (a:=a) (b:=b) (n:=n);have h3:=lN_mul (a:=a) (b:=b) (n:=n);have:g3 (lA a b n*gd a b n) (lB a b n*gd a b n) (lN a b n*gd a b n)=g3 (lA a b n) (lB a b n) (lN a b n)*(gd a b n).natAbs:=by
      unfold g3;rw [Int.gcd_mul_right];have e1:((Int.gcd (lN a b n) (lA a b n)*(gd a b n).natAbs:Nat):Int).gcd (lB a b n*gd a b n)=Int.gcd ((Int.gcd (lN a b n) (lA a b n):Int)*gd a b n) (lB a b n*gd a b n):=by
        rw [aY,aY];congr 1;rw [cB,b8,b8]
      rw [e1,Int.gcd_mul_right]
    rw [h1,h2,h3] at this;exact this
  rw [Hs] at e;have:1*g3 a b n=g3 (lA a b n) (lB a b n) (lN a b n)*g3 a b n:=by omega
  exact (Nat.eq_of_mul_eq_mul_right hp this).symm
end Bg
namespace L2
open PySem PySem.Spec PyProof.Rows Bg
theorem Fj{k:Nat}{x:Int}(h:Bd k x):Builtin.Int.intBits x<=k:=by
  unfold Builtin.Int.intBits;split
  . exact cI _
  . rename_i z;have z':x≠0:=by simpa using z
    exact (ia (by omega)).mpr h
variable {y:Int}
theorem Bd.ok{j k:Nat}{x:Int}(h:Bd j x)(g:Bd k y)(l:j+k<=134217728):IntMulOk x y:=by
  have h1:=Fj h;have h2:=Fj g;unfold IntMulOk;have:Builtin.Int.intTooBig (Builtin.Int.intBits x+Builtin.Int.intBits y)=false:=by
    unfold Builtin.Int.intTooBig bitsLine;simp only [decide_eq_false_iff_not,fj,gt_iff_lt];have:(2 ^ 27:Nat)=134217728:=by decide
    omega
  rw [this];simp
variable {X:Cx}
theorem zk:OpR X (binaryOp .Mult) (rI IntMulOk λi j=>.int (i*j)):=opI λ_ _ _ _ _ _ _ hc q=>mul_int q hc
abbrev CFd(_ j:Int):Prop:=j≠0/\j.natAbs.log2<9000
abbrev CFp(_ j:Int):Prop:=0<j/\j.natAbs.log2<9000
theorem zy:OpR X (binaryOp .FloorDiv) (rI CFd λi j=>.int (i.fdiv j)):=opI λ_ _ _ _ _ _ _ hc q=>floordiv_int hc.1 q (.inl (gy hc.2))
theorem yI:OpR X (binaryOp .FloorDiv) (rI CFp λi j=>.int (i / j)):=opI λi j _ _ _ _ _ hc q=>by
  have h1:(0:Int)<j:=hc.1;exact floordiv_int (by omega) (by rw [d4 i (by omega)]; exact q) (.inl (gy hc.2))
def rIs(K:iJ):List V->Hp->VK->Prop:=λxs H Q=>∃ x T t b,xs=[x,.ty T]/\TyOf K H x t/\W.kitOne K t (.type T)=some b/\Q (.bl b) H
theorem yM:xi X (.builtin "isinstance") (rIs X.K):=by
  intro pins s σ H xs us Q I r h;obtain ⟨x,T,t,b,rfl,ty,e,q⟩:=h;obtain ⟨u,c,rfl,ru,rc⟩:=Mc r;cases (show c=Value.type T from rc)
  exact EU I ru ty e λtk=>⟨.bl b,H,I.tok tk,rfl,q⟩
theorem tq(K:iJ)(T:String):W.kitOne K (.type T) (.type T)=some true:=by
  unfold W.kitOne;rw [io];simp
theorem Aq(K:iJ):W.kitOne K (.type "int") (.type "bool")=some false:=by
  unfold W.kitOne;rw [ip (by decide)];show (if W.kitMeta "bool"=true then W.subIn K (.type "int") (.type "bool") else none)=some false;rw [io (by decide +kernel)];show (fastBuiltinMro "int").map (·.contains (Value.type "bool"))=some false;decide +kernel
section
variable {K:iJ}{H:Hp}{Q:VK}
theorem GP{i:Int}(h:Q (.bl true) H):rIs K [.int i,.ty "int"] H Q:=⟨_,_,_,_,rfl,.int i,tq K _,h⟩
theorem Ev{i:Int}(h:Q (.bl false) H):rIs K [.int i,.ty "bool"] H Q:=⟨_,_,_,_,rfl,.int i,Aq K,h⟩
theorem Go{a:Addr}{xs:List V}(e:H a=some (.tup xs))(h:Q (.bl true) H):rIs K [.ref a,.ty "tuple"] H Q:=⟨_,_,_,_,rfl,.tup e,tq K _,h⟩
end
def Own(P:Program)(w:World)(K:iJ)(mg:Str->Option Value)(base:Heap)(k:Nat)(x:Str)(ps:List Str)(dvs:List V)(sp:Sp):Prop :=
  ∃ (f:Addr) (fd:FuncData) (ds:List Value),FnOk P w K mg base CX0 k f fd ps sp/\mg x=some (.ref f)/\W.keepIn K (.ref f)=true/\Binds K fd ps ds/\Vals dvs ds
variable {ps:List Str}{dvs:List V}{sp:Sp}{x:Str}{t:TA}
theorem ze{k j:Nat}{p pos:Pos}{e:Expr}{es:List Expr}(O:Own X.prog X.w X.K X.mg X.base k x ps dvs sp)(hr:Room j X.A)(hg:Gl X x)(ha:PA X (e::es) t)(hk:k<=j:=by decide)(hdb:(x==("__debug__":Str))=false:=by decide)(he:starEach (e::es) X.env=(false,eval e X.env)::starEach es X.env:=by rfl)(hpl:(backTo pos (starEach es X.env)).any (·.1)=false:=by rfl) :
    PE X (.Call (.Name x p) (e::es) [] pos) (Ig sp dvs E0 t):=by
  obtain ⟨f,fd,ds,F,hm,kp,hb,hd⟩:=O;exact Jd F (hr.mono hk) hg hm kp hb hd t8 ha hdb he hpl
structure FunD(K:iJ)(x qual:Str)(st:Stmt)(f:Addr)(fd:FuncData)(its:List Value):Prop where
  ex:∃ (oc:Value) (od:Option Addr) (T:Addr) (kV doc pm:Value) (an:Option Addr) (cdv ct:Value) (osl:Array (Option Value)) (to:Obj) (n:Nat),
    fd=W.fnOf x qual (defArgs st) (defBody st) (defScope st) (.ref T) kV doc pm an cdv ct/\K.lookup f=some ⟨oc,od,.func fd,osl⟩/\W.codeIn K cdv qual=true/\K.lookup T=some to/\to.data=.seq its.toArray n
  kp:W.keepIn K (.ref f)=true
variable {f:Addr}{fd:FuncData}{its:List Value}{qual:Str}
section
variable {P:Program}{w:World}{K:iJ}{mg:Str->Option Value}{base:Heap}
theorem FunD.ok{st:Stmt}{N:List Str}{k:Nat}(F:FunD K x qual st f fd its)(S:FnScope N ps (defScope st))(len:∀ vs H Q E,sp vs H Q E->vs.length=ps.length)(hbody:∀ (cdv:Value) (A:Around) (outer:List Env) (s:Shared) (H:Hp) (vs:List V) (Q:VK) (E:XK),Room k (A.deeper (envOfC qual (defScope st) s.heap.objs.size f cdv))->sp vs H Q E ->
      ∃ t,PSs (cxOf CX0 P w K mg base N qual (defScope st) f cdv A outer s H E).nox (defBody st) t/\t { nx:=λ_ H'=>Q .non H',rt:=Q } (start N vs) H):FnOk P w K mg base CX0 (k+1) f fd ps sp:=by
  obtain ⟨oc,od,T,kV,doc,pm,an,cdv,ct,osl,to,n,rfl,lk,hcd,_⟩:=F.ex;refine Ke lk hcd S len λA outer s H vs Q E hr hsp=>?_;obtain ⟨t,h,q⟩:=hbody cdv A outer s H vs Q E hr hsp;exact ⟨t,h.nox,q⟩
end
def Top(K:iJ)(mg:Str->Option Value)(x:Str)(st:Stmt):Prop:=∃ (f:Addr) (fd:FuncData),Fun K x x st f fd/\mg x=some (.ref f)
def TopD(K:iJ)(mg:Str->Option Value)(x:Str)(st:Stmt)(its:List Value):Prop:=∃ (f:Addr) (fd:FuncData),FunD K x x st f fd its/\mg x=some (.ref f)
variable {osl:Array (Option Value)}{h:Heap}{an od:Option Addr}{mg:Str->Option Value}{cdv ct doc oc pm:Value}
theorem top_mk{K:iJ}{st:Stmt}{kV:Value}(X:K.In h)(G:h.Ns mainGlobals mg)(a:W.nsIn K mainGlobals x=some (some (.ref f)))(l:K.lookup f=some ⟨oc,od,.func (W.fnOf x x (defArgs st) (defBody st) (defScope st) .none kV doc pm an cdv ct),osl⟩)(c:W.codeIn K cdv x=true)(k:W.keepIn K (.ref f)=true):Top K mg x st:=⟨f,_,HP l c k,dR X G a⟩
theorem topD_mk{K:iJ}{st:Stmt}{T:Addr}{kV:Value}{n:Nat}{to:Obj}(X:K.In h)(G:h.Ns mainGlobals mg)(a:W.nsIn K mainGlobals x=some (some (.ref f)))(l:K.lookup f=some ⟨oc,od,.func (W.fnOf x x (defArgs st) (defBody st) (defScope st) (.ref T) kV doc pm an cdv ct),osl⟩)(c:W.codeIn K cdv x=true)(k:W.keepIn K (.ref f)=true)(t:K.lookup T=some to)(d:to.data=.seq its.toArray n):TopD K mg x st its:=⟨f,_,⟨⟨oc,od,T,kV,doc,pm,an,cdv,ct,osl,_,n,rfl,l,c,t,d⟩,k⟩,dR X G a⟩
theorem Top.own{P:Program}{w:World}{K:iJ}{base:Heap}{k:Nat}{st:Stmt}(T:Top K mg x st)(hb:∀ (kV doc pm:Value) (an:Option Addr) (cdv ct:Value) (us:List Value),us.length=ps.length->bindArgs (W.fnOf x x (defArgs st) (defBody st) (defScope st) .none kV doc pm an cdv ct) ⟨us,[]⟩=pure (ps.zip us))(h:∀ f fd,Fun K x x st f fd->FnOk P w K mg base CX0 k f fd ps sp):Own P w K mg base k x ps [] sp:=by
  obtain ⟨f,fd,F,m⟩:=T;exact ⟨f,fd,[],h f fd F,m,F.kp,F.binds hb,.nil⟩
def NewL(xs:List V)(H:Hp)(Q:VK):Prop:=xs.length<=sizeLine/\∀ p,H p=none->Q (.ref p) (upd H p (.lst xs))
def NewT(xs:List V)(H:Hp)(Q:VK):Prop:=xs.length<=sizeLine/\∀ p,H p=none->Q (.ref p) (upd H p (.tup xs))
def rLen(K:iJ):List V->Hp->VK->Prop:=λxs H Q=>∃ p ys,xs=[.ref p]/\(SqL K H p ys\/SqT K H p ys)/\Q (.int ys.length) H
def rAbs:List V->Hp->VK->Prop:=λxs H Q=>∃ i,xs=[.int i]/\Q (.int (if i<0 then -i else i)) H
def rInt:List V->Hp->VK->Prop:=λxs H Q=>(∃ i,xs=[.int i]/\Q (.int i) H)\/∃ k,xs=[.bl k]/\Q (.int (if k then 1 else 0)) H
theorem zx:xi X (.builtin "len") (rLen X.K):=Ad
theorem yN:xi X (.builtin "abs") rAbs:=Gx
theorem uc:xi X (.type "int") rInt:=Ej
variable {g:Int->Int->V}{ta te:TE}{c:TT}
section
variable {σ:St}{H:Hp}{Q:VK}{B:Bool->Hp->Prop}{D:Ends}{K:iJ}
theorem L8{t u:TS}(h:t { D with nx:=u D } σ H):tSeq t u D σ H:=h
theorem i_next(h:D.nx σ H):Lx D σ H:=h
theorem i_asg{g:TG}(h:te σ H λx H1=>g x σ H1 D.nx):tAsg te g D σ H:=h
theorem i_gname{i:Nat}{v:V}{R:St->Hp->Prop}(h:R (σ.set i (some v)) H):Bj i v σ H R:=h
theorem i_ret(h:te σ H D.rt):tRet te D σ H:=h
theorem i_drop(h:te σ H λ_ H1=>D.nx σ H1):Lz te D σ H:=h
theorem i_ifS{t u:TS}(h:c σ H λb H1=>if b=true then t D σ H1 else u D σ H1):tIfS c t u D σ H:=h
theorem i_var{i:Nat}{v:V}(e:σ[i]?=some (some v))(h:Q v H):tVar i σ H Q:=⟨v,e,h⟩
theorem i_c{v:V}(h:Q v H):tC v σ H Q:=h
theorem i_op{r:R2}{tb:TE}(h:ta σ H λx H1=>tb σ H1 λy H2=>r x y H2 Q):tOp r ta tb σ H Q:=h
theorem i_un{r:V->Hp->VK->Prop}(h:ta σ H λx H1=>r x H1 Q):tUn r ta σ H Q:=h
theorem i_I0{i j:Int}(h:Q (g i j) H):rI0 g (.int i) (.int j) H Q:=⟨i,j,rfl,rfl,h⟩
theorem i_I{C:Int->Int->Prop}{i j:Int}(h:Q (g i j) H)(c:C i j):rI C g (.int i) (.int j) H Q:=⟨i,j,rfl,rfl,c,h⟩
theorem i_U{g:Int->V}{i:Int}(h:Q (g i) H):rU g (.int i) H Q:=⟨i,rfl,h⟩
theorem Mj{i j:Int}(h:Q (.bl (decide (i=j))) H):rEq (.int i) (.int j) H Q:=⟨rfl,by
  have e:decide (V.int i=V.int j)=decide (i=j):=by rw [tG]; exact g8 i j
  rw [e]; exact h⟩
theorem MS{i j:Int}(h:Q (.bl (!decide (i=j))) H):rNe (.int i) (.int j) H Q:=⟨rfl,by
  have e:decide (V.int i=V.int j)=decide (i=j):=by rw [tG]; exact g8 i j
  rw [e]; exact h⟩
theorem Mf{i j:Bool}(h:Q (.bl (decide (i=j))) H):rEq (.bl i) (.bl j) H Q:=⟨rfl,by
  have e:decide (V.bl i=V.bl j)=decide (i=j):=by rw [dec_bl]; cases i <;> cases j <;> rfl
  rw [e]; exact h⟩
theorem Kj{t:TE}(h:t σ H λx H'=>∃ k,x=.bl k/\B k H'):Kn t σ H B:=h
theorem i_tB{t:TE}(h:t σ H λx H'=>∃ k,x=.bl k/\B k H'):tB t σ H B:=h
theorem i_bl{k:Bool}{R:Bool->Prop}(h:R k):∃ k',V.bl k=.bl k'/\R k':=⟨k,rfl,h⟩
theorem MT{t u:TT}(h:t σ H λc H1=>if c=true then u σ H1 B else B false H1):tAnd t u σ H B:=h
theorem i_or{t u:TT}(h:t σ H λc H1=>if c=true then B true H1 else u σ H1 B):tOr t u σ H B:=h
theorem L0{t:TT}(h:t σ H λc H1=>B (!c) H1):tNot t σ H B:=h
theorem Ku{t u:TE}(h:t σ H λx H1=>∃ c,x=.bl c/\if c=true then u σ H1 Q else Q (.bl false) H1):J9 t u σ H Q:=h
theorem Mz{t u:TE}(h:t σ H λx H1=>∃ c,x=.bl c/\if c=true then Q (.bl true) H1 else u σ H1 Q):tOrV t u σ H Q:=h
theorem LO{t:TE}(h:t σ H λx H1=>∃ c,x=.bl c/\Q (.bl (!c)) H1):JJ t σ H Q:=h
theorem Md{tb:TE}(h:c σ H λb H1=>if b=true then ta σ H1 Q else tb σ H1 Q):tIf c ta tb σ H Q:=h
theorem MO{R:List V->Hp->Prop}(h:R [] H):tNil σ H R:=h
theorem LB{tr:TA}{R:List V->Hp->Prop}(h:ta σ H λx H1=>tr σ H1 λxs H2=>R (x::xs) H2):tz ta tr σ H R:=h
theorem Ls{E:XK}(h:t σ H λvs H1=>sp (vs++dvs) H1 Q E):Ig sp dvs E t σ H Q:=h
theorem i_cb{r:List V->Hp->VK->Prop}(h:t σ H λvs H1=>r vs H1 Q):tCB r t σ H Q:=h
theorem Mu(h:t σ H λxs H1=>NewT xs H1 Q):tTup t σ H Q:=h
theorem MC(h:t σ H λxs H1=>NewL xs H1 Q):tLst t σ H Q:=h
theorem yW{n:Nat}(h:n<=1000):n<=sizeLine:=bO (FB h)
theorem vF{p:Addr}{xs:List V}{i:Int}{v:V}(h:H p=some (.tup xs))(e:atI xs i=some v)(q:Q v H):rIxT K (.ref p) (.int i) H Q:=⟨p,xs,i,v,rfl,rfl,SqT.of h,e,q⟩
theorem xr{p:Addr}{xs:List V}{i:Int}{v:V}(h:H p=some (.lst xs))(e:atI xs i=some v)(q:Q v H):rIxL K (.ref p) (.int i) H Q:=⟨p,xs,i,v,rfl,rfl,SqL.of h,e,q⟩
theorem KL{p:Addr}{xs:List V}(h:H p=some (.tup xs))(q:Q (.int xs.length) H):rLen K [.ref p] H Q:=⟨p,xs,rfl,.inr (SqT.of h),q⟩
theorem KA{p:Addr}{xs:List V}(h:H p=some (.lst xs))(q:Q (.int xs.length) H):rLen K [.ref p] H Q:=⟨p,xs,rfl,.inl (SqL.of h),q⟩
theorem Me{i:Int}(q:Q (.int (if i<0 then -i else i)) H):rAbs [.int i] H Q:=⟨i,rfl,q⟩
theorem LP{k:Bool}(q:Q (.int (if k then 1 else 0)) H):rInt [.bl k] H Q:=.inr ⟨k,rfl,q⟩
theorem Mi{i j:Nat}{ta:TA}(h:ta σ H λvs H1=>∃ v w,vs=[v,w]/\D.nx ((σ.set i (some v)).set j (some w)) H1):tPar i j ta D σ H:=h
theorem LM{v w:V}{R:V->V->Prop}(h:R v w):∃ v' w',[v,w]=[v',w']/\R v' w':=⟨v,w,rfl,h⟩
end
theorem if_d{p A B:Prop}[Decidable p](h1:p->A)(h2:¬ p->B):if decide p=true then A else B:=by
  by_cases h:p
  . rw [io (iH h)]; exact h1 h
  . rw [ip (by simp [h])]; exact h2 h
theorem ui{p A B:Prop}[Decidable p](h1:¬ p->A)(h2:p->B):if (!decide p)=true then A else B:=by
  by_cases h:p
  . rw [ip (by simp [h])]; exact h2 h
  . rw [io (by simp [h])]; exact h1 h
theorem Dg{α:Type}{x y:α}{A B:Prop}[Decidable (x=y)](e:x=y)(h:B):if (!decide (x=y))=true then A else B:=ui (λc=>absurd e c) λ_=>h
theorem if_t{A B:Prop}(h:A):if true=true then A else B:=by rw [io rfl]; exact h
theorem if_f{A B:Prop}(h:B):if false=true then A else B:=by rw [ip aP]; exact h
theorem JQ{A B:Prop}(h:B):if (!true)=true then A else B:=by rw [ip (by decide)]; exact h
theorem Mt{A B:Prop}(h:A):if (!false)=true then A else B:=by rw [io (by decide)]; exact h
theorem zC{H:Hp}{p:Addr}(h:H p=none)(o:HO):Same H (upd H p o):=λb u q=>by rw [zn (zb q h)]; exact q
theorem u7(x:Int):Bd (x.natAbs.log2+1) x:=by
  unfold Bd;exact Nat.lt_log2_self
theorem Io{j k:Nat}{x:Int}(h:Bd j x)(g:Bd k y):Bd (j+k+1) (x+y):=(h.mono (dy ..)).add (g.mono (Nat.le_add_left ..))
theorem Jm{j k:Nat}{x:Int}(h:Bd j x)(g:Bd k y):Bd (j+k+1) (x - y):=(h.mono (dy ..)).sub (g.mono (Nat.le_add_left ..))
variable {ds:List Value}
section
variable {P:Program}{w:World}{K:iJ}{mg:Str->Option Value}{base:Heap}
theorem FunD.binds{st:Stmt}(F:FunD K x qual st f fd its)(h:∀ (T:Addr) (kV doc pm:Value) (an:Option Addr) (cdv ct:Value) (us:List Value),(us++ds).length=ps.length->∃ k:Option (Array Value)->Sem (List (Str×Value)),
      bindArgs (W.fnOf x qual (defArgs st) (defBody st) (defScope st) (.ref T) kV doc pm an cdv ct) ⟨us,[]⟩=seqItems? (.ref T) >>= k/\k (some its.toArray)=pure (ps.zip (us++ds))):Binds K fd ps ds:=by
  obtain ⟨oc,od,T,kV,doc,pm,an,cdv,ct,osl,to,n,rfl,lk,hcd,lT,hs⟩:=F.ex;intro s us KX hl;obtain ⟨k,h1,h2⟩:=h T kV doc pm an cdv ct us hl;exact BindsTo.of_defaults rfl (KX _ _ lT) hs h1 h2
theorem TopD.own{k:Nat}{st:Stmt}(T:TopD K mg x st its)(hb:∀ (T:Addr) (kV doc pm:Value) (an:Option Addr) (cdv ct:Value) (us:List Value),(us++ds).length=ps.length->∃ k:Option (Array Value)->Sem (List (Str×Value)),
      bindArgs (W.fnOf x x (defArgs st) (defBody st) (defScope st) (.ref T) kV doc pm an cdv ct) ⟨us,[]⟩=seqItems? (.ref T) >>= k/\k (some its.toArray)=pure (ps.zip (us++ds)))(hd:Vals dvs ds)(h:∀ f fd,FunD K x x st f fd its->FnOk P w K mg base CX0 k f fd ps sp):Own P w K mg base k x ps dvs sp:=by
  obtain ⟨f,fd,F,m⟩:=T;exact ⟨f,fd,ds,h f fd F,m,F.kp,F.binds hb,hd⟩
end
end L2
namespace Att
open PySem PySem.W PySem.Calls PyProof.Rows Bg
theorem vS{x:WData}:∀ {xs:List WData},x∈xs->WData.weight x<=WData.weightAll xs
  | [],h=>absurd h (by simp)
  | y::ys,h=>by
    simp only [WData.weightAll];rcases a7.mp h with e|e
    . subst e; omega
    . have:=vS e;omega
theorem Gk{ns:List Int}(h:WData.layableAll [WData.list (ns.map WData.int)]=true):∀ x∈ns,Bd 1048576 x:=λx hx=>by
  have h1:WData.layable (WData.list (ns.map WData.int))=true:=by simpa [WData.layableAll] using h
  unfold WData.layable at h1;rw [dg] at h1;have h2:WData.weight (WData.list (ns.map WData.int))<=2 ^ 20:=of_decide_eq_true h1.2;simp only [WData.weight] at h2;have h3:WData.weight (WData.int x)<=WData.weightAll (ns.map WData.int):=vS (aV.mpr ⟨x,hx,rfl⟩);simp only [WData.weight] at h3;unfold Bd;by_cases z:x=0
  . subst z;exact Nat.pow_pos (by decide)
  . rw [ip (by simpa using z)] at h3;have e:(2:Nat) ^ 20=1048576:=by decide
    exact (ia (by omega)).mp (by omega)
theorem attach_callB{l:OpenLaw}{n:Nat}{q:Program}{loose:List Str}{XP:(Str->Option Value)->Heap->Prop}{YP:World->Heap->Prop}{d:DefRec}(hn:l.most=some n)(hdf:d.params.defaults=[])(call:∀ (w:World) (s₀ s₁:Shared) (mg mb:Str->Option Value) (fa:Addr) (a:Addr) (vs:List Value) (ns:List Int),
      Ground q loose [] XP w s₀ mg mb s₁.heap->YP w s₁.heap->mg d.name=some (.ref fa) ->
      s₁.heap.get? a=some { cls:=.type "list",data:=.seq vs.toArray }->IntsAre vs ns->ns.length<=n->(∀ x∈ns,Bd 1048576 x)->s₁.gens=#[] ->
      codeAny (model l.prog w) callerA (.call (.ref fa) ⟨[.ref a],[]⟩) (λr s'=>r=.ok (.ret (.bool true))/\OldK s₁.heap s'.heap/\s'.os=s₁.os/\AllBare s'.gens) s₁) :
    WalkO q loose XP YP l.row.toRowW d [] (λf vs=>PySem.call f vs):=by
  intro w s₀ s₁ mg mb G Y fa o pm cd doc dV kV ho hd hcd hD hmg hg args vals as hpre hlay hrd hwl hlo;obtain ⟨a,vs,ns,rfl,rfl,hobj,hints,hlen⟩:=EI hn hpre hwl;refine enter_call (iE (call w s₀ s₁ mg mb fa a vs ns G Y hmg hobj hints hlen (Gk hlay) hg) λr s' hq=>?_);obtain ⟨rfl,h2,h3,h4⟩:=hq;exact ⟨.inl ⟨.bool true,.bool true,[],rfl,λ_=>rfl,.bool true,DG l _,λ_=>⟨List.Pairwise.nil,λ_ hm=>(nomatch hm)⟩⟩,h2,h3,h4⟩
end Att
namespace L2
open PySem PySem.Spec PyProof.Rows Bg
def GM(K:iJ):Sp:=λvs H Q _=>∃ (a:Addr) (ns:List Int),vs=[.ref a]/\SqL K H a (ns.map V.int)/\ns.length<=63/\(∀ x∈ns,Bd 1048576 x)/\∀ H',Q (.bl true) H'
variable {x:Str}
theorem walk_B{l:PySem.W.OpenLaw}{k:Nat}{q:Program}{loose:List Str}{XP:(Str->Option Value)->Heap->Prop}{YP:World->Heap->Prop}{d:DefRec}{K:Params->iJ}(hn:l.most=some 63)(hdf:d.params.defaults=[])(hr:Room k callerA)(hY:∀ (w:World) (h:Heap),YP w h->(K w.params).In h)(F:∀ (w:World) (mg:Str->Option Value) (fa:Addr) (h:Heap),(K w.params).In h->h.Ns mainGlobals mg->mg d.name=some (.ref fa) ->
      ∃ fd:FuncData,(∀ (s:Shared) (u:Value),BindsTo s fd ⟨[u],[]⟩ [(x,u)]) /\
        ∀ base:Heap,(K w.params).In base->base.Ns mainGlobals mg->FnOk l.prog w (K w.params) mg base CX0 k fa fd [x] (GM (K w.params))) :
    PySem.W.WalkO q loose XP YP l.row.toRowW d [] (λf vs=>PySem.call f vs):=by
  refine Att.attach_callB hn hdf λw s₀ s₁ mg mb fa a vs ns G Y hmg hobj hints hlen hbd hg=>?_;have KX:=hY w _ Y;obtain ⟨fd,hb,hF⟩:=F w mg fa _ KX G.T.g hmg;exact GA KX G.T.g G.T.b G.T.builtins G.T.nolimit hg hobj hints (ce hlen (by decide)) hr hF hb (λH hO hS=>⟨a,ns,rfl,hS,hlen,hbd,λ_=>rfl⟩) λH e s' z=>z
theorem law_mk{P:Program}{w:World}{K:iJ}{mg:Str->Option Value}{fa:Addr}{k:Nat}{st:Stmt}(T:Top K mg "law" st)(hfa:mg "law"=some (.ref fa))(hb:∀ (kV doc pm:Value) (an:Option Addr) (cdv ct:Value) (v:Value),bindArgs (W.fnOf "law" "law" (defArgs st) (defBody st) (defScope st) .none kV doc pm an cdv ct) ⟨[v],[]⟩=pure [(x,v)])(h:∀ base f fd,Fun K "law" "law" st f fd->FnOk P w K mg base CX0 k f fd [x] (GM K)) : ∃ fd:FuncData,(∀ (s:Shared) (u:Value),BindsTo s fd ⟨[u],[]⟩ [(x,u)])/\∀ base:Heap,K.In base->base.Ns mainGlobals mg->FnOk P w K mg base CX0 k fa fd [x] (GM K):=by
  obtain ⟨f,fd,F,m⟩:=T;have e:=hfa.symm.trans m;cases e
  obtain ⟨oc,od,kV,doc,pm,an,cdv,ct,osl,e1,lk,hcd⟩:=id F.ex;refine ⟨fd,λs u=>?_,λbase _ _=>h base _ _ F⟩;rw [e1];exact .of_eq (hb kV doc pm an cdv ct u)
end L2
namespace Bg
def fg(t b:Int):Int:=if b<0 then -((Int.gcd t b:Nat):Int) else ((Int.gcd t b:Nat):Int)
def fT(t b:Int):Int:=t.fdiv (fg t b)
def fB(t b:Int):Int:=b.fdiv (fg t b)
theorem GL(t b:Int):fg t b=gd t t b:=by
  have e:g3 t t b=Int.gcd t b:=by
    unfold g3;rw [c9 b t];have h:((Int.gcd t b:Nat):Int)∣t:=bH ..;rw [c9];have:=Int.gcd_eq_right_iff_dvd (a:=t) (b:=((Int.gcd t b:Nat):Int));rw [aY];rw [Nat.gcd_eq_right (bK.mpr h)];simp
  unfold fg gd;rw [e]
theorem KN(t b:Int):fT t b=lA t t b:=by unfold fT lA; rw [GL]
theorem Iy(t b:Int):fB t b=lN t t b:=by unfold fB lN; rw [GL]
variable {t:Int}
theorem f_b{b:Int}(h:b≠0):1<=fB t b:=by rw [Iy]; exact l_n h
theorem f_t{b:Int}:fT t b*b=t*fB t b:=by rw [KN,Iy]; exact l_a
theorem Mv{b:Int}(h:b≠0):Int.gcd (fT t b) (fB t b)=1:=by
  have:=xq (a:=t) (b:=t) (n:=b) h;rw [KN,Iy];unfold g3 at this;have e:lB t t b=lA t t b:=rfl;rw [e] at this;have d:((Int.gcd (lN t t b) (lA t t b):Nat):Int)∣lA t t b:=bM ..;rw [aY,Nat.gcd_eq_left (bK.mpr d),b8] at this;rw [c9];exact this
theorem Kc{b:Int}(h:b≠0):fg t b≠0:=by rw [GL]; exact Ju h
theorem LF{k:Nat}{b:Int}(h:b≠0)(hb:Bd k b):Bd k (fg t b):=by rw [GL]; exact Ir h hb
theorem HK(c x y z:Int):g3 (c*x) (c*y) (c*z)=c.natAbs*g3 x y z:=by
  unfold g3;rw [d7];have e1:((c.natAbs*Int.gcd z x:Nat):Int).gcd (c*y)=Int.gcd (c*(Int.gcd z x:Nat)) (c*y):=by
    rw [aY,aY];congr 1;rw [cB,b8,b8]
  rw [e1,d7]
variable {x y z:Int}
theorem Cp{d:Int}(hx:d∣x)(hy:d∣y)(hz:d∣z):d∣(g3 x y z:Int):=eM (eM hz hx) hy
variable {x' y' z':Int}
theorem DX(hg:g3 x y z=1)(hx:x*z'=x'*z)(hy:y*z'=y'*z):z∣z':=by
  have h1:z∣z'*x:=⟨x',by rw [ak z',hx,ak]⟩
  have h2:z∣z'*y:=⟨y',by rw [ak z',hy,ak]⟩
  have h3:z∣z'*z:=⟨z',by rw [ak]⟩
  have h:=Cp h1 h2 h3;rw [HK,hg,fN] at h;exact Int.dvd_natAbs.mp h
theorem Hi(h1:1<=z)(h2:1<=z')(g1:g3 x y z=1)(g2:g3 x' y' z'=1)(hx:x*z'=x'*z)(hy:y*z'=y'*z):x=x'/\y=y'/\z=z':=by
  have d1:z∣z':=DX g1 hx hy;have d2:z'∣z:=DX g2 hx.symm hy.symm;have e:z=z':=by
    have a1:=ij (by omega) d1;have a2:=ij (by omega) d2;omega
  subst e;exact ⟨ay (by omega) hx,ay (by omega) hy,rfl⟩
theorem zS{a b n:Int}(h1:1<=z)(g1:g3 x y z=1)(hn:n≠0)(hx:x*n=a*z)(hy:y*n=b*z):x=lA a b n/\y=lB a b n/\z=lN a b n:=by
  refine Hi h1 (l_n hn) g1 (xq hn) ?_ ?_
  . have e:=l_a (a:=a) (b:=b) (n:=n);refine ay hn ?_
    calc x*lN a b n*n=x*n*lN a b n:=by rw [am,ak (lN a b n),am]
      _=a*z*lN a b n:=by rw [hx]
      _=a*lN a b n*z:=by rw [am,ak z,am]
      _=lA a b n*n*z:=by rw [e]
      _=lA a b n*z*n:=by rw [am,ak n,am]
  . have e:=l_b (a:=a) (b:=b) (n:=n);refine ay hn ?_
    calc y*lN a b n*n=y*n*lN a b n:=by rw [am,ak (lN a b n),am]
      _=b*z*lN a b n:=by rw [hy]
      _=b*lN a b n*z:=by rw [am,ak z,am]
      _=lB a b n*n*z:=by rw [e]
      _=lB a b n*z*n:=by rw [am,ak n,am]
theorem Jr(h1:1<=z)(h2:1<=z')(g1:Int.gcd x z=1)(g2:Int.gcd x' z'=1)(hx:x*z'=x'*z):x=x'/\z=z':=by
  have k:∀ {a b:Int},Int.gcd a b=1->g3 a a b=1:=λ{a b} h=>by
    unfold g3;rw [c9 b a,h];simp
  have:=Hi h1 h2 (k g1) (k g2) hx hx;exact ⟨this.1,this.2.2⟩
theorem IT{k:Nat}(h:Bd k x):Bd k (x / y):=h.of_le (Int.natAbs_ediv_le_natAbs x y)
theorem Jj{k:Nat}(h:Bd k y)(hy:0<y):Bd k (x % y):=h.emod (by omega) x
theorem zG{k:Nat}{B:Int}(h0:0<=x)(h1:x<=B)(hB:B.natAbs<2 ^ k):Bd k x:=by
  unfold Bd;omega
theorem tN(k:Nat)(h0:-1000000<=x)(h1:x<=1000000)(hk:20<=k):Bd k x:=by
  have h:Bd 20 x:=by
    unfold Bd;have:(2:Nat) ^ 20=1048576:=by decide
    omega
  exact h.mono hk
theorem Ce(a b:Int):Int.gcd (if a<0 then -a else a) (if b<0 then -b else b)=Int.gcd a b:=by
  have e:∀ x:Int,(if x<0 then -x else x)=(x.natAbs:Int):=λx=>by split <;> omega
  rw [e,e,aY,aY,b8,b8]
end Bg
namespace L2
open PySem PySem.Spec PyProof.Rows Bg
variable {a l:Addr}{X:Cx}{g:TG}{t:TS}
section
variable {σ:St}{H:Hp}{Q:VK}{D:Ends}{K:iJ}
def tCut(t:TS):TS:=λD σ H=>∃ T:St->Hp->Prop,(∀ σ' H',T σ' H'->D.nx σ' H')/\t { D with nx:=T } σ H
theorem xp{st:Stmt}(h:PS X st t):PS X st (tCut t):=by
  intro pins s σ H D I hw;obtain ⟨T,hT,hw⟩:=hw;refine thn (h pins s σ H _ I hw) λf s' q=>?_;cases f with
  | next=>obtain ⟨σ',H',I',q⟩:=q; exact ⟨σ',H',I',hT _ _ q⟩
  | brk=>exact q
  | cont=>exact q
  | ret v=>exact q
theorem wS{T:St->Hp->Prop}(h:t { D with nx:=T } σ H)(hT:∀ σ' H',T σ' H'->D.nx σ' H'):tCut t D σ H:=⟨T,hT,h⟩
theorem zt{xs:List V}(hl:xs.length<=1000)(h:∀ p H2,Same H H2->H2 p=some (.tup xs)->Q (.ref p) H2):NewT xs H Q :=
  ⟨yW hl,λp hp=>h p _ (zC hp _) zj⟩
theorem wa{xs:List V}(hl:xs.length<=1000)(h:∀ p H2,Same H H2->H2 p=some (.lst xs)->Q (.ref p) H2):NewL xs H Q :=
  ⟨yW hl,λp hp=>h p _ (zC hp _) zj⟩
theorem zB{xs:List V}(hl:xs.length<=1000)(h:∀ p H2,H p=none->Same H H2->H2 p=some (.lst xs)->Q (.ref p) H2):NewL xs H Q :=
  ⟨yW hl,λp hp=>h p _ hp (zC hp _) zj⟩
theorem Ep{b:Addr}{xs zs:List V}(h1:H l=some (.lst xs))(h2:H b=some (.lst zs))(hz:xs.length+zs.length<=1000)(h:∀ p H2,Same H H2->H2 p=some (.lst (xs++zs))->Q (.ref p) H2):rCat (.ref l) (.ref b) H Q :=
  ⟨l,b,xs,zs,rfl,rfl,h1,h2,yW hz,λp hp=>h p _ (zC hp _) zj⟩
theorem Gr(ns:List Int)(lo hi:Option Int):∃ ms:List Int,cutV (ns.map V.int) lo hi=ms.map V.int/\(∀ x∈ms,x∈ns)/\ms.length<=ns.length:=by
  refine ⟨(ns.drop (HT.sIx (ns.map V.int).length 0 lo)).take (HT.sIx (ns.map V.int).length (ns.map V.int).length hi - HT.sIx (ns.map V.int).length 0 lo),?_,λx hx=>fF (aW hx),?_⟩
  . unfold cutV;rw [dS,fG]
  . rw [az,cQ];omega
theorem DQ{ns:List Int}{lo hi:Option Int}(hS:SqL K H a (ns.map V.int))(h:∀ (p:Addr) (H2:Hp) (ms:List Int),(∀ x∈ms,x∈ns)->ms.length<=ns.length->Same H H2->H2 p=some (.lst (ms.map V.int))->Q (.ref p) H2):rSlL K (.ref a) lo hi H Q:=by
  obtain ⟨ms,e,h1,h2⟩:=Gr ns lo hi;refine ⟨a,_,rfl,hS,λp hp=>?_⟩;rw [e];exact h p _ ms h1 h2 (zC hp _) zj
theorem i_sl{r:V->Option Int->Option Int->Hp->VK->Prop}{te:TE}{tl th:TO}(h:te σ H λx H1=>tl σ H1 λl H2=>th σ H2 λu H3=>r x l u H3 Q):tSl r te tl th σ H Q:=h
theorem F4{R:Option Int->Hp->Prop}(h:R none H):Ee σ H R:=h
theorem KQ{t:TE}{R:Option Int->Hp->Prop}(h:t σ H λx H1=>∃ i,x=.int i/\R (some i) H1):LQ t σ H R:=h
theorem Mq{k:Int}{R:Int->Prop}(h:R k):∃ k',V.int k=.int k'/\R k':=⟨k,rfl,h⟩
theorem yC{tl:TE}{tb:TS}(h:tl σ H λx H1=>∃ a,x=.ref a/\(∃ xs,SqL K H1 a xs)/\∃ W:Nat->Nat->St->Hp->Prop,(∃ m,W 0 m σ H1)/\∀ i m σ H,W i m σ H ->
  ((Itl K a).stop i H/\D.nx σ H)\/((Itl K a).go i H/\∃ N:St->Hp->Prop,(∀ σ' H',N σ' H'->∃ m',m'<m/\W (i+1) m' σ' H')/\∀ x H',(Itl K a).yld i H x H'->g x σ H' λσ2 H2=>tb { D with nx:=N,ct:=N,bk:=D.nx } σ2 H2)) :
  tFor (IH K tl) g tb D σ H:=h
end
def EqV(X:Cx)(n:Nat)(H:Hp)(x y:V)(b:Bool):Prop :=
  ∀ (pins:List (Addr×Obj)) (σ:St) (s:Shared) (v u:Value) (A:Around),Inv X pins σ H s->RelV x v->RelV y u->A.units+4*n<cLine->SeqAt.EqAt A s v u b
theorem EqV.int{X:Cx}{n:Nat}{H:Hp}(i j:Int):EqV X n H (.int i) (.int j) (i==j):=λ_ _ s v u A _ rv ru _=>by
  obtain ⟨t,rfl⟩:=rv;obtain ⟨t',rfl⟩:=ru;exact SeqAt.EqAt.int_int i t j t'
inductive EqVs(X:Cx)(n:Nat)(H:Hp):List V->List V->List Bool->Prop
  | nil:EqVs X n H [] [] []
  | cons {x y:V} {b:Bool} {xs ys:List V} {bs:List Bool}:EqV X n H x y b->EqVs X n H xs ys bs->EqVs X n H (x::xs) (y::ys) (b::bs)
theorem EqVs.at{X:Cx}{n:Nat}{H:Hp}:∀ {xs ys:List V} {bs:List Bool},EqVs X n H xs ys bs->∀ {j:Nat} {x y:V},xs[j]?=some x->ys[j]?=some y->EqV X n H x y (bs.getD j false)
  | _,_,_,.nil,j,x,y,h,_=>by simp at h
  | _,_,_,.cons e _,0,x,y,h1,h2=>by
    simp at h1 h2;subst h1; subst h2;exact e
  | _,_,_,.cons _ r,j+1,x,y,h1,h2=>by
    have:=EqVs.at r (j:=j) (x:=x) (y:=y) (by simpa using h1) (by simpa using h2);simpa using this
theorem EqVs.len{X:Cx}{n:Nat}{H:Hp}:∀ {xs ys:List V} {bs:List Bool},EqVs X n H xs ys bs->xs.length=bs.length/\ys.length=bs.length
  | _,_,_,.nil=>⟨rfl,rfl⟩
  | _,_,_,.cons _ r=>by
    have:=r.len;simp only [ax];omega
theorem tJ(bs:List Bool):((List.range bs.length).all λj=>bs.getD j false)=bs.all id:=by
  rw [cN];simp only [d8,b9,id];constructor
  . intro h b hb;obtain ⟨j,hj,e⟩:=List.mem_iff_getElem.mp hb;have:=h j hj;rw [du,ae hj] at this;rw [<-e];exact this
  . intro h j hj;rw [du,ae hj];exact h _ (cR hj)
variable {H:Hp}
theorem Ei{n:Nat}{b:Addr}{xs ys:List V}{bs:List Bool}{pins:List (Addr×Obj)}{σ:St}{s:Shared}{A:Around}(ha:SqT X.K H a xs)(hb:SqT X.K H b ys)(he:EqVs X n H xs ys bs)(I:Inv X pins σ H s)(hu:A.units+4*(n+1)<cLine) : ∃ (is js:Array Value),s.heap.IsTuple a is/\s.heap.IsTuple b js/\(∀ j (h1:j<is.size) (h2:j<js.size),SeqAt.EqAt A.in1 s is[j] js[j] (bs.getD j false))/\((List.range (min is.size js.size)).all (λj=>bs.getD j false) && is.size==js.size)=bs.all id:=by
  obtain ⟨is,r1,p1,_⟩:=I.tuple ha;obtain ⟨js,r2,p2,_⟩:=I.tuple hb;obtain ⟨l1,l2⟩:=he.len;have q1:=r1.length;have q2:=r2.length;refine ⟨is.toArray,js.toArray,(show s.heap.IsTuple a is.toArray from p1),(show s.heap.IsTuple b js.toArray from p2),λj h1 h2=>?_,?_⟩
  . have hj1:j<xs.length:=by rw [q1]; simpa using h1
    have hj2:j<ys.length:=by rw [q2]; simpa using h2
    obtain ⟨v,ev,rv⟩:=r1.get (ae hj1);obtain ⟨u,eu,ru⟩:=r2.get (ae hj2);have e1:is.toArray[j]=v:=by
      have:is[j]?=some v:=ev;rw [ae (by simpa using h1)] at this;simpa using aq this
    have e2:js.toArray[j]=u:=by
      have:js[j]?=some u:=eu;rw [ae (by simpa using h2)] at this;simpa using aq this
    rw [e1,e2];exact he.at (ae hj1) (ae hj2) pins σ s v u A.in1 I rv ru (by show A.units+1+4*n<cLine; omega)
  . have e1:is.toArray.size=bs.length:=by rw [aJ]; omega
    have e2:js.toArray.size=bs.length:=by rw [aJ]; omega
    rw [e1,e2,Nat.min_self,tJ];simp
theorem EqV.tup{X:Cx}{n:Nat}{H:Hp}{a b:Addr}{xs ys:List V}{bs:List Bool}(ha:SqT X.K H a xs)(hb:SqT X.K H b ys)(he:EqVs X n H xs ys bs)(hs:a=b->bs.all id=true):EqV X (n+1) H (.ref a) (.ref b) (bs.all id):=λpins σ s v u A I rv ru hu=>by
  cases rv
  cases ru
  by_cases hab:a=b
  . subst hab;rw [hs rfl];exact SeqAt.EqAt.same _
  . obtain ⟨is,js,p1,p2,hj,e⟩:=Ei ha hb he I hu;have:=SeqAt.RcAt.tuples (A:=A) (e:=λj=>bs.getD j false) p1 p2 (by omega) hj;rw [e] at this;exact SeqAt.EqAt.of_refs hab this
def rEqT(X:Cx):R2:=λx y H Q=>∃ a b xs ys bs n,x=.ref a/\y=.ref b/\n<=9/\SqT X.K H a xs/\SqT X.K H b ys/\EqVs X n H xs ys bs/\Q (.bl (bs.all id)) H
def rNeT(X:Cx):R2:=λx y H Q=>∃ a b xs ys bs n,x=.ref a/\y=.ref b/\n<=9/\SqT X.K H a xs/\SqT X.K H b ys/\EqVs X n H xs ys bs/\Q (.bl (!(bs.all id))) H
theorem J8(hu:X.A.units+64<cLine):OpR X (compareOp .Eq) (rEqT X):=by
  intro pins s σ H x y v u Q I rx ry h;obtain ⟨a,b,xs,ys,bs,n,rfl,rfl,hn,ha,hb,he,q⟩:=h;cases rx
  cases ry
  obtain ⟨is,js,p1,p2,hj,e⟩:=Ei (A:=X.A) ha hb he I (by omega);refine SeqAt.eq_tupleAt p1 p2 (by omega) hj ?_;rw [e];exact ⟨.bl _,H,I,rfl,q⟩
theorem Cb(hu:X.A.units+64<cLine):OpR X (compareOp .NotEq) (rNeT X):=by
  intro pins s σ H x y v u Q I rx ry h;obtain ⟨a,b,xs,ys,bs,n,rfl,rfl,hn,ha,hb,he,q⟩:=h;cases rx
  cases ry
  obtain ⟨is,js,p1,p2,hj,e⟩:=Ei (A:=X.A) ha hb he I (by omega);refine SeqAt.RcNeAt.tuples p1 p2 (by omega) hj X.prog X.w X.xe _ ?_;rw [e];exact ⟨.bl _,H,I,rfl,q⟩
variable {x x' y y' z z':Int}
theorem L1{Q:VK}{b:Addr}(ha:H a=some (.tup [.int x,.int y,.int z]))(hb:H b=some (.tup [.int x',.int y',.int z']))(q:Q (.bl (decide (x=x'/\y=y'/\z=z'))) H):rEqT X (.ref a) (.ref b) H Q:=by
  refine ⟨a,b,_,_,_,0,rfl,rfl,cI _,SqT.of ha,SqT.of hb,.cons (.int x x') (.cons (.int y y') (.cons (.int z z') .nil)),?_⟩;have e:([x==x',y==y',z==z']:List Bool).all id=decide (x=x'/\y=y'/\z=z'):=by
    rw [cN];simp
  rw [e];exact q
theorem MJ{Q:VK}{b:Addr}(ha:H a=some (.tup [.int x,.int y,.int z]))(hb:H b=some (.tup [.int x',.int y',.int z']))(q:Q (.bl (!decide (x=x'/\y=y'/\z=z'))) H):rNeT X (.ref a) (.ref b) H Q:=by
  refine ⟨a,b,_,_,_,0,rfl,rfl,cI _,SqT.of ha,SqT.of hb,.cons (.int x x') (.cons (.int y y') (.cons (.int z z') .nil)),?_⟩;have e:([x==x',y==y',z==z']:List Bool).all id=decide (x=x'/\y=y'/\z=z'):=by
    rw [cN];simp
  rw [e];exact q
theorem MB{Q:VK}{b:Addr}(ha:H a=some (.tup [.int x,.int z]))(hb:H b=some (.tup [.int x',.int z']))(q:Q (.bl (!decide (x=x'/\z=z'))) H):rNeT X (.ref a) (.ref b) H Q:=by
  refine ⟨a,b,_,_,_,0,rfl,rfl,cI _,SqT.of ha,SqT.of hb,.cons (.int x x') (.cons (.int z z') .nil),?_⟩;have e:([x==x',z==z']:List Bool).all id=decide (x=x'/\z=z'):=by
    rw [cN];simp
  rw [e];exact q
theorem eqv3{b:Addr}(ha:H a=some (.tup [.int x,.int y,.int z]))(hb:H b=some (.tup [.int x,.int y,.int z])):EqV X 1 H (.ref a) (.ref b) true:=by
  have e:([x==x,y==y,z==z]:List Bool).all id=true:=by simp
  have:=EqV.tup (X:=X) (n:=0) (SqT.of ha) (SqT.of hb) (.cons (.int x x) (.cons (.int y y) (.cons (.int z z) .nil))) (λ_=>e);rw [e] at this;exact this
def SameX(l:Addr)(H H':Hp):Prop:=∀ b o,H b=some o->b≠l->H' b=some o
theorem Same.sameX{H':Hp}(s:Same H H')(l:Addr):SameX l H H':=λb o e _=>s b o e
theorem SameX.trans{H1 H2:Hp}(a:SameX l H H1)(b:SameX l H1 H2):SameX l H H2:=λc o e n=>b c o (a c o e n) n
theorem SameX.tup{l p:Addr}{H H':Hp}{xs ys:List V}(s:SameX l H H')(h:H p=some (.tup xs))(hl:H l=some (.lst ys)):H' p=some (.tup xs):=s _ _ h (zX h hl (λz=>nomatch z))
section
variable {σ:St}{H:Hp}{Q:VK}{D:Ends}{K:iJ}
theorem zr{xs:List V}{y:V}(h:H l=some (.lst xs))(hz:xs.length<1000)(q:∀ H2,SameX l H H2->H2 l=some (.lst (xs++[y]))->Q .non H2):z7 (.ref l) [y] H Q :=
  ⟨l,xs,y,rfl,rfl,h,aN hz (yW (ag _)),q _ (λb o e n=>by rw [zn n]; exact e) zj⟩
theorem i_bm{T:String}{r:V->List V->Hp->VK->Prop}{to:TE}{t:TA}(h:to σ H λx H1=>tyV K T x H1/\t σ H1 λxs H2=>r x xs H2 Q):tBM K T r to t σ H Q:=h
theorem MU{xs:List V}{R:Prop}(h:H l=some (.lst xs))(q:R):tyV K "list" (.ref l) H/\R:=⟨.inl ⟨rfl,_,SqL.of h⟩,q⟩
theorem wJ{ta:TA}{tb:TS}(h:ta σ H λvs H1=>∃ j:Int,vs=[.int j]/\-(2 ^ 62)<=j/\j<2 ^ 62/\∃ W:Nat->Nat->St->Hp->Prop,(∃ m,W 0 m σ H1)/\∀ i m σ H,W i m σ H ->
  ((Itr 0 j.toNat).stop i H/\D.nx σ H)\/((Itr 0 j.toNat).go i H/\∃ N:St->Hp->Prop,(∀ σ' H',N σ' H'->∃ m',m'<m/\W (i+1) m' σ' H')/\∀ x H',(Itr 0 j.toNat).yld i H x H'->g x σ H' λσ2 H2=>tb { D with nx:=N,ct:=N,bk:=D.nx } σ2 H2)) :
  tFor (Jf ta) g tb D σ H:=h
end
end L2
namespace Bg
local macro_rules | `(!4)=>`(by omega)
structure Rt(d:Int):Prop where
  lo:2<=d
  hi:d<=99
  ns:∀ k:Nat,((k*k:Nat):Int)≠d
variable {d:Int}
theorem ME(h:2<=d/\d<=99)(n:d≠4/\d≠9/\d≠16/\d≠25/\d≠36/\d≠49/\d≠64/\d≠81):Rt d:=by
  refine ⟨h.1,h.2,λk e=>?_⟩;have hk:k<10:=by
    refine Nat.lt_of_not_le λz=>?_;have:10*10<=k*k:=Nat.mul_le_mul z z;omega
  have:k=0\/k=1\/k=2\/k=3\/k=4\/k=5\/k=6\/k=7\/k=8\/k=9:=by omega
  rcases this with q|q|q|q|q|q|q|q|q|q <;> subst q <;> omega
theorem irrN{D A B:Nat}(ns:∀ k:Nat,k*k≠D)(e:A*A=D*B*B):B=0:=by
  rcases Nat.eq_zero_or_pos B with z|hB
  . exact z
  exfalso;have hg:0<Nat.gcd A B:=Nat.gcd_pos_of_pos_right A hB;have hc:=Nat.coprime_div_gcd_div_gcd hg;obtain ⟨a,ha⟩:=Nat.gcd_dvd_left A B;obtain ⟨b,hb⟩:=Nat.gcd_dvd_right A B;have ea:A / Nat.gcd A B=a:=by rw [fR hg (Nat.gcd_dvd_left A B)]; exact ha
  have eb:B / Nat.gcd A B=b:=by rw [fR hg (Nat.gcd_dvd_right A B)]; exact hb
  rw [ea,eb] at hc;generalize Nat.gcd A B=g at *
  have e2:a*a=D*b*b:=by
    have h1:g*g*(a*a)=g*g*(D*b*b):=by
      rw [ha,hb] at e
      calc g*g*(a*a)=g*a*(g*a):=by simp only [ik,Nat.mul_left_comm]
        _=D*(g*b)*(g*b):=e
        _=g*g*(D*b*b):=by simp only [ik,Nat.mul_left_comm]
    exact dB (Nat.mul_pos hg hg) h1
  have d1:b∣a*a:=⟨D*b,by rw [e2,Nat.mul_comm b]⟩
  have d2:b∣a:=hc.symm.dvd_of_dvd_mul_left d1;have d3:b=1:=by
    have:b∣Nat.gcd a b:=Nat.dvd_gcd d2 (Nat.dvd_refl b);rw [show Nat.gcd a b=1 from hc] at this;exact Nat.dvd_one.mp this
  rw [d3,fN,fN] at e2;exact ns a e2
variable {a:Int}
theorem irr{b:Int}(h:Rt d)(e:a*a=d*b*b):b=0:=by
  have hd:(d.toNat:Int)=d:=Int.toNat_of_nonneg (by have:=h.lo; omega);have:=irrN (D:=d.toNat) (A:=a.natAbs) (B:=b.natAbs) (λk q=>h.ns k (by rw [q]; exact hd)) (by
    have h1:((a.natAbs*a.natAbs:Nat):Int)=((d.toNat*b.natAbs*b.natAbs:Nat):Int):=by
      have ea:((a.natAbs*a.natAbs:Nat):Int)=a*a:=Int.natAbs_mul_self;have eb:((b.natAbs*b.natAbs:Nat):Int)=b*b:=Int.natAbs_mul_self;rw [ea,ik,Int.natCast_mul,eb,hd,<-am];exact e
    exact eP h1)
  omega
def sgn(d a b:Int):Int:=if 0<=a/\0<=b then (if 0<a+b then 1 else 0) else if a<=0/\b<=0 then -1 else if 0<a then (if d*b*b<a*a then 1 else -1) else (if a*a<d*b*b then 1 else -1)
theorem Ac{b:Int}(h:b≠0):0<b*b:=by
  rcases Int.lt_or_gt_of_ne h with q|q
  . exact d6 q q
  . exact aI q q
theorem Jg{b:Int}(h:2<=d)(hb:b≠0):0<d*b*b:=by rw [am]; exact aI (!4) (Ac hb)
def nrm(d a b:Int):Int:=a*a - d*b*b
theorem Ci{b:Int}(h:Rt d)(e:nrm d a b=0):a=0/\b=0:=by
  unfold nrm at e;have hb:=irr (a:=a) (b:=b) h (!4);subst hb;rw [bU] at e;refine ⟨?_,rfl⟩;rcases Int.lt_trichotomy a 0 with q|q|q
  . have:=d6 q q; omega
  . exact q
  . have:=aI q q; omega
def sg(x:Int):Int:=if 0<x then 1 else if x<0 then -1 else 0
theorem y6{b:Int}(h:Rt d)(n:0<nrm d a b):sgn d a b=sg a:=by
  unfold nrm at n;have ha:a≠0:=λz=>by
    subst z;by_cases hb:b=0
    . subst hb; simp at n
    . have:=Jg h.lo hb;omega
  unfold sgn sg
  repeat' split
  all_goals omega
theorem yx{b:Int}(h:Rt d)(n:nrm d a b<0):sgn d a b=sg b:=by
  unfold nrm at n;have hb:b≠0:=λz=>by
    subst z;rw [bU] at n;by_cases ha:a=0
    . subst ha; simp at n
    . have:=Ac ha;omega
  unfold sgn sg
  repeat' split
  all_goals omega
theorem zQ(d:Int):sgn d 0 0=0:=by simp [sgn]
theorem nrm_tri{b:Int}(h:Rt d):(0<nrm d a b)\/(nrm d a b<0)\/(a=0/\b=0):=by
  rcases Int.lt_trichotomy (nrm d a b) 0 with q|q|q
  . exact .inr (.inl q)
  . exact .inr (.inr (Ci h q))
  . exact .inl q
theorem GV(x:Int):sg (-x)=- sg x:=by unfold sg; repeat' split <;> omega
theorem DH(d a b:Int):nrm d (-a) (-b)=nrm d a b:=by unfold nrm; rw [cq,am,cq,<-am]
theorem xT(h:Rt d)(a b:Int):sgn d (-a) (-b)=- sgn d a b:=by
  rcases nrm_tri (a:=a) (b:=b) h with q|q|⟨rfl,rfl⟩
  . rw [y6 h q,y6 h (by rw [DH]; exact q),GV]
  . rw [yx h q,yx h (by rw [DH]; exact q),GV]
  . rfl
theorem sg_cases(x:Int):(0<x/\sg x=1)\/(x<0/\sg x=-1)\/(x=0/\sg x=0):=by unfold sg; repeat' split <;> omega
theorem uD{k:Int}(hk:0<k)(x:Int):sg (k*x)=sg x:=by
  rcases sg_cases x with ⟨q,e⟩|⟨q,e⟩|⟨q,e⟩
  . have:=aI hk q;rw [e]; unfold sg; rw [io this]
  . have:=dC hk q;rw [e]; unfold sg; rw [ip (!4),io this]
  . subst q; simp
theorem Dw(d k a b:Int):nrm d (k*a) (k*b)=k*k*nrm d a b:=by
  unfold nrm;rw [ei];congr 1
  . simp only [am,bG]
  . simp only [am,bG,ak d]
theorem yl{k:Int}(h:Rt d)(hk:0<k)(a b:Int):sgn d (k*a) (k*b)=sgn d a b:=by
  have kk:0<k*k:=aI hk hk;rcases nrm_tri (a:=a) (b:=b) h with q|q|⟨rfl,rfl⟩
  . rw [y6 h q,y6 h (by rw [Dw]; exact aI kk q),uD hk]
  . rw [yx h q,yx h (by rw [Dw]; exact dC kk q),uD hk]
  . simp
variable {a' b':Int}
theorem wv{k m b:Int}(h:Rt d)(hk:0<k)(hm:0<m)(ea:k*a=m*a')(eb:k*b=m*b'):sgn d a b=sgn d a' b':=by
  rw [<-yl h hk a b,<-yl h hm a' b',ea,eb]
theorem F7(d a b a' b':Int):nrm d (a*a'+d*b*b') (a*b'+b*a')=nrm d a b*nrm d a' b':=by
  unfold nrm;simp only [Int.mul_add,Int.add_mul,ei,h9];have e1:a*a'*(a*a')=a*a*(a'*a'):=by simp only [am,bG]
  have e2:d*b*b'*(d*b*b')=d*b*b*(d*b'*b'):=by simp only [am,bG]
  have e3:d*(a*b')*(a*b')=a*a*(d*b'*b'):=by simp only [am,bG]
  have e4:d*(b*a')*(b*a')=d*b*b*(a'*a'):=by simp only [am,bG,ak]
  have e5:d*b*b'*(a*a')=d*(b*a')*(a*b'):=by simp only [am,bG,ak]
  have e6:a*a'*(d*b*b')=d*(a*b')*(b*a'):=by simp only [am,bG,ak]
  omega
theorem wD{x y:Int}(hx:0<x)(h:y*y<x*x):-x<y/\y<x:=by
  constructor
  . refine fD λz=>?_;have:x*x<=(-y)*(-y):=dI (!4) (!4) (!4) (!4);rw [cq] at this;omega
  . refine fD λz=>?_;have:x*x<=y*y:=dI z z (!4) (!4);omega
theorem xn{p q r s:Int}(h1:p<q)(h2:r<s)(hp:0<=p)(hr:0<=r):p*r<q*s:=by
  have a1:p*r<=p*s:=dH (!4) hp;have a2:p*s<q*s:=Int.mul_lt_mul_of_pos_right h1 (!4);omega
theorem uO(x:Int):0<=x*x:=by
  by_cases h:x=0
  . subst h; simp
  . exact Int.le_of_lt (Ac h)
theorem AC(h:2<=d)(x:Int):0<=d*x*x:=by rw [am]; exact gi (!4) (uO x)
theorem CM{b:Int}(h:Rt d)(h1:sgn d a b=1)(h2:sgn d a' b'=1):sgn d (a*a'+d*b*b') (a*b'+b*a')=1:=by
  have hd:=h.lo;have np:=F7 d a b a' b';rcases nrm_tri (a:=a) (b:=b) h with q|q|⟨rfl,rfl⟩
  . have sa:0<a:=by rw [y6 h q] at h1; unfold sg at h1; split at h1 <;> omega
    rcases nrm_tri (a:=a') (b:=b') h with q' | q' | ⟨rfl,rfl⟩
    . have sa':0<a':=by rw [y6 h q'] at h2; unfold sg at h2; split at h2 <;> omega
      have n:0<nrm d (a*a'+d*b*b') (a*b'+b*a'):=by rw [np]; exact aI q q'
      rw [y6 h n];unfold nrm at q q';have k:=xn (p:=d*b*b) (q:=a*a) (r:=d*b'*b') (s:=a'*a') (!4) (!4) (AC hd b) (AC hd b');have e1:d*b*b*(d*b'*b')=(d*b*b')*(d*b*b'):=by simp only [am,bG]
      have e2:a*a*(a'*a')=a*a'*(a*a'):=by simp only [am,bG]
      rw [e1,e2] at k;have:=(wD (aI sa sa') k).1;unfold sg;rw [io (!4)]
    . have sb':0<b':=by rw [yx h q'] at h2; unfold sg at h2; split at h2 <;> omega
      have n:nrm d (a*a'+d*b*b') (a*b'+b*a')<0:=by rw [np]; exact dC q q'
      rw [yx h n];unfold nrm at q q';have k:=xn (p:=d*b*b) (q:=a*a) (r:=a'*a') (s:=d*b'*b') (!4) (!4) (AC hd b) (uO a');have e1:d*b*b*(a'*a')=d*(b*a'*(b*a')):=by simp only [am,bG]
      have e2:a*a*(d*b'*b')=d*(a*b'*(a*b')):=by simp only [am,bG]
      rw [e1,e2] at k;have k':=gj k (!4);have:=(wD (aI sa sb') k').1;unfold sg;rw [io (!4)]
    . rw [zQ] at h2; omega
  . have sb:0<b:=by rw [yx h q] at h1; unfold sg at h1; split at h1 <;> omega
    rcases nrm_tri (a:=a') (b:=b') h with q' | q' | ⟨rfl,rfl⟩
    . have sa':0<a':=by rw [y6 h q'] at h2; unfold sg at h2; split at h2 <;> omega
      have n:nrm d (a*a'+d*b*b') (a*b'+b*a')<0:=by rw [np]; exact Int.mul_neg_of_neg_of_pos q q'
      rw [yx h n];unfold nrm at q q';have k:=xn (p:=a*a) (q:=d*b*b) (r:=d*b'*b') (s:=a'*a') (!4) (!4) (uO a) (AC hd b');have e1:a*a*(d*b'*b')=d*(a*b'*(a*b')):=by simp only [am,bG]
      have e2:d*b*b*(a'*a')=d*(b*a'*(b*a')):=by simp only [am,bG]
      rw [e1,e2] at k;have k':=gj k (!4);have:=(wD (aI sb sa') k').1;unfold sg;rw [io (!4)]
    . have sb':0<b':=by rw [yx h q'] at h2; unfold sg at h2; split at h2 <;> omega
      have n:0<nrm d (a*a'+d*b*b') (a*b'+b*a'):=by rw [np]; exact d6 q q'
      rw [y6 h n];unfold nrm at q q';have k:=xn (p:=a*a) (q:=d*b*b) (r:=a'*a') (s:=d*b'*b') (!4) (!4) (uO a) (uO a');have e1:a*a*(a'*a')=a*a'*(a*a'):=by simp only [am,bG]
      have e2:d*b*b*(d*b'*b')=(d*b*b')*(d*b*b'):=by simp only [am,bG]
      rw [e1,e2] at k;have:=(wD (aI (aI (!4) sb) sb') k).1;unfold sg;rw [io (!4)]
    . rw [zQ] at h2; omega
  . rw [zQ] at h1; omega
theorem sgn_tri(h:Rt d)(a b:Int):sgn d a b=1\/sgn d a b=-1\/(a=0/\b=0):=by
  rcases nrm_tri (a:=a) (b:=b) h with q|q|q
  . have ha:a≠0:=λz=>by
      subst z;unfold nrm at q;have:=AC h.lo b;omega
    rw [y6 h q];rcases sg_cases a with ⟨_,e⟩|⟨_,e⟩|⟨e,_⟩
    . exact .inl e
    . exact .inr (.inl e)
    . exact absurd e ha
  . have hb:b≠0:=λz=>by
      subst z;unfold nrm at q;rw [bU] at q;have:=uO a;omega
    rw [yx h q];rcases sg_cases b with ⟨_,e⟩|⟨_,e⟩|⟨e,_⟩
    . exact .inl e
    . exact .inr (.inl e)
    . exact absurd e hb
  . exact .inr (.inr q)
theorem vm{b:Int}(h:Rt d):sgn d (a*a'+d*b*b') (a*b'+b*a')=sgn d a b*sgn d a' b':=by
  have neg1:∀ a b,sgn d a b=-1->sgn d (-a) (-b)=1:=λa b e=>by rw [xT h,e]; rfl
  rcases sgn_tri h a b with p|p|⟨rfl,rfl⟩
  . rcases sgn_tri h a' b' with q | q | ⟨rfl,rfl⟩
    . rw [CM h p q,p,q]; rfl
    . have:=CM h p (neg1 _ _ q);have e1:a*-a'+d*b*-b'=-(a*a'+d*b*b'):=by rw [gF,gF,ib]
      have e2:a*-b'+b*-a'=-(a*b'+b*a'):=by rw [gF,gF,ib]
      rw [e1,e2,xT h] at this;rw [p,q]; omega
    . simp [zQ]
  . rcases sgn_tri h a' b' with q | q | ⟨rfl,rfl⟩
    . have:=CM h (neg1 _ _ p) q;have e1:-a*a'+d*-b*b'=-(a*a'+d*b*b'):=by rw [dD,gF,dD,ib]
      have e2:-a*b'+-b*a'=-(a*b'+b*a'):=by rw [dD,dD,ib]
      rw [e1,e2,xT h] at this;rw [p,q]; omega
    . have:=CM h (neg1 _ _ p) (neg1 _ _ q);have e1:-a*-a'+d*-b*-b'=a*a'+d*b*b':=by rw [cq,am d,cq,<-am]
      have e2:-a*-b'+-b*-a'=a*b'+b*a':=by rw [cq,cq]
      rw [e1,e2] at this;rw [this,p,q]; rfl
    . simp [zQ]
  . simp [zQ]
theorem w8{b:Int}(h:0<=a)(k:0<=b):sgn d a b=if 0<a+b then 1 else 0:=by unfold sgn; rw [io ⟨h,k⟩]
theorem Ae{b:Int}(n:¬ (0<=a/\0<=b))(h:a<=0)(k:b<=0):sgn d a b=-1:=by unfold sgn; rw [ip n,io ⟨h,k⟩]
theorem AE{b:Int}(h:0<a)(k:b<0):sgn d a b=if d*b*b<a*a then 1 else -1:=by unfold sgn; rw [ip (!4),ip (!4),io h]
theorem Ct{b:Int}(h:a<0)(k:0<b):sgn d a b=if a*a<d*b*b then 1 else -1:=by unfold sgn; rw [ip (!4),ip (!4),ip (!4)]
end Bg
namespace L2
open PySem PySem.Spec PyProof.Rows Bg
theorem xR(env:Env):∀ (names:List (Str×NameKind)) (acc:List (Str×Addr)),(∀ y∈names,y.2=.free->∃ c,env.cells.lookup y.1=some c)->(∀ x c,acc.lookup x=some c->env.cells.lookup x=some c) -> ∃ cl, (forIn names acc (fun (x : Str × NameKind) (r : List (Str × Addr)) => if (x.snd == NameKind.free) = true then do
                  let a <-cellOf env x.fst
                  pure (ForInStep.yield ((x.fst,a)::r))
                else pure (ForInStep.yield r)):Sem (List (Str×Addr)))=pure cl/\(∀ x c,cl.lookup x=some c->env.cells.lookup x=some c) /\
      ∀ x,((∃ c,acc.lookup x=some c)\/∃ y∈names,y.1=x/\y.2=.free)->∃ c,cl.lookup x=some c
  | [],acc,_,ha=>⟨acc,rfl,ha,λx h=>by
      rcases h with h|⟨y,hy,_⟩
      . exact h
      . simp at hy⟩
  | y::r,acc,hn,ha=>by
    by_cases hf:y.2=.free
    . obtain ⟨c,hc⟩:=hn y aG hf;obtain ⟨cl,e,h1,h2⟩:=xR env r ((y.1,c)::acc) (λz hz=>hn z (aB _ hz)) (λx d hx=>by
        rw [cS] at hx;split at hx
        . rename_i q;have q':x=y.1:=by simpa using q
          rw [q',hc]; exact hx
        . exact ha x d hx)
      refine ⟨cl,?_,h1,λx h=>h2 x ?_⟩
      . rw [List.forIn_cons,io (by rw [hf]; rfl)];unfold cellOf;rw [hc];exact e
      . by_cases q:x=y.1
        . exact .inl ⟨c,by rw [cS,q]; simp⟩
        . rcases h with ⟨d,hd⟩ | ⟨z,hz,e1,e2⟩
          . exact .inl ⟨d,by
              rw [cS];have:(x==y.1)=false:=by simpa using q
              rw [this]; exact hd⟩
          . rcases a7.mp hz with e3 | e3
            . subst e3; exact absurd e1.symm q
            . exact .inr ⟨z,e3,e1,e2⟩
    . obtain ⟨cl,e,h1,h2⟩:=xR env r acc (λz hz=>hn z (aB _ hz)) ha;refine ⟨cl,?_,h1,λx h=>h2 x ?_⟩
      . rw [List.forIn_cons,ip (by simpa using hf)];exact e
      . rcases h with h | ⟨z,hz,e1,e2⟩
        . exact .inl h
        . rcases a7.mp hz with e3 | e3
          . subst e3; exact absurd e2 hf
          . exact .inr ⟨z,e3,e1,e2⟩
variable {scope:Scope}
theorem CU{env:Env}(h:∀ y∈scope.names,y.2=.free->∃ c,env.cells.lookup y.1=some c) : ∃ cl,closureFor scope env=pure cl/\(∀ x c,cl.lookup x=some c->env.cells.lookup x=some c)/\∀ y∈scope.names,y.2=.free->∃ c,cl.lookup y.1=some c:=by
  obtain ⟨cl,e,h1,h2⟩:=xR env scope.names [] h (λx c q=>by simp at q);refine ⟨cl,?_,h1,λy hy hf=>h2 y.1 (.inr ⟨y,hy,rfl,hf⟩)⟩;exact congrArg (λz:Sem (List (Str×Addr))=>z >>= λcs=>pure cs) e
variable {elt iter:Expr}{ifs:List Expr}{pos:Pos}
section
variable {prog:Program}{w:World}{A:Around}{R:Result->Shared->Prop}{s:Shared}
abbrev NoX:Value->Shared->Prop:=λ_ _=>False
theorem xV{target:Expr}{it acc:Value}{env:Env}(I:Nat->Shared->Prop)(turn:∀ n s,I n s->wpAny (model prog w) A (pyNext it) (λr s₁=>match r with
      | none=>R (.ok .next) s₁
      | some v=>wpAny (model prog w) A (letOwnedTupleGo target it v) (λ_ s₁'=>wpAny (model prog w) A (assign target env v) (λ_ s₂ =>
          wpAny (model prog w) A (forIn ifs true λc r=>if r=true then do let ok <-isTrue c env (eval c env); pure (ForInStep.yield ok) else pure (ForInStep.yield r)) (λok s₃ =>
            if ok=true then wpAny (model prog w) A (eval elt env) (λx s₄ =>
              wpAny (model prog w) A (call (.builtin "list.append") [acc,x]) (λ_ s₅=>∃ m,m<n/\I m s₅) NoX s₄) NoX s₃
            else ∃ m,m<n/\I m s₃) NoX s₂) NoX s₁') NoX s₁) NoX s)(n:Nat)(h:I n s) :
    codeAny (model prog w) A (.compLoop (.ListComp elt [⟨target,iter,ifs,0⟩] scope pos) 0 it acc env) R s:=by
  refine codeAny_loop rfl I (λn s hI=>?_) n h;show wpAny _ A ((compTurn (.ListComp elt [⟨target,iter,ifs,0⟩] scope pos) 0 it acc env).onRaise (λx=>do noteFrame x env; theTreesLotGoes x)) _ _ s;refine wpAny_noted ?_;rw [compTurn_list];refine ix (iz (ix (iq (turn n s hI) (λr s₁ h₁=>?_) λ_ _ h'=>h'.elim)));cases r with
  | none=>exact iA h₁
  | some v =>
    refine ix (iq h₁ (λ_ s₁' h₁'=>?_) λ_ _ h'=>h'.elim);refine ix (iq h₁' (λ_ s₂ h₂=>ix (iq h₂ (λok s₃ h₃=>?_) λ_ _ h'=>h'.elim)) λ_ _ h'=>h'.elim);cases ok with
    | false=>exact iA ⟨rfl,h₃⟩
    | true =>
      exact ix (ix (iq h₃ (λx s₄ h₄=>ix (iq h₄ (λ_ s₅ h₅=>iA (iA ⟨rfl,h₅⟩)) λ_ _ h'=>h'.elim)) λ_ _ h'=>h'.elim))
end
theorem yO{env:Env}(hk:env.scope.kind=.function):∀ {names:List (Str×NameKind)} {x:Str},names.lookup x=some .free->env.kindOf x=some .cell -> (names.map λ(n,k)=>if (k==NameKind.free && env.scope.kind==.function && env.kindOf n==some .cell) then (n,NameKind.cell) else (n,k)).lookup x=some .cell
  | [],_,h,_=>by simp at h
  | (n,k)::r,x,h,he=>by
    have ih:=@yO env hk r x;show List.lookup x ((if (k==NameKind.free && env.scope.kind==.function && env.kindOf n==some .cell)=true then (n,NameKind.cell) else (n,k))::_)=_;cases hx:x==n with
    | true =>
      simp only [cS,hx] at h;cases h
      have hxn:x=n:=by simpa using hx
      subst hxn;have hc:(NameKind.free==NameKind.free && env.scope.kind==.function && env.kindOf x==some .cell)=true:=by rw [hk,he]; rfl
      rw [io hc];simp [cS]
    | false =>
      simp only [cS,hx] at h;by_cases hc:(k==NameKind.free && env.scope.kind==.function && env.kindOf n==some .cell)=true
      . rw [io hc]; simp only [cS,hx]; exact ih h he
      . rw [ip hc]; simp only [cS,hx]; exact ih h he
theorem ux{env:Env}:∀ {names:List (Str×NameKind)} {x:Str} {k:NameKind},(∀ y∈names,y.2≠.cell)->(k=.cell\/k=.free) -> (names.map λ(n,k)=>if (k==NameKind.free && env.scope.kind==.function && env.kindOf n==some .cell) then (n,NameKind.cell) else (n,k)).lookup x=some k->∃ y∈names,y.1=x/\y.2=.free
  | [],_,_,_,_,h=>by simp at h
  | (n,k)::r,x,k',hn,hk,h=>by
    have h':List.lookup x ((if (k==NameKind.free && env.scope.kind==.function && env.kindOf n==some .cell)=true then (n,NameKind.cell) else (n,k))::_)=some k':=h;have ih:=@ux env r x k' (λy hy=>hn y (aB _ hy)) hk;have kn:k≠.cell:=hn (n,k) aG;by_cases hc:(k==NameKind.free && env.scope.kind==.function && env.kindOf n==some .cell)=true
    . rw [io hc,cS] at h';have kf:k=.free:=by
        rw [dg,dg] at hc;simpa using hc.1.1
      cases hx:x==n with
      | true =>
        have hxn:x=n:=by simpa using hx
        exact ⟨(n,k),aG,hxn.symm,kf⟩
      | false =>
        rw [hx] at h';obtain ⟨y,hy,q⟩:=ih h';exact ⟨y,aB _ hy,q⟩
    . rw [ip hc,cS] at h';cases hx:x==n with
      | true =>
        have hxn:x=n:=by simpa using hx
        rw [hx] at h';have e:k=k':=aq h';refine ⟨(n,k),aG,hxn.symm,?_⟩;rcases hk with q|q
        . exact absurd (e.trans q) kn
        . exact e.trans q
      | false =>
        rw [hx] at h';obtain ⟨y,hy,q⟩:=ih h';exact ⟨y,aB _ hy,q⟩
variable {ns:List (Str×NameKind)}
theorem Be(h:(scope.names.all λy=>y.2 != .free || ns.lookup y.1==some .cell)=true):∀ y∈scope.names,y.2=.free->ns.lookup y.1=some .cell:=λy hy hf=>by
  have:=d8.mp h y hy;rw [hf] at this;simpa using this
variable {js:List Nat}
theorem IU{N:List Str}(h:(js.all λj=>scope.names.lookup (N.getD j Str.empty)==some .free && ns.lookup (N.getD j Str.empty)==some .cell)=true):∀ j∈js,scope.names.lookup (N.getD j Str.empty)=some .free/\ns.lookup (N.getD j Str.empty)=some .cell:=λj hj=>by
  have:=d8.mp h j hj;rw [dg] at this;exact ⟨eq_of_beq this.1,eq_of_beq this.2⟩
theorem Bi(h:(scope.names.all λy=>y.2 != .cell)=true):∀ y∈scope.names,y.2≠.cell:=λy hy=>by
  have:=d8.mp h y hy;simpa using this
theorem uW(h:(scope.names.all λy=>y.2 != .local || scope.names.lookup y.1==some .local)=true):∀ y∈scope.names,y.2=.local->scope.names.lookup y.1=some .local:=λy hy hf=>by
  have:=d8.mp h y hy;rw [hf] at this;simpa using this
def uj(n:Nat)(js:List Nat)(σ:St):St:=List.replicate n none++js.map λj=>(σ[j]?).join
def zV(X:Cx)(scope:Scope)(cl:List (Str×Addr))(own:List Str)(js:List Nat)(fp:List Addr)(C:Addr)(s3:Shared)(H3:Hp):Cx :=
  { X with N:=own++js.map (λj=>X.N.getD j Str.empty),s₀:=s3,H₀:=H3,env:=compEnvC scope cl C X.env,outer:=X.stack,ex:=fp,fn:=λ_=>false,pn:=[],xe:=λ_ _=>False }
def PIfs(X:Cx)(ifs:List Expr)(t:TT):Prop:=∀ (pins:List (Addr×Obj)) (s:Shared) (σ:St) (H:Hp) (Q:Bool->Hp->Prop),Inv X pins σ H s->t σ H Q ->
  wpAny (model X.prog X.w) X.A (forIn ifs true λc r=>if r=true then do let ok <-isTrue c X.env (eval c X.env); pure (ForInStep.yield ok) else pure (ForInStep.yield r)) (TP X pins σ Q) X.xe s
def tAll:TT:=λ_ H B=>B true H
variable {X:Cx}
theorem zL:PIfs X [] tAll:=λ_ _ _ H _ I h=>wpAny_tests_nil ⟨H,I,h⟩
theorem GR{c:Expr}{t:TT}(h:PT X c t):PIfs X [c] t:=λpins s σ H Q I q=>wpAny_tests_one (h pins s σ H Q I q)
def AS(wi:TI)(g:TG)(tc:TT)(te:TE)(n:Nat)(js:List Nat):TE:=λσ H Q=>wi σ H λJ H1=>∀ D,H1 D=none->∃ W:Nat->Nat->St->Hp->Prop,(∃ m,W 0 m (uj n js σ) (upd H1 D (.lst []))) /\
  ∀ i m σ' H',W i m σ' H'->(J.stop i H'/\Q (.ref D) H')\/(J.go i H'/\∀ x H2,J.yld i H' x H2->g x σ' H2 λσ3 H3=>tc σ3 H3 λb H4 =>
    if b=true then te σ3 H4 λv H5=>z7 (.ref D) [v] H5 λ_ H6=>∃ m',m'<m/\W (i+1) m' σ3 H6 else ∃ m',m'<m/\W (i+1) m' σ3 H4)
section
variable {X:Cx}{pins:List (Addr×Obj)}{σ:St}{H:Hp}{s:Shared}{scope:Scope}{cl:List (Str×Addr)}{own:List Str}{js:List Nat}{fp:List Addr}
theorem Fg(I:Inv X pins σ H s)(hkind:scope.kind=.function)(hcell:∀ y∈scope.names,y.2≠.cell)(cl1:∀ x c,cl.lookup x=some c->X.env.cells.lookup x=some c)(cl2:∀ y∈scope.names,y.2=.free->∃ c,cl.lookup y.1=some c)(hf:∀ b∈fp,FpOk X pins H b)(hl:∀ b∈fp,b<s.heap.objs.size):(zV X scope cl own js fp s.heap.objs.size s H).Ok:=by
  have hno:∀ b o,X.base.get? b=some o->b∉fp:=λb o e hb=>by
    rcases (hf b hb).2.2.2.1 with z|z
    . exact I.ok.noex b o e z
    . exact absurd (aN (Heap.lt_size e) (ce I.ok.bsz z)) (dh _)
  have hex:∀ b∈fp,b∉frs X.stack:=λb hb z=>by
    rcases a7.mp (I.stkSub b z) with e|e
    . exact (hf b hb).2.1 e
    . exact (hf b hb).2.2.1 e
  exact ⟨I.ok.mod,hkind,I.ok.glob,I.ok.blt,ag _,λx y c h1 h2=>I.ok.inj x y c (cl1 x c h1) (cl1 y c h2),
    λx hx=>by
      have hx':(∃ k,(k=NameKind.cell\/k=.free)/\(relabel scope X.env).names.lookup x=some k):=by
        rcases hx with z|z
        . exact ⟨_,.inl rfl,z⟩
        . exact ⟨_,.inr rfl,z⟩
      obtain ⟨k,hk,z⟩:=hx';obtain ⟨y,hy,e1,e2⟩:=ux hcell hk z;obtain ⟨c,hc⟩:=cl2 y hy e2;exact ⟨c,by rw [<-e1]; exact hc⟩,
    λx c h _=>absurd h (by show ¬ (false=true); decide),I.ok.hd,I.ok.frames,.inl rfl,
    λb hb=>⟨aQ (hl b hb),λx c e=>(hf b hb).2.2.2.2.1 x c (cl1 x c e)⟩,
    I.bs,ce I.ok.bsz I.sz,hno,hex,I.stack,I.stkFree⟩
theorem GI{h₁:Heap}{m:Str->Option Value}{t':Nat}(I:Inv X pins σ H s)(hkind:scope.kind=.function)(hcell:∀ y∈scope.names,y.2≠.cell)(cl1:∀ x c,cl.lookup x=some c->X.env.cells.lookup x=some c)(cl2:∀ y∈scope.names,y.2=.free->∃ c,cl.lookup y.1=some c)(hjs:∀ j∈js,scope.names.lookup (X.N.getD j Str.empty)=some .free/\X.env.scope.names.lookup (X.N.getD j Str.empty)=some .cell)(hf:∀ b∈fp,FpOk X pins H b)(hl:∀ b∈fp,b<s.heap.objs.size)(hn:h₁.Ns s.heap.objs.size m)(k:∀ b o,s.heap.get? b=some o->h₁.get? b=some o) : Inv (zV X scope cl own js fp s.heap.objs.size s H) [] (uj own.length js σ) H { s with heap:=h₁,toks:=t' }:=by
  refine ⟨Fg I hkind hcell cl1 cl2 hf hl,rfl,I.bare,Un.kept k,⟨m,hn,λi x v h1 h2 h3=>?_⟩,λx c e=>?_,I.hok.fresh (ag _),λx c e=>I.freeC x c (cl1 x c e),λp hp=>absurd (show p∈([]:List (Addr×Obj)) from hp) (by simp),I.hok.kept k,?_⟩
  . have hi:own.length<=i:=by
      unfold uj at h2;by_cases z:i<own.length
      . rw [aT (by simpa using z),gD,io z] at h2;cases h2
      . omega
    unfold uj at h2;rw [aM (by simpa using hi),g4,aj] at h2;have h1':(own++js.map (λj=>X.N.getD j Str.empty))[i]?=some x:=h1;rw [aM hi,aj] at h1';cases ej:js[i - own.length]? with
    | none=>rw [ej] at h2; cases h2
    | some j =>
      rw [ej] at h2 h1';have ex:X.N.getD j Str.empty=x:=aq h1';have ev:(σ[j]?).join=some v:=aq h2;have ev':σ[j]?=some (some v):=by
        cases q:σ[j]? with
        | none=>rw [q] at ev; cases ev
        | some z=>rw [q] at ev; rw [show z=some v from ev]
      have hjl:j<X.N.length:=by
        rw [<-I.len];exact (af.mp ev').1
      have eN:X.N[j]?=some x:=by
        rw [<-ex,du,ae hjl];rfl
      obtain ⟨f1,f2⟩:=hjs j (aw ej);rw [ex] at f1 f2;obtain ⟨mm,hnn,hll⟩:=I.loc;obtain ⟨u,r,lk⟩:=hll j x v eN ev' (.inr (.inl f2));refine ⟨u,r,?_⟩;rcases lk with ⟨q,_⟩|⟨_,c,e,ic⟩
      . rw [show X.env.kindOf x=some .cell from f2] at q; cases q
      . obtain ⟨y,hy,e1,e2⟩:∃ y∈scope.names,y.1=x/\y.2=.free:=⟨_,dm f1,rfl,rfl⟩
        obtain ⟨c',hc'⟩:=cl2 y hy e2;rw [e1] at hc';have:c'=c:=by
          have:=cl1 x c' hc';rw [e] at this;exact (aq this).symm
        subst this;obtain ⟨o,ho,hd⟩:=ic;exact .inr ⟨.inl (yO I.ok.kind f1 f2),c',hc',⟨o,k _ _ ho,hd⟩⟩
  . obtain ⟨v,o,ho,hd⟩:=I.cell x c (cl1 x c e);exact ⟨v,o,k _ _ ho,hd⟩
  . show _=(own++js.map _).length;unfold uj;simp
theorem vv{H':Hp}{σ':St}{s':Shared}{h':Heap}(I:Inv X pins σ H s)(hf:∀ b∈fp,FpOk X pins H b)(I':Inv (zV X scope cl own js fp s.heap.objs.size s H) [] σ' H' s')(sb:Heap.SameBut s.heap.objs.size s'.heap h'):Inv X pins σ H' { s' with heap:=h' }:=by
  have u:=I'.base;have ne:∀ b o,s.heap.get? b=some o->b≠s.heap.objs.size:=λb o e=>aQ (Heap.lt_size e);refine I.call' (ch:=fp) I'.os ⟨λb o e n hb hx=>?_,λb o e n hb hx=>?_,u.free,λb o e hx=>?_,u.tups,u.frzs,u.tbls⟩ (λb o e=>?_) I'.bare λb hb=>⟨(hf b hb).2.2.2.1,(hf b hb).2.1,(hf b hb).2.2.2.2.1,(hf b hb).2.2.2.2.2⟩
  . exact (sb.2 b (ne b o e)).trans (u.keep b o e n hb hx)
  . obtain ⟨sl,z⟩:=u.slot b o e n hb hx;exact ⟨sl,(sb.2 b (ne b o e)).trans z⟩
  . obtain ⟨o',z⟩:=u.there b o e hx;exact ⟨o',(sb.2 b (ne b o e)).trans z⟩
  . have hfr:H' s.heap.objs.size=none:=I'.free;refine (I'.hok b o e).stay (λc v hc q=>(sb.2 c ?_).trans q) (λ_ q=>q) λ_ _ q=>q;rintro rfl;rcases hc with rfl|hc
    . rw [hfr] at e; cases e
    . rw [hfr] at hc; cases hc
end
variable {tgt:Expr}{H:Hp}{te:TE}{g:TG}{wi:TI}{tc:TT}
theorem t6{use:Option (Value->Sem Unit)}{R:Value->Shared->Prop}{pins:List (Addr×Obj)}{σ:St}{s:Shared}{Q:VK}(own:List Str)(js:List Nat)(hc:X.calm=true)(hi:PI X tgt iter wi)(hg:∀ cl fp C s3 H3,PG (zV X scope cl own js fp C s3 H3) tgt g)(ht:∀ cl fp C s3 H3,PIfs (zV X scope cl own js fp C s3 H3) ifs tc)(he:∀ cl fp C s3 H3,PE (zV X scope cl own js fp C s3 H3) elt te)(hfree:∀ y∈scope.names,y.2=.free->X.env.scope.names.lookup y.1=some .cell)(hjs:∀ j∈js,scope.names.lookup (X.N.getD j Str.empty)=some .free/\X.env.scope.names.lookup (X.N.getD j Str.empty)=some .cell)(hcell:∀ y∈scope.names,y.2≠.cell)(hnames:∀ y∈scope.names,y.2=.local->scope.names.lookup y.1=some .local)(hkind:scope.kind=.function)(hs:∀ x,foldedSetIterable iter X.env x=pure x)(I:Inv X pins σ H s)(h:AS wi g tc te own.length js σ H Q)(hend:∀ (D:Addr) (H3 H5:Hp) (σ5:St) (s3 s6:Shared) (fp:List Addr) (cl:List (Str×Addr)),Inv X pins σ H3 s3->(∀ b∈fp,FpOk X pins H3 b)->Inv (zV X scope cl own js fp s3.heap.objs.size s3 H3) [] σ5 H5 s6->Q (.ref D) H5 ->
      compPost (model X.prog X.w) X.A X.xe use R (.ref D) s3.heap.objs.size (.ok .next) s6) :
    wpAny (model X.prog X.w) X.A (comprehension (.ListComp elt [⟨tgt,iter,ifs,0⟩] scope pos) scope X.env (firstIterPos [⟨tgt,iter,ifs,0⟩] pos) (newList []) false (eval iter X.env) use) R X.xe s:=by
  have hk:=I.ok.kind;obtain ⟨cl,hcl,cl1,cl2⟩:=CU (scope:=scope) (env:=X.env) λy hy hf=>I.ok.has y.1 (.inl (hfree y hy hf));refine wpAny_comprehension_free rfl hs hcl hkind hnames (thn (hi pins s σ H _ I h) λv s1 h1=>thn h1 λitv s2 h2=>?_);obtain ⟨it,fp,tn,J,H2,e,I2,T,st2,f2,q2⟩:=h2;subst e;obtain ⟨W,⟨m0,w0⟩,turn⟩:=q2 s2.heap.objs.size I2.fresh;have I3:=I2.lnew (ys:=[]) (its:=[]) (t':=s2.toks) .nil (cI _);refine iB (wpAny_newFunctionEnv hcell (by intro y hy; simp at hy) (λh₁ hns₁ hsb₁=>?_) hkind);have hl3:∀ b∈fp,b<(s2.heap.push ({ cls:=.type "list",data:=.seq ([]:List Value).toArray }:Obj)).objs.size:=λb hb=>by
    obtain ⟨o,e,_⟩:=T.obj _ _ st2 b hb;rw [Heap.size_push];exact Nat.lt_succ_of_lt (Heap.lt_size e)
  have f3:∀ b∈fp,FpOk X pins (upd H2 s2.heap.objs.size (.lst [])) b:=λb hb=>by
    obtain ⟨o,e,_⟩:=T.obj _ _ st2 b hb;refine ⟨?_,(f2 b hb).2⟩;rw [zn (aQ (Heap.lt_size e))];exact (f2 b hb).1
  have I4:=GI (own:=own) (js:=js) (h₁:=h₁) (t':=s2.toks+([]:List (Str×Value)).length) I3 hkind hcell cl1 cl2 hjs f3 hl3 hns₁ (λb o e=>(hsb₁.2 b (aQ (Heap.lt_size e))).trans (Heap.get?_push_of_some _ e));have st4:tn 0 h₁:=T.keep _ _ _ st2 λb hb o e=>(hsb₁.2 b (aQ (hl3 b hb))).trans (Heap.get?_push_of_some _ (Heap.get?_push_of_some _ e));have loop:codeAny (model X.prog X.w) X.A (.compLoop (.ListComp elt [⟨tgt,iter,ifs,0⟩] scope pos) 0 (.ref it) (.ref s2.heap.objs.size) (compEnvC scope cl (s2.heap.push ({ cls:=.type "list",data:=.seq ([]:List Value).toArray }:Obj)).objs.size X.env))
      (compPost (model X.prog X.w) X.A X.xe use R (.ref s2.heap.objs.size) (s2.heap.push ({ cls:=.type "list",data:=.seq ([]:List Value).toArray }:Obj)).objs.size) { s2 with heap:=h₁,toks:=s2.toks+([]:List (Str×Value)).length }:=by
    refine xV (λn s'=>∃ i σ' H',Inv (zV X scope cl own js fp _ _ _) [] σ' H' s'/\tn i s'.heap/\(∀ b∈fp,H' b=none)/\W i n σ' H') ?_ m0 ⟨0,_,_,I4,st4,λb hb=>(f3 b hb).1,w0⟩;rintro n s5 ⟨i,σ5,H5,I5,st5,fr5,w5⟩;have stat:∀ {H':Hp},(∀ b∈fp,H' b=none)->∀ b∈fp,FpOk (zV X scope cl own js fp _ _ _) [] H' b:=λhn b hb =>
      ⟨hn b hb,(I4.ok.exf b hb).1,I4.ok.exfs b hb,.inl hb,(I4.ok.exf b hb).2,λp hp=>absurd (show p∈([]:List (Addr×Obj)) from hp) (by simp)⟩
    rcases turn i n σ5 H5 w5 with ⟨stop,qn⟩|⟨go,step⟩
    . refine thn (T.done (zV X scope cl own js fp _ _ _) rfl rfl rfl hc i [] s5 σ5 H5 NoX I5 (stat fr5) st5 stop) λr s6 ⟨hr,I6⟩=>?_;subst hr;exact hend _ _ _ _ _ _ _ _ I3 f3 I6 qn
    . refine thn (T.item (zV X scope cl own js fp _ _ _) rfl rfl rfl hc i [] s5 σ5 H5 NoX I5 (stat fr5) st5 go) λr s6 ⟨u,hr,h6⟩=>?_;subst hr;refine thn h6 λ_ s7 ⟨x,H7,I7,r7,y7,st7,fr7⟩=>?_;have I7':=I7.pinned (stat fr7) (T.obj _ _ st7);refine thn (hg cl fp _ _ _ _ s7 σ5 H7 x u _ I7' r7 (step x H7 y7)) λ_ s8 ⟨σ8,H8,I8,q8⟩=>?_;have again:∀ {C3:Addr} {s3:Shared} {H3:Hp} {σ9:St} {H9:Hp} {s9:Shared} {m':Nat},Inv (zV X scope cl own js fp C3 s3 H3) ([]++Av fp s7.heap) σ9 H9 s9->m'<n->W (i+1) m' σ9 H9->∃ m,m<n/\∃ i σ' H',Inv (zV X scope cl own js fp C3 s3 H3) [] σ' H' s9/\tn i s9.heap/\(∀ b∈fp,H' b=none)/\W i m σ' H':=λ{C3 s3 H3 σ9 H9 s9 m'} I9 hm w9=>by
        refine ⟨m',hm,i+1,σ9,H9,I9.unpinned,T.keep _ _ _ st7 λb hb o e=>(I9.pin (b,o) (bg _ (bg _ (xG hb e)))).1,λb hb=>?_,w9⟩;obtain ⟨o,e,d⟩:=T.obj _ _ st7 b hb;exact (I9.pin (b,o) (bg _ (bg _ (xG hb e)))).2.1
      refine thn (ht cl fp _ _ _ _ s8 σ8 H8 _ I8 q8) λb s9 ⟨H9,I9,q9⟩=>?_;cases b with
      | false =>
        rw [ip aP] at q9 ⊢;obtain ⟨m',hm,w9⟩:=q9;exact again I9 hm w9
      | true =>
        rw [io rfl] at q9 ⊢;refine thn (he cl fp _ _ _ _ s9 σ8 H9 _ I9 q9) λy s10 ⟨v,H10,I10,r10,q10⟩=>?_;exact thn (zF (X:=zV X scope cl own js fp _ _ _) _ s10 σ8 H10 (.ref s2.heap.objs.size) [v] (.ref s2.heap.objs.size) [y] _ I10 rfl (.cons r10 .nil) q10) λ_ s11 ⟨_,H11,I11,_,m',hm,w11⟩=>again I11 hm w11
  exact codeAny_compStart_list loop (T.self _ 0 _ _ _ st4 loop)
theorem yr(own:List Str)(js:List Nat)(hc:X.calm=true)(hi:PI X tgt iter wi)(hg:∀ cl fp C s3 H3,PG (zV X scope cl own js fp C s3 H3) tgt g)(ht:∀ cl fp C s3 H3,PIfs (zV X scope cl own js fp C s3 H3) ifs tc)(he:∀ cl fp C s3 H3,PE (zV X scope cl own js fp C s3 H3) elt te)(hfree':(scope.names.all λy=>y.2 != .free || X.env.scope.names.lookup y.1==some .cell)=true:=by rfl)(hjs':(js.all λj=>scope.names.lookup (X.N.getD j Str.empty)==some .free && X.env.scope.names.lookup (X.N.getD j Str.empty)==some .cell)=true:=by rfl)(hcell':(scope.names.all λy=>y.2 != .cell)=true:=by rfl)(hnames':(scope.names.all λy=>y.2 != .local || scope.names.lookup y.1==some .local)=true:=by rfl)(hkind:scope.kind=.function:=by rfl)(hs:∀ x,foldedSetIterable iter X.env x=pure x:=by intro _; rfl) :
    PE X (.ListComp elt [⟨tgt,iter,ifs,0⟩] scope pos) (AS wi g tc te own.length js):=by
  have hfree:∀ y∈scope.names,y.2=.free->X.env.scope.names.lookup y.1=some .cell:=Be hfree';have hjs:∀ j∈js,scope.names.lookup (X.N.getD j Str.empty)=some .free/\X.env.scope.names.lookup (X.N.getD j Str.empty)=some .cell:=IU hjs';have hcell:∀ y∈scope.names,y.2≠.cell:=Bi hcell';have hnames:∀ y∈scope.names,y.2=.local->scope.names.lookup y.1=some .local:=uW hnames';intro pins s σ H Q I h;rw [eval_ListComp];refine t6 own js hc hi hg ht he hfree hjs hcell hnames hkind hs I h λD H3 H5 σ5 s3 s6 fp cl I3 f3 I6 qn=>?_;obtain ⟨m,hm,_⟩:=id I6.loc;exact ⟨m,hm,λh' sb=>⟨.ref D,H5,vv I3 f3 I6 sb,rfl,qn⟩⟩
variable {x:Str}
theorem FE{i:Nat}{spos px:Pos}(hN:X.N.Nodup)(hiN:X.N[i]?=some x)(hx:X.env.scope.names.lookup x=some .local)(own:List Str)(js:List Nat)(hc:X.calm=true)(hi:PI X tgt iter wi)(hg:∀ cl fp C s3 H3,PG (zV X scope cl own js fp C s3 H3) tgt g)(ht:∀ cl fp C s3 H3,PIfs (zV X scope cl own js fp C s3 H3) ifs tc)(he:∀ cl fp C s3 H3,PE (zV X scope cl own js fp C s3 H3) elt te)(hfree':(scope.names.all λy=>y.2 != .free || X.env.scope.names.lookup y.1==some .cell)=true:=by rfl)(hjs':(js.all λj=>scope.names.lookup (X.N.getD j Str.empty)==some .free && X.env.scope.names.lookup (X.N.getD j Str.empty)==some .cell)=true:=by rfl)(hcell':(scope.names.all λy=>y.2 != .cell)=true:=by rfl)(hnames':(scope.names.all λy=>y.2 != .local || scope.names.lookup y.1==some .local)=true:=by rfl)(hkind:scope.kind=.function:=by rfl)(hs:∀ x,foldedSetIterable iter X.env x=pure x:=by intro _; rfl)(hsw:swapsWith (.ListComp elt [⟨tgt,iter,ifs,0⟩] scope pos) (some (.Name x px)) spos.line X.env=pure true:=by rfl) :
    PS X (.Assign [.Name x px] (.ListComp elt [⟨tgt,iter,ifs,0⟩] scope pos) spos) (tAsg (AS wi g tc te own.length js) (Bj i)):=by
  have hfree:∀ y∈scope.names,y.2=.free->X.env.scope.names.lookup y.1=some .cell:=Be hfree';have hjs:∀ j∈js,scope.names.lookup (X.N.getD j Str.empty)=some .free/\X.env.scope.names.lookup (X.N.getD j Str.empty)=some .cell:=IU hjs';have hcell:∀ y∈scope.names,y.2≠.cell:=Bi hcell';have hnames:∀ y∈scope.names,y.2=.local->scope.names.lookup y.1=some .local:=uW hnames';intro pins s σ H D I h;rw [exec_Assign_Name_used _ _ _ _ hsw];refine ix (iz (ix ?_));show wpAny _ X.A (do let _ <-comprehension (.ListComp elt [⟨tgt,iter,ifs,0⟩] scope pos) scope X.env _ (newList []) false (eval iter X.env) (some (assign (.Name x px) X.env))) _ _ s;refine ix (thn (t6 (use:=some (assign (.Name x px) X.env)) (R:=λ_ s'=>SP X pins D .next s') own js hc hi hg ht he hfree hjs hcell hnames hkind hs I h λD' H3 H5 σ5 s3 s6 fp cl I3 f3 I6 qn=>?_) λ_ s' hq=>iA (iA hq));have I7:Inv X pins σ H5 s6:=vv I3 f3 I6 (Heap.SameBut.refl ..);have hlt:X.env.locals<s3.heap.objs.size:=I3.lt;have hcl:∀ y c,X.env.cells.lookup y=some c->c≠s3.heap.objs.size:=λy c e z=>by
    obtain ⟨v,q⟩:=I3.cell y c e;exact absurd q.lt (by rw [z]; exact dh _)
  refine wpAny_assign_Name (AA I7 hN hiN (.inl hx) (v:=.ref D') (u:=.ref D') rfl (λs7 I8 hch=>?_) (.inr hx));obtain ⟨m,hm,_⟩:=id I6.loc;have hne:s3.heap.objs.size≠X.env.locals:=gW hlt;have hm7:s7.heap.Ns s3.heap.objs.size m:=by
    obtain ⟨a,sb,ha⟩:=hch;refine Heap.Ns.sameBut hm sb ?_;rcases ha with ha|ha
    . rw [ha]; exact hne
    . exact λz=>hcl x a ha z.symm
  refine ⟨m,hm7,λh' sb=>?_⟩;refine ⟨_,H5,I8.turned (t':=s7.toks) (it:=s3.heap.objs.size) (λb o hb e=>(sb.2 b hb).trans e) I6.free hne (.inr I3.sz) hcl (λp hp z=>?_),qn⟩;exact absurd (Heap.lt_size (I3.pin p hp).1) (by rw [z]; exact dh _)
def tX(n:Nat)(Pv:Nat->List V->St->Hp->Prop)(i:Nat)(σ:St)(H:Hp):Prop:=∃ m',m'<n - i/\m'=n - (i+1)/\i+1<=n/\∃ xs,Pv (i+1) xs σ H
theorem xm{n:Nat}{Pv:Nat->List V->St->Hp->Prop}{i:Nat}{xs:List V}{σ:St}(h:i<n)(p:Pv (i+1) xs σ H):tX n Pv i σ H:=⟨n - (i+1),by omega,rfl,h,xs,p⟩
variable {a:Addr}{ys:List V}{ta:TA}{tl:TE}
section
variable {g:TG}{tc:TT}{te:TE}{D:Addr}{H1:Hp}{σ0:St}{Q:VK}
theorem xc{R:Hp->Prop}{lo:Int}{n:Nat}(Pv:Nat->List V->St->Hp->Prop)(h0:Pv 0 [] σ0 (upd H1 D (.lst [])))(hs:∀ i xs σ H,i<n->Pv i xs σ H->g (.int (lo+i)) σ H λσ3 H3=>tc σ3 H3 λb H4=>if b=true then te σ3 H4 λv H5=>z7 (.ref D) [v] H5 λ_ H6=>tX n Pv i σ3 H6 else tX n Pv i σ3 H4)(hd:∀ xs σ H,Pv n xs σ H->R H) : ∃ W:Nat->Nat->St->Hp->Prop,(∃ m,W 0 m σ0 (upd H1 D (.lst [])))/\∀ i m σ' H',W i m σ' H'->((Itr lo n).stop i H'/\R H')\/((Itr lo n).go i H'/\∀ x H2,(Itr lo n).yld i H' x H2->g x σ' H2 λσ3 H3=>tc σ3 H3 λb H4 =>
      if b=true then te σ3 H4 λv H5=>z7 (.ref D) [v] H5 λ_ H6=>∃ m',m'<m/\W (i+1) m' σ3 H6 else ∃ m',m'<m/\W (i+1) m' σ3 H4):=by
  refine ⟨λi m σ H=>m=n - i/\i<=n/\∃ xs,Pv i xs σ H,⟨n,by simp,cI _,[],h0⟩,?_⟩;rintro i m σ H ⟨rfl,hi,xs,p⟩;by_cases hlt:i<n
  . refine .inr ⟨hlt,λx H' y=>?_⟩;obtain ⟨e,y⟩:=y;subst e y;exact hs i xs σ _ hlt p
  . have e:i=n:=by omega
    subst e;exact .inl ⟨ag _,hd xs σ H p⟩
theorem yE{R:Hp->Prop}{K:iJ}(Pv:Nat->List V->St->Hp->Prop)(h0:Pv 0 [] σ0 (upd H1 D (.lst [])))(hl:∀ i xs σ H,i<=ys.length->Pv i xs σ H->SqL K H a ys)(hs:∀ i x xs σ H,ys[i]?=some x->Pv i xs σ H->g x σ H λσ3 H3=>tc σ3 H3 λb H4=>if b=true then te σ3 H4 λv H5=>z7 (.ref D) [v] H5 λ_ H6=>tX ys.length Pv i σ3 H6 else tX ys.length Pv i σ3 H4)(hd:∀ xs σ H,Pv ys.length xs σ H->R H) : ∃ W:Nat->Nat->St->Hp->Prop,(∃ m,W 0 m σ0 (upd H1 D (.lst [])))/\∀ i m σ' H',W i m σ' H'->((Itl K a).stop i H'/\R H')\/((Itl K a).go i H'/\∀ x H2,(Itl K a).yld i H' x H2->g x σ' H2 λσ3 H3=>tc σ3 H3 λb H4 =>
      if b=true then te σ3 H4 λv H5=>z7 (.ref D) [v] H5 λ_ H6=>∃ m',m'<m/\W (i+1) m' σ3 H6 else ∃ m',m'<m/\W (i+1) m' σ3 H4):=by
  refine ⟨λi m σ H=>m=ys.length - i/\i<=ys.length/\∃ xs,Pv i xs σ H,⟨ys.length,by simp,cI _,[],h0⟩,?_⟩;rintro i m σ H ⟨rfl,hi,xs,p⟩;have q:=hl i xs σ H hi p;by_cases hlt:i<ys.length
  . refine .inr ⟨⟨ys,ys[i],q,by simp [hlt]⟩,λx H' y=>?_⟩;obtain ⟨e,y⟩:=y;subst e;exact hs i x xs σ _ (y ys q) p
  . have e:i=ys.length:=by omega
    subst e;exact .inl ⟨⟨ys,q,ag _⟩,hd xs σ H p⟩
theorem Cm{R:Hp->Prop}{K:iJ}(Pv:Nat->List V->St->Hp->Prop)(h0:Pv 0 [] σ0 (upd H1 D (.lst [])))(hl:∀ i xs σ H,i<=ys.length->Pv i xs σ H->SqT K H a ys)(hs:∀ i x xs σ H,ys[i]?=some x->Pv i xs σ H->g x σ H λσ3 H3=>tc σ3 H3 λb H4=>if b=true then te σ3 H4 λv H5=>z7 (.ref D) [v] H5 λ_ H6=>tX ys.length Pv i σ3 H6 else tX ys.length Pv i σ3 H4)(hd:∀ xs σ H,Pv ys.length xs σ H->R H) : ∃ W:Nat->Nat->St->Hp->Prop,(∃ m,W 0 m σ0 (upd H1 D (.lst [])))/\∀ i m σ' H',W i m σ' H'->((Itt K a).stop i H'/\R H')\/((Itt K a).go i H'/\∀ x H2,(Itt K a).yld i H' x H2->g x σ' H2 λσ3 H3=>tc σ3 H3 λb H4 =>
      if b=true then te σ3 H4 λv H5=>z7 (.ref D) [v] H5 λ_ H6=>∃ m',m'<m/\W (i+1) m' σ3 H6 else ∃ m',m'<m/\W (i+1) m' σ3 H4):=by
  refine ⟨λi m σ H=>m=ys.length - i/\i<=ys.length/\∃ xs,Pv i xs σ H,⟨ys.length,by simp,cI _,[],h0⟩,?_⟩;rintro i m σ H ⟨rfl,hi,xs,p⟩;have q:=hl i xs σ H hi p;by_cases hlt:i<ys.length
  . refine .inr ⟨⟨ys,ys[i],q,by simp [hlt]⟩,λx H' y=>?_⟩;obtain ⟨e,y⟩:=y;subst e;exact hs i x xs σ _ (y ys q) p
  . have e:i=ys.length:=by omega
    subst e;exact .inl ⟨⟨ys,q,ag _⟩,hd xs σ H p⟩
theorem Cz{σ:St}{n:Nat}(h:ta σ H λvs H1=>∃ i j:Int,vs=[.int i,.int j]/\(-(2 ^ 62)<=i/\i<2 ^ 62/\-(2 ^ 62)<=j/\j<2 ^ 62)/\∀ D,H1 D=none->∃ W:Nat->Nat->St->Hp->Prop,(∃ m,W 0 m (uj n js σ) (upd H1 D (.lst []))) /\
  ∀ i_1 m σ' H',W i_1 m σ' H'->((Itr i (j - i).toNat).stop i_1 H'/\Q (.ref D) H')\/((Itr i (j - i).toNat).go i_1 H'/\∀ x H2,(Itr i (j - i).toNat).yld i_1 H' x H2->g x σ' H2 λσ3 H3=>tc σ3 H3 λb H4 =>
    if b=true then te σ3 H4 λv H5=>z7 (.ref D) [v] H5 λ_ H6=>∃ m',m'<m/\W (i_1+1) m' σ3 H6 else ∃ m',m'<m/\W (i_1+1) m' σ3 H4)):AS (ID ta) g tc te n js σ H Q:=h
theorem tV{σ:St}{n:Nat}(h:ta σ H λvs H1=>∃ j:Int,vs=[.int j]/\-(2 ^ 62)<=j/\j<2 ^ 62/\∀ D,H1 D=none->∃ W:Nat->Nat->St->Hp->Prop,(∃ m,W 0 m (uj n js σ) (upd H1 D (.lst []))) /\
  ∀ i m σ' H',W i m σ' H'->((Itr 0 j.toNat).stop i H'/\Q (.ref D) H')\/((Itr 0 j.toNat).go i H'/\∀ x H2,(Itr 0 j.toNat).yld i H' x H2->g x σ' H2 λσ3 H3=>tc σ3 H3 λb H4 =>
    if b=true then te σ3 H4 λv H5=>z7 (.ref D) [v] H5 λ_ H6=>∃ m',m'<m/\W (i+1) m' σ3 H6 else ∃ m',m'<m/\W (i+1) m' σ3 H4)):AS (Jf ta) g tc te n js σ H Q:=h
theorem xv{K:iJ}{σ:St}{n:Nat}(h:tl σ H λx H1=>∃ a,x=.ref a/\(∃ xs,SqL K H1 a xs)/\∀ D,H1 D=none->∃ W:Nat->Nat->St->Hp->Prop,(∃ m,W 0 m (uj n js σ) (upd H1 D (.lst []))) /\
  ∀ i m σ' H',W i m σ' H'->((Itl K a).stop i H'/\Q (.ref D) H')\/((Itl K a).go i H'/\∀ x H2,(Itl K a).yld i H' x H2->g x σ' H2 λσ3 H3=>tc σ3 H3 λb H4 =>
    if b=true then te σ3 H4 λv H5=>z7 (.ref D) [v] H5 λ_ H6=>∃ m',m'<m/\W (i+1) m' σ3 H6 else ∃ m',m'<m/\W (i+1) m' σ3 H4)):AS (IH K tl) g tc te n js σ H Q:=h
theorem Ez{K:iJ}{σ:St}{n:Nat}(h:tl σ H λx H1=>∃ a,x=.ref a/\(∃ xs,SqT K H1 a xs)/\∀ D,H1 D=none->∃ W:Nat->Nat->St->Hp->Prop,(∃ m,W 0 m (uj n js σ) (upd H1 D (.lst []))) /\
  ∀ i m σ' H',W i m σ' H'->((Itt K a).stop i H'/\Q (.ref D) H')\/((Itt K a).go i H'/\∀ x H2,(Itt K a).yld i H' x H2->g x σ' H2 λσ3 H3=>tc σ3 H3 λb H4 =>
    if b=true then te σ3 H4 λv H5=>z7 (.ref D) [v] H5 λ_ H6=>∃ m',m'<m/\W (i+1) m' σ3 H6 else ∃ m',m'<m/\W (i+1) m' σ3 H4)):AS (iTup K tl) g tc te n js σ H Q:=h
theorem Ma{B:Bool->Hp->Prop}{σ:St}(h:B true H):tAll σ H B:=h
theorem Gv{K:iJ}{p:Addr}{x:V}(h:H p=some (.lst ys))(fx:uw x=true)(fs:ys.all uw=true)(q:Q (.bl (!inV x ys)) H):rIn K true x (.ref p) H Q:=⟨p,ys,rfl,.inl (SqL.of h),fx,fs,q⟩
theorem Mx{K:iJ}{p:Addr}{xs:List V}{i:Int}{v:V}(h:SqT K H p xs)(e:atI xs i=some v)(q:Q v H):rIxT K (.ref p) (.int i) H Q:=⟨p,xs,i,v,rfl,rfl,h,e,q⟩
theorem EY{σ:St}{E:Ends}{tb:TS}(h:ta σ H λvs H1=>∃ i j:Int,vs=[.int i,.int j]/\(-(2 ^ 62)<=i/\i<2 ^ 62/\-(2 ^ 62)<=j/\j<2 ^ 62)/\∃ W:Nat->Nat->St->Hp->Prop,(∃ m,W 0 m σ H1)/\∀ k m σ H,W k m σ H ->
  ((Itr i (j - i).toNat).stop k H/\E.nx σ H)\/((Itr i (j - i).toNat).go k H/\∃ N:St->Hp->Prop,(∀ σ' H',N σ' H'->∃ m',m'<m/\W (k+1) m' σ' H')/\∀ x H',(Itr i (j - i).toNat).yld k H x H'->g x σ H' λσ2 H2=>tb { E with nx:=N,ct:=N,bk:=E.nx } σ2 H2)) :
  tFor (ID ta) g tb E σ H:=h
end
section
variable {σ:St}{H:Hp}{K:iJ}{R:St->Hp->Prop}
theorem Lm{n:Nat}{t:TGs}{xs:List V}(h:H a=some (.tup xs))(hn:xs.length=n)(q:t xs σ H R):gTup K n t (.ref a) σ H R:=⟨a,xs,rfl,SqT.of h,hn,q⟩
theorem IK{t:TG}{u:TGs}{v:V}{r:List V}(q:t v σ H λσ' H'=>u r σ' H' R):Lp t u (v::r) σ H R:=⟨v,r,rfl,q⟩
theorem JL(q:R σ H):gNil [] σ H R:=⟨rfl,q⟩
end
def TopI(mg:Str->Option Value)(x:Str)(i:Int):Prop:=∃ u,mg x=some u/\RelV (.int i) u
def TopT(K:iJ)(mg:Str->Option Value)(x:Str)(xs:List V):Prop:=∃ a,mg x=some (.ref a)/\∀ H:Hp,SqT K H a xs
variable {h:Heap}{mg:Str->Option Value}
theorem topT_mk{K:iJ}{o:Obj}{its:Array Value}{n:Nat}{xs:List V}(X:K.In h)(G:h.Ns mainGlobals mg)(e:W.nsIn K mainGlobals x=some (some (.ref a)))(l:K.lookup a=some o)(c:o.cls=.type "tuple")(d:o.data=.seq its n)(z:its.size<=sizeLine)(v:Vals xs its.toList):TopT K mg x xs:=⟨a,dR X G e,λ_=>.inr ⟨o,its,n,l,c,d,z,v⟩⟩
theorem topI_mk{K:iJ}{i:Int}{t:Tok}(X:K.In h)(G:h.Ns mainGlobals mg)(e:W.nsIn K mainGlobals x=some (some (.int i t))):TopI mg x i:=⟨_,dR X G e,⟨t,rfl⟩⟩
def WGo(Pv:St->Hp->Prop)(μ:St->Hp->Nat)(tb:TS)(D:Ends)(σ0:St)(H0:Hp)(σ:St)(H:Hp):Prop :=
  ∃ N:St->Hp->Prop,(∀ σ' H',N σ' H'->∃ m',m'<μ σ0 H0/\(m'=μ σ' H'/\Pv σ' H'))/\tb { D with nx:=N,ct:=N,bk:=D.nx } σ H
variable {D:Ends}
theorem wgo{Pv:St->Hp->Prop}{μ:St->Hp->Nat}{tb:TS}{σ0:St}{H0:Hp}{σ:St}(h:tb { D with nx:=λσ' H'=>Pv σ' H'/\μ σ' H'<μ σ0 H0,ct:=λσ' H'=>Pv σ' H'/\μ σ' H'<μ σ0 H0,bk:=D.nx } σ H):WGo Pv μ tb D σ0 H0 σ H :=
  ⟨_,λ_ _ ⟨p,l⟩=>⟨_,l,rfl,p⟩,h⟩
theorem Ba{c:TT}{tb:TS}{σ:St}(Pv:St->Hp->Prop)(μ:St->Hp->Nat)(h0:Pv σ H)(hs:∀ σ H,Pv σ H->c σ H λb H1=>if b=true then WGo Pv μ tb D σ H σ H1 else D.nx σ H1):B6 c tb D σ H:=by
  refine ⟨λm σ H=>m=μ σ H/\Pv σ H,⟨_,rfl,h0⟩,?_⟩;rintro m σ H ⟨rfl,p⟩;exact hs σ H p
theorem bl_q{Q:VK}{x y:Bool}(e:x=y)(q:Q (.bl y) H):Q (.bl x) H:=by rw [e]; exact q
theorem uP{Q:VK}{x y:Int}(e:x=y)(q:Q (.int y) H):Q (.int x) H:=by rw [e]; exact q
def rIsN:R2:=λx y H Q=>y=.non/\Q (.bl (decide (x=.non))) H
def JW:R2:=λx y H Q=>y=.non/\Q (.bl (!decide (x=.non))) H
theorem Fe:OpR X (compareOp .Is) rIsN:=LC
theorem GN:OpR X (compareOp .IsNot) JW:=Je
theorem MP{Q:VK}{x:V}(q:Q (.bl (decide (x=.non))) H):rIsN x .non H Q:=⟨rfl,q⟩
theorem Kt{Q:VK}{x:V}(q:Q (.bl (!decide (x=.non))) H):JW x .non H Q:=⟨rfl,q⟩
def sqs:List Int:=[4,9,16,25,36,49,64,81]
def y8(n:Nat):List Int:=((List.range n).map λ(i:Nat)=>(2:Int)+i).filter λd=>!sqs.contains d
theorem vb(n:Nat):y8 (n+1)=y8 n++(if sqs.contains ((2:Int)+n) then [] else [(2:Int)+n]):=by
  unfold y8;rw [eQ,ah,List.filter_append];congr 1;simp only [aR,cJ,dw,List.filter_nil];cases sqs.contains ((2:Int)+n) <;> rfl
theorem CS{n:Nat}(hn:n<=98){d:Int}(h:d∈y8 n):Rt d:=by
  unfold y8 at h;rw [eI,aV] at h;obtain ⟨⟨i,hi,rfl⟩,hc⟩:=h;rw [b9] at hi;refine ME ⟨by omega,by omega⟩ ?_;simp only [sqs,List.contains_cons,List.contains_nil,ig,Bool.not_eq_true',Bool.or_eq_false_iff,beq_eq_false_iff_ne,ne_eq] at hc;exact hc
theorem DZ:(y8 98).length=90:=by decide +kernel
theorem Ij(d:Int):inV (.int d) [.int 4,.int 9,.int 16,.int 25,.int 36,.int 49,.int 64,.int 81]=sqs.contains d:=by
  simp only [inV,eJ,List.any_nil,eqV,sqs,List.contains_cons,List.contains_nil,ig];simp only [BEq.comm (b:=d)]
theorem LJ{xs:List Int}{i:Int}(h0:0<=i)(h1:i<xs.length):∃ d∈xs,atI (xs.map V.int) i=some (.int d):=by
  have hi:i.toNat<xs.length:=by omega
  refine ⟨xs[i.toNat],cR hi,?_⟩;have e:=xt (xs:=xs.map V.int) (j:=i.toNat) (v:=.int xs[i.toNat]) (by rw [aj,ae hi]; rfl);rw [show ((i.toNat:Nat):Int)=i by omega] at e;exact e
end L2
namespace Bg
local macro_rules | `(⋯)=>`(by decide)
local macro_rules | `(!4)=>`(by omega)
variable {a d:Int}
theorem Lr{b:Int}(h:Rt d)(z:¬ (a=0/\b=0)):a*a - d*b*b≠0:=λe=>z (Ci h e)
theorem wC{b k:Int}(hk:k≠0)(h:a*k=b*k):a=b:=ay hk h
variable {x y z:Int}
theorem Gf(h1:1<=z)(g:g3 x y z=1):lA x y z=x/\lB x y z=y/\lN x y z=z:=by
  have:=zS (x:=x) (y:=y) (z:=z) (a:=x) (b:=y) (n:=z) h1 g (!4) rfl rfl;exact ⟨this.1.symm,this.2.1.symm,this.2.2.symm⟩
variable {t:Int}
theorem xS{b:Int}(h1:1<=z)(g:Int.gcd x z=1)(hb:b≠0)(e:x*b=t*z):x=fT t b/\z=fB t b:=by
  refine Jr h1 (f_b hb) g (Mv hb) ?_;have f1:=f_t (t:=t) (b:=b);generalize fT t b=u at *
  generalize fB t b=v at *
  refine ay hb ?_;grind
theorem vp{b:Int}(h:Int.gcd x a=1)(k:Int.gcd x b=1):Int.gcd x (a*b)=1:=by
  rw [aY] at *
  rw [cB];exact Nat.Coprime.mul_right h k
theorem u6{b:Int}(h:Int.gcd a x=1)(k:Int.gcd b x=1):Int.gcd (a*b) x=1:=by
  rw [c9] at *
  exact vp h k
theorem wU{b:Int}(h:Int.gcd x a=1)(hy:y∣x)(hb:b∣a):Int.gcd y b=1:=by
  have h1:((Int.gcd y b:Nat):Int)∣x:=aH (bH ..) hy;have h2:((Int.gcd y b:Nat):Int)∣a:=aH (bM ..) hb;have h3:=eM h1 h2;rw [h] at h3;have:=ij ⋯ h3;have h4:Int.gcd y b≠0:=λz=>by
    rw [z] at h3;exact absurd (Int.zero_dvd.mp h3) ⋯
  omega
theorem yn{b:Int}(h:1<=b):(0:Int)<(Int.gcd a b:Nat):=by
  have:=(Int.gcd_pos_iff (a:=a) (b:=b)).mpr (.inr (show b≠0 by omega));omega
theorem wf{b:Int}(ha:1<=a)(hb:0<b)(h:b∣a):1<=a / b:=by
  have e:=cC h;rcases g7 (a / b) 1 with z|z
  . have:a / b*b<=0:=dq (!4) (!4);omega
  . exact z
theorem vg{b:Int}(h:1<=b):Int.gcd (a / (Int.gcd a b:Nat)) (b / (Int.gcd a b:Nat))=1:=Int.gcd_ediv_gcd_ediv_gcd (by have:=yn (a:=a) h; omega)
def plT(t b t' b':Int):Int:=t*(b' / (Int.gcd b b':Nat))+t'*(b / (Int.gcd b b':Nat))
variable {b' t':Int}
theorem FY{b:Int}(hb:1<=b)(hb':1<=b')(g:Int.gcd t b=1)(g':Int.gcd t' b'=1) : plT t b t' b' / (Int.gcd (plT t b t' b') (Int.gcd b b':Nat):Nat)=fT (t*b'+t'*b) (b*b')/\b / (Int.gcd b b':Nat)*(b' / (Int.gcd (plT t b t' b') (Int.gcd b b':Nat):Nat))=fB (t*b'+t'*b) (b*b'):=by
  have hs:=yn (a:=b) hb';have hsb:((Int.gcd b b':Nat):Int)∣b:=bH ..;have hsb':((Int.gcd b b':Nat):Int)∣b':=bM ..;have hq:=vg (a:=b) hb';have htop:plT t b t' b'=t*(b' / (Int.gcd b b':Nat))+t'*(b / (Int.gcd b b':Nat)):=rfl;generalize ((Int.gcd b b':Nat):Int)=s at *
  have eb:=cC hsb;have eb':=cC hsb';have p1:=wf hb hs hsb;have p2:=wf hb' hs hsb';have c1:Int.gcd t (b / s)=1:=wU g (cL _) ⟨s,eb.symm⟩;have c2:Int.gcd t' (b' / s)=1:=wU g' (cL _) ⟨s,eb'.symm⟩;generalize b / s=B at *
  generalize b' / s=B' at *
  generalize plT t b t' b'=T at *
  have hl:=yn (a:=T) (b:=s) (!4);have hlT:((Int.gcd T s:Nat):Int)∣T:=bH ..;have hls:((Int.gcd T s:Nat):Int)∣s:=bM ..;have hq2:=vg (a:=T) (b:=s) (!4);generalize ((Int.gcd T s:Nat):Int)=l at *
  have eT:=cC hlT;have es:=cC hls;have p3:=wf (!4) hl hls;have e1:b' / l=s / l*B':=by
    refine ay (show l≠0 by omega) ?_;rw [cC (aH hls hsb'),<-eb'];grind
  rw [e1];generalize T / l=U at *
  generalize s / l=S at *
  have d1:Int.gcd T B=1:=by
    rw [htop,ak t' B,gq];exact u6 c1 (by rw [c9]; exact hq)
  have d2:Int.gcd T B'=1:=by
    rw [htop,gf,ak t B',gq];exact u6 c2 hq
  have u1:Int.gcd U B=1:=wU d1 ⟨l,eT.symm⟩ (cL _);have u2:Int.gcd U B'=1:=wU d2 ⟨l,eT.symm⟩ (cL _);have pos:0<B*(S*B'):=aI (!4) (aI (!4) (!4));refine xS (!4) (vp u1 (vp hq2 u2)) (ar (!4) (!4)) ?_;subst eb eb' eT es;clear hs hsb hsb' hq p1 p2 c1 c2 hl hlT hls hq2 p3 e1 d1 d2 u1 u2 pos hb hb' g g';grind
theorem FD{b:Int}(hb:1<=b)(hb':1<=b')(g:Int.gcd t b=1)(g':Int.gcd t' b'=1) : t / (Int.gcd t b':Nat)*(t' / (Int.gcd t' b:Nat))=fT (t*t') (b*b')/\b / (Int.gcd t' b:Nat)*(b' / (Int.gcd t b':Nat))=fB (t*t') (b*b'):=by
  have hf:=yn (a:=t) hb';have hs:=yn (a:=t') hb;have f1:((Int.gcd t b':Nat):Int)∣t:=bH ..;have f2:((Int.gcd t b':Nat):Int)∣b':=bM ..;have s1:((Int.gcd t' b:Nat):Int)∣t':=bH ..;have s2:((Int.gcd t' b:Nat):Int)∣b:=bM ..;have q1:=vg (a:=t) hb';have q2:=vg (a:=t') hb;generalize ((Int.gcd t b':Nat):Int)=f at *
  generalize ((Int.gcd t' b:Nat):Int)=s at *
  have et:=cC f1;have eb':=cC f2;have et':=cC s1;have eb:=cC s2;have p1:=wf hb hs s2;have p2:=wf hb' hf f2;have c1:Int.gcd (t / f) (b / s)=1:=wU g ⟨f,et.symm⟩ ⟨s,eb.symm⟩;have c2:Int.gcd (t' / s) (b' / f)=1:=wU g' ⟨s,et'.symm⟩ ⟨f,eb'.symm⟩;generalize t / f=T at *
  generalize t' / s=T' at *
  generalize b / s=B at *
  generalize b' / f=B' at *
  have pos:0<B*B':=aI (!4) (!4);refine xS (!4) (u6 (vp c1 q1) (vp q2 c2)) (ar (!4) (!4)) ?_;subst et eb et' eb';clear hf hs f1 f2 s1 s2 q1 q2 p1 p2 c1 c2 pos hb hb' g g';grind
theorem KC{k:Nat}{b:Int}(h:Bd k t):Bd k (fT t b):=h.fdiv _
theorem Kv{k:Nat}{b:Int}(h:Bd k b):Bd k (fB t b):=h.fdiv _
theorem den_pos(q:Rat):(1:Int)<=(q.den:Int):=by have:=q.den_pos; omega
theorem yK(q:Rat):(q.den:Int)≠0:=by have:=q.den_pos; omega
theorem red(q:Rat):Int.gcd q.num q.den=1:=by
  have:=q.reduced;rw [aY,b8];exact this
theorem xh(q:Rat):Rat.divInt q.num q.den=q:=df q
theorem rf{b:Int}(hb:b≠0):fT t b=(Rat.divInt t b).num/\fB t b=((Rat.divInt t b).den:Int):=by
  have e:(Rat.divInt t b).num*b=t*((Rat.divInt t b).den:Int):=by
    have:=xh (Rat.divInt t b);exact (aC (yK _) hb).mp this
  have:=xS (den_pos (Rat.divInt t b)) (red _) hb e;exact ⟨this.1.symm,this.2.symm⟩
theorem uZ{b:Int}(hb:b≠0)(hb':b'≠0):Rat.divInt (t*b'+t'*b) (b*b')=Rat.divInt t b+Rat.divInt t' b':=(Rat.divInt_add_divInt t t' hb hb').symm
theorem yF{b:Int}:Rat.divInt (t*t') (b*b')=Rat.divInt t b*Rat.divInt t' b':=(Rat.divInt_mul_divInt t t').symm
theorem MN(q q':Rat):Rat.divInt (q.num*q'.den+q'.num*q.den) (q.den*q'.den)=q+q':=by rw [uZ (yK q) (yK q'),xh,xh]
theorem IG(q q':Rat):Rat.divInt (q.num*q'.num) (q.den*q'.den)=q*q':=by rw [yF,xh,xh]
theorem Ly{q:Rat}(h:q.num≠0):Rat.divInt q.den q.num=q⁻¹:=by
  have:=Rat.inv_divInt q.num q.den;rw [xh] at this;exact this.symm
def Bq(k:Nat)(q:Rat):Prop:=Bd k q.num/\Bd k (q.den:Int)
theorem Bq.mono{j k:Nat}{q:Rat}(h:Bq j q)(l:j<=k):Bq k q:=⟨h.1.mono l,h.2.mono l⟩
theorem va{k:Nat}{b:Int}(hb:b≠0)(h1:Bd k t)(h2:Bd k b):Bq k (Rat.divInt t b):=⟨by rw [<-(rf hb).1]; exact KC h1,by rw [<-(rf hb).2]; exact Kv h2⟩
theorem Bq.mul{j k:Nat}{q q':Rat}(h:Bq j q)(h':Bq k q'):Bq (j+k) (q*q'):=by
  rw [<-IG];exact va (ar (yK _) (yK _)) (h.1.mul h'.1) (h.2.mul h'.2)
theorem Bq.inv{k:Nat}{q:Rat}(h:Bq k q)(z:q.num≠0):Bq k q⁻¹:=by
  rw [<-Ly z];exact va z h.2 h.1
theorem HB(q q':Rat):plT q.num q.den q'.num q'.den / (Int.gcd (plT q.num q.den q'.num q'.den) (Int.gcd q.den q'.den:Nat):Nat)=(q+q').num/\(q.den:Int) / (Int.gcd q.den q'.den:Nat)*((q'.den:Int) / (Int.gcd (plT q.num q.den q'.num q'.den) (Int.gcd q.den q'.den:Nat):Nat))=((q+q').den:Int):=by
  have h:=FY (den_pos q) (den_pos q') (red q) (red q');have e:=rf (t:=q.num*q'.den+q'.num*q.den) (b:=q.den*q'.den) (ar (yK _) (yK _));rw [MN] at e;exact ⟨h.1.trans e.1,h.2.trans e.2⟩
theorem E8(q q':Rat):q.num / (Int.gcd q.num q'.den:Nat)*(q'.num / (Int.gcd q'.num q.den:Nat))=(q*q').num/\(q.den:Int) / (Int.gcd q'.num q.den:Nat)*((q'.den:Int) / (Int.gcd q.num q'.den:Nat))=((q*q').den:Int):=by
  have h:=FD (den_pos q) (den_pos q') (red q) (red q');have e:=rf (t:=q.num*q'.num) (b:=q.den*q'.den) (ar (yK _) (yK _));rw [IG] at e;exact ⟨h.1.trans e.1,h.2.trans e.2⟩
theorem Cc{k:Nat}{b:Int}(hb:b≠0)(h:Bd k b):Bd k ((Int.gcd a b:Nat):Int):=h.of_le (by
  have h1:=bK.mpr (bM a b);exact ii (!4) h1)
def Br(j k:Nat)(q:Rat):Prop:=Bd j q.num/\Bd k (q.den:Int)
theorem Br.mono{j k j' k':Nat}{q:Rat}(h:Br j k q)(l:j<=j')(l':k<=k'):Br j' k' q:=⟨h.1.mono l,h.2.mono l'⟩
theorem Br.bq{j k n:Nat}{q:Rat}(h:Br j k q)(l:j<=n)(l':k<=n):Bq n q:=⟨h.1.mono l,h.2.mono l'⟩
theorem wj{j k:Nat}{b:Int}(hb:b≠0)(h1:Bd j t)(h2:Bd k b):Br j k (Rat.divInt t b):=⟨by rw [<-(rf hb).1]; exact KC h1,by rw [<-(rf hb).2]; exact Kv h2⟩
theorem Br.mul{j k j' k':Nat}{q q':Rat}(h:Br j k q)(h':Br j' k' q'):Br (j+j') (k+k') (q*q'):=by
  rw [<-IG];exact wj (ar (yK _) (yK _)) (h.1.mul h'.1) (h.2.mul h'.2)
structure Tb where
  a:Rat
  b:Rat
  c:Rat
  e:Rat
theorem Tb.ext{s t:Tb}(h1:s.a=t.a)(h2:s.b=t.b)(h3:s.c=t.c)(h4:s.e=t.e):s=t:=by
  cases s
  cases t
  simp_all
def Tb.zero:Tb:=⟨0,0,0,0⟩
def Tb.add(s t:Tb):Tb:=⟨s.a+t.a,s.b+t.b,s.c+t.c,s.e+t.e⟩
def Tb.sub(s t:Tb):Tb:=⟨s.a - t.a,s.b - t.b,s.c - t.c,s.e - t.e⟩
def Tb.tr(s:Tb):Tb:=⟨s.a,s.c,s.b,s.e⟩
structure Tb.Bt(j k:Nat)(t:Tb):Prop where
  a:Br j k t.a
  b:Br j k t.b
  c:Br j k t.c
  e:Br j k t.e
theorem Tb.Bt.mono{j k j' k':Nat}{t:Tb}(h:t.Bt j k)(l:j<=j')(l':k<=k'):t.Bt j' k':=⟨h.a.mono l l',h.b.mono l l',h.c.mono l l',h.e.mono l l'⟩
theorem Tb.add_comm(s t:Tb):s.add t=t.add s:=Tb.ext (hJ ..) (hJ ..) (hJ ..) (hJ ..)
theorem Tb.add_assoc(s t u:Tb):(s.add t).add u=s.add (t.add u):=Tb.ext (gG ..) (gG ..) (gG ..) (gG ..)
theorem Tb.zero_add(t:Tb):Tb.zero.add t=t:=Tb.ext (hU _) (hU _) (hU _) (hU _)
structure Sd where
  x:Int
  y:Int
  z:Int
structure Sd.Ok(d:Int)(s:Sd):Prop where
  z1:1<=s.z
  g:g3 s.x s.y s.z=1
  bx:Bd 120 s.x
  bY:Bd 120 s.y
  bz:Bd 30 s.z
  up:sgn d s.x s.y=1
def Sd.p(s:Sd):Rat:=Rat.divInt s.x s.z
def Sd.q(s:Sd):Rat:=Rat.divInt s.y s.z
structure Bo where
  w:Sd
  h:Sd
def Bo.Ok(d:Int)(b:Bo):Prop:=b.w.Ok d/\b.h.Ok d
def Bo.tb(b:Bo):Tb:=⟨b.w.p*b.h.p,b.w.p*b.h.q,b.w.q*b.h.p,b.w.q*b.h.q⟩
def tbs:List Bo->Tb
  | []=>Tb.zero
  | b::l=>b.tb.add (tbs l)
theorem yu(l m:List Bo):tbs (l++m)=(tbs l).add (tbs m):=by
  induction l with
  | nil=>exact (Tb.zero_add _).symm
  | cons b l ih =>
    show b.tb.add (tbs (l++m))=(b.tb.add (tbs l)).add (tbs m);rw [ih,Tb.add_assoc]
theorem z6(b:Bo):tbs [b]=b.tb:=by
  show b.tb.add Tb.zero=b.tb;rw [Tb.add_comm,Tb.zero_add]
theorem CF(l:List Bo)(b:Bo):tbs (l++[b])=(tbs l).add b.tb:=by rw [yu,z6]
structure Ms where
  f:Rat
  g:Rat
def Ms.Ok(m:Ms):Prop:=Br 90 10 m.f/\Br 90 10 m.g
def Sd.ms(s:Sd):Ms:=⟨s.p,s.q⟩
theorem Gu{n p q:Int}(hR:Rt d)(hn:0<n)(h:sgn d p q=1):sgn d (n+p) q=1:=by
  have d2:=hR.lo;by_cases hp:0<=p
  . by_cases hq:0<=q
    . rw [w8 (!4) hq,io (!4)]
    . have p0:0<p:=by
        rcases Int.lt_or_eq_of_le hp with z|z
        . exact z
        . subst z;rw [Ae (!4) (!4) (!4)] at h;exact absurd h ⋯
      rw [AE p0 (!4)] at h;rw [AE (!4) (!4)];have h1:d*q*q<p*p:=by
        by_cases z:d*q*q<p*p
        . exact z
        . rw [ip z] at h;exact absurd h ⋯
      have h2:p*p<=(n+p)*(n+p):=dI (!4) (!4) (!4) (!4);rw [io (!4)]
  . by_cases hq:0<q
    . rw [Ct (!4) hq] at h;have h1:p*p<d*q*q:=by
        by_cases z:p*p<d*q*q
        . exact z
        . rw [ip z] at h;exact absurd h ⋯
      by_cases hs:0<=n+p
      . rw [w8 hs (!4),io (!4)]
      . rw [Ct (!4) hq];have h2:(-(n+p))*(-(n+p))<=(-p)*(-p):=dI (!4) (!4) (!4) (!4);rw [cq,cq] at h2;rw [io (!4)]
    . rw [Ae (!4) (!4) (!4)] at h;exact absurd h ⋯
variable {a':Int}
theorem vW{b:Int}(hR:Rt d)(h:sgn d a b=1)(h':sgn d a' b'=1):sgn d (a+a') (b+b')=1:=by
  have hN:a*a - d*b*b≠0:=by
    refine Lr hR λz=>?_;rw [z.1,z.2,zQ] at h;exact absurd h ⋯
  obtain ⟨k,w,v,hk,e1,e2,e3,e4⟩:∃ k w v:Int,0<k/\k*a'=w*a+d*v*b/\k*b'=w*b+v*a/\k*(a+a')=(k+w)*a+d*v*b/\k*(b+b')=(k+w)*b+v*a:=by
    rcases Int.lt_or_gt_of_ne hN with z|z
    . refine ⟨-(a*a - d*b*b),-(a'*a - d*b'*b),-(b'*a - a'*b),by omega,?_,?_,?_,?_⟩ <;> grind
    . refine ⟨a*a - d*b*b,a'*a - d*b'*b,b'*a - a'*b,z,?_,?_,?_,?_⟩ <;> grind
  have s1:=yl hR hk a' b';rw [e1,e2,vm hR,h,cH,h'] at s1;have s2:=Gu hR hk s1;have s3:=yl hR hk (a+a') (b+b');rw [e3,e4,vm hR,h,s2] at s3;rw [<-s3];rfl
def Tb.A(d:Int)(t:Tb):Rat:=t.a+(d:Rat)*t.e
def Tb.B(t:Tb):Rat:=t.b+t.c
theorem tW(h:z≠0):(z:Rat)≠0:=λe=>h (Rat.intCast_eq_zero_iff.mp e)
theorem A_tb{b:Bo}(h1:b.w.z≠0)(h2:b.h.z≠0):b.tb.A d=Rat.divInt (b.w.x*b.h.x+d*b.w.y*b.h.y) (b.w.z*b.h.z):=by
  have k1:=tW h1;have k2:=tW h2;unfold Tb.A Bo.tb Sd.p Sd.q;simp only [Rat.divInt_eq_div,Rat.intCast_add,Rat.intCast_mul];grind
theorem B_tb{b:Bo}(h1:b.w.z≠0)(h2:b.h.z≠0):b.tb.B=Rat.divInt (b.w.x*b.h.y+b.w.y*b.h.x) (b.w.z*b.h.z):=by
  have k1:=tW h1;have k2:=tW h2;unfold Tb.B Bo.tb Sd.p Sd.q;simp only [Rat.divInt_eq_div,Rat.intCast_add,Rat.intCast_mul];grind
theorem LY(d:Int)(s t:Tb):(s.add t).A d=s.A d+t.A d:=by
  unfold Tb.A Tb.add;grind
theorem Mo(s t:Tb):(s.add t).B=s.B+t.B:=by
  unfold Tb.B Tb.add;grind
variable {e:Int}
theorem zD{v:Int}(h:e∣x*v)(g:Int.gcd e v=1):e∣x:=by
  have h1:e∣x*v:=h;have h2:e∣x*e:=⟨x,ak ..⟩
  have h3:e∣(Int.gcd (x*e) (x*v):Nat):=eM h2 h1;rw [d7,g,fN] at h3;exact Int.dvd_natAbs.mp h3
theorem yg{b:Int}(h:∀ e:Int,e∣a->e∣b->e∣1):Int.gcd a b=1:=by
  have:=h (Int.gcd a b:Nat) (bH ..) (bM ..);have h2:=bK.mpr this;simpa using h2
theorem yt{b:Int}(h:Int.gcd a b=1)(ha:e∣a)(hb:e∣b):e∣1:=by
  have:=eM ha hb;rw [h] at this;exact this
theorem yR{b:Int}(h:Int.gcd a b=1)(ha:e∣a):Int.gcd e b=1 :=
  yg λ_ h1 h2=>yt h (aH h1 ha) h2
variable {c:Int}
theorem xl{b:Int}(h1:Int.gcd a b=1)(h2:Int.gcd a c=1):Int.gcd a (b*c)=1 :=
  yg λe ha hb=>by
    have e1:Int.gcd e c=1:=yR h2 ha;exact yt h1 ha (zD hb e1)
variable {z':Int}
theorem B3(h1:1<=z)(h2:1<=z'):∃ s u v:Int,s=(Int.gcd z z':Nat)/\1<=s/\1<=u/\1<=v/\z=s*u/\z'=s*v/\z.fdiv s=u/\z'.fdiv s=v/\Int.gcd u v=1:=by
  have d1:((Int.gcd z z':Nat):Int)∣z:=bH ..;have d2:((Int.gcd z z':Nat):Int)∣z':=bM ..;have hp:0<Int.gcd z z':=cX _ (!4);obtain ⟨u,hu⟩:=d1;obtain ⟨v,hv⟩:=d2;have hs:(1:Int)<=(Int.gcd z z':Nat):=by omega
  have hg:Int.gcd u v=1:=by
    have e:Int.gcd z z'=Int.gcd ((Int.gcd z z':Nat)*u) ((Int.gcd z z':Nat)*v):=by rw [<-hu,<-hv]
    rw [d7,b8] at e;exact (dB hp (by rw [fN]; exact e)).symm
  generalize ((Int.gcd z z':Nat):Int)=s at *
  subst hu; subst hv;refine ⟨s,u,v,rfl,hs,?_,?_,rfl,rfl,bW _ (!4),bW _ (!4),hg⟩
  . refine fj.mp λq=>?_;have:=bZ (show (0:Int)<=s by omega) (show u<=0 by omega);omega
  . refine fj.mp λq=>?_;have:=bZ (show (0:Int)<=s by omega) (show v<=0 by omega);omega
def aS(z z':Int):Int:=(Int.gcd z z':Nat)
def aA(x z x' z':Int):Int:=x*z'.fdiv (aS z z')+x'*z.fdiv (aS z z')
def aL(x y z x' y' z':Int):Int:=(Int.gcd (Int.gcd (aS z z') (aA x z x' z'):Nat) (aA y z y' z'):Nat)
theorem Jz{x' y':Int}(h1:1<=z)(h2:1<=z')(g1:g3 x y z=1)(g2:g3 x' y' z'=1) : 1<=aS z z'/\1<=aL x y z x' y' z'/\(aA x z x' z').fdiv (aL x y z x' y' z')=lA (x*z'+x'*z) (y*z'+y'*z) (z*z')/\(aA y z y' z').fdiv (aL x y z x' y' z')=lB (x*z'+x'*z) (y*z'+y'*z) (z*z') /\ z.fdiv (aS z z')*z'.fdiv (aL x y z x' y' z')=lN (x*z'+x'*z) (y*z'+y'*z) (z*z'):=by
  obtain ⟨s,u,v,hs,s1,u1,v1,ez,ez',fu,fv,guv⟩:=B3 h1 h2;have eS:aS z z'=s:=hs.symm;have eA:∀ p q,aA p z q z'=p*v+q*u:=λp q=>by unfold aA; rw [eS,fu,fv]
  have eL:aL x y z x' y' z'=(Int.gcd (Int.gcd s (x*v+x'*u):Nat) (y*v+y'*u):Nat):=by unfold aL; rw [eS,eA,eA]
  rw [eS,eA,eA,fu];generalize hl:aL x y z x' y' z'=l at *
  generalize ha:x*v+x'*u=a at *
  generalize hb:y*v+y'*u=b at *
  have l1:1<=l:=by
    have:0<Int.gcd (Int.gcd s a:Nat) b:=cX _ (by
      have:=cX a (show s≠0 by omega);omega)
    omega
  have dls:l∣s:=by rw [eL]; exact aH (bH ..) (bH ..)
  have dla:l∣a:=by rw [eL]; exact aH (bH ..) (bM ..)
  have dlb:l∣b:=by rw [eL]; exact bM ..
  obtain ⟨m,hm⟩:=dls;obtain ⟨X,hX⟩:=dla;obtain ⟨Y,hY⟩:=dlb;have l0:l≠0:=by omega
  have fX:a.fdiv l=X:=by rw [hX]; exact bW _ l0
  have fY:b.fdiv l=Y:=by rw [hY]; exact bW _ l0
  have fZ:z'.fdiv l=m*v:=by rw [ez',hm,am]; exact bW _ l0
  rw [fX,fY,fZ];have m1:1<=m:=by
    refine fj.mp λq=>?_;have:=bZ (show (0:Int)<=l by omega) (show m<=0 by omega);omega
  refine ⟨s1,l1,?_⟩;have gm:g3 X Y m=1:=by
    have e:(g3 (l*X) (l*Y) (l*m):Int)=l:=by
      unfold g3;rw [<-hX,<-hY,<-hm,<-eL]
    rw [HK] at e;have e2:l.natAbs*g3 X Y m=l.natAbs*1:=by omega
    exact dB (!4) e2
  have cop:∀ e:Int,e∣X->e∣Y->Int.gcd e u=1/\Int.gcd e v=1/\Int.gcd e m=1:=λe eX eY=>by
    have ea:e∣a:=by rw [hX]; exact aH eX (b7 ..)
    have eb:e∣b:=by rw [hY]; exact aH eY (b7 ..)
    refine ⟨yg λf f1 f2=>?_,yg λf f1 f2=>?_,yg λf f1 f2=>?_⟩
    . have fv1:Int.gcd f v=1:=yR guv f2;have k1:f∣x*v:=by
        have:=ie (aH f1 ea) (aH f2 (b7 x' u));rw [<-ha,eU] at this;exact this
      have k2:f∣y*v:=by
        have:=ie (aH f1 eb) (aH f2 (b7 y' u));rw [<-hb,eU] at this;exact this
      have:=Cp (zD k1 fv1) (zD k2 fv1) (aH f2 (show u∣z by rw [ez]; exact b7 ..));rw [g1] at this;exact this
    . have fu1:Int.gcd f u=1:=yR (c9 u v ▸ guv) f2;have k1:f∣x'*u:=by
        have:=ie (aH f1 ea) (aH f2 (b7 x v));rw [<-ha,gf,eU] at this;exact this
      have k2:f∣y'*u:=by
        have:=ie (aH f1 eb) (aH f2 (b7 y v));rw [<-hb,gf,eU] at this;exact this
      have:=Cp (zD k1 fu1) (zD k2 fu1) (aH f2 (show v∣z' by rw [ez']; exact b7 ..));rw [g2] at this;exact this
    . have:=Cp (aH f1 eX) (aH f1 eY) f2;rw [gm] at this;exact this
  have gX:g3 X Y (u*(m*v))=1:=by
    have dX:=g3_a X Y (u*(m*v));have dY:=g3_b X Y (u*(m*v));have dZ:=g3_n X Y (u*(m*v));obtain ⟨c1,c2,c3⟩:=cop _ dX dY;have c4:=xl c1 (xl c3 c2);have:=yt c4 (cL _) dZ;have:=bK.mpr this;simpa using this
  refine zS ?_ gX (ar (!4) (!4)) ?_ ?_
  . exact aI (!4) (aI (!4) (!4))
  . subst ez ez';refine ca l0 ?_;clear cop gX gm eL hl eA hs fu fv fX fY fZ guv g1 g2;have e1:l*(X*(s*u*(s*v)))=a*(s*u*(s*v)):=by rw [hX,am l X]
    have e2:l*((x*(s*v)+x'*(s*u))*(u*(m*v)))=(x*v+x'*u)*s*(u*(l*m*v)):=by grind
    rw [e1,e2,<-hm,ha];grind
  . subst ez ez';refine ca l0 ?_;clear cop gX gm eL hl eA hs fu fv fX fY fZ guv g1 g2;have e1:l*(Y*(s*u*(s*v)))=b*(s*u*(s*v)):=by rw [hY,am l Y]
    have e2:l*((y*(s*v)+y'*(s*u))*(u*(m*v)))=(y*v+y'*u)*s*(u*(l*m*v)):=by grind
    rw [e1,e2,<-hm,hb];grind
theorem vE{k:Nat}(h:z≠0)(hb:Bd k z):Bd k ((Int.gcd z a:Nat):Int):=hb.of_le (by
  rw [b8];exact ii (!4) (by simpa using bK.mpr (bH z a)))
theorem Lj(x y z:Int):g3 (-x) (-y) z=g3 x y z:=by
  unfold g3;rw [Int.gcd_neg,Int.gcd_neg]
theorem AL{b:Int}(h1:1<=b)(h2:1<=b')(g1:Int.gcd t b=1)(g2:Int.gcd t' b'=1) : 1<=aS b b'/\t*b'.fdiv (aS b b')=lA (t*b') (t'*b) (b*b')/\t'*b.fdiv (aS b b')=lB (t*b') (t'*b) (b*b')/\b.fdiv (aS b b')*b'=lN (t*b') (t'*b) (b*b'):=by
  obtain ⟨s,u,v,hs,s1,u1,v1,ez,ez',fu,fv,guv⟩:=B3 h1 h2;have eS:aS b b'=s:=hs.symm;rw [eS,fu,fv];refine ⟨s1,?_⟩;have gvu:Int.gcd v u=1:=c9 u v ▸ guv;have dub:u∣b:=by rw [ez]; exact b7 ..
  have dvb:v∣b':=by rw [ez']; exact b7 ..
  have gX:g3 (t*v) (t'*u) (u*b')=1:=by
    have dX:=g3_a (t*v) (t'*u) (u*b');have dY:=g3_b (t*v) (t'*u) (u*b');have dZ:=g3_n (t*v) (t'*u) (u*b');have k:((g3 (t*v) (t'*u) (u*b'):Nat):Int)∣1:=by
      generalize ((g3 (t*v) (t'*u) (u*b'):Nat):Int)=e at *
      have cu:Int.gcd e u=1:=yg λf f1 f2=>by
        have gt:Int.gcd f t=1:=yR (c9 t b ▸ g1) (aH f2 dub);have hv:f∣v:=zD (by rw [ak]; exact aH f1 dX) gt;exact yt guv f2 hv
      have et':e∣t':=zD dY cu;have cv:Int.gcd e v=1:=yg λf f1 f2=>yt g2 (aH f1 et') (aH f2 dvb);have et:e∣t:=zD dX cv;have cs:Int.gcd e s=1:=yg λf f1 f2=>yt g1 (aH f1 et) (aH f2 (by rw [ez]; exact dU ..));rw [ez'] at dZ;exact yt (xl cu (xl cs cv)) (cL _) dZ
    have:=bK.mpr k;simpa using this
  refine zS ?_ gX (ar (!4) (!4)) ?_ ?_
  . exact aI (!4) (!4)
  . subst ez ez';clear gX hs guv gvu fu fv g1 g2;grind
  . subst ez ez';clear gX hs guv gvu fu fv g1 g2;grind
theorem DA{b n n':Int}(hn:n≠0)(hn':n'≠0)(ea:a*n'=a'*n)(eb:b*n'=b'*n):lA a b n=lA a' b' n'/\lB a b n=lB a' b' n'/\lN a b n=lN a' b' n':=by
  refine zS (l_n hn) (xq hn) hn' ?_ ?_
  . have e:=l_a (a:=a) (b:=b) (n:=n);refine ay hn ?_;generalize lA a b n=u at *
    generalize lN a b n=v at *
    have h1:u*n'*n=u*n*n':=by rw [am,ak n',am]
    have h2:a'*v*n=a'*n*v:=by rw [am,ak v,am]
    rw [h1,h2,e,<-ea,am,ak v,am]
  . have e:=l_b (a:=a) (b:=b) (n:=n);refine ay hn ?_;generalize lB a b n=u at *
    generalize lN a b n=v at *
    have h1:u*n'*n=u*n*n':=by rw [am,ak n',am]
    have h2:b'*v*n=b'*n*v:=by rw [am,ak v,am]
    rw [h1,h2,e,<-eb,am,ak v,am]
structure B4 where
  a:Int
  b:Int
  c:Int
  e:Int
def B4.nx(d:Int)(s:B4):B4:=if 0<sgn d (s.a - s.c) (s.b - s.e) then ⟨s.a - s.c,s.b - s.e,s.c,s.e⟩ else ⟨s.a,s.b,s.c - s.a,s.e - s.b⟩
def b4:B4:=⟨0,1,1,0⟩
structure GB(d:Int)(k:Nat)(s:B4):Prop where
  det:s.a*s.e - s.b*s.c=1\/s.a*s.e - s.b*s.c=-1
  p1:sgn d s.a s.b=1
  q1:sgn d s.c s.e=1
  ba:Bd k s.a
  bb:Bd k s.b
  bc:Bd k s.c
  be:Bd k s.e
theorem GB.mono{d:Int}{j k:Nat}{s:B4}(g:GB d j s)(l:j<=k):GB d k s:=⟨g.det,g.p1,g.q1,g.ba.mono l,g.bb.mono l,g.bc.mono l,g.be.mono l⟩
theorem uS(d:Int):GB d 1 b4:=⟨.inr ⋯,by rw [show b4.a=0 from rfl,show b4.b=1 from rfl,w8 ⋯ ⋯]; rfl,by rw [show b4.c=1 from rfl,show b4.e=0 from rfl,w8 ⋯ ⋯]; rfl,by decide,by decide,by decide,by decide⟩
theorem GB.next{k:Nat}{s:B4}(hR:Rt d)(g:GB d k s):GB d (k+1) (s.nx d):=by
  obtain ⟨a,b,c,e⟩:=s;obtain ⟨det,p1,q1,ba,bb,bc,be⟩:=g;simp only at *
  have key:sgn d (a - c) (b - e)=1\/sgn d (a - c) (b - e)=-1:=by
    rcases sgn_tri hR (a - c) (b - e) with h|h|⟨h1,h2⟩
    . exact .inl h
    . exact .inr h
    . have e1:a=c:=by omega
      have e2:b=e:=by omega
      subst e1; subst e2;have:a*b - b*a=0:=by rw [ak]; omega
      omega
  unfold B4.nx;simp only;by_cases z:0<sgn d (a - c) (b - e)
  . rw [io z];refine ⟨?_,by show sgn d (a - c) (b - e)=1; omega,q1,ba.sub bc,bb.sub be,bc.mono (!4),be.mono (!4)⟩;show (a - c)*e - (b - e)*c=1\/(a - c)*e - (b - e)*c=-1;have:(a - c)*e - (b - e)*c=a*e - b*c:=by rw [h9,h9,ak e c]; omega
    omega
  . rw [ip z];refine ⟨?_,p1,?_,ba.mono (!4),bb.mono (!4),bc.sub ba,be.sub bb⟩
    . show a*(e - b) - b*(c - a)=1\/a*(e - b) - b*(c - a)=-1;have:a*(e - b) - b*(c - a)=a*e - b*c:=by rw [ei,ei,ak b a]; omega
      omega
    . show sgn d (c - a) (e - b)=1;have:=xT hR (a - c) (b - e);rw [show -(a - c)=c - a by omega,show -(b - e)=e - b by omega] at this;omega
theorem xF{N p0 p2 q0 q2:Int}(h1:p0*N=a*p2)(h2:q0*N=c*q2):N*(p0*q2 - q0*p2)=p2*q2*(a - c):=by
  have e1:N*(p0*q2)=p2*q2*a:=by
    rw [<-am,ak N,h1,ak a,am,am,ak a]
  have e2:N*(q0*p2)=p2*q2*c:=by
    rw [<-am,ak N,h2,ak c,am,ak c,<-am,ak q2]
  rw [ei,ei,e1,e2]
theorem F9{b N:Int}(hR:Rt d)(hN:1<=N):sgn d (lA a b N*lN c e N - lA c e N*lN a b N) (lB a b N*lN c e N - lB c e N*lN a b N)=sgn d (a - c) (b - e):=by
  have n0:N≠0:=by omega
  refine wv hR (k:=N) (m:=lN a b N*lN c e N) (!4) (aI (l_n n0) (l_n n0)) ?_ ?_
  . exact xF l_a l_a
  . exact xF l_b l_b
theorem Cd{b N:Int}(hN:1<=N):lA (lA a b N*lN c e N - lA c e N*lN a b N) (lB a b N*lN c e N - lB c e N*lN a b N) (lN a b N*lN c e N)=lA (a - c) (b - e) N/\lB (lA a b N*lN c e N - lA c e N*lN a b N) (lB a b N*lN c e N - lB c e N*lN a b N) (lN a b N*lN c e N)=lB (a - c) (b - e) N/\lN (lA a b N*lN c e N - lA c e N*lN a b N) (lB a b N*lN c e N - lB c e N*lN a b N) (lN a b N*lN c e N)=lN (a - c) (b - e) N:=by
  have n0:N≠0:=by omega
  have h1:=l_n (a:=a) (b:=b) n0;have h2:=l_n (a:=c) (b:=e) n0;refine DA (ar (!4) (!4)) n0 ?_ ?_
  . rw [ak,xF l_a l_a,ak]
  . rw [ak,xF l_b l_b,ak]
theorem vo(x y z w:Int):x*y+-z*w=x*y - z*w:=by rw [dD]; omega
theorem BD{b N:Int}:(lA a b N*lB c e N - lB a b N*lA c e N)*N*N=lN a b N*lN c e N*(a*e - b*c):=by
  have h1:=l_a (a:=a) (b:=b) (n:=N);have h2:=l_b (a:=a) (b:=b) (n:=N);have h3:=l_a (a:=c) (b:=e) (n:=N);have h4:=l_b (a:=c) (b:=e) (n:=N);generalize lA a b N=p0 at *
  generalize lB a b N=p1 at *
  generalize lN a b N=p2 at *
  generalize lA c e N=q0 at *
  generalize lB c e N=q1 at *
  generalize lN c e N=q2 at *
  calc (p0*q1 - p1*q0)*N*N=(p0*N)*(q1*N) - (p1*N)*(q0*N):=by grind
    _=(a*p2)*(e*q2) - (b*p2)*(c*q2):=by rw [h1,h2,h3,h4]
    _=p2*q2*(a*e - b*c):=by grind
theorem yv{b N:Int}(hR:Rt d)(hN:1<=N):sgn d (lA a b N) (lB a b N)=sgn d a b:=by
  have n0:N≠0:=by omega
  have h1:=l_n (a:=a) (b:=b) n0;refine wv hR (k:=N) (m:=lN a b N) (!4) (!4) ?_ ?_
  . rw [ak,l_a,ak]
  . rw [ak,l_b,ak]
def B4.det(s:B4):Int:=s.a*s.e - s.b*s.c
def B4.i(s:B4)(x y:Int):Int:=s.det*(x*s.e - y*s.c)
def B4.j(s:B4)(x y:Int):Int:=s.det*(s.a*y - s.b*x)
theorem EN{k:Nat}{s:B4}(g:GB d k s):s.det*s.det=1:=by
  unfold B4.det;rcases g.det with h|h <;> rw [h] <;> decide
theorem Bn{k:Nat}{s:B4}(g:GB d k s)(x y:Int):s.i x y*s.a+s.j x y*s.c=x/\s.i x y*s.b+s.j x y*s.e=y:=by
  have h:=EN g;unfold B4.i B4.j B4.det at *
  generalize s.a=a at *
  generalize s.b=b at *
  generalize s.c=c at *
  generalize s.e=e at *
  clear g;constructor
  . have:(a*e - b*c)*(x*e - y*c)*a+(a*e - b*c)*(a*y - b*x)*c=(a*e - b*c)*(a*e - b*c)*x:=by grind
    rw [this,h,cY]
  . have:(a*e - b*c)*(x*e - y*c)*b+(a*e - b*c)*(a*y - b*x)*e=(a*e - b*c)*(a*e - b*c)*y:=by grind
    rw [this,h,cY]
theorem Kz(d:Int)(s:B4):(s.nx d).det=s.det:=by
  unfold B4.nx;split <;> unfold B4.det <;> dsimp only <;> grind
theorem HI(d:Int)(s:B4)(x y:Int):(0<sgn d (s.a - s.c) (s.b - s.e)->(s.nx d).i x y=s.i x y/\(s.nx d).j x y=s.i x y+s.j x y)/\(¬ 0<sgn d (s.a - s.c) (s.b - s.e)->(s.nx d).i x y=s.i x y+s.j x y/\(s.nx d).j x y=s.j x y):=by
  have h:=Kz d s;constructor
  . intro z;unfold B4.i B4.j;rw [h];generalize s.det=D;unfold B4.nx;rw [io z];dsimp only;clear h z;grind
  . intro z;unfold B4.i B4.j;rw [h];generalize s.det=D;unfold B4.nx;rw [ip z];dsimp only;clear h z;grind
theorem FG{b q:Int}(hb:b≠0)(h:t=q*b):t.fdiv b=q:=by rw [h]; exact Int.mul_fdiv_cancel _ hb
theorem Ml{k:Nat}{s:B4}{N:Int}(g:GB d k s)(hN:1<=N) : lN x y N*(lA s.a s.b N*lB s.c s.e N - lB s.a s.b N*lA s.c s.e N)≠0 /\ ((lA x y N*lB s.c s.e N - lB x y N*lA s.c s.e N)*lN s.a s.b N).fdiv (lN x y N*(lA s.a s.b N*lB s.c s.e N - lB s.a s.b N*lA s.c s.e N))=s.i x y /\ ((lA s.a s.b N*lB x y N - lB s.a s.b N*lA x y N)*lN s.c s.e N).fdiv (lN x y N*(lA s.a s.b N*lB s.c s.e N - lB s.a s.b N*lA s.c s.e N))=s.j x y:=by
  have n0:N≠0:=by omega
  have z1:=l_n (a:=s.a) (b:=s.b) n0;have z2:=l_n (a:=s.c) (b:=s.e) n0;have z3:=l_n (a:=x) (b:=y) n0;have D:=BD (a:=s.a) (b:=s.b) (c:=s.c) (e:=s.e) (N:=N);have D1:=BD (a:=x) (b:=y) (c:=s.c) (e:=s.e) (N:=N);have D2:=BD (a:=s.a) (b:=s.b) (c:=x) (e:=y) (N:=N);have sq:=EN g;have hd:s.a*s.e - s.b*s.c=s.det:=rfl;have hi:s.i x y=s.det*(x*s.e - y*s.c):=rfl;have hj:s.j x y=s.det*(s.a*y - s.b*x):=rfl;rw [hd] at D;rw [hi,hj];generalize x*s.e - y*s.c=U at *
  generalize s.a*y - s.b*x=V at *
  generalize hE:lA s.a s.b N*lB s.c s.e N - lB s.a s.b N*lA s.c s.e N=E at *
  generalize lA x y N*lB s.c s.e N - lB x y N*lA s.c s.e N=F at *
  generalize lA s.a s.b N*lB x y N - lB s.a s.b N*lA x y N=G at *
  generalize lN s.a s.b N=p at *
  generalize lN s.c s.e N=q at *
  generalize lN x y N=r at *
  generalize s.det=t at *
  have NN:N*N≠0:=ar n0 n0;have t0:t≠0:=λz=>by rw [z] at sq; exact absurd sq ⋯
  have E0:E≠0:=λz=>by
    rw [z,bL,bL] at D;exact ar (ar (!4) (!4)) t0 D.symm
  have b0:r*E≠0:=ar (!4) E0;refine ⟨b0,FG b0 (ay NN ?_),FG b0 (ay NN ?_)⟩
  . calc F*p*(N*N)=F*N*N*p:=by grind
      _=r*q*U*p:=by rw [D1]
      _=1*(p*q*r*U):=by grind
      _=t*t*(p*q*r*U):=by rw [sq]
      _=t*U*r*(p*q*t):=by grind
      _=t*U*r*(E*N*N):=by rw [D]
      _=t*U*(r*E)*(N*N):=by grind
  . calc G*q*(N*N)=G*N*N*q:=by grind
      _=p*r*V*q:=by rw [D2]
      _=1*(p*q*r*V):=by grind
      _=t*t*(p*q*r*V):=by rw [sq]
      _=t*V*r*(p*q*t):=by grind
      _=t*V*r*(E*N*N):=by rw [D]
      _=t*V*(r*E)*(N*N):=by grind
structure Sg(s:B4):Prop where
  a:s.a<=0
  b:0<=s.b
  c:0<=s.c
  e:s.e<=0
theorem Sg.nx{s:B4}(d:Int)(h:Sg s):Sg (s.nx d):=by
  obtain ⟨h1,h2,h3,h4⟩:=h;unfold B4.nx;split
  . exact ⟨by dsimp only; omega,by dsimp only; omega,h3,h4⟩
  . exact ⟨h1,h2,by dsimp only; omega,by dsimp only; omega⟩
def B4.srv(s:B4)(x y:Int):Prop:=0<=s.i x y/\0<=s.j x y
instance {s:B4} {x y:Int}:Decidable (s.srv x y):=inferInstanceAs (Decidable (0<=s.i x y/\0<=s.j x y))
theorem HZ{s:B4}(d:Int)(h:s.srv x y):(s.nx d).srv x y:=by
  obtain ⟨h1,h2⟩:=h;obtain ⟨n1,n2⟩:=HI d s x y;unfold B4.srv;by_cases c:0<sgn d (s.a - s.c) (s.b - s.e)
  . rw [(n1 c).1,(n1 c).2]; exact ⟨h1,by omega⟩
  . rw [(n2 c).1,(n2 c).2]; exact ⟨by omega,h2⟩
theorem AZ{k:Nat}{s:B4}(hR:Rt d)(g:GB d k s)(h:sgn d x y=1):0<s.i x y\/0<s.j x y:=by
  obtain ⟨cx,cy⟩:=Bn g x y;generalize s.i x y=i at *
  generalize s.j x y=j at *
  refine gr λn=>?_;have hi:i<=0:=by omega
  have hj:j<=0:=by omega
  have p1:=g.p1;have q1:=g.q1;have e1:sgn d ((-i)*s.a+(-j)*s.c) ((-i)*s.b+(-j)*s.e)=-1:=by
    rw [show (-i)*s.a+(-j)*s.c=-x by rw [<-cx,dD,dD]; omega,show (-i)*s.b+(-j)*s.e=-y by rw [<-cy,dD,dD]; omega,xT hR,h]
  have sc:∀ (t a b:Int),0<=t->sgn d a b=1->(t=0\/sgn d (t*a) (t*b)=1):=λt a b ht hs=>by
    by_cases z:t=0
    . exact .inl z
    . right;rw [yl hR (!4)];exact hs
  rcases sc (-i) s.a s.b (!4) p1 with z1|z1
  . rcases sc (-j) s.c s.e (!4) q1 with z2 | z2
    . rw [z1,z2,bL,bL,bL,bL,cg,zQ] at e1;exact absurd e1 ⋯
    . rw [z1,bL,bL,dc,dc,z2] at e1;exact absurd e1 ⋯
  . rcases sc (-j) s.c s.e (!4) q1 with z2 | z2
    . rw [z2,bL,bL,cg,cg,z1] at e1;exact absurd e1 ⋯
    . have:=vW hR z1 z2;rw [this] at e1;exact absurd e1 ⋯
theorem yi{i u:Int}(h:i≠0):u.natAbs<=(i*u).natAbs:=by
  rw [cB];exact fh _ (!4)
theorem Es{i u:Int}(h:i<=0)(k:0<=u):i*u<=0:=dq h k
theorem DS{i u:Int}(h:i<=0)(k:u<=0):0<=i*u:=eE h k
theorem Cw{i u:Int}(h:0<=i)(k:u<=0):i*u<=0:=bZ h k
theorem CI{k:Nat}{s:B4}(hR:Rt d)(g:GB d k s)(z:Sg s)(h:sgn d x y=1)(n:¬ s.srv x y) : s.a.natAbs<=x.natAbs/\s.c.natAbs<=x.natAbs/\s.b.natAbs<=y.natAbs/\s.e.natAbs<=y.natAbs:=by
  have hp:=AZ hR g h;obtain ⟨cx,cy⟩:=Bn g x y;unfold B4.srv at n;obtain ⟨h1,h2,h3,h4⟩:=z;generalize s.i x y=i at *
  generalize s.j x y=j at *
  by_cases c:i<0
  . have hj:0<j:=by omega
    have a1:=yi (i:=i) (u:=s.a) (!4);have a2:=yi (i:=j) (u:=s.c) (!4);have a3:=yi (i:=i) (u:=s.b) (!4);have a4:=yi (i:=j) (u:=s.e) (!4);have p1:=DS (i:=i) (u:=s.a) (!4) h1;have p2:=gi (a:=j) (b:=s.c) (!4) h3;have p3:=Es (i:=i) (u:=s.b) (!4) h2;have p4:=Cw (i:=j) (u:=s.e) (!4) h4;omega
  . have hj:j<0:=by omega
    have hi:0<i:=by omega
    have a1:=yi (i:=i) (u:=s.a) (!4);have a2:=yi (i:=j) (u:=s.c) (!4);have a3:=yi (i:=i) (u:=s.b) (!4);have a4:=yi (i:=j) (u:=s.e) (!4);have p1:=Cw (i:=i) (u:=s.a) (!4) h1;have p2:=Es (i:=j) (u:=s.c) (!4) h3;have p3:=gi (a:=i) (b:=s.b) (!4) h2;have p4:=DS (i:=j) (u:=s.e) (!4) h4;omega
def st(d:Int):Nat->B4
  | 0=>b4
  | k+1=>(st d k).nx d
theorem Jp(d:Int)(k:Nat):st d (k+1)=(st d k).nx d:=rfl
theorem Fw{d:Int}(hR:Rt d):∀ k,GB d (k+1) (st d k)
  | 0=>uS d
  | k+1=>(Fw hR k).next hR
theorem IZ(d:Int):∀ k,Sg (st d k)
  | 0=>⟨show b4.a<=0 by decide,show 0<=b4.b by decide,show 0<=b4.c by decide,show b4.e<=0 by decide⟩
  | k+1=>(IZ d k).nx d
variable {m:Nat}
theorem FP{k:Nat}(h:(st d k).srv x y)(l:k<=m):(st d m).srv x y:=by
  induction m with
  | zero => have : k = 0 := by omega
            subst this; exact h
  | succ m ih =>
    by_cases c:k=m+1
    . subst c; exact h
    . exact HZ d (ih (!4))
theorem Lo(hR:Rt d)(h:sgn d x y=1):∀ (m k:Nat),((st d k).i x y).natAbs+((st d k).j x y).natAbs<=m->∃ K,(st d K).srv x y:=by
  intro m;induction m with
  | zero =>
    intro k hk;exact ⟨k,by omega,by omega⟩
  | succ m ih =>
    intro k hk;by_cases c:(st d k).srv x y
    . exact ⟨k,c⟩
    by_cases c2:(st d (k+1)).srv x y
    . exact ⟨_,c2⟩
    refine ih (k+1) ?_;have g1:=AZ hR (Fw hR k) h;have g2:=AZ hR (Fw hR (k+1)) h;obtain ⟨n1,n2⟩:=HI d (st d k) x y;rw [Jp] at *
    unfold B4.srv at c c2;by_cases cc:0<sgn d ((st d k).a - (st d k).c) ((st d k).b - (st d k).e)
    . obtain ⟨e1,e2⟩:=n1 cc;rw [e1,e2] at *
      omega
    . obtain ⟨e1,e2⟩:=n2 cc;rw [e1,e2] at *
      omega
theorem Gy(hR:Rt d)(h:sgn d x y=1):∃ K,(st d K).srv x y:=Lo hR h _ 0 (ag _)
theorem GT{d:Int}(hR:Rt d):∀ (L:List (Int×Int)),(∀ u∈L,sgn d u.1 u.2=1)->∃ K,∀ u∈L,(st d K).srv u.1 u.2
  | [],_=>⟨0,λu h=>absurd h (by simp)⟩
  | v::L,h=>by
    obtain ⟨K,hK⟩:=GT hR L λu hu=>h u (aB _ hu);obtain ⟨K',hK'⟩:=Gy hR (h v aG);refine ⟨max K K',λu hu=>?_⟩;rcases a7.mp hu with z|z
    . subst z; exact FP hK' (Nat.le_max_right ..)
    . exact FP (hK u z) (Nat.le_max_left ..)
def Fst(d:Int)(L:List (Int×Int))(K:Nat):Prop:=(∀ u∈L,(st d K).srv u.1 u.2)/\∀ k,k<K->∃ u∈L,¬ (st d k).srv u.1 u.2
theorem Fst.unique{L L':List (Int×Int)}{K K':Nat}(hL:∀ u,u∈L↔u∈L')(h:Fst d L K)(h':Fst d L' K'):K=K':=by
  rcases Nat.lt_trichotomy K K' with c|c|c
  . obtain ⟨u,hu,n⟩:=h'.2 K c;exact absurd (h.1 u ((hL u).mpr hu)) n
  . exact c
  . obtain ⟨u,hu,n⟩:=h.2 K' c;exact absurd (h'.1 u ((hL u).mp hu)) n
theorem Fst.gb(hR:Rt d){L:List (Int×Int)}{K k:Nat}(hk:1<=k)(h:Fst d L K)(hp:∀ u∈L,sgn d u.1 u.2=1)(hb:∀ u∈L,Bd k u.1/\Bd k u.2):GB d (k+1) (st d K):=by
  cases K with
  | zero=>exact (uS d).mono (!4)
  | succ m =>
    obtain ⟨u,hu,n⟩:=h.2 m (!4);have g:=Fw hR m;obtain ⟨b1,b2,b3,b4⟩:=CI hR g (IZ d m) (hp u hu) n;obtain ⟨c1,c2⟩:=hb u hu;have g':GB d k (st d m):=⟨g.det,g.p1,g.q1,c1.of_le b1,c2.of_le b3,c1.of_le b2,c2.of_le b4⟩
    exact g'.next hR
theorem Fst.gb_le(hR:Rt d){L:List (Int×Int)}{K k:Nat}(hk:1<=k)(h:Fst d L K)(hm:m<=K)(hp:∀ u∈L,sgn d u.1 u.2=1)(hb:∀ u∈L,Bd k u.1/\Bd k u.2):GB d (k+1) (st d m):=by
  cases m with
  | zero=>exact (uS d).mono (!4)
  | succ m =>
    obtain ⟨u,hu,n⟩:=h.2 m (!4);have g:=Fw hR m;obtain ⟨b1,b2,b3,b4⟩:=CI hR g (IZ d m) (hp u hu) n;obtain ⟨c1,c2⟩:=hb u hu;have g':GB d k (st d m):=⟨g.det,g.p1,g.q1,c1.of_le b1,c2.of_le b3,c1.of_le b2,c2.of_le b4⟩
    exact g'.next hR
theorem Ax(s:B4)(t x y:Int):s.i (t*x) (t*y)=t*s.i x y/\s.j (t*x) (t*y)=t*s.j x y:=by
  unfold B4.i B4.j;constructor <;> grind
theorem Fr{s:B4}(ht:1<=t):s.srv (t*x) (t*y)↔s.srv x y:=by
  unfold B4.srv;rw [(Ax s t x y).1,(Ax s t x y).2];have k:∀ u:Int,0<=t*u↔0<=u:=λu=>by
    constructor
    . intro h;refine fj.mp λn=>?_;have:t*u<0:=dC (!4) n;omega
    . exact λh=>gi (!4) h
  rw [k,k]
def lcmI(f z:Int):Int:=f.fdiv (Int.gcd f z:Nat)*z
theorem wE{f:Int}(hf:1<=f)(hz:1<=z):1<=lcmI f z/\f∣lcmI f z/\z∣lcmI f z/\(lcmI f z).natAbs<=(f*z).natAbs:=by
  obtain ⟨s,u,v,hs,s1,u1,v1,ez,ez',fu,fv,guv⟩:=B3 hf hz;unfold lcmI;rw [<-hs,fu];refine ⟨aI (!4) (!4),⟨v,by rw [ez',ez,ak s u,am]⟩,b7 ..,?_⟩;rw [cB,cB];refine Nat.mul_le_mul_right _ ?_;rw [ez,cB];exact fh _ (!4)
def cbs(zs:List Int):Int:=zs.foldl lcmI 1
theorem FR(zs:List Int)(z:Int):cbs (zs++[z])=lcmI (cbs zs) z:=by unfold cbs; rw [dG]; rfl
theorem CJ:∀ (zs:List Int) (f:Int) (k n:Nat),1<=f->(∀ z∈zs,1<=z/\Bd k z)->Bd n f->1<=zs.foldl lcmI f/\f∣zs.foldl lcmI f/\(∀ z∈zs,z∣zs.foldl lcmI f)/\Bd (n+k*zs.length) (zs.foldl lcmI f)
  | [],f,k,n,hf,_,hb=>⟨hf,cL _,λz h=>absurd h (by simp),hb⟩
  | z::zs,f,k,n,hf,h,hb=>by
    have hz:=h z aG;obtain ⟨a1,a2,a3,a4⟩:=wE hf hz.1;obtain ⟨b1,b2,b3,b4⟩:=CJ zs (lcmI f z) k (n+k) a1 (λu hu=>h u (aB _ hu)) ((hb.mul hz.2).of_le a4);refine ⟨b1,aH a2 b2,λu hu=>?_,?_⟩
    . rcases a7.mp hu with e | e
      . subst e; exact aH a3 b2
      . exact b3 u e
    . rw [List.foldl_cons,ax,Nat.mul_succ,Nat.add_comm (k*zs.length),<-fH];exact b4
theorem Eb{zs:List Int}{k:Nat}(h:∀ z∈zs,1<=z/\Bd k z):1<=cbs zs/\(∀ z∈zs,z∣cbs zs)/\Bd (1+k*zs.length) (cbs zs):=by
  obtain ⟨a,_,b,c⟩:=CJ zs 1 k 1 ⋯ h ⋯;exact ⟨a,b,c⟩
theorem LZ{P:Nat->Prop}:∀ n,P n->∃ m,P m/\∀ k,k<m->¬ P k:=by
  intro n;induction n using Nat.strongRecOn with
  | ind n ih =>
    intro h;by_cases c:∃ k,k<n/\P k
    . obtain ⟨k,hk,hp⟩:=c;exact ih k hk hp
    . exact ⟨n,h,λk hk hp=>c ⟨k,hk,hp⟩⟩
theorem Er(hR:Rt d){L:List (Int×Int)}(h:∀ u∈L,sgn d u.1 u.2=1):∃ K,Fst d L K:=by
  obtain ⟨K,hK⟩:=GT hR L h;obtain ⟨m,hm,hn⟩:=LZ (P:=λK=>∀ u∈L,(st d K).srv u.1 u.2) K hK;refine ⟨m,hm,λk hk=>?_⟩;have:=hn k hk;refine gu λc=>this λu hu=>?_;exact gu λz=>c ⟨u,hu,z⟩
def BsE(s s':B4)(N:Int):Prop:=(lA s.a s.b N=lA s'.a s'.b N/\lB s.a s.b N=lB s'.a s'.b N/\lN s.a s.b N=lN s'.a s'.b N)/\(lA s.c s.e N=lA s'.c s'.e N/\lB s.c s.e N=lB s'.c s'.e N/\lN s.c s.e N=lN s'.c s'.e N)
instance {s s':B4} {N:Int}:Decidable (BsE s s' N):=inferInstanceAs (Decidable (_/\_))
theorem Bs(x y:Int):lA x y 1=x/\lB x y 1=y/\lN x y 1=1:=by
  have e:g3 x y 1=1:=by
    unfold g3;rw [Int.one_gcd];exact Int.one_gcd
  have:=zS (x:=x) (y:=y) (z:=1) (a:=x) (b:=y) (n:=1) ⋯ e ⋯ rfl rfl;exact ⟨this.1.symm,this.2.1.symm,this.2.2.symm⟩
def tmS(m:Int)(s:Sd):Sd:=⟨lA (m*s.x) (m*s.y) s.z,lB (m*s.x) (m*s.y) s.z,lN (m*s.x) (m*s.y) s.z⟩
def adS(s t:Sd):Sd:=⟨lA (s.x*t.z+t.x*s.z) (s.y*t.z+t.y*s.z) (s.z*t.z),lB (s.x*t.z+t.x*s.z) (s.y*t.z+t.y*s.z) (s.z*t.z),lN (s.x*t.z+t.x*s.z) (s.y*t.z+t.y*s.z) (s.z*t.z)⟩
structure SK(k j:Nat)(s:Sd):Prop where
  z1:1<=s.z
  g:g3 s.x s.y s.z=1
  bx:Bd k s.x
  by':Bd k s.y
  bz:Bd j s.z
theorem SK.mono{k j k' j':Nat}{s:Sd}(h:SK k j s)(l:k<=k')(l':j<=j'):SK k' j' s:=⟨h.z1,h.g,h.bx.mono l,h.by'.mono l,h.bz.mono l'⟩
theorem SK.ne{k j:Nat}{s:Sd}(h:SK k j s):s.z≠0:=by have:=h.z1; omega
theorem wT{b n:Int}(hn:n≠0):Rat.divInt (lA a b n) (lN a b n)=Rat.divInt a n/\Rat.divInt (lB a b n) (lN a b n)=Rat.divInt b n:=by
  have z:=l_n (a:=a) (b:=b) hn;exact ⟨(aC (!4) hn).mpr l_a,(aC (!4) hn).mpr l_b⟩
def nul:Sd:=⟨0,0,1⟩
def mny(s:B4)(N:Int)(pl:Nat)(w:Sd):Int:=if pl=0 then s.i (N / w.z*w.x) (N / w.z*w.y) else s.j (N / w.z*w.x) (N / w.z*w.y)
def hg(s:B4)(N:Int)(pl:Nat):List Bo->Sd:=λL=>L.foldl (λa b=>adS a (tmS (mny s N pl b.w) b.h)) nul
structure B5(d N:Int)(b:Bo):Prop where
  w:SK 20 12 b.w
  h:SK 20 12 b.h
  wu:sgn d b.w.x b.w.y=1
  hu:sgn d b.h.x b.h.y=1
  dv:b.w.z∣N
theorem KY{k n:Nat}{s:B4}(g:GB d k s)(bx:Bd n x)(by':Bd n y):Bd (1+(n+k+1)) (s.i x y)/\Bd (1+(n+k+1)) (s.j x y):=by
  have hd:Bd 1 s.det:=by
    unfold B4.det;rcases g.det with h|h <;> rw [h] <;> decide
  refine ⟨hd.mul ((bx.mul g.be).sub (by'.mul g.bc)),hd.mul (Bd.mono ((g.ba.mul by').sub (g.bb.mul bx)) (!4))⟩
def bw1(s:B4)(N:Int):Sd:=⟨lA s.a s.b N,lB s.a s.b N,lN s.a s.b N⟩
def bw2(s:B4)(N:Int):Sd:=⟨lA s.c s.e N,lB s.c s.e N,lN s.c s.e N⟩
end Bg
namespace L2
open PySem PySem.Spec PyProof.Rows Bg
def rSum(K:iJ):List V->Hp->VK->Prop:=λxs H Q=>∃ (a:Addr) (ns:List Int),xs=[.ref a]/\SqL K H a (ns.map V.int)/\Q (.int ns.sum) H
def JF(K:iJ):List V->Hp->VK->Prop:=λxs H Q=>∃ (a:Addr) (bs:List Bool),xs=[.ref a]/\SqL K H a (bs.map V.bl)/\Q (.bl (bs.all id)) H
theorem xH:∀ {ns:List Int} {us:List Value},Vals (ns.map V.int) us->∃ xs:Array (Int×Tok),us.toArray=intItems xs/\xs.toList.map (·.1)=ns
  | [],us,h=>by
    rw [Vals.zero h];exact ⟨#[],by simp [intItems],rfl⟩
  | n::ns,u::us,.cons r t=>by
      obtain ⟨tk,rfl⟩:=r;obtain ⟨xs,e1,e2⟩:=xH t;refine ⟨#[(n,tk)]++xs,?_,by simp [e2]⟩;have e3:(Value.int n tk::us).toArray=#[Value.int n tk]++us.toArray:=by simp
      rw [e3,e1];simp [intItems]
theorem By{xs:Array (Int×Tok)}:preSum (numAt xs) xs.size=(xs.toList.map (·.1)).sum:=by
  rw [preSum_eq,bT (by simp)]
variable {X:Cx}
theorem xf(hc:X.calm=true):xi X (.builtin "sum") (rSum X.K):=by
  intro pins s σ H xs us Q I r h;obtain ⟨a,ns,rfl,hq,q⟩:=h;obtain ⟨u,rfl,ru⟩:=Vals.one r;cases ru
  obtain ⟨its,rv,p,hz⟩:=I.list hq;obtain ⟨ys,e1,e2⟩:=xH rv;have hl:s.heap.IsList a (intItems ys):=by rw [<-e1]; exact p.isList
  refine sum_intListG (I.ok.hd hc) hl λh' tk t' hk=>?_;rw [By,e2];exact ⟨.int ns.sum,H,I.kept (t':=tk) hk,⟨t',rfl⟩,q⟩
theorem Fo(hc:X.calm=true):xi X (.builtin "all") (JF X.K):=by
  intro pins s σ H xs us Q I r h;obtain ⟨a,bs,rfl,hq,q⟩:=h;obtain ⟨u,rfl,ru⟩:=Vals.one r;cases ru
  obtain ⟨its,rv,p,hz⟩:=I.list hq;have hlt:a<s.heap.objs.size:=by
    obtain ⟨o,_,e,_⟩:=p;exact Heap.lt_size e
  refine call_all_walk (iD p.isList ?_);refine ⟨_,_,_,_,_,_,(λi=>bs.getD i false),rfl,Walks.list (A:=X.A.in1) (show X.A.in1.handled=none from I.ok.hd hc) _ a (aQ hlt) its.toArray,⟨⟨_,Heap.get?_push_size _ rfl,rfl,rfl⟩,p.isList.push _⟩,?_,λh' tk hk=>?_⟩
  . intro i v s' Q' E' hP hQ;have hP':its[i]?=some v:=by simpa using hP
    have hi:i<bs.length:=by
      have:=rv.length;rw [aa] at this;have:=(af.mp hP').1;omega
    obtain ⟨u,hu,ru⟩:=rv.get (i:=i) (x:=.bl bs[i]) (by rw [aj,ae hi]; rfl);rw [hP'] at hu;cases hu
    cases ru
    have e:bs.getD i false=bs[i]:=by rw [du,ae hi]; rfl
    have hQ':Q' (bs.getD i false) s':=hQ;rw [e] at hQ';exact ir hQ'
  . have e:(List.range its.toArray.size).all (λi=>bs.getD i false)=bs.all id:=by
      have:=rv.length;rw [aa] at this;rw [aJ,<-this,tJ]
    rw [e];refine ⟨.bl _,H,I.kept (t':=tk) λb o e'=>hk b o ?_ (Heap.get?_push_of_some _ e'),rfl,q⟩;intro hb;have e2:b=s.heap.objs.size:=by simpa using hb
    exact absurd (Heap.lt_size e') (by rw [e2]; exact dh _)
variable {a:Addr}{H:Hp}
theorem CV{K:iJ}{Q:VK}{ns:List Int}(h:SqL K H a (ns.map V.int))(q:Q (.int ns.sum) H):rSum K [.ref a] H Q:=⟨a,ns,rfl,h,q⟩
theorem Ka{K:iJ}{Q:VK}{bs:List Bool}(h:SqL K H a (bs.map V.bl))(q:Q (.bl (bs.all id)) H):JF K [.ref a] H Q:=⟨a,bs,rfl,h,q⟩
inductive T0 where
  | flat (x:V)
  | tup (xs:List V)
  | lst (xs:List V)
section
variable {H0 H:Hp}{Q:VK}{ls:List (Addr×HO)}
end
variable {tg:Expr}
abbrev Fq(H:Hp)(p:Addr)(x:Rat):Prop:=H p=some (.tup [.int x.num,.int (x.den:Int)])
abbrev Fs(K:iJ)(H:Hp)(p:Addr)(x:Rat):Prop:=SqT K H p [.int x.num,.int (x.den:Int)]
theorem AJ{p:Addr}{t b:Int}(hb:b≠0)(e:H p=some (.tup [.int (fT t b),.int (fB t b)])):Fq H p (Rat.divInt t b):=by
  rw [(rf hb).1,(rf hb).2] at e;exact e
variable {x y:Rat}
theorem Ii{p:Addr}(e:H p=some (.tup [.int (plT x.num x.den y.num y.den / (Int.gcd (plT x.num x.den y.num y.den) (Int.gcd x.den y.den:Nat):Nat)),.int ((x.den:Int) / (Int.gcd x.den y.den:Nat)*((y.den:Int) / (Int.gcd (plT x.num x.den y.num y.den) (Int.gcd x.den y.den:Nat):Nat)))])):Fq H p (x+y):=by
  rw [(HB x y).1,(HB x y).2] at e;exact e
theorem GQ{p:Addr}(e:H p=some (.tup [.int (x.num / (Int.gcd x.num y.den:Nat)*(y.num / (Int.gcd y.num x.den:Nat))),.int ((x.den:Int) / (Int.gcd y.num x.den:Nat)*((y.den:Int) / (Int.gcd x.num y.den:Nat)))])):Fq H p (x*y):=by
  rw [(E8 x y).1,(E8 x y).2] at e;exact e
theorem Iw{p:Addr}(e:Fq H p x)(h:x=y):Fq H p y:=h ▸ e
variable {H':Hp}
theorem Same.sqT{K:iJ}{xs:List V}(e:Same H H')(h:SqT K H a xs):SqT K H' a xs:=by
  rcases h with h|h
  . rcases h with h | ⟨o,h⟩
    . exact .inl (.inl (e _ _ h))
    . exact .inl (.inr ⟨o,e _ _ h⟩)
  . exact .inr h
abbrev SdAt(H:Hp)(p:Addr)(s:Sd):Prop:=H p=some (.tup [.int s.x,.int s.y,.int s.z])
structure Cell where
  p:Addr
  pw:Addr
  ph:Addr
  b:Bo
def Cell.v(c:Cell):V:=.ref c.p
structure Cell.At(H:Hp)(c:Cell):Prop where
  t:H c.p=some (.tup [.ref c.pw,.ref c.ph])
  w:SdAt H c.pw c.b.w
  h:SdAt H c.ph c.b.h
variable {c:Cell}
theorem Cell.At.same(h:c.At H)(s:Same H H'):c.At H':=⟨s _ _ h.t,s _ _ h.w,s _ _ h.h⟩
theorem Cell.At.sameX{D:Addr}{xs:List V}(h:c.At H)(s:SameX D H H')(e:H D=some (.lst xs)):c.At H':=⟨s.tup h.t e,s.tup h.w e,s.tup h.h e⟩
theorem xD{L:List Cell}{i:Nat}{y:V}(h:(L.map Cell.v)[i]?=some y):∃ c,y=.ref c.p/\c∈L/\L[i]?=some c:=by
  rw [aj] at h;cases e:L[i]? with
  | none=>rw [e] at h; cases h
  | some c =>
    rw [e] at h;exact ⟨c,(aq h).symm,aw e,rfl⟩
theorem uH{L:List Cell}{i:Nat}(h:L[i]?=some c):(L.take (i+1)).map Cell.b=(L.take i).map Cell.b++[c.b]:=by
  rw [br,h,ah];rfl
structure TbS(K:iJ)(H:Hp)(p r0 r1 f0 f1 f2 f3:Addr)(t:Tb):Prop where
  p:SqT K H p [.ref r0,.ref r1]
  r0:SqT K H r0 [.ref f0,.ref f1]
  r1:SqT K H r1 [.ref f2,.ref f3]
  f0:Fs K H f0 t.a
  f1:Fs K H f1 t.b
  f2:Fs K H f2 t.c
  f3:Fs K H f3 t.e
variable {f1 f2 f3 r0 r1:Addr}{t:Tb}
theorem TbS.same{K:iJ}{p f0:Addr}(h:TbS K H p r0 r1 f0 f1 f2 f3 t)(s:Same H H'):TbS K H' p r0 r1 f0 f1 f2 f3 t:=⟨s.sqT h.p,s.sqT h.r0,s.sqT h.r1,s.sqT h.f0,s.sqT h.f1,s.sqT h.f2,s.sqT h.f3⟩
structure TbH(H:Hp)(p r0 r1 f0 f1 f2 f3:Addr)(t:Tb):Prop where
  p:H p=some (.tup [.ref r0,.ref r1])
  r0:H r0=some (.tup [.ref f0,.ref f1])
  r1:H r1=some (.tup [.ref f2,.ref f3])
  f0:Fq H f0 t.a
  f1:Fq H f1 t.b
  f2:Fq H f2 t.c
  f3:Fq H f3 t.e
theorem TbH.same{p f0:Addr}(h:TbH H p r0 r1 f0 f1 f2 f3 t)(s:Same H H'):TbH H' p r0 r1 f0 f1 f2 f3 t:=⟨s _ _ h.p,s _ _ h.r0,s _ _ h.r1,s _ _ h.f0,s _ _ h.f1,s _ _ h.f2,s _ _ h.f3⟩
theorem TbH.s{K:iJ}{p f0:Addr}(h:TbH H p r0 r1 f0 f1 f2 f3 t):TbS K H p r0 r1 f0 f1 f2 f3 t:=⟨.of h.p,.of h.r0,.of h.r1,.of h.f0,.of h.f1,.of h.f2,.of h.f3⟩
def TbAt(H:Hp)(p:Addr)(t:Tb):Prop:=∃ r0 r1 f0 f1 f2 f3:Addr,TbH H p r0 r1 f0 f1 f2 f3 t
theorem TbAt.same{H H':Hp}{p:Addr}{t:Tb}(h:TbAt H p t)(s:Same H H'):TbAt H' p t:=by
  obtain ⟨r0,r1,f0,f1,f2,f3,h⟩:=h;exact ⟨r0,r1,f0,f1,f2,f3,h.same s⟩
theorem TbAt.eq{p:Addr}{u:Tb}(h:TbAt H p t)(e:t=u):TbAt H p u:=e ▸ h
variable {to:TE}
section
variable {K:iJ}{H:Hp}{Q:VK}{σ:St}{D:Ends}
theorem AN{ti:TE}{t:TSet}{v:V}{R:St->Hp->Prop}(h:to σ H λo H1=>ti σ H1 λi H2=>t o i v H2 λH3=>R σ H3):gSub to ti t v σ H R:=h
theorem AG{p:Addr}{xs:List V}{k:Int}{v:V}{R:Hp->Prop}(h:H p=some (.lst xs))(k0:0<=k)(k1:k<xs.length)(q:∀ H2,SameX p H H2->H2 p=some (.lst (xs.set k.toNat v))->R H2):JD (.ref p) (.int k) v H R:=by
  refine ⟨p,xs,k,k.toNat,rfl,rfl,h,?_,q _ (λb o e n=>by rw [zn n]; exact e) zj⟩;unfold ixN;rw [io k0,io k1]
end
def TopE(K:iJ)(mg:Str->Option Value)(x:Str):Prop:=∃ a,mg x=some (.ref a)/\∀ H:Hp,∃ r0 r1 f0 f1 f2 f3:Addr,TbS K H a r0 r1 f0 f1 f2 f3 Tb.zero
structure TupIn(K:iJ)(a:Addr)(xs:List V):Prop where
  h:∃ (o:Obj) (its:Array Value) (n:Nat),K.lookup a=some o/\o.cls=.type "tuple"/\o.data=.seq its n/\its.size<=sizeLine/\Vals xs its.toList
theorem tupIn_mk{K:iJ}{o:Obj}{its:Array Value}{n:Nat}{xs:List V}(l:K.lookup a=some o)(c:o.cls=.type "tuple")(d:o.data=.seq its n)(z:its.size<=sizeLine)(v:Vals xs its.toList):TupIn K a xs:=⟨o,its,n,l,c,d,z,v⟩
theorem topE_mk{K:iJ}{h:Heap}{mg:Str->Option Value}{x:Str}{f0:Addr}(X:K.In h)(G:h.Ns mainGlobals mg)(e:W.nsIn K mainGlobals x=some (some (.ref a)))(t:TupIn K a [.ref r0,.ref r1])(t0:TupIn K r0 [.ref f0,.ref f1])(t1:TupIn K r1 [.ref f2,.ref f3])(u0:TupIn K f0 [.int 0,.int 1])(u1:TupIn K f1 [.int 0,.int 1])(u2:TupIn K f2 [.int 0,.int 1])(u3:TupIn K f3 [.int 0,.int 1]):TopE K mg x :=
  ⟨a,dR X G e,λ_=>⟨r0,r1,f0,f1,f2,f3,.inr t.h,.inr t0.h,.inr t1.h,.inr u0.h,.inr u1.h,.inr u2.h,.inr u3.h⟩⟩
def rTup(K:iJ):List V->Hp->VK->Prop:=λxs H Q=>∃ p ys,xs=[.ref p]/\((SqL K H p ys/\∀ l,H l=none->Q (.ref l) (upd H l (.tup ys)))\/(SqT K H p ys/\Q (.ref p) H))
theorem AI:xi X (.type "tuple") (rTup X.K):=uV
def rLst(K:iJ):List V->Hp->VK->Prop:=λxs H Q=>∃ p ys,xs=[.ref p]/\(SqL K H p ys\/SqT K H p ys)/\∀ l,H l=none->Q (.ref l) (upd H l (.lst ys))
theorem wB:xi X (.type "list") (rLst X.K):=Az
theorem HA{K:iJ}{Q:VK}{p:Addr}{ys:List V}(h:H p=some (.lst ys))(q:∀ l H2,Same H H2->H2 l=some (.tup ys)->Q (.ref l) H2):rTup K [.ref p] H Q:=⟨p,ys,rfl,.inl ⟨SqL.of h,λl hl=>q l _ (zC hl _) zj⟩⟩
section
variable {prog:Program}{w:World}{A:Around}{E:Value->Shared->Prop}
end
section
variable {K:iJ}{σ:St}{H:Hp}{Q:VK}
theorem DT{n:Nat}(h:n<=1000):n<=sizeLine:=yW h
theorem MV{T:String}{r:V->List V->Hp->VK->Prop}(h:to σ H λx H1=>tyV K T x H1/\r x [] H1 Q):tBM0 K T r to σ H Q:=h
theorem L6{i j:Str}(h:Q (.bl (decide (i=j))) H):rEq (.str i) (.str j) H Q:=⟨rfl,by
  have e:decide (V.str i=V.str j)=decide (i=j):=by rw [cN]; simp
  rw [e]; exact h⟩
theorem MG{i j:Str}(h:Q (.bl (!decide (i=j))) H):rNe (.str i) (.str j) H Q:=⟨rfl,by
  have e:decide (V.str i=V.str j)=decide (i=j):=by rw [cN]; simp
  rw [e]; exact h⟩
theorem FS{z:Str}(h:Q (.bl true) H):rIs K [.str z,.ty "str"] H Q:=⟨_,_,_,_,rfl,.str z,tq K _,h⟩
end
section
variable {prog:Program}{w:World}{A:Around}{E:Value->Shared->Prop}{s:Shared}{R:Result->Shared->Prop}
variable {I:Addr}{fp wr:List Addr}{G:Array GenState->Array GenState->Prop}{n:Nat}{P:Nat->Value->Prop}{St:Nat->Shared->Prop}
end
variable {e:Expr}{te:TE}{p1 p2 pos pos2:Pos}
def SqA(H:Hp)(p:Addr)(xs:List V):Prop:=H p=some (.lst xs)\/H p=some (.tup xs)
theorem xL{K:iJ}{Q:VK}{p:Addr}{xs:List V}{i:Int}{v:V}(h:SqA H p xs)(e:atI xs i=some v)(q:Q v H):rIx K (.ref p) (.int i) H Q:=by
  rcases h with h|h
  . exact .inl ⟨p,xs,i,v,rfl,rfl,SqL.of h,e,q⟩
  . exact .inr (.inl ⟨p,xs,i,v,rfl,rfl,SqT.of h,e,q⟩)
structure TbA(H:Hp)(p r0 r1 f0 f1 f2 f3:Addr)(t:Tb):Prop where
  p:SqA H p [.ref r0,.ref r1]
  r0:SqA H r0 [.ref f0,.ref f1]
  r1:SqA H r1 [.ref f2,.ref f3]
  f0:Fq H f0 t.a
  f1:Fq H f1 t.b
  f2:Fq H f2 t.c
  f3:Fq H f3 t.e
def JT(H:Hp)(p:Addr)(t:Tb):Prop:=∃ r0 r1 f0 f1 f2 f3:Addr,TbA H p r0 r1 f0 f1 f2 f3 t
theorem Jw{n:Nat}{b r2 s1 s2:Addr}(ha:H a=some (.tup [.ref r1,.ref r2]))(hb:H b=some (.tup [.ref s1,.ref s2]))(e1:EqV X n H (.ref r1) (.ref s1) true)(e2:EqV X n H (.ref r2) (.ref s2) true):EqV X (n+1) H (.ref a) (.ref b) true :=
  EqV.tup (X:=X) (n:=n) (bs:=[true,true]) (SqT.of ha) (SqT.of hb) (.cons e1 (.cons e2 .nil)) (λ_=>rfl)
end L2
namespace Bg
def Tb.upto(t d:Tb)(k:Nat):Tb:=⟨if 0<k then t.a+d.a else t.a,if 1<k then t.b+d.b else t.b,if 2<k then t.c+d.c else t.c,if 3<k then t.e+d.e else t.e⟩
end Bg
namespace L2
local macro_rules | `(!4)=>`(by omega)
open PySem PySem.Spec PyProof.Rows Bg
structure LsH(H:Hp)(l l0 l1 q0 q1 q2 q3:Addr)(t:Tb):Prop where
  l:H l=some (.lst [.ref l0,.ref l1])
  l0:H l0=some (.lst [.ref q0,.ref q1])
  l1:H l1=some (.lst [.ref q2,.ref q3])
  q0:Fq H q0 t.a
  q1:Fq H q1 t.b
  q2:Fq H q2 t.c
  q3:Fq H q3 t.e
variable {l:Addr}{H H':Hp}
theorem LsH.same{l0 l1 q0 q1 q2 q3:Addr}{t:Tb}(h:LsH H l l0 l1 q0 q1 q2 q3 t)(s:Same H H'):LsH H' l l0 l1 q0 q1 q2 q3 t:=⟨s _ _ h.l,s _ _ h.l0,s _ _ h.l1,s _ _ h.q0,s _ _ h.q1,s _ _ h.q2,s _ _ h.q3⟩
structure BsAt(H:Hp)(p r1 r2:Addr)(s:B4)(N:Int):Prop where
  t:H p=some (.tup [.ref r1,.ref r2])
  f:H r1=some (.tup [.int (lA s.a s.b N),.int (lB s.a s.b N),.int (lN s.a s.b N)])
  g:H r2=some (.tup [.int (lA s.c s.e N),.int (lB s.c s.e N),.int (lN s.c s.e N)])
theorem BsAt.same{p r1 r2:Addr}{s:B4}{N:Int}(h:BsAt H p r1 r2 s N)(z:Same H H'):BsAt H' p r1 r2 s N:=⟨z _ _ h.t,z _ _ h.f,z _ _ h.g⟩
def WGn(Pv:Nat->St->Hp->Prop)(m:Nat)(tb:TS)(D:Ends)(σ:St)(H:Hp):Prop :=
  ∃ N:St->Hp->Prop,(∀ σ' H',N σ' H'->∃ m',m'<m/\Pv m' σ' H')/\tb { D with nx:=N,ct:=N,bk:=D.nx } σ H
variable {D:Ends}
theorem wgn{Pv:Nat->St->Hp->Prop}{m:Nat}{tb:TS}{σ:St}(h:tb { D with nx:=λσ' H'=>∃ m',m'<m/\Pv m' σ' H',ct:=λσ' H'=>∃ m',m'<m/\Pv m' σ' H',bk:=D.nx } σ H):WGn Pv m tb D σ H :=
  ⟨_,λ_ _ z=>z,h⟩
theorem IQ{c:TT}{tb:TS}{σ:St}(Pv:Nat->St->Hp->Prop)(h0:∃ m,Pv m σ H)(hs:∀ m σ H,Pv m σ H->c σ H λb H1=>if b=true then WGn Pv m tb D σ H1 else D.nx σ H1):B6 c tb D σ H :=
  ⟨Pv,h0,hs⟩
theorem uK(f:Nat->Int):∀ k,argBest (λi j=>decide (f i<f j)) k<=k/\∀ i,i<=k->f (argBest (λi j=>decide (f i<f j)) k)<=f i
  | 0=>⟨ag _,λi hi=>by have:i=0:=(!4); subst this; exact gH _⟩
  | k+1=>by
    obtain ⟨h1,h2⟩:=uK f k;unfold argBest;by_cases c:f (k+1)<f (argBest (λi j=>decide (f i<f j)) k)
    . rw [io (iH c)];refine ⟨ag _,λi hi=>?_⟩;by_cases e:i=k+1
      . subst e; exact gH _
      . have:=h2 i (!4); omega
    . rw [ip (by simpa using c)];refine ⟨by omega,λi hi=>?_⟩;by_cases e:i=k+1
      . subst e; omega
      . exact h2 i (!4)
def KJ(K:iJ):List V->Hp->VK->Prop:=λxs H Q=>∃ (a:Addr) (ns:List Int),xs=[.ref a]/\(SqL K H a (ns.map V.int)\/SqT K H a (ns.map V.int))/\ns≠[]/\∀ m∈ns,(∀ x∈ns,m<=x)->Q (.int m) H
variable {ys:Array (Int×Tok)}{ns:List Int}
theorem Cf(e2:ys.toList.map (·.1)=ns){i:Nat}(hi:i<ns.length):numAt ys i=ns[i]:=by
  subst e2;have hi':i<ys.size:=by simpa using hi
  unfold numAt;rw [Array.getElem?_eq_getElem hi'];simp
theorem Ay(e2:ys.toList.map (·.1)=ns)(hne:ns≠[]){v:Value}(h:(intItems ys)[argBest (λi j=>decide (numAt ys i<numAt ys j)) (ys.size - 1)]?=some v):∃ m t,v=.int m t/\m∈ns/\∀ x∈ns,m<=x:=by
  have hl:ys.size=ns.length:=by rw [<-e2]; simp
  have hp:0<ns.length:=cG.mpr hne;obtain ⟨h1,h2⟩:=uK (numAt ys) (ys.size - 1);obtain ⟨t,rfl⟩:=intItems_at h;generalize argBest (λi j=>decide (numAt ys i<numAt ys j)) (ys.size - 1)=b at *
  have hb:b<ns.length:=by omega
  refine ⟨_,t,rfl,?_,λx hx=>?_⟩
  . rw [Cf e2 hb]; exact cR hb
  . obtain ⟨i,hi,e⟩:=List.getElem_of_mem hx;have:=h2 i (!4);rw [Cf e2 hi,e] at this;exact this
variable {X:Cx}
theorem EW(hc:X.calm=true):xi X (.builtin "min") (KJ X.K):=by
  intro pins s σ H xs us Q I r h;obtain ⟨a,ns,rfl,hq,hne,q⟩:=h;obtain ⟨u,rfl,ru⟩:=Vals.one r;cases ru
  rcases hq with hq|hq
  . obtain ⟨its,rv,p,hz⟩:=I.list hq;obtain ⟨ys,e1,e2⟩:=xH rv;have hl:s.heap.IsList a (intItems ys):=by rw [<-e1]; exact p.isList
    have hn:0<ys.size:=by
      have:ys.size=ns.length:=by rw [<-e2]; simp
      have:=cG.mpr hne;omega
    refine min_intList (I.ok.hd hc) hl hn λv h' tk hv hk=>?_;obtain ⟨m,t,rfl,hm,hle⟩:=Ay e2 hne hv;exact ⟨.int m,H,I.kept (t':=tk) hk,⟨t,rfl⟩,q m hm hle⟩
  . obtain ⟨its,rv,p,hz⟩:=I.tuple hq;obtain ⟨ys,e1,e2⟩:=xH rv;have hl:s.heap.IsTuple a (intItems ys):=by rw [<-e1]; exact p
    have hn:0<ys.size:=by
      have:ys.size=ns.length:=by rw [<-e2]; simp
      have:=cG.mpr hne;omega
    have hlt:a<s.heap.objs.size:=by obtain ⟨_,e,_⟩:=hl; exact Heap.lt_size e
    refine call_min_walk (wpAny_pyIter_tuple hl ?_);refine ⟨_,[_,a],[_],_,_,_,_,rfl,Walks.tuple (A:=X.A.in1) (show X.A.in1.handled=none from I.ok.hd hc) _ a (aQ hlt) (intItems ys),⟨⟨_,Heap.get?_push_size _ rfl,rfl,rfl⟩,hl.push _⟩,λb hb=>?_,by simpa [intItems] using hn,CmpOf.ints_lt (numAt ys) (λ_ _=>intItems_at),λv h' tk hP hk=>?_⟩
    . show b<(s.heap.push _).objs.size;rw [Heap.size_push];rcases a7.mp hb with rfl|hb
      . exact fC _
      . rcases a7.mp hb with rfl | hb
        . exact Nat.lt_succ_of_lt hlt
        . cases hb
    . obtain ⟨m,t,rfl,hm,hle⟩:=Ay e2 hne (by simpa [intItems] using hP);refine ⟨.int m,H,I.kept (t':=tk) λb o e'=>hk b o ?_ (Heap.get?_push_of_some _ e'),⟨t,rfl⟩,q m hm hle⟩;intro hb;have e2:b=s.heap.objs.size:=by simpa using hb
      exact absurd (Heap.lt_size e') (by rw [e2]; exact dh _)
variable {a:Addr}
section
variable {K:iJ}{H:Hp}{Q:VK}{σ:St}{D:Ends}
theorem J0{i j:Int}(h:H a=some (.tup [.int i,.int j]))(q:∀ m:Int,(m=i\/m=j)->m<=i->m<=j->Q (.int m) H):KJ K [.ref a] H Q :=
  ⟨a,[i,j],rfl,.inr (SqT.of h),by simp,λm hm hl=>q m (by simpa using hm) (hl i (by simp)) (hl j (by simp))⟩
end
structure Ln where
  p:Addr
  s:Sd
def Ln.v(c:Ln):V:=.ref c.p
def Ln.u(c:Ln):Int×Int:=(c.s.x,c.s.y)
structure LOk(d:Int)(k:Nat)(s:Sd):Prop where
  z1:1<=s.z
  g:g3 s.x s.y s.z=1
  up:sgn d s.x s.y=1
  bx:Bd k s.x
  by':Bd k s.y
  bz:Bd 200 s.z
theorem JO{L:List Ln}{i:Nat}{y:V}(h:(L.map Ln.v)[i]?=some y):∃ c,y=.ref c.p/\c∈L/\L[i]?=some c:=by
  rw [aj] at h;cases e:L[i]? with
  | none=>rw [e] at h; cases h
  | some c =>
    rw [e] at h;refine ⟨c,?_,aw e,rfl⟩;have:Ln.v c=y:=by simpa using h
    exact this.symm
theorem BL{α:Type}{f:Ln->α}{L:List Ln}{i:Nat}{c:Ln}(h:L[i]?=some c):(L.take (i+1)).map f=(L.take i).map f++[f c]:=by
  rw [dW,h,ah];rfl
variable {tg:Expr}
section
variable {K:iJ}{H:Hp}{Q:VK}
theorem LG{i j:Nat}(hS:SqL K H a (ns.map V.int))(q:∀ (p:Addr) (H2:Hp),Same H H2->H2 p=some (.lst (((ns.drop i).take (j - i)).map V.int))->Q (.ref p) H2):rSlL K (.ref a) (some (i:Int)) (some (j:Int)) H Q:=by
  refine ⟨a,_,rfl,hS,λp hp=>?_⟩;refine q p _ (zC hp _) ?_;rw [zj];unfold cutV;rw [HT.sIx_nat,HT.sIx_nat,dS,fG];congr 2;generalize ns.map V.int=xs;rcases hW i xs.length with z|z
  . rw [eV z];rcases hW j xs.length with y|y
    . rw [eV y]
    . rw [fE y,bT (by rw [cQ]; omega),bT (by rw [cQ]; omega)]
  . rw [fE z,dJ (ag _),dJ z,gI,gI]
end
theorem Inv.turnedL{pins:List (Addr×Obj)}{σ:St}{s:Shared}{h':Heap}{t':Nat}{its:List Addr}(I:Inv X pins σ H s)(k:∀ b o,b∉its->s.heap.get? b=some o->h'.get? b=some o)(hf:∀ b∈its,FpOk X pins H b):Inv X pins σ H { s with heap:=h',toks:=t' }:=by
  have nit:∀ b u,H b=some u->b∉its:=λb u e z=>by have:=(hf b z).1; rw [this] at e; cases e
  refine I.step (g':=s.gens) (d':=s.drawn) (ch:=its) (λb hb=>?_) (λb o _ _ hc e _=>k b o hc e) (λb o _ _ hc e _=>⟨o.slots,k b o hc e⟩) (λ_ _ _ _ n=>n)
    (λb o hc e=>⟨o,k b o hc e⟩) (λ_ _ e=>e) (λ_ _ _ e=>e) (λb ps e=>⟨#[],by rw [e]; simp⟩) (λm hm=>?_) (λb u e=>?_) I.bare
  . obtain ⟨f0,f1,f2,f3,f4,f5⟩:=hf b hb;exact ⟨f3,f1,f4,f5⟩
  . obtain ⟨o,es,ep,ho,r⟩:=hm;exact ⟨o,es,ep,k _ o (λz=>(hf _ z).2.1 rfl) ho,r⟩
  . refine (I.hok b u e).stay (λc v hc q=>k c v ?_ q) (λ_ q=>q) λ_ _ q=>q;rcases hc with z|z
    . rw [z]; exact nit b u e
    . exact nit c _ z
variable {h:Heap}{o:Obj}
theorem Bc{c:Addr}{o':Obj}(hc:c≠h.objs.size)(e:(h.push o).get? c=some o'):h.get? c=some o':=by
  obtain ⟨e1,e2⟩:=Heap.get?_some_iff.mp e;refine Heap.get?_some_iff.mpr ⟨?_,e2⟩;cases h
  simpa [Heap.push,Array.getElem?_push,hc] using e1
def JU:V->List V->Hp->VK->Prop:=λx vs H Q=>∃ i:Int,x=.int i/\vs=[]/\Q (.int ((Builtin.Int.intBits i:Nat):Int)) H
theorem Im:MtR X "int.bit_length" JU:=by
  intro pins s σ H x xs v us Q I rx rv h;obtain ⟨i,rfl,rfl,q⟩:=h;obtain ⟨t,rfl⟩:=rx;have hus:=rv.zero;subst hus;exact call_int_bit_length ⟨.int _,H,I.tok _,⟨_,rfl⟩,q⟩
theorem JZ{i:Int}{Q:VK}(q:Q (.int ((Builtin.Int.intBits i:Nat):Int)) H):JU (.int i) [] H Q:=⟨i,rfl,rfl,q⟩
variable {z:Int}
theorem MK{K:iJ}{R:Prop}(q:R):tyV K "int" (.int z) H/\R:=⟨rfl,q⟩
theorem Jv{k:Nat}{i:Int}(h:Bd k i):¬ ((k:Int)<((Builtin.Int.intBits i:Nat):Int)):=by
  unfold Builtin.Int.intBits;by_cases c:i=0
  . subst c;rw [io (by decide)];omega
  . rw [ip (by simpa using c)];have h1:i.natAbs.log2<k:=(ia (!4)).mpr h;omega
variable {x' y y':Int}
theorem MI{j k:Nat}{d x:Int}(hd:Bd 64 d)(b1:Bd j x)(b2:Bd j y)(b4:Bd k x')(b5:Bd k y')(hk:j+k+65<=8192):Bd 8192 (x*x'+d*y*y') :=
  (Bd.add (k:=64+j+k) ((b1.mul b4).mono (!4)) ((hd.mul b2).mul b5)).mono (!4)
theorem L7{j k:Nat}{x:Int}(b1:Bd j x)(b2:Bd j y)(b4:Bd k x')(b5:Bd k y')(hk:j+k+65<=8192):Bd 8192 (x*y'+y*x') :=
  (Bd.add (k:=j+k) (b1.mul b5) (b2.mul b4)).mono (!4)
section
variable {g:TG}{tc:TT}{te:TE}{σ0:St}{H1:Hp}{D:Addr}
end
def TopS(mg:Str->Option Value)(x:Str)(z:Str):Prop:=∃ u,mg x=some u/\RelV (.str z) u
variable {x:Str}{mg:Str->Option Value}
theorem topS_mk{K:iJ}{z:Str}{t:Tok}(X:K.In h)(G:h.Ns mainGlobals mg)(e:W.nsIn K mainGlobals x=some (some (.str z t))):TopS mg x z:=⟨_,dR X G e,⟨t,rfl⟩⟩
section
variable {K:iJ}{σ:St}{H:Hp}{Q:VK}
end
open Builtin Builtin.Str
section
variable {H:Hp}{Q:VK}
end
open PySem.W PySem.Calls PySem.Builtin PySem.Builtin.ObjectAttr PySem.Builtin.Getset_descriptor
section
variable {prog:Program}{w:World}{A:Around}{E:Value->Shared->Prop}{K:Frag}{x C:Addr}{h:Heap}{g:Array GenState}{d:Drawn}{t:Nat}{os:OsState}
end
section
variable {pins:List (Addr×Obj)}{σ:St}{H:Hp}{s:Shared}
end
section
variable {P:Program}{w:World}{K:iJ}{mg:Str->Option Value}{base:Heap}{N:List Str}{qual:Str}{scope:Scope}{f:Addr}{cd:Value}{A:Around}{outer:List Env}{s0:Shared}{H0:Hp}{E:XK}
end
section
variable {pl pins:List (Addr×Obj)}{σ:St}{H:Hp}{s:Shared}{EE:St->XK}{a:Addr}
end
section
variable {k j:Nat}{x:Str}{ps:List Str}{dvs:List V}{sp:Sp}{p pos:Pos}{e:Expr}{es:List Expr}{t:TA}{E:XK}
end
section
variable {P:Program}{w:World}{K:iJ}{mg:Str->Option Value}{base:Heap}
end
variable {P:Program}{w:World}
section
variable {pins:List (Addr×Obj)}{σ:St}{H:Hp}{s:Shared}{pos:Pos}
theorem Ky(I:Inv X pins σ H s):sysModules<s.heap.objs.size:=gc (by decide) (show mainGlobals<s.heap.objs.size from (I.mod.glob.keeps I.bk).lt)
theorem dnew(h:Heap)(hb:sysModules<h.objs.size):ObjOk P w H (h.push { cls:=.type "dict",data:=.dict #[] }) h.objs.size (.dK []) :=
  ⟨cI _,beq_eq_false_iff_ne.mpr (ck (aQ hb)),[],.nil,Heap.DictOf.new h⟩
def HX:TE:=λ_ H Q=>∀ p H',H p=none->Same H H'->H' p=some (.dK [])->Q (.ref p) H'
theorem CG:PE X (.Dict [] [] pos) HX:=λpins s σ H Q I h =>
  wpAny_Dict_empty ⟨.ref s.heap.objs.size,_,I.laid (a:=s.heap.objs.size) (o:=.dK []) (t':=s.toks) (λ_ _ q=>Heap.get?_push_of_some _ q) (ag _) (dnew s.heap (Ky I)),rfl,
    h _ _ (I.hok.fresh (ag _)) (zC (I.hok.fresh (ag _)) _) zj⟩
theorem FA{σ:St}{Q:VK}(q:∀ p H',H p=none->Same H H'->H' p=some (.dK [])->Q (.ref p) H'):HX σ H Q:=q
end
structure WE(X:Cx)(e:Expr)(t:TE):Prop where
  w:PE X e t
structure WA(X:Cx)(es:List Expr)(t:TA):Prop where
  w:PA X es t
structure WS(X:Cx)(st:Stmt)(t:TS):Prop where
  w:PS X st t
structure WSs(X:Cx)(st:List Stmt)(t:TS):Prop where
  w:PSs X st t
def Ia:Expr->Bool
  | .Starred _ _=>true
  | _=>false
variable {es:List Expr}
theorem Jl{e:Expr}{env:Env}(h:Ia e=false):starEach (e::es) env=(false,eval e env)::starEach es env:=by
  cases e <;> first | rfl | exact absurd (show true=false from h) (by decide)
theorem uk{e:Expr}{t:TE}(h:PE X e t):WE X e t:=⟨h⟩
theorem vU:WA X [] tNil:=⟨yU⟩
theorem yo{e:Expr}{te:TE}{t:TA}(ha:WE X e te)(hr:WA X es t)(h:Ia e=false:=by rfl):WA X (e::es) (tz te t):=⟨zM ha.w hr.w (Jl h)⟩
theorem Cu{t:TA}{x1:Nat}{pos:Pos}(h:WA X es t):WE X (.Tuple es x1 pos) (tTup t):=⟨zq h.w⟩
theorem EV{t:TA}{pos:Pos}(h:WA X es t):WE X (.List es pos) (tLst t):=⟨zI h.w⟩
variable {t:TS}
theorem IF{st:Stmt}(h:WS X st t):WSs X [st] t:=⟨zd h.w⟩
structure WG(X:Cx)(e:Expr)(t:TG):Prop where
  w:PG X e t
theorem Ll{o i:Expr}{to ti:TE}{t:TSet}{pos:Pos}(ho : WE X o to)(hi : PE X i ti)(hs : PSet X t)(ha : ∀ v, assign (.Subscript o i pos) X.env v = (do
      let ov <-holding [v] (eval o X.env)
      let iv <-holding [v,ov] (eval i X.env)
      standAt pos
      holding [v,ov,iv] (setItem ov iv v)
      release [v,ov,iv] []):=by intro _; rfl):WG X (.Subscript o i pos) (gSub to ti t):=⟨Hw ho.w hi hs ha⟩
variable {g:TG}
theorem Jo{e:Expr}{te:TE}{pos:Pos}(he:WE X e te)(hg:WG X tg g)(hs:swapsWithSole [tg] e pos.line X.env=pure false:=by rfl)(hw:swappedStores [tg] e X.env=pure none:=by rfl)(h1:(assignEach [tg] X.env).map (·.2)=[assign tg X.env]:=by rfl):PS X (.Assign [tg] e pos) (tAsg te g):=Fn he.w hg.w hs hw h1
variable {pos':Pos}
theorem JK{pos:Pos}{i:Nat}{e:Expr}{te:TE}(hN:X.N.Nodup)(hi:X.N[i]?=some x)(hx:Loc X.env.scope x)(he:WE X e te)(hs:swapsWith e (some (.Name x pos')) pos.line X.env=pure false:=by rfl)(hf:X.fn x=true\/X.env.scope.names.lookup x=some .local:=by first | exact .inl rfl | exact .inr rfl | assumption):WS X (.Assign [.Name x pos'] e pos) (tAsg te (Bj i)):=⟨HC hN hi hx he.w hs hf⟩
theorem ex_w{body:List Stmt}{σ:St}(h:∃ t,WSs X body t/\t D σ H):∃ t,PSs X body t/\t D σ H:=by
  obtain ⟨t,h1,h2⟩:=h;exact ⟨t,h1.w,h2⟩
theorem KB{st:Stmt}(h:PS X st t):WS X st t:=⟨h⟩
theorem BR{st:Stmt}{r:List Stmt}{u:TS}(h:WS X st t)(hr:WSs X r u):WSs X (st::r) (tSeq t u):=⟨za h.w hr.w⟩
theorem Ho{n:Nat}{b:Addr}{xs ys:List V}{bs:List Bool}{pins:List (Addr×Obj)}{σ:St}{s:Shared}{A:Around}(ha:SqL X.K H a xs)(hb:SqL X.K H b ys)(he:EqVs X n H xs ys bs)(I:Inv X pins σ H s)(hu:A.units+4*(n+1)<cLine) : ∃ (is js:Array Value),s.heap.IsList a is/\s.heap.IsList b js/\is.size=js.size/\(∀ j (h1:j<is.size) (h2:j<js.size),SeqAt.EqAt A.in1 s is[j] js[j] (bs.getD j false))/\((List.range is.size).all (λj=>bs.getD j false))=bs.all id:=by
  obtain ⟨is,r1,p1,_⟩:=I.list ha;obtain ⟨js,r2,p2,_⟩:=I.list hb;obtain ⟨l1,l2⟩:=he.len;have q1:=r1.length;have q2:=r2.length;refine ⟨is.toArray,js.toArray,p1.isList,p2.isList,by rw [aJ,aJ]; omega,λj h1 h2=>?_,?_⟩
  . have hj1:j<xs.length:=by rw [q1]; simpa using h1
    have hj2:j<ys.length:=by rw [q2]; simpa using h2
    obtain ⟨v,ev,rv⟩:=r1.get (ae hj1);obtain ⟨u,eu,ru⟩:=r2.get (ae hj2);have e1:is.toArray[j]=v:=by
      have:is[j]?=some v:=ev;rw [ae (by simpa using h1)] at this;simpa using aq this
    have e2:js.toArray[j]=u:=by
      have:js[j]?=some u:=eu;rw [ae (by simpa using h2)] at this;simpa using aq this
    rw [e1,e2];exact he.at (ae hj1) (ae hj2) pins σ s v u A.in1 I rv ru (by show A.units+1+4*n<cLine; omega)
  . have e1:is.toArray.size=bs.length:=by rw [aJ]; omega
    rw [e1,tJ]
def rEqL(X:Cx):R2:=λx y H Q=>∃ a b xs ys bs n,x=.ref a/\y=.ref b/\n<=9/\SqL X.K H a xs/\SqL X.K H b ys/\EqVs X n H xs ys bs/\Q (.bl (bs.all id)) H
theorem Lh{Q:VK}{b:Addr}{C D:List Cell}(ha:H a=some (.lst (C.map Cell.v)))(hb:H b=some (.lst (D.map Cell.v)))(hC:∀ c∈C,c.At H)(hD:∀ c∈D,c.At H)(e:C.map Cell.b=D.map Cell.b)(q:Q (.bl true) H):rEqL X (.ref a) (.ref b) H Q:=by
  have key:∀ (C D:List Cell),(∀ c∈C,c.At H)->(∀ c∈D,c.At H)->C.map Cell.b=D.map Cell.b->EqVs X 2 H (C.map Cell.v) (D.map Cell.v) (C.map λ_=>true):=by
    intro C;induction C with
    | nil =>
      intro D _ _ e;have:D=[]:=by
        cases D with
        | nil=>rfl
        | cons d D=>simp at e
      subst this;exact .nil
    | cons c C ih =>
      intro D hC hD e;cases D with
      | nil=>simp at e
      | cons d D =>
        simp only [aR,hZ] at e;have ac:=hC c aG;have ad:=hD d aG;have w1:=ac.w;have w2:=ad.w;have h1:=ac.h;have h2:=ad.h;rw [<-e.1] at w2 h2;have e2:EqV X 2 H (.ref c.p) (.ref d.p) true:=Jw ac.t ad.t (eqv3 w1 w2) (eqv3 h1 h2);exact .cons e2 (ih D (λx hx=>hC x (aB _ hx)) (λx hx=>hD x (aB _ hx)) e.2)
  refine ⟨a,b,_,_,_,2,rfl,rfl,by decide,SqL.of ha,SqL.of hb,key C D hC hD e,?_⟩;have e':(C.map λ_=>true).all id=true:=by simp
  rw [e'];exact q
theorem LT{Q:VK}{b:Addr}{x z':Int}(ha:SqT X.K H a [.int x,.int y,.int z])(hb:SqT X.K H b [.int x',.int y',.int z'])(q:Q (.bl (!decide (x=x'/\y=y'/\z=z'))) H):rNeT X (.ref a) (.ref b) H Q:=by
  refine ⟨a,b,_,_,_,0,rfl,rfl,cI _,ha,hb,.cons (.int x x') (.cons (.int y y') (.cons (.int z z') .nil)),?_⟩;have e:([x==x',y==y',z==z']:List Bool).all id=decide (x=x'/\y=y'/\z=z'):=by
    rw [cN];simp
  rw [e];exact q
structure H5(d N:Int)(H:Hp)(p:Addr)(C:List Cell):Prop where
  l:H p=some (.lst (C.map Cell.v))
  at':∀ c∈C,c.At H
  ok:∀ c∈C,B5 d N c.b
section
variable {M:Model}{A:Around}{E:Value->Shared->Prop}{s:Shared}
end
section
variable {pins:List (Addr×Obj)}{σ:St}{H:Hp}{s:Shared}
end
section
variable {pins:List (Addr×Obj)}{σ:St}{H:Hp}{s:Shared}{scope:Scope}{cl:List (Str×Addr)}{own:List Str}{js:List Nat}{fp:List Addr}{C:Addr}{s3:Shared}{H3:Hp}{E:XK}
end
section
variable {pins:List (Addr×Obj)}{σ:St}{H:Hp}{s:Shared}{scope:Scope}{cl:List (Str×Addr)}{own:List Str}{js:List Nat}{fp:List Addr}{E:XK}
end
variable {d:Addr}
theorem Inv.retrack{pins:List (Addr×Obj)}{σ:St}{s:Shared}{u u':HO}(I:Inv X pins σ H s)(e:H d=some u)(nf:∀ o v,X.H₀ d≠some (.frz o v))(nt:∀ xs,u≠.tup xs)(nb:∀ ps,u≠.tbl ps)(no:∀ y,u≠.own y)(new:ObjOk X.prog X.w H s.heap d u')(no':∀ y,u'≠.own y):Inv X pins σ (upd H d u') s:=by
  have ne:∀ {b},H b=none->b≠d:=λ{b} q z=>by rw [z,e] at q; cases q
  have st:∀ b v,ObjOk X.prog X.w H s.heap b v->ObjOk X.prog X.w (upd H d u') s.heap b v:=λb v x=>x.stay (λc w' _ q=>q)
    (λc q=>by rw [zn (λz=>no _ (by rw [z,e] at q; exact aq q))]; exact q)
    (λc xs q=>by rw [zn (λz=>nt _ (by rw [z,e] at q; exact aq q))]; exact q)
  refine ⟨I.ok,I.os,I.bare,⟨I.base.keep,I.base.slot,λb o q n hx=>?_,I.base.there,λb xs q=>?_,λb o v q=>?_,λb ps q=>?_⟩,I.loc,I.cell,?_,λx c q=>?_,λp hp=>?_,λb v q=>?_,I.len⟩
  . have k:=I.base.free b o q n hx;rw [zn (ne k)];exact k
  . have k:=I.base.tups b xs q;rw [zn (λz=>nt xs (by rw [z,e] at k; exact aq k))];exact k
  . have k:=I.base.frzs b o v q;rw [zn (λz=>nf o v (by rw [<-z]; exact q))];exact k
  . obtain ⟨more,k⟩:=I.base.tbls b ps q;exact ⟨more,by rw [zn (λz=>nb _ (by rw [z,e] at k; exact aq k))]; exact k⟩
  . rw [zn (ne I.free)]; exact I.free
  . rw [zn (ne (I.freeC x c q))]; exact I.freeC x c q
  . obtain ⟨k1,k2,k3⟩:=I.pin p hp;exact ⟨k1,by rw [zn (ne k2)]; exact k2,k3⟩
  . by_cases z:b=d
    . subst z;rw [zj] at q;cases q
      exact st _ _ new
    . rw [zn z] at q;exact st _ _ (I.hok b v q)
def Itd(d:Addr)(ob:Obj)(kvs:List (Key×V)):It :=
  ⟨λi H=>H d=some (.frz ob (.dK kvs))/\i<kvs.length,λi H x H'=>H'=H/\∃ kv,kvs[i]?=some kv/\x=kV kv.1,λi H=>H d=some (.frz ob (.dK kvs))/\kvs.length<=i⟩
theorem DR{k:Key}{u:Value}(h:(zT P w).is k u=true):RelV (kV k) u:=by
  cases k with
  | inl i =>
    have h:Value.isInt i u=true:=h;unfold Value.isInt at h;split at h
    . exact ⟨_,by rw [show i=_ from (beq_iff_eq.mp h).symm]⟩
    . cases h
  | inr x =>
    have h:Value.isStrOf x u=true:=h;unfold Value.isStrOf at h;split at h
    . exact ⟨_,by rw [show x=_ from (beq_iff_eq.mp h).symm]⟩
    . cases h
variable {kvs:List (Key×V)}{ep:Nat}
theorem CB{ob:Obj}{es:Array DictEntry}(hdat:ob.data=.dict es ep)(ok:HOk P w H h)(e:H d=some (.frz ob (.dK kvs))):∃ vs,KV kvs vs/\h.DictAt (zT P w) d vs ep:=by
  obtain ⟨g,_,_,vs,r,o,es',ep',g',c,dd,r2⟩:=ok d _ e;have:o=ob:=by rw [g] at g'; exact (aq g').symm
  subst this;rw [hdat] at dd;cases dd
  exact ⟨vs,r,o,es,g,c,hdat,r2⟩
theorem DK{K:iJ}(d it:Addr){ob:Obj}{es:Array DictEntry}(hdat:ob.data=.dict es ep):Turn P w K tg (Itd d ob kvs) [it] it (λi h=>h.IsKeyIter it d i kvs.length ep) where
  mem:=by simp
  obj:=λi h st b hb=>by
    have e:b=it:=by simpa using hb
    subst e;obtain ⟨o,e,c,dd⟩:=st;exact ⟨o,e,λv z=>by rw [dd] at z; cases z⟩
  keep:=λi h h' st k=>st.at λo e=>k it (by simp) o e
  item:=by
    intro X hP hw hK hc i pins s σ H E I hf st hg;subst hP hw hK;obtain ⟨hfz,hi⟩:=hg;obtain ⟨vs,r,da⟩:=CB hdat I.hok hfz;have hl:=r.length;obtain ⟨f0,f1,f2,f3,f4,f5⟩:=hf it (by simp);obtain ⟨⟨k,v⟩,hk⟩:∃ p,vs[i]?=some p:=⟨vs[i]'(!4),by simp⟩
    have hkk:kvs[i]?.map (·.1)=some k:=by
      have:=congrArg (·[i]?) r.keys;simp only [aj,hk] at this;exact this
    obtain ⟨kv,hkv,ekv⟩:∃ kv,kvs[i]?=some kv/\kv.1=k:=by
      cases q:kvs[i]? with
      | none=>rw [q] at hkk; cases hkk
      | some kv=>rw [q] at hkk; exact ⟨kv,rfl,aq hkk⟩
    rw [hl] at st ⊢;refine wpAny_pyNext_dict_item st da hk λkey h' hkey st' sb=>?_;have I1:Inv X pins σ H { s with heap:=h' }:=I.turned (t':=s.toks) (λb o hb e=>(sb.2 b hb).trans e) f0 f1 f3 f4 f5;obtain ⟨o,e,c,dd⟩:=id st';exact ⟨key,rfl,D4 (s:={ s with heap:=h' }) e c dd (by decide) ⟨kV k,H,I1,DR hkey,⟨rfl,kv,hkv,by rw [ekv]⟩,st',λb hb=>(hf b hb).1⟩⟩
  done:=by
    intro X hP hw hK hc i pins s σ H E I hf st hg;subst hP hw hK;obtain ⟨hfz,hi⟩:=hg;obtain ⟨vs,r,da⟩:=CB hdat I.hok hfz;have hl:=r.length;obtain ⟨f0,f1,f2,f3,f4,f5⟩:=hf it (by simp);rw [hl] at st;exact wpAny_pyNext_dict_end (I.ok.hd hc) st da (dA (!4)) λh' eb=>⟨rfl,I.turned (t':=s.toks) (λb o hb e=>eb b o hb e) f0 f1 f3 f4 f5⟩
  self:=λ_ _ _ _ _ st h=>wpAny_pyIter_keyiter st h
def NoFz(H₀:Hp)(d:Addr):Prop:=∀ o v,H₀ d≠some (.frz o v)
def IM(H₀:Hp)(td:TE):TI:=λσ H R=>td σ H λx H1=>∃ d kvs,x=.ref d/\H1 d=some (.dK kvs)/\∀ ob,NoFz H₀ d->R (Itd d ob kvs) (upd H1 d (.frz ob (.dK kvs)))
theorem Inv.nofrz{pins:List (Addr×Obj)}{σ:St}{s:Shared}(I:Inv X pins σ H s)(e:H d=some (.dK kvs)):∀ o v,X.H₀ d≠some (.frz o v):=λo v q=>by
  have k:=I.base.frzs d o v q;rw [e] at k;cases k
theorem Inv.freeze{pins:List (Addr×Obj)}{σ:St}{s:Shared}{ob:Obj}(I:Inv X pins σ H s)(e:H d=some (.dK kvs))(g:s.heap.get? d=some ob):Inv X pins σ (upd H d (.frz ob (.dK kvs))) s :=
  I.retrack e (I.nofrz e) (λ_ z=>by cases z) (λ_ z=>by cases z) (λ_ z=>by cases z) ⟨g,I.hok d _ e⟩ (λ_ z=>by cases z)
theorem Inv.thaw{pins:List (Addr×Obj)}{σ:St}{s:Shared}{ob:Obj}(I:Inv X pins σ H s)(nf:∀ o v,X.H₀ d≠some (.frz o v))(e:H d=some (.frz ob (.dK kvs))):Inv X pins σ (upd H d (.dK kvs)) s :=
  I.retrack e nf (λ_ z=>by cases z) (λ_ z=>by cases z) (λ_ z=>by cases z) (I.hok d _ e).2 (λ_ z=>by cases z)
theorem Eo{e:Expr}{td:TE}(hd:PE X e td):PI X tg e (IM X.H₀ td):=by
  intro pins s σ H R I h;refine thn (hd pins s σ H _ I h) λv s1 ⟨x,H1,I1,r1,q1⟩=>?_;obtain ⟨d,kvs,ex,hq,q⟩:=q1;subst ex;cases r1
  obtain ⟨z,y,vs,r,dof⟩:=id (I1.hok d _ hq);obtain ⟨ep,o,es,ho,r2⟩:=dof.dictAt;obtain ⟨c,hdat,r3⟩:=id r2;refine wpAny_pyIter_dict y ⟨o,es,ho,r2⟩ ?_;have I2:=(I1.kept (h':=s1.heap.push { cls:=.type "dict_keyiterator",data:=.fields #[.ref d,.int 0 0,.int vs.length 0,.int ep 0] }) (t':=s1.toks) λb o e=>Heap.get?_push_of_some _ e).freeze hq (Heap.get?_push_of_some _ ho);refine ⟨s1.heap.objs.size,[s1.heap.objs.size],_,_,_,rfl,I2,DK d _ hdat,?_,λb hb=>?_,q o (I1.nofrz hq)⟩
  . rw [r.length];exact ⟨_,Heap.get?_push_size _ rfl,rfl,rfl⟩
  . have e:b=s1.heap.objs.size:=by simpa using hb
    subst e;have hn:=I1.hok.fresh (ag s1.heap.objs.size);exact I1.fpOk (ag _) (by rw [zn (λz=>by rw [z,hq] at hn; cases hn)]; exact hn)
def HR(H₀:Hp)(td:TE)(g:TG)(tc:TT)(te:TE)(n:Nat)(js:List Nat):TE:=λσ H Q=>AS (IM H₀ td) g tc te n js σ H λv H2=>∃ d ob kvs,NoFz H₀ d/\H2 d=some (.frz ob (.dK kvs))/\Q v (upd H2 d (.dK kvs))
theorem BY{elt iter tgt:Expr}{ifs:List Expr}{scope:Scope}{pos:Pos}{td:TE}{tc:TT}{te:TE}(own:List Str)(js:List Nat)(hc:X.calm=true)(hi:PI X tgt iter (IM X.H₀ td))(hg:∀ cl fp C s3 H3,PG (zV X scope cl own js fp C s3 H3) tgt g)(ht:∀ cl fp C s3 H3,PIfs (zV X scope cl own js fp C s3 H3) ifs tc)(he:∀ cl fp C s3 H3,PE (zV X scope cl own js fp C s3 H3) elt te)(hfree':(scope.names.all λy=>y.2 != .free || X.env.scope.names.lookup y.1==some .cell)=true:=by rfl)(hjs':(js.all λj=>scope.names.lookup (X.N.getD j Str.empty)==some .free && X.env.scope.names.lookup (X.N.getD j Str.empty)==some .cell)=true:=by rfl)(hcell':(scope.names.all λy=>y.2 != .cell)=true:=by rfl)(hnames':(scope.names.all λy=>y.2 != .local || scope.names.lookup y.1==some .local)=true:=by rfl)(hkind:scope.kind=.function:=by rfl)(hs:∀ x,foldedSetIterable iter X.env x=pure x:=by intro _; rfl) :
    PE X (.ListComp elt [⟨tgt,iter,ifs,0⟩] scope pos) (HR X.H₀ td g tc te own.length js):=by
  intro pins s σ H Q I h;rw [eval_ListComp];refine t6 own js hc hi hg ht he (Be hfree') (IU hjs') (Bi hcell') (uW hnames') hkind hs I h λD H3 H5 σ5 s3 s6 fp cl I3 f3 I6 qn=>?_;obtain ⟨d,ob,kvs,nf,e,qn⟩:=qn;obtain ⟨m,hm,_⟩:=id I6.loc;exact ⟨m,hm,λh' sb=>⟨.ref D,_,(vv I3 f3 I6 sb).thaw nf e,rfl,qn⟩⟩
section
variable {g:TG}{tc:TT}{te:TE}{D:Addr}{H1:Hp}{σ0:St}{Q:VK}
theorem AK{R:Hp->Prop}{ob:Obj}(Pv:Nat->List V->St->Hp->Prop)(h0:Pv 0 [] σ0 (upd H1 D (.lst [])))(hl:∀ i xs σ H,i<=kvs.length->Pv i xs σ H->H d=some (.frz ob (.dK kvs)))(hs:∀ i kv xs σ H,kvs[i]?=some kv->Pv i xs σ H->g (kV kv.1) σ H λσ3 H3=>tc σ3 H3 λb H4=>if b=true then te σ3 H4 λv H5=>z7 (.ref D) [v] H5 λ_ H6=>tX kvs.length Pv i σ3 H6 else tX kvs.length Pv i σ3 H4)(hd:∀ xs σ H,Pv kvs.length xs σ H->R H) : ∃ W:Nat->Nat->St->Hp->Prop,(∃ m,W 0 m σ0 (upd H1 D (.lst [])))/\∀ i m σ' H',W i m σ' H'->((Itd d ob kvs).stop i H'/\R H')\/((Itd d ob kvs).go i H'/\∀ x H2,(Itd d ob kvs).yld i H' x H2->g x σ' H2 λσ3 H3=>tc σ3 H3 λb H4 =>
      if b=true then te σ3 H4 λv H5=>z7 (.ref D) [v] H5 λ_ H6=>∃ m',m'<m/\W (i+1) m' σ3 H6 else ∃ m',m'<m/\W (i+1) m' σ3 H4):=by
  refine ⟨λi m σ H=>m=kvs.length - i/\i<=kvs.length/\∃ xs,Pv i xs σ H,⟨kvs.length,by simp,cI _,[],h0⟩,?_⟩;rintro i m σ H ⟨rfl,hi,xs,p⟩;have q:=hl i xs σ H hi p;by_cases hlt:i<kvs.length
  . refine .inr ⟨⟨q,hlt⟩,λx H' y=>?_⟩;obtain ⟨e,kv,hkv,ex⟩:=y;subst e ex;exact hs i kv xs σ _ hkv p
  . have e:i=kvs.length:=by omega
    subst e;exact .inl ⟨⟨q,ag _⟩,hd xs σ H p⟩
theorem FQ{H₀:Hp}{td:TE}{σ:St}{n:Nat}{js:List Nat}(h:td σ H λx H1=>∃ d kvs,x=.ref d/\H1 d=some (.dK kvs)/\∀ ob,NoFz H₀ d->∀ D,(upd H1 d (.frz ob (.dK kvs))) D=none->∃ W:Nat->Nat->St->Hp->Prop,(∃ m,W 0 m (uj n js σ) (upd (upd H1 d (.frz ob (.dK kvs))) D (.lst []))) /\
  ∀ i m σ' H',W i m σ' H'->((Itd d ob kvs).stop i H'/\∃ d' ob' kvs',NoFz H₀ d'/\H' d'=some (.frz ob' (.dK kvs'))/\Q (.ref D) (upd H' d' (.dK kvs')))\/((Itd d ob kvs).go i H'/\∀ x H2,(Itd d ob kvs).yld i H' x H2->g x σ' H2 λσ3 H3=>tc σ3 H3 λb H4 =>
    if b=true then te σ3 H4 λv H5=>z7 (.ref D) [v] H5 λ_ H6=>∃ m',m'<m/\W (i+1) m' σ3 H6 else ∃ m',m'<m/\W (i+1) m' σ3 H4)):HR H₀ td g tc te n js σ H Q:=h
end
def OwnM(P:Program)(w:World)(K:iJ)(mg:Str->Option Value)(base:Heap)(CX:CXT)(C:Addr)(k:Nat)(m:Str)(ps:List Str)(dvs:List V)(sp:Sp):Prop :=
  ∃ (f:Addr) (fd:FuncData) (ds:List Value),FnOk P w K mg base CX k f fd ps sp/\Cls K C/\Meth K C m f/\Binds K fd ps ds/\Vals dvs ds
def OwnI(P:Program)(w:World)(K:iJ)(mg:Str->Option Value)(base:Heap)(CX:CXT)(C:Addr)(k:Nat)(x:Str)(ps:List Str)(dvs:List V)(sp:Sp):Prop :=
  ∃ (f:Addr) (fd:FuncData) (ds:List Value),FnOk P w K mg base CX k f fd ps sp/\Mk K C f/\mg x=some (.ref C)/\Binds K fd ps ds/\Vals dvs ds
section
variable {CX:CXT}{k j:Nat}{C:Addr}{x m:Str}{ps ks:List Str}{dvs:List V}{sp:Sp}{E:XK}{p pos apos:Pos}{e o:Expr}{es:List Expr}{ta:TE}{t tk:TA}{pl:Sem Bool}{kws:List Keyword}{gV:List V->List V->List V}
theorem vN(O:OwnM X.prog X.w X.K X.mg X.base CX C k m ps dvs sp)(hx:xO CX X E)(hr:Room j X.A)(he:PE X o ta)(ha:PA X (e::es) t)(hk:k<=j:=by decide)(hst:starEach (e::es) X.env=(false,eval e X.env)::starEach es X.env:=by rfl)(hpl:(backTo pos (starEach es X.env)).any (·.1)=false:=by rfl)(ht:eval (.Call (.Attribute o m apos) (e::es) [] pos) X.env=(do
      let ov <-eval o X.env
      standAt apos.atName
      let (f,first) <-holding [ov] (getMethod ov m pl)
      callWith pos f first (backTo pos (starEach (e::es) X.env)) (backToKw pos (keywordEach [] X.env))):=by rfl):PE X (.Call (.Attribute o m apos) (e::es) [] pos) (DJ C m sp dvs E ta t):=by
  obtain ⟨f,fd,ds,F,c,hm,hb,hd⟩:=O;exact Jb he c hm F (hr.mono hk) hb hd hx ha hst hpl ht
theorem B0(O:OwnM X.prog X.w X.K X.mg X.base CX C k m ps dvs sp)(hx:xO CX X E)(hr:Room j X.A)(he:PE X o ta)(hk:k<=j:=by decide)(ht:eval (.Call (.Attribute o m apos) [] [] pos) X.env=(do
      let ov <-eval o X.env
      standAt apos.atName
      let (f,first) <-holding [ov] (getMethod ov m pl)
      callWith pos f first (backTo pos (starEach [] X.env)) (backToKw pos (keywordEach [] X.env))):=by rfl):PE X (.Call (.Attribute o m apos) [] [] pos) (DJ C m sp dvs E ta tNil):=by
  obtain ⟨f,fd,ds,F,c,hm,hb,hd⟩:=O;exact Ge he c hm F (hr.mono hk) hb hd hx ht
theorem Jy(O:OwnI X.prog X.w X.K X.mg X.base CX C k x ps dvs sp)(hx:xO CX X E)(hr:Room j X.A)(hg:Gl X x)(ha:PA X (e::es) t)(hk:k+1<=j:=by decide)(hdb:(x==("__debug__":Str))=false:=by decide)(he:starEach (e::es) X.env=(false,eval e X.env)::starEach es X.env:=by rfl)(hpl:(backTo pos (starEach es X.env)).any (·.1)=false:=by rfl):PE X (.Call (.Name x p) (e::es) [] pos) (IB C sp dvs E t):=by
  obtain ⟨f,fd,ds,F,M,hm,hb,hd⟩:=O;exact IN M F (hr.mono hk) hg hm hb hd hx ha hdb he hpl
end
def TopM(K:iJ)(C:Addr)(m qual:Str)(st:Stmt):Prop:=∃ (f:Addr) (fd:FuncData),Fun K m qual st f fd/\Meth K C m f
def TopIn (K:iJ) (mg:Str->Option Value) (C:Addr) (x qual:Str) (st:Stmt) (its:List Value):Prop:=∃ (f:Addr) (fd:FuncData),FunD K "__init__" qual st f fd its/\Mk K C f/\mg x=some (.ref C)
section
variable {P:Program}{w:World}{K:iJ}{mg:Str->Option Value}{base:Heap}{CX:CXT}{C:Addr}{k:Nat}{x m qual:Str}{st:Stmt}{ps ks:List Str}{dvs:List V}{its ds:List Value}{sp:Sp}
theorem TopM.own(T:TopM K C m qual st)(c:Cls K C)(hb:∀ (kV doc pm:Value) (an:Option Addr) (cdv ct:Value) (us:List Value),us.length=ps.length->bindArgs (W.fnOf m qual (defArgs st) (defBody st) (defScope st) .none kV doc pm an cdv ct) ⟨us,[]⟩=pure (ps.zip us))(h:∀ f fd,Fun K m qual st f fd->FnOk P w K mg base CX k f fd ps sp):OwnM P w K mg base CX C k m ps [] sp:=by
  obtain ⟨f,fd,F,hm⟩:=T;exact ⟨f,fd,[],h f fd F,c,hm,F.binds hb,.nil⟩
theorem TopIn.own(T:TopIn K mg C x qual st its)(hb:∀ (T:Addr) (kV doc pm:Value) (an:Option Addr) (cdv ct:Value) (us:List Value),(us++ds).length=ps.length->∃ k:Option (Array Value)->Sem (List (Str×Value)),
      bindArgs (W.fnOf "__init__" qual (defArgs st) (defBody st) (defScope st) (.ref T) kV doc pm an cdv ct) ⟨us,[]⟩=seqItems? (.ref T) >>= k/\k (some its.toArray)=pure (ps.zip (us++ds)))(hd:Vals dvs ds)(h:∀ f fd,FunD K "__init__" qual st f fd its->FnOk P w K mg base CX k f fd ps sp):OwnI P w K mg base CX C k x ps dvs sp:=by
  obtain ⟨f,fd,F,M,hm⟩:=T;exact ⟨f,fd,ds,h f fd F,M,hm,F.binds hb,hd⟩
end
variable {C f:Addr}{osl:Array (Option Value)}{an od:Option Addr}{qual:Str}{cdv ct doc oc pm:Value}
theorem topM_mk{K:iJ}{m:Str}{st:Stmt}{kV:Value}(l:K.lookup f=some ⟨oc,od,.func (W.fnOf m qual (defArgs st) (defBody st) (defScope st) .none kV doc pm an cdv ct),osl⟩)(c:W.codeIn K cdv qual=true)(k:W.keepIn K (.ref f)=true)(a:W.findIn K (.ref C) m=some (some (.ref f)))(n:W.isFn K (.ref f)=true):TopM K C m qual st:=⟨f,_,HP l c k,⟨a,n,k⟩⟩
variable {its:List Value}
theorem topIn_mk{K:iJ}{st:Stmt}{T:Addr}{kV:Value}{n:Nat}{to:Obj}(X:K.In h)(G:h.Ns mainGlobals mg)(l:K.lookup f=some ⟨oc,od,.func (W.fnOf "__init__" qual (defArgs st) (defBody st) (defScope st) (.ref T) kV doc pm an cdv ct),osl⟩)(c:W.codeIn K cdv qual=true)(k:W.keepIn K (.ref f)=true)(t:K.lookup T=some to)(d:to.data=.seq its.toArray n)(m:W.makesIn K C=true)(i:W.findIn K (.ref C) "__init__"=some (some (.ref f)))(nf:W.isFn K (.ref f)=true)(kc:W.keepIn K (.ref C)=true)(a:W.nsIn K mainGlobals x=some (some (.ref C))):TopIn K mg C x qual st its :=
  ⟨f,_,⟨⟨oc,od,T,kV,doc,pm,an,cdv,ct,osl,_,n,rfl,l,c,t,d⟩,k⟩,⟨m,i,nf,kc⟩,dR X G a⟩
section
variable {prog:Program}{w:World}{κ:Type}[DecidableEq κ]{knd:KeyKind prog w κ}{A:Around}{E:Value->Shared->Prop}
theorem xw:entryFor table "dict.update.loop"=some Builtin.«dict.update.loop»:=entryFor_of_tree (by kernel_rfl)
theorem uh:typeLookup (.type "list") "keys"=pure none:=by rw [typeLookup_type,builtinLookup_eq_fast]; kernel_rfl
theorem Aa{s:Shared}{xs:Array Value}{k:Nat}{Q:Option Value->Shared->Prop}(hx:s.heap.get? a=some o)(hc:o.cls=.type "list")(hdat:o.data=.seq xs k)(hd:o.dict=none)(hA:A.handled=none)(q:∀ h' tk e,Heap.NewExcOf s.heap h' e "AttributeError"->Q none { s with heap:=h',toks:=tk }):wpAny (model prog w) A (getAttr? (.ref a) "keys") Q E s:=by
  obtain ⟨c,dct,dat,sl⟩:=o;simp only at hc hdat hd;subst hc hdat hd;obtain ⟨hp,g,d,tk,os⟩:=s;have tT:∀ tk',(⟨hp,g,d,tk',os⟩:Shared).TypeIs (.ref a) "list":=λ_=>⟨_,hx,rfl⟩
  have k1:=sub_AttributeError;have k3:=F.slot_list_getattribute.lookup;have k4:=F.slot_list_getattribute.bind (.ref a);have k5:=am_list_getattr_none;unfold getAttr? getAttrBy? getAttrBy;repeat (any_goals (first | assumption | exact tT _ | ((with_reducible show wpAny _ _ (call (Value.builtin "list.__getattribute__") _ _) _ _ _); refine call_meets F.slot_list_getattribute (tT _) am_entry_list_getattribute (F.args_list_getattribute_2 _ _) (meets_getattribute_miss_list a xs k sl "keys" _ uh (by decide +kernel)) ⟨hx,hA,λh' tk' e hx'=>?_⟩) | wp_step))
  obtain ⟨t',u',he⟩:=hx'.there;show wpAny _ _ (getattributeRaised _ _ _ _ _ _ _) _ _ _;unfold getattributeRaised;repeat (any_goals (first | assumption | wp_step))
  exact q _ _ _ hx'.of
theorem Ao(hh:A.handled=none){R:Result->Shared->Prop}{d it l:Addr}(hdi:d≠it)(hdl:l≠d)(hli:l≠it){items:List Value}{rs:List (κ×Value)}{s0:Shared} (hit0:∀ (i:Nat) (x:Value),items[i]?=some x->∃ (p:Addr) (k:κ) (v key:Value),x=.ref p/\p≠d/\p≠it/\s0.heap.IsTuple p #[key,v]/\rs[i]?=some (k,v)/\knd.is k key=true) (hlen:rs.length=items.length) (hnd:(rs.map (·.1)).Nodup) (hsz:rs.length<=sizeLine) (hl0:s0.heap.IsList l items.toArray) (hR:∀ h' tk,h'.DictOf knd d rs->(∀ b o,b≠it->b≠d->s0.heap.get? b=some o->h'.get? b=some o)->R (.ok (.ret .none)) { s0 with heap:=h',toks:=tk }) :
    ∀ (n i:Nat) (h:Heap) (tk:Nat),items.length=i+n->h.IsListIter it l i->h.DictOf knd d (rs.take i)->(∀ b o,b≠it->b≠d->s0.heap.get? b=some o->h.get? b=some o) ->
      codeAny (model prog w) A (.builtin "dict.update.loop" ⟨[.ref d,.ref it,rawInt i,.none],[]⟩) R { s0 with heap:=h,toks:=tk }
  | 0,i,h,tk,e,hi,hd,hk=>by
    have hl:h.IsList l items.toArray:=by
      obtain ⟨o,g,c⟩:=hl0;exact ⟨o,hk l o hli hdl g,c⟩
    refine codeAny_builtin xw ?_;unfold Builtin.«dict.update.loop»;refine ix (wpAny_pyNext_list_end (A:=A.under _) hh hi hl (by simp; omega) λh' eb=>?_);have hd':h'.DictOf knd d rs:=by
      have:=hd.extBut eb hdi
      rwa [bT (!4)] at this
    exact ix (iA (iA (hR h' tk hd' λb o n1 n2 g=>eb b o n1 (hk b o n1 n2 g))))
  | n+1,i,h,tk,e,hi,hd,hk=>by
    have hl:h.IsList l items.toArray:=by
      obtain ⟨o,g,c⟩:=hl0;exact ⟨o,hk l o hli hdl g,c⟩
    obtain ⟨x,hx⟩:∃ x,items[i]?=some x:=⟨items[i]'(!4),by simp⟩
    obtain ⟨p,k,v,key,rfl,np,npi,⟨o,go,oc,m,od⟩,hr,hkey⟩:=hit0 i x hx;refine codeAny_builtin xw ?_;unfold Builtin.«dict.update.loop»;refine ix (wpAny_pyNext_list_item hi hl (by simpa using hx) λh' hi' sb=>?_);have gp:h'.get? p=some o:=(sb.2 p npi).trans (hk p o npi np go);refine ix (iy ?_);refine ix (wpAny_tryCatch ?_);unfold Builtin.Dict.pairItems;refine ix (iG (s:={ s0 with heap:=h',toks:=tk }) (T:="tuple") ⟨o,gp,oc⟩ ?_);rw [io (by decide)];refine ix (wpAny_seqItems (s:={ s0 with heap:=h',toks:=tk }) gp od (iA ?_));show wpAny _ _ (holding [key,v] (dictSet d key v)) _ _ _;refine iy (wpAny_dictSet_pairs (s:={ s0 with heap:=h',toks:=tk }) (hsz:=by rw [az]; omega) hkey (hd.sameBut sb hdi) λh2 hd2 sb2=>?_);refine iA ⟨Code.quiet_builtin _ (by decide +kernel),?_⟩;have est:stored (rs.take i) k v=rs.take (i+1):=by
      rw [dW,hr];unfold stored;rw [ip]
      . rfl
      . intro z;obtain ⟨y,hy,ey⟩:=List.any_eq_true.mp z;have ey:y.1=k:=of_decide_eq_true ey;obtain ⟨j,hj,rfl⟩:=List.getElem_of_mem hy;rw [az] at hj;have hi2:=(af.mp hr)
        obtain ⟨hi3,hi4⟩:=hi2;refine gv.mp hnd j i (by rw [aa]; omega) (by rw [aa]; omega) (!4) ?_;simp only [d9];rw [hi4];simpa using ey
    rw [est] at hd2;have:=Ao hh hdi hdl hli hit0 hlen hnd hsz hl0 hR n (i+1) h2 (tk+1) (!4) (hi'.at λo g=>(sb2.2 it (ck hdi)).trans g) hd2 λb o n1 n2 g=>(sb2.2 b n2).trans ((sb.2 b n1).trans (hk b o n1 n2 g));exact this
theorem vA{s:Shared}{Q:Value->Shared->Prop}{ol:Obj}{n:Nat}{items:List Value}{rs:List (κ×Value)}(hh:A.handled=none)(hl:s.heap.get? l=some ol)(hc:ol.cls=.type "list")(hdat:ol.data=.seq items.toArray n)(hdd:ol.dict=none)(hit0:∀ (i:Nat) (x:Value),items[i]?=some x->∃ (p:Addr) (k:κ) (v key:Value),x=.ref p/\s.heap.IsTuple p #[key,v]/\rs[i]?=some (k,v)/\knd.is k key=true)(hlen:rs.length=items.length)(hnd:(rs.map (·.1)).Nodup)(hsz:rs.length<=sizeLine)(q:∀ h' tk,h'.DictOf knd s.heap.objs.size rs->(∀ b o,s.heap.get? b=some o->h'.get? b=some o)->Q (.ref s.heap.objs.size) { s with heap:=h',toks:=tk }) :
    wpAny (model prog w) A (call (.type "dict") [.ref l]) Q E s:=by
  refine callType_codes (Q₁:=λobj s₁=>obj=.ref s.heap.objs.size/\s₁={ s with heap:=s.heap.push { cls:=.type "dict",data:=.dict #[] } }) F.kt_called_dict (F.kt_typeCall_dict_1 _) F.entry_dict_init (kt_code_dict_new _ ⟨rfl,rfl⟩) ?_;rintro obj s₁ ⟨rfl,rfl⟩;have hnew:(s.heap.push { cls:=.type "dict",data:=.dict #[] }).DictOf knd s.heap.objs.size []:=Heap.DictOf.new s.heap;have hl1:=Heap.get?_push_of_some { cls:=.type "dict",data:=.dict #[] } hl;refine ⟨hnew.typeIs,F.args_dict_init_2 _ _,?_⟩;unfold Builtin.«dict.__init__»;refine ix ?_;unfold Builtin.Dict.selfAndRest;refine ix (wpAny_notOrdered_dict hnew.typeIs ?_);show wpAny _ _ (pure (s.heap.objs.size,[Value.ref l])) _ _ _;refine iA ?_;show wpAny _ _ (Builtin.Dict.updateFrom "dict.__init__" s.heap.objs.size (.ref l) [] .none) _ _ _;unfold Builtin.Dict.updateFrom;refine ix (iG (s:={ s with heap:=s.heap.push { cls:=.type "dict",data:=.dict #[] } }) (T:="list") ⟨ol,hl1,hc⟩ ?_);rw [io (by decide)];refine ix (Aa (s:={ s with heap:=s.heap.push { cls:=.type "dict",data:=.dict #[] } }) hl1 hc hdat hdd (show A.in1.in1.handled=none from hh) λh1 tk1 e1 new=>?_);simp only [Option.isNone_none,if_true];have kp:∀ b o,(s.heap.push { cls:=.type "dict",data:=.dict #[] }).get? b=some o->h1.get? b=some o:=new.keeps;have hl2:=kp _ _ hl1;refine ix (wpAny_rule ?_);refine ix (iD (s:={ s with heap:=h1,toks:=tk1 }) ⟨ol,hl2,hc,n,hdat⟩ ?_);refine iA ⟨Code.quiet_builtin _ (by decide +kernel),?_⟩;have lt:∀ {b o},s.heap.get? b=some o->b<s.heap.objs.size:=λg=>Heap.lt_size g;obtain ⟨od,_,_,god,_⟩:=id hnew;have ltd:s.heap.objs.size<h1.objs.size:=Heap.lt_size (kp _ _ god);have up:∀ b o,s.heap.get? b=some o->(h1.push { cls:=.type "list_iterator",data:=.fields #[.ref l,.int 0 0] }).get? b=some o:=λb o g=>Heap.get?_push_of_some _ (kp b o (Heap.get?_push_of_some _ g));have hd0:(h1.push { cls:=.type "list_iterator",data:=.fields #[.ref l,.int 0 0] }).DictOf knd s.heap.objs.size (rs.take 0):=by
    obtain ⟨o,es,ep,g,r⟩:=hnew;exact ⟨o,es,ep,Heap.get?_push_of_some _ (kp _ _ g),r⟩
  refine Ao (s0:={ s with heap:=h1.push { cls:=.type "list_iterator",data:=.fields #[.ref l,.int 0 0] },toks:=tk1 }) (A:=A.in1) (show A.in1.handled=none from hh) (d:=s.heap.objs.size) (it:=h1.objs.size) (l:=l) (aQ ltd) (aQ (lt hl)) (aQ (gc (lt hl) ltd)) (items:=items) (rs:=rs) (λi x hx=>?_) hlen hnd hsz ⟨ol,up _ _ hl,hc,n,hdat⟩ (λh' tk dd kk=>⟨rfl,?_⟩) items.length 0 _ tk1 (by simp) ⟨_,Heap.get?_push_size _ rfl,rfl,rfl⟩ hd0 λb o _ _ g=>g
  . obtain ⟨p,k,v,key,e,⟨o,g,c⟩,r,hk⟩:=hit0 i x hx;exact ⟨p,k,v,key,e,aQ (lt g),aQ (gc (lt g) ltd),⟨o,up _ _ g,c⟩,r,hk⟩
  . exact q h' tk dd λb o g=>kk b o (aQ (gc (lt g) ltd)) (aQ (lt g)) (up b o g)
end
def HJ:List V->Hp->VK->Prop:=λxs H Q=>∃ (l:Addr) (ps:List Addr) (kvs:List (Key×V)),xs=[.ref l]/\H l=some (.lst (ps.map V.ref))/\ps.length=kvs.length/\(∀ (i:Nat) (p:Addr) (kv:Key×V),ps[i]?=some p->kvs[i]?=some kv->H p=some (.tup [kV kv.1,kv.2]))/\(kvs.map (·.1)).Nodup/\kvs.length<=sizeLine/\∀ p,H p=none->Q (.ref p) (upd H p (.dK kvs))
theorem Ch{P:Program}{w:World}{H:Hp}{h:Heap}(ok:HOk P w H h):∀ {ps:List Addr} {kvs:List (Key×V)},ps.length=kvs.length->(∀ (i:Nat) (p:Addr) (kv:Key×V),ps[i]?=some p->kvs[i]?=some kv->H p=some (.tup [kV kv.1,kv.2])) -> ∃ rs:List (Key×Value),KV kvs rs/\∀ (i:Nat) (x:Value),(ps.map Value.ref)[i]?=some x->∃ (p:Addr) (k:Key) (v key:Value),x=.ref p/\h.IsTuple p #[key,v]/\rs[i]?=some (k,v)/\(zT P w).is k key=true
  | [],[],_,_=>⟨[],.nil,λi x e=>by simp at e⟩
  | [],_::_,e,_=>by cases e
  | _::_,[],e,_=>by cases e
  | p::ps,kv::kvs,e,hp=>by
    obtain ⟨rs,r,hr⟩:=Ch ok (ps:=ps) (kvs:=kvs) (by simpa using e) λi p' kv' h1 h2=>hp (i+1) p' kv' h1 h2;obtain ⟨_,its,rv,tp⟩:=ok p _ (hp 0 p kv rfl rfl);obtain ⟨key,v,rfl,rk,rv⟩:=Vals.two rv;refine ⟨(kv.1,v)::rs,.cons ⟨rfl,rv⟩ r,λi x hx=>?_⟩;cases i with
    | zero =>
      have:x=.ref p:=(aq hx).symm;subst this;exact ⟨p,kv.1,v,key,rfl,tp,rfl,Dk rk⟩
    | succ i=>exact hr i x hx
theorem Fz:∀ {ps:List Addr} {its:List Value},Vals (ps.map V.ref) its->its=ps.map Value.ref
  | [],_,r=>by cases r; rfl
  | p::ps,_,r=>by
    cases r with
    | cons r1 r2 =>
      cases r1
      rw [Fz r2];rfl
theorem uz(hc:X.calm=true):xi X (.type "dict") HJ:=by
  intro pins s σ H xs us Q I r h;obtain ⟨l,ps,kvs,rfl,el,hlen,hps,hnd,hsz,q⟩:=h;obtain ⟨u,rfl,ru⟩:=Vals.one r;cases ru
  obtain ⟨_,its,n,rv,gl⟩:=id (I.hok l _ el);have:=Fz rv;subst this;obtain ⟨rs,rr,hr⟩:=Ch I.hok hlen hps;have hl:=rr.length;refine vA (I.ok.hd hc) gl rfl rfl rfl hr (by rw [aa]; omega) (by rw [<-rr.keys]; exact hnd) (!4) λh' tk dd kk=>?_;refine ⟨.ref s.heap.objs.size,_,I.laid (a:=s.heap.objs.size) (o:=.dK kvs) (t':=tk) kk (ag _) (Ef hsz (beq_eq_false_iff_ne.mpr (ck (aQ I.big))) rr dd),rfl,q _ (I.hok.fresh (ag _))⟩
section
variable {prog:Program}{w:World}{κ:Type}[DecidableEq κ]{knd:KeyKind prog w κ}{A:Around}{E:Value->Shared->Prop}
theorem uY:typeLookup (.type "dict") "__len__"=pure (some (.builtin "dict.__len__")):=by rw [typeLookup_type,builtinLookup_eq_fast]; kernel_rfl
theorem uG:∀ {l:List Value} {ns:List Int},l.length=ns.length->(∀ (j:Nat) (v:Value) (n:Int),l[j]?=some v->ns[j]?=some n->∃ t,v=.int n t)->IntsAre l ns
  | [],[],_,_=>.nil
  | [],_::_,e,_=>by cases e
  | _::_,[],e,_=>by cases e
  | v::l,n::ns,e,h=>by
    obtain ⟨t,rfl⟩:=h 0 v n rfl rfl;exact .cons n t (uG (by simpa using e) λj v' n' h1 h2=>h (j+1) v' n' h1 h2)
theorem tE{kvs:List (Key×Value)}{acc:Array Value}(hk:kvs.map (·.1)=ns.map Sum.inl)(h:ItemsOf (λi v=>∃ k x,kvs[i]?=some (k,x)/\(zT prog w).is k v=true) acc kvs.length):IntsAre acc.toList ns:=by
  have hl:kvs.length=ns.length:=by
    have:=congrArg List.length hk
    rwa [aa,aa] at this
  refine uG (by rw [ee,h.1,hl]) λj v n h1 h2=>?_;obtain ⟨k,x,e1,e2⟩:=h.2 j v (by rw [<-Array.getElem?_toList]; exact h1);have:k=.inl n:=by
    have z:=congrArg (·[j]?) hk;simp only [aj,e1,h2,eK,gz] at z;exact z
  subst this;exact DR e2
end
theorem xy:∀ {vs:List Value} {ns:List Int},IntsAre vs ns->Vals (ns.map V.int) vs
  | _,_,.nil=>.nil
  | _,_,.cons n t r=>.cons ⟨t,rfl⟩ (xy r)
def Ite(K:iJ)(a:Addr):It :=
  ⟨λi H=>∃ xs x,SqL K H a xs/\xs[i]?=some x,
   λi H v H'=>∃ T,H T=none/\v=.ref T/\∀ xs,SqL K H a xs->∃ x,xs[i]?=some x/\H'=upd H T (.tup [.int (i:Int),x]),
   λi H=>∃ xs,SqL K H a xs/\xs.length<=i⟩
theorem FK{K:iJ}{k:Nat}{pos:Pos}(a e it:Addr)(ne:e≠it):Turn P w K (.Tuple es k pos) (Ite K a) [e,it] e (λi h=>(∃ old,IsEnum h e it (i:Int) old)/\h.IsListIter it a i) where
  mem:=by simp
  obj:=λi h st c hc=>by
    obtain ⟨⟨old,he⟩,⟨o1,e1,c1,d1⟩⟩:=st;have hc':c=e\/c=it:=by simpa using hc
    rcases hc' with rfl|rfl
    . exact ⟨_,he,λv q=>by cases q⟩
    . exact ⟨o1,e1,λv q=>by rw [d1] at q; cases q⟩
  keep:=λi h h' st kk=>by
    obtain ⟨⟨old,he⟩,h1⟩:=st;exact ⟨⟨old,kk e (by simp) _ he⟩,h1.at λo q=>kk it (by simp) o q⟩
  item:=by
    intro X hP hw hK hc i pins s σ H E I hf st hg;subst hP hw hK;obtain ⟨xs,x,hq,hx⟩:=hg;obtain ⟨⟨old,he⟩,h1⟩:=st;obtain ⟨its,rv,p1,hz1⟩:=I.list hq;obtain ⟨u,hu,ru⟩:=rv.get hx;refine wpAny_pyNext_enum_item he h1 p1.isList (x:=u) (by simpa using hu) ne λh' a1 a2 a3 a4 hk=>?_;refine ⟨_,rfl,?_⟩;have lt:∀ {c o},s.heap.get? c=some o->s.heap.objs.size≠c:=λq=>gW (Heap.lt_size q);refine wpAny_letOwnedTupleGo_enum (s:={ s with heap:=h',toks:=s.toks+1 }) a1 λh2' he' hs'=>?_;have hs':Heap.SameBut e h' h2':=hs';have hT:H s.heap.objs.size=none:=I.hok.fresh (ag _);have I0:Inv X pins σ (upd H s.heap.objs.size (.tup [.int (i:Int),x])) { s with heap:=s.heap.push { cls:=.type "tuple",data:=.seq #[.int (i:Int) s.toks,u] },toks:=s.toks+1 } :=
      I.laid (t':=s.toks+1) (λb u e=>Heap.get?_push_of_some _ e) (ag _) ⟨show [V.int (i:Int),x].length<=sizeLine from yW (by simp),[.int (i:Int) s.toks,u],.cons ⟨_,rfl⟩ (.cons ru .nil),⟨_,Heap.get?_push_size _ rfl,rfl,_,rfl⟩⟩
    have hne:∀ c∈[e,it],c≠s.heap.objs.size:=λc hc=>by
      have hc':c=e\/c=it:=by simpa using hc
      rcases hc' with rfl|rfl
      . exact (lt he).symm
      . obtain ⟨_,q,_⟩:=h1; exact (lt q).symm
    have hf':∀ c∈[e,it],FpOk X pins (upd H s.heap.objs.size (.tup [.int (i:Int),x])) c:=λc hc=>by
      obtain ⟨f0,f1,f2,f3,f4,f5⟩:=hf c hc;exact ⟨by rw [zn (hne c hc)]; exact f0,f1,f2,f3,f4,f5⟩
    have I1:=Inv.turnedL (s:={ s with heap:=s.heap.push { cls:=.type "tuple",data:=.seq #[.int (i:Int) s.toks,u] },toks:=s.toks+1 }) (h':=h2') (t':=s.toks+1) (its:=[e,it]) I0 (λc o hc q=>by
      have c1:c≠e:=λq=>hc (by simp [q]);have c3:c≠it:=λq=>hc (by simp [q]);refine hs'.extBut _ _ c1 ?_;by_cases hcs:c=s.heap.objs.size
      . subst hcs;have e':some ({ cls:=.type "tuple",data:=.seq #[.int (i:Int) s.toks,u] }:Obj)=some o:=(Heap.get?_push_size s.heap rfl).symm.trans q;rw [<-e'];exact a3
      . exact hk c o c1 c3 (Bc hcs q)) hf'
    refine ⟨.ref s.heap.objs.size,_,I1,rfl,⟨_,hT,rfl,λxs' q1=>⟨x,by rw [I.list_inj q1 hq]; exact hx,rfl⟩⟩,⟨⟨_,by simpa using he'⟩,a2.extBut hs'.extBut (ck ne)⟩,λc hc=>?_⟩;rw [zn (hne c hc)];exact (hf c hc).1
  done:=by
    intro X hP hw hK hc i pins s σ H E I hf st hg;subst hP hw hK;obtain ⟨xs,hq,hx⟩:=hg;obtain ⟨⟨old,he⟩,h1⟩:=st;obtain ⟨its,rv,p1,hz1⟩:=I.list hq;have l1:=rv.length;obtain ⟨f0,f1,f2,f3,f4,f5⟩:=hf it (by simp);refine wpAny_pyNext_enum_end (I.ok.hd hc) he h1 p1.isList (by simp; omega) λh' hk=>⟨rfl,I.turned (t':=s.toks) (it:=it) (λc o hc q=>hk c o hc q) f0 f1 f3 f4 f5⟩
  self:=λ_ _ _ _ _ st h=>by
    obtain ⟨⟨old,he⟩,_⟩:=st;exact wpAny_pyIter_enum he h
def Itv(K:iJ)(a:Addr)(n:Nat):It :=
  ⟨λi H=>i<n/\∃ xs x,SqL K H a xs/\xs[n - 1 - i]?=some x,λi H x H'=>H'=H/\∀ xs,SqL K H a xs->xs[n - 1 - i]?=some x,λi _=>i=n⟩
theorem Ew{K:iJ}(a it:Addr)(n:Nat):Turn P w K tg (Itv K a n) [it] it (λi h=>h.IsRevIter it a ((n:Int) - 1 - (i:Int))) where
  mem:=by simp
  obj:=λi h st b hb=>by
    have e:b=it:=by simpa using hb
    subst e;obtain ⟨o,e,c,d⟩:=st;exact ⟨o,e,λv z=>by rw [d] at z; cases z⟩
  keep:=λi h h' st k=>st.at λo e=>k it (by simp) o e
  item:=by
    intro X hP hw hK hc i pins s σ H E I hf st hg;subst hP hw hK;obtain ⟨hi,xs,x,hq,hx⟩:=hg;obtain ⟨its,rv,p,hz⟩:=I.list hq;obtain ⟨u,hu,ru⟩:=rv.get hx;obtain ⟨f0,f1,f2,f3,f4,f5⟩:=hf it (by simp);have e1:(n:Int) - 1 - (i:Int)=((n - 1 - i:Nat):Int):=by omega
    rw [e1] at st;refine wpAny_pyNext_rev_item st p.isList (x:=u) (by simpa using hu) λh' st' sb=>?_;have I1:Inv X pins σ H { s with heap:=h' }:=I.turned (t':=s.toks) (λb o hb e=>(sb.2 b hb).trans e) f0 f1 f3 f4 f5;obtain ⟨o,e,c,d⟩:=id st';have e2:((n - 1 - i:Nat):Int) - 1=(n:Int) - 1 - ((i+1:Nat):Int):=by omega
    rw [e2] at st';exact ⟨u,rfl,D4 (s:={ s with heap:=h' }) e c d (by decide) ⟨x,H,I1,ru,⟨rfl,λys hy=>by rw [I.list_inj hy hq]; exact hx⟩,st',λb hb=>(hf b hb).1⟩⟩
  done:=by
    intro X hP hw hK hc i pins s σ H E I hf st hg;subst hP hw hK;have hg:i=n:=hg;subst hg;obtain ⟨f0,f1,f2,f3,f4,f5⟩:=hf it (by simp);have e1:(i:Int) - 1 - (i:Int)=-1:=by omega
    rw [e1] at st;exact wpAny_pyNext_rev_end (I.ok.hd hc) st λh' hk=>⟨rfl,I.turned (t':=s.toks) (it:=it) (λc o hc q=>hk c o hc q) f0 f1 f3 f4 f5⟩
  self:=λ_ _ _ _ _ st h=>wpAny_pyIter_revIter st h
theorem uv:bootBuiltins "enumerate"=some (.type "enumerate"):=by first | rfl | decide +kernel
def Kh(K:iJ)(ta:TA):TI:=λσ H R=>ta σ H λvs H1=>∃ a xs,vs=[.ref a]/\SqL K H1 a xs/\R (Ite K a) H1
variable {ta:TA}
theorem tM{k:Nat}{tpos:Pos}{a:Expr}{p pos:Pos}(hg:Gl X "enumerate")(hm:X.mg "enumerate"=none)(ha:PA X [a] ta)(hs:starEach [a] X.env=[(false,eval a X.env)]:=by rfl) :
    PI X (.Tuple es k tpos) (.Call (.Name "enumerate" p) [a] [] pos) (Kh X.K ta):=by
  intro pins s σ H R I h;refine Call_ (v0 I hg hm uv (cW (thn (ha pos pins s σ H _ I h) λus s1 ⟨vs,H1,I1,r1,q1⟩=>?_) hs rfl));obtain ⟨l1,xs,e,q1,q⟩:=q1;subst e;cases r1 with
  | cons r rr =>
    cases rr
    cases r
    obtain ⟨its1,rv1,p1,hz1⟩:=I1.list q1;refine call_enumerate_list p1.isList λh' he hit hsz hk=>?_;refine wpAny_pyIter_enum (s:={ s1 with heap:=h' }) he ?_;refine ⟨_,[_,_],_,_,H1,rfl,I1.kept (t':=s1.toks) hk,FK l1 _ _ (gW (fC s1.heap.objs.size)),⟨⟨_,he⟩,hit⟩,λc hc=>?_,q⟩;have hc':c=s1.heap.objs.size+1\/c=s1.heap.objs.size:=by simpa using hc
    have hge:s1.heap.objs.size<=c:=by
      rcases hc' with rfl|rfl
      . exact dy ..
      . exact ag _
    exact I1.fpOk hge (I1.hok.fresh hge)
def KO(K:iJ)(ta:TA):TI:=λσ H R=>ta σ H λvs H1=>∃ a xs,vs=[.ref a]/\SqL K H1 a xs/\R (Itv K a xs.length) H1
theorem Iz{a:Expr}{p pos:Pos}(hg:Gl X "reversed")(hm:X.mg "reversed"=none)(ha:PA X [a] ta)(hs:starEach [a] X.env=[(false,eval a X.env)]:=by rfl) :
    PI X tg (.Call (.Name "reversed" p) [a] [] pos) (KO X.K ta):=by
  intro pins s σ H R I h;refine Call_ (v0 I hg hm boot_reversed (cW (thn (ha pos pins s σ H _ I h) λus s1 ⟨vs,H1,I1,r1,q1⟩=>?_) hs rfl));obtain ⟨l1,xs,e,q1,q⟩:=q1;subst e;cases r1 with
  | cons r rr =>
    cases rr
    cases r
    obtain ⟨its1,rv1,p1,hz1⟩:=I1.list q1;have hl:=rv1.length;refine call_reversed_list p1.isList ?_;have hit:(s1.heap.push (revObj l1 ((its1.toArray.size:Int) - 1))).IsRevIter s1.heap.objs.size l1 ((xs.length:Int) - 1 - ((0:Nat):Int)):=⟨_,Heap.get?_push_size _ rfl,rfl,by simp [revObj,hl]⟩
    refine wpAny_pyIter_revIter (s:={ s1 with heap:=_ }) hit ?_;refine ⟨_,[_],_,_,H1,rfl,I1.kept (t':=s1.toks) λb o e=>Heap.get?_push_of_some _ e,Ew l1 _ xs.length,hit,λb hb=>?_,q⟩;have e:b=s1.heap.objs.size:=by simpa using hb
    subst e;exact I1.fpOk (ag _) (I1.hok.fresh (ag _))
variable {E:Ends}
theorem Cj{K:iJ}{σ:St}{tb:TS}(h:ta σ H λvs H1=>∃ a xs,vs=[.ref a]/\SqL K H1 a xs/\∃ W:Nat->Nat->St->Hp->Prop,(∃ m,W 0 m σ H1)/\∀ i m σ H,W i m σ H ->
  ((Ite K a).stop i H/\E.nx σ H)\/((Ite K a).go i H/\∃ N:St->Hp->Prop,(∀ σ' H',N σ' H'->∃ m',m'<m/\W (i+1) m' σ' H')/\∀ x H',(Ite K a).yld i H x H'->g x σ H' λσ2 H2=>tb { E with nx:=N,ct:=N,bk:=E.nx } σ2 H2)) :
  tFor (Kh K ta) g tb E σ H:=h
theorem Lc{K:iJ}{σ:St}{tb:TS}(h:ta σ H λvs H1=>∃ a xs,vs=[.ref a]/\SqL K H1 a xs/\∃ W:Nat->Nat->St->Hp->Prop,(∃ m,W 0 m σ H1)/\∀ i m σ H,W i m σ H ->
  ((Itv K a xs.length).stop i H/\E.nx σ H)\/((Itv K a xs.length).go i H/\∃ N:St->Hp->Prop,(∀ σ' H',N σ' H'->∃ m',m'<m/\W (i+1) m' σ' H')/\∀ x H',(Itv K a xs.length).yld i H x H'->g x σ H' λσ2 H2=>tb { E with nx:=N,ct:=N,bk:=E.nx } σ2 H2)) :
  tFor (KO K ta) g tb E σ H:=h
theorem vj{K:iJ}{xs:List V}{tb:TS}{σ:St}(Pv:Nat->St->Hp->Prop)(h0:Pv 0 σ H)(hl:∀ i σ H,i<=xs.length->Pv i σ H->SqL K H a xs)(hs:∀ i x T σ H,xs[i]?=some x->H T=none->Pv i σ H->g (.ref T) σ (upd H T (.tup [.int (i:Int),x])) λσ2 H2=>tb { D with nx:=Pv (i+1),ct:=Pv (i+1),bk:=D.nx } σ2 H2)(hd:∀ σ H,Pv xs.length σ H->D.nx σ H) :
    ∃ W:Nat->Nat->St->Hp->Prop,(∃ m,W 0 m σ H)/\∀ i m σ H,W i m σ H ->
      ((Ite K a).stop i H/\D.nx σ H)\/((Ite K a).go i H/\∃ N:St->Hp->Prop,(∀ σ' H',N σ' H'->∃ m',m'<m/\W (i+1) m' σ' H')/\∀ x H',(Ite K a).yld i H x H'->g x σ H' λσ2 H2=>tb { D with nx:=N,ct:=N,bk:=D.nx } σ2 H2):=by
  refine ⟨λi m σ H=>m=xs.length - i/\i<=xs.length/\Pv i σ H,⟨xs.length,by simp,cI _,h0⟩,?_⟩;rintro i m σ H ⟨rfl,hi,p⟩;have q1:=hl i σ H hi p;by_cases hlt:i<xs.length
  . refine .inr ⟨⟨xs,xs[i],q1,by simp [hlt]⟩,Pv (i+1),λσ' H' p'=>⟨xs.length - (i+1),by omega,rfl,hlt,p'⟩,λv H' yy=>?_⟩;obtain ⟨T,hT,rfl,yy⟩:=yy;obtain ⟨x,hx,rfl⟩:=yy xs q1;exact hs i x T σ H hx hT p
  . have e:i=xs.length:=by omega
    subst e;exact .inl ⟨⟨xs,q1,ag _⟩,hd σ H p⟩
theorem Gz{K:iJ}{xs:List V}{tb:TS}{σ:St}(Pv:Nat->St->Hp->Prop)(h0:Pv 0 σ H)(hl:∀ i σ H,i<=xs.length->Pv i σ H->SqL K H a xs)(hs:∀ i x σ H,i<xs.length->xs[xs.length - 1 - i]?=some x->Pv i σ H->g x σ H λσ2 H2=>tb { D with nx:=Pv (i+1),ct:=Pv (i+1),bk:=D.nx } σ2 H2)(hd:∀ σ H,Pv xs.length σ H->D.nx σ H) :
    ∃ W:Nat->Nat->St->Hp->Prop,(∃ m,W 0 m σ H)/\∀ i m σ H,W i m σ H ->
      ((Itv K a xs.length).stop i H/\D.nx σ H)\/((Itv K a xs.length).go i H/\∃ N:St->Hp->Prop,(∀ σ' H',N σ' H'->∃ m',m'<m/\W (i+1) m' σ' H')/\∀ x H',(Itv K a xs.length).yld i H x H'->g x σ H' λσ2 H2=>tb { D with nx:=N,ct:=N,bk:=D.nx } σ2 H2):=by
  refine ⟨λi m σ H=>m=xs.length - i/\i<=xs.length/\Pv i σ H,⟨xs.length,by simp,cI _,h0⟩,?_⟩;rintro i m σ H ⟨rfl,hi,p⟩;have q:=hl i σ H hi p;by_cases hlt:i<xs.length
  . have hj:xs.length - 1 - i<xs.length:=by omega
    refine .inr ⟨⟨hlt,xs,xs[xs.length - 1 - i],q,by simp [hj]⟩,Pv (i+1),λσ' H' p'=>⟨xs.length - (i+1),by omega,rfl,hlt,p'⟩,λx H' y=>?_⟩;obtain ⟨e,y⟩:=y;subst e;exact hs i x σ _ hlt (y xs q) p
  . have e:i=xs.length:=by omega
    subst e;exact .inl ⟨rfl,hd σ H p⟩
def Hq(K:iJ):List V->Hp->VK->Prop:=λxs H Q=>∃ (a:Addr) (ns ms:List Int),xs=[.ref a]/\SqL K H a (ns.map V.int)/\ms.Perm ns/\ms.Pairwise (·<=·)/\ns.length<64/\∀ p,H p=none->Q (.ref p) (upd H p (.lst (ms.map V.int)))
theorem wY:∀ {vs:List Value} {ns:List Int},Vals (ns.map V.int) vs->IntsAre vs ns
  | _,[],.nil=>.nil
  | _,n::ns,.cons ⟨t,e⟩ r=>by rw [e]; exact .cons n t (wY r)
theorem Dj:xi X (.builtin "sorted") (Hq X.K):=by
  intro pins s σ H xs us Q I r h;obtain ⟨a,ns,ms,rfl,hq,hp,hs,h64,q⟩:=h;obtain ⟨u,rfl,ru⟩:=Vals.one r;cases ru
  obtain ⟨its,rv,p1,hz1⟩:=I.list hq;have hl:=rv.length;rw [aa] at hl;refine sorted_ints p1.isList (wY rv) (!4) λout ns' a1 a2 a3=>?_;have e:ns'=ms:=gA (λa b _ _ h k=>Int.le_antisymm h k) a3 hs (a2.trans hp.symm);subst e;obtain ⟨ep,he⟩:=sortedAll_at s.heap its out;have hl2:(ns'.map V.int).length<=sizeLine:=by
    rw [aa,a2.length_eq];exact ce (bO h64) (by rw [sizeLine_eq]; decide)
  exact ⟨.ref _,_,I.laid (a:=s.heap.objs.size+1) (o:=.lst (ns'.map V.int)) (t':=s.toks) (λ_ _=>sortedAll_old) (fi _) ⟨hl2,out.toList,ep,xy a1,by simpa using he⟩,rfl,q _ (I.hok.fresh (fi _))⟩
theorem Ja{K:iJ}{Q:VK}{ms:List Int}(h:H a=some (.lst (ns.map V.int)))(hp:ms.Perm ns)(hs:ms.Pairwise (·<=·))(hl:ns.length<64)(q:∀ p H2,H p=none->Same H H2->H2 p=some (.lst (ms.map V.int))->Q (.ref p) H2):Hq K [.ref a] H Q :=
  ⟨a,ns,ms,rfl,SqL.of h,hp,hs,hl,λp hn=>q p _ hn (zC hn _) zj⟩
variable {e:Expr}{te:TE}{p1 p2 pos pos2:Pos}
abbrev vR(p:Addr):Option V:=some (.ref p)
abbrev vI(n:Int):Option V:=some (.int n)
theorem st_of{σ σ':St}(e:σ=σ')(h:t D σ' H):t D σ H:=e ▸ h
theorem JS{u:TS}{σ:St}(h:∀ N:St->Hp->Prop,(∀ σ' H',u D σ' H'->N σ' H')->t { D with nx:=N } σ H):tSeq t u D σ H:=h (u D) λ_ _ h=>h
theorem ps_s(i:Nat)(hN:X.N.Nodup)(he:PE X e te)(hi:X.N[i]?=some x:=by rfl)(hx:Loc X.env.scope x:=by first | exact Or.inl rfl | exact Or.inr rfl)(hs:swapsWith e (some (.Name x pos')) pos.line X.env=pure false:=by rfl)(hf:X.fn x=true\/X.env.scope.names.lookup x=some .local:=by first | exact .inl rfl | exact .inr rfl | assumption):PS X (.Assign [.Name x pos'] e pos) (tAsg te (Bj i)):=HC hN hi hx he hs hf
theorem pg_n(i:Nat)(hN:X.N.Nodup)(hi:X.N[i]?=some x:=by rfl)(hx:Loc X.env.scope x:=by first | exact Or.inl rfl | exact Or.inr rfl)(hf:X.fn x=true\/X.env.scope.names.lookup x=some .local:=by first | exact .inl rfl | exact .inr rfl | assumption):PG X (.Name x pos) (Bj i):=Jk hN hi hx hf
theorem pe_i{a b:Expr}{ta tb:TE}{r:R2}(hr:IxR X r)(ha:PE X a ta)(hb:PE X b tb)(hs:tj b:=by exact λ_ _=>rfl):PE X (.Subscript a b pos) (tOp r ta tb):=IY hr ha hb hs
theorem pa1(ha:PE X e te)(hs:starEach [e] X.env=(false,eval e X.env)::starEach [] X.env:=by rfl):PA X [e] (tz te tNil):=zM ha yU hs
variable {tf:TE}
theorem pa2{f:Expr}(ha:PE X e te)(hb:PE X f tf)(hs:starEach [e,f] X.env=(false,eval e X.env)::starEach [f] X.env:=by rfl)(ht:starEach [f] X.env=(false,eval f X.env)::starEach [] X.env:=by rfl):PA X [e,f] (tz te (tz tf tNil)):=zM ha (pa1 hb ht) hs
theorem pa3{f g:Expr}{tg:TE}(ha:PE X e te)(hb:PE X f tf)(hc:PE X g tg)(hs:starEach [e,f,g] X.env=(false,eval e X.env)::starEach [f,g] X.env:=by rfl)(ht:starEach [f,g] X.env=(false,eval f X.env)::starEach [g] X.env:=by rfl)(hu:starEach [g] X.env=(false,eval g X.env)::starEach [] X.env:=by rfl):PA X [e,f,g] (tz te (tz tf (tz tg tNil))):=zM ha (pa2 hb hc ht hu) hs
variable {fd:FuncData}{base:Heap}{ps:List Str}{sp:Sp}
theorem Fun.okA{K:iJ}{st:Stmt}{N:List Str}{k:Nat}(F:Fun K x qual st f fd)(S:FnScope N ps (defScope st))(hbody:∀ (cdv:Value) (A:Around) (outer:List Env) (s:Shared) (H:Hp) (vs:List V) (Q:VK) (E:XK),Room k (A.deeper (envOfC qual (defScope st) s.heap.objs.size f cdv))->sp vs H Q E->∃ t,PSs (cxOf CX0 P w K mg base N qual (defScope st) f cdv A outer s H E).nox (defBody st) t/\t { nx:=λ_ H'=>Q .non H',rt:=Q } (start N vs) H)(len:∀ vs H Q E,sp vs H Q E->vs.length=ps.length:=by intro vs H Q E h; cases h; subst_vars; rfl):FnOk P w K mg base CX0 (k+1) f fd ps sp:=F.ok S len hbody
theorem FunD.okA{K:iJ}{st:Stmt}{N:List Str}{k:Nat}(F:FunD K x qual st f fd its)(S:FnScope N ps (defScope st))(hbody:∀ (cdv:Value) (A:Around) (outer:List Env) (s:Shared) (H:Hp) (vs:List V) (Q:VK) (E:XK),Room k (A.deeper (envOfC qual (defScope st) s.heap.objs.size f cdv))->sp vs H Q E->∃ t,PSs (cxOf CX0 P w K mg base N qual (defScope st) f cdv A outer s H E).nox (defBody st) t/\t { nx:=λ_ H'=>Q .non H',rt:=Q } (start N vs) H)(len:∀ vs H Q E,sp vs H Q E->vs.length=ps.length:=by intro vs H Q E h; cases h; subst_vars; rfl):FnOk P w K mg base CX0 (k+1) f fd ps sp:=F.ok S len hbody
theorem ifn{A B:Prop}{p:Prop}[Decidable p](q:B)(h:¬ p:=by decide +kernel):if decide p=true then A else B:=by rw [im h]; exact q
variable {p':Pos}
theorem pit(k:Nat){n:Int}{j:Nat}{p:Pos}(hN:X.N[k]?=some x:=by rfl)(hv:Vis X.env.scope x:=by first | exact Or.inl rfl | exact Or.inr (Or.inl rfl) | exact Or.inr (Or.inr rfl))(hd:(x==("__debug__":Str))=false:=by decide)(hcd:(x==("__classdict__":Str))=false:=by decide)(hs:tj (.Constant (.int n) j p'):=by exact λ_ _=>rfl):PE X (.Subscript (.Name x p) (.Constant (.int n) j p') pos) (tOp (rIxT X.K) (tVar k) (tC (.int n))):=IY ix_tup (pv k hN hv hd hcd) zc hs
theorem pil(k:Nat){n:Int}{j:Nat}{p:Pos}(hN:X.N[k]?=some x:=by rfl)(hv:Vis X.env.scope x:=by first | exact Or.inl rfl | exact Or.inr (Or.inl rfl) | exact Or.inr (Or.inr rfl))(hd:(x==("__debug__":Str))=false:=by decide)(hcd:(x==("__classdict__":Str))=false:=by decide)(hs:tj (.Constant (.int n) j p'):=by exact λ_ _=>rfl):PE X (.Subscript (.Name x p) (.Constant (.int n) j p') pos) (tOp (rIxL X.K) (tVar k) (tC (.int n))):=IY ix_list (pv k hN hv hd hcd) zc hs
variable {S:Addr}{n0:Nat}{res:Value}
section
variable {prog:Program}{w:World}{κ:Type}[DecidableEq κ]{knd:KeyKind prog w κ}{A:Around}{E:Value->Shared->Prop}
theorem Dn{s:Shared}{I:Addr}{kvs:List (κ×Value)}{R:Result->Shared->Prop}(hh:A.handled=none)(hn:kvs.length<=sizeLine)(g1:s.heap.get? S=some { cls:=.type "list",data:=.seq #[] n0 })(hI:s.heap.IsKeyIter I d 0 kvs.length ep)(hm:s.heap.DictAt knd d kvs ep)(nSI:S≠I)(nSd:S≠d)(ndI:d≠I)(hR:∀ (s':Shared) (acc:Array Value) (c:Nat),(∀ b o,b≠S->b≠I->s.heap.get? b=some o->s'.heap.get? b=some o)->s'.gens=s.gens->s'.drawn=s.drawn->s'.os=s.os->s'.heap.get? S=some { cls:=.type "list",dict:=none,data:=.seq acc c,slots:=#[] }->ItemsOf (λi v=>∃ k x,kvs[i]?=some (k,x)/\knd.is k v=true) acc kvs.length->R (.ok (.ret res)) s') :
    wpAny (model prog w) A.in1 (rule "list.extend.makes-room" >>= λ_=>Builtin.List.listTouch (.ref S) >>= λ_=>again (.builtin "list.extend.loop" ⟨[.ref S,.ref I,res],[]⟩))
      (λfin s'=>match fin with | .done f=>R (.ok f) s' | .again c'=>c'.quiet=true/\codeAny (model prog w) A c' R s') (λe s'=>R (.error e) s') s:=by
  refine ix (wpAny_rule ?_);refine ix ?_;show wpAny _ A.in1 (updateSeq S (·.push .none) >>= λ_=>updateSeq S (·.pop)) _ _ _;refine ix (wpAny_updateSeq g1 rfl ?_);have g2:=Heap.get?_update_self (Obj.mapSeq (·.push Value.none)) g1 rfl;refine wpAny_updateSeq g2 rfl ?_;have g3:=Heap.get?_update_self (Obj.mapSeq (·.pop)) g2 rfl;have oth:∀ (b:Addr) (o:Obj),b≠S->s.heap.get? b=some o->((s.heap.update S (Obj.mapSeq (·.push Value.none))).update S (Obj.mapSeq (·.pop))).get? b=some o :=
    λb o nb g=>(Heap.get?_update_other _ _ nb.symm).trans ((Heap.get?_update_other _ _ nb.symm).trans g)
  have W:=(Walks.dictKeys (knd:=knd) (A:=A.in1) (show A.in1.handled=none from hh) I d ndI kvs ep).toS;refine iA ⟨plainId_quiet F.plain_extend_loop _,codeAny_extend_loopS W hn S ?_ _ kvs.length 0 _ _ _ rfl (cI _) ⟨hI.at λo g=>oth I o nSI.symm g,hm.at' λo g=>oth d o nSd.symm g⟩ g3 (ItemsOf.nil _) λs' acc' c' hmv hS' hacc=>?_⟩
  . intro z;rcases a7.mp z with z|z
    . exact nSI z
    . exact nSd (by simpa using z)
  . refine hR s' acc' c' (λb o n1 n2 g=>hmv.heap b o (λz=>?_) (oth b o n1 g)) hmv.gens hmv.drawn hmv.os hS' hacc;rcases a7.mp z with z|z
    . exact n1 z
    . exact n2 (by simpa using z)
theorem BN{s:Shared}{kvs:List (κ×Value)}{R:Result->Shared->Prop}(hh:A.handled=none)(hds:(d==sysModules)=false)(hn:kvs.length<=sizeLine)(g1:s.heap.get? S=some { cls:=.type "list",data:=.seq #[] n0 })(hm:s.heap.DictAt knd d kvs ep)(nSd:S≠d)(hR:∀ (s':Shared) (acc:Array Value) (c:Nat),(∀ b o,b≠S->s.heap.get? b=some o->s'.heap.get? b=some o)->s'.gens=s.gens->s'.drawn=s.drawn->s'.os=s.os->s'.heap.get? S=some { cls:=.type "list",dict:=none,data:=.seq acc c,slots:=#[] }->ItemsOf (λi v=>∃ k x,kvs[i]?=some (k,x)/\knd.is k v=true) acc kvs.length->R (.ok (.ret res)) s') :
    wpAny (model prog w) A.in1 (Builtin.List.listExtendWith (.ref S) (.ref d) res)
      (λfin s'=>match fin with | .done f=>R (.ok f) s' | .again c'=>c'.quiet=true/\codeAny (model prog w) A c' R s') (λe s'=>R (.error e) s') s:=by
  have h1:Builtin.List.listSameRef (.ref S) (.ref d)=false:=by simp [Builtin.List.listSameRef,nSd]
  unfold Builtin.List.listExtendWith;refine ix (iG hm.dictOf.typeIs ?_);rw [ip (by rw [h1]; decide)];refine ix (wpAny_pyIter_dict hds hm ?_);have hm2:=hm.keep (h':=s.heap.push { cls:=.type "dict_keyiterator",data:=.fields #[.ref d,.int 0 0,.int kvs.length 0,.int ep 0] }) λb o e=>Heap.get?_push_of_some _ e;refine ix (iy ?_);unfold Builtin.List.listLengthHint;refine ix (wpAny_specialOf hm2.dictOf.typeIs uY ?_)
  (generalize hid:("dict.__len__":String)=id0; (fail_if_success (clear hid id0)); wp_delta; rw [show splitId id0=some ("dict","__len__") from by subst hid; decide +kernel]; subst hid)
  refine ix (wpAny_isInstance (b:=true) hm2.dictOf.typeIs (by rw [isSubtype_type]; kernel_rfl) ?_);rw [ip (by decide)];refine wpAny_ite ?_;rw [io (by decide)];refine ix (iG hm2.dictOf.typeIs ?_);refine iA ?_;rw [io (by decide)];have ltS:=Heap.lt_size g1;refine Dn (s:={ s with heap:=s.heap.push { cls:=.type "dict_keyiterator",data:=.fields #[.ref d,.int 0 0,.int kvs.length 0,.int ep 0] } }) (R:=R) hh hn (S:=S) (I:=s.heap.objs.size) (Heap.get?_push_of_some _ g1) ⟨_,Heap.get?_push_size _ rfl,rfl,rfl⟩ hm2 (aQ ltS) nSd (aQ hm.lt_size) λs' acc c kk e1 e2 e3 hS' hacc=>?_;exact hR s' acc c (λb o n g=>kk b o n (aQ (Heap.lt_size g)) (Heap.get?_push_of_some _ g)) e1 e2 e3 hS' hacc
theorem uu{s:Shared}{kvs:List (κ×Value)}{Q:Value->Shared->Prop}(hh:A.handled=none)(hds:(d==sysModules)=false)(hn:kvs.length<=sizeLine)(hm:s.heap.DictAt knd d kvs ep)(hQ:∀ (s':Shared) (acc:Array Value) (c:Nat),(∀ b o,s.heap.get? b=some o->s'.heap.get? b=some o)->s'.gens=s.gens->s'.drawn=s.drawn->s'.os=s.os->s'.heap.get? s.heap.objs.size=some { cls:=.type "list",dict:=none,data:=.seq acc c,slots:=#[] }->ItemsOf (λi v=>∃ k x,kvs[i]?=some (k,x)/\knd.is k v=true) acc kvs.length->Q (.ref s.heap.objs.size) s') :
    wpAny (model prog w) A (call (.type "list") [.ref d]) Q E s:=by
  refine callType_codes (Q₁:=λobj s₁=>obj=.ref s.heap.objs.size/\s₁={ s with heap:=s.heap.push { cls:=.type "list",data:=.seq #[] } }) F.called_list (F.typeCall_list_1 _) F.entry_list_init
    (code_list_new _ ⟨rfl,rfl⟩) λobj s₁ h₁=>?_
  obtain ⟨rfl,rfl⟩:=h₁;have hS:(s.heap.push { cls:=.type "list",data:=.seq #[] }).get? s.heap.objs.size=some { cls:=.type "list",data:=.seq #[] }:=Heap.get?_push_size _ rfl;have hm1:=hm.keep (h':=s.heap.push { cls:=.type "list",data:=.seq #[] }) λb o e=>Heap.get?_push_of_some _ e;have nSd:s.heap.objs.size≠d:=ck (aQ hm.lt_size);refine ⟨⟨_,hS,rfl⟩,F.args_list_init_2 _ _,?_⟩;show wpAny _ _ (do let old <-Builtin.List.listItems (.ref s.heap.objs.size); Builtin.List.listUpdate (.ref s.heap.objs.size) (λ_=>#[]); letGo old.toList.reverse; Builtin.List.listExtendWith (.ref s.heap.objs.size) (.ref d) .none) _ _ _;refine ix ?_;unfold Builtin.List.listItems;refine ix (wpAny_seqItems hS rfl (iA ?_));show wpAny _ _ (updateSeq s.heap.objs.size (λ_=>#[]) >>= λ_=>letGo (#[]:Array Value).toList.reverse >>= λ_=>Builtin.List.listExtendWith (.ref s.heap.objs.size) (.ref d) .none) _ _ _;refine ix (wpAny_updateSeq hS rfl ?_);have hS2:=Heap.get?_update_self (Obj.mapSeq (λ_=>(#[]:Array Value))) hS rfl;have oth:∀ b o,b≠s.heap.objs.size->(s.heap.push { cls:=.type "list",data:=.seq #[] }).get? b=some o->((s.heap.push { cls:=.type "list",data:=.seq #[] }).update s.heap.objs.size (Obj.mapSeq (λ_=>(#[]:Array Value)))).get? b=some o :=
    λb o hb e=>(Heap.get?_update_other _ _ (ck hb)).trans e
  have hm3:=hm1.at' (h':=(s.heap.push { cls:=.type "list",data:=.seq #[] }).update s.heap.objs.size (Obj.mapSeq (λ_=>(#[]:Array Value)))) λo g=>oth d o (ck nSd) g;refine ix (wpAny_letGo ?_);refine BN (A:=A.in1) hh hds hn hS2 hm3 nSd λs' acc c kk e1 e2 e3 hS' hacc=>?_;exact ⟨rfl,hQ s' acc c (λb o g=>kk b o (aQ (Heap.lt_size g)) (oth b o (aQ (Heap.lt_size g)) (Heap.get?_push_of_some _ g))) e1 e2 e3 hS' hacc⟩
end
def KZ:List V->Hp->VK->Prop:=λxs H Q=>∃ (d:Addr) (kvs:List (Key×V)) (ns:List Int),xs=[.ref d]/\H d=some (.dK kvs)/\kvs.map (·.1)=ns.map Sum.inl/\kvs.length<=1000/\∀ p,H p=none->Q (.ref p) (upd H p (.lst (ns.map V.int)))
theorem EA(hc:X.calm=true):xi X (.type "list") KZ:=by
  intro pins s σ H xs us Q I r h;obtain ⟨d,kvs,ns,rfl,e,hk,h64,q⟩:=h;obtain ⟨u,rfl,ru⟩:=Vals.one r;cases ru
  obtain ⟨z,y,vs,rel,dof⟩:=id (I.hok d _ e);obtain ⟨ep,da⟩:=dof.dictAt;have hl:=rel.length;have hz:vs.length<=sizeLine:=ce (show vs.length<=1000 by omega) (by rw [sizeLine_eq]; decide);refine uu (I.ok.hd hc) y hz da λs' acc c kk e1 e2 e3 hS' hacc=>?_;obtain ⟨h0,g0,d0,t0,o0⟩:=s;obtain ⟨h1,g1,d1,t1,o1⟩:=s';simp only at e1 e2 e3 kk hS';subst e1 e2 e3;have hI:=tE (by rw [<-rel.keys]; exact hk) hacc;have hl2:(ns.map V.int).length<=sizeLine:=by
    have:kvs.length=ns.length:=by
      have:=congrArg List.length hk
      rwa [aa,aa] at this
    rw [aa];omega
  exact ⟨.ref h0.objs.size,_,I.laid (a:=h0.objs.size) (o:=.lst (ns.map V.int)) (t':=t1) kk (ag _) ⟨hl2,acc.toList,c,xy hI,by rw [Array.toArray_toList]; exact hS'⟩,rfl,q _ (I.hok.fresh (ag _))⟩
theorem KM{Q:VK}(h:H d=some (.dK kvs))(hk:kvs.map (·.1)=ns.map Sum.inl)(hl:kvs.length<=1000)(q:∀ (p:Addr) (H2:Hp),H p=none->Same H H2->H2 p=some (.lst (ns.map V.int))->Q (.ref p) H2):KZ [.ref d] H Q :=
  ⟨d,kvs,ns,rfl,h,hk,hl,λp hp=>q p _ hp (zC hp _) zj⟩
section
variable {prog:Program}{w:World}{A:Around}{E:Value->Shared->Prop}{s:Shared}
end
variable {pins:List (Addr×Obj)}{σ:St}
section
variable {prog:Program}{w:World}{A:Around}{E:Value->Shared->Prop}{s:Shared}{R:Result->Shared->Prop}
end
section
variable {a b:Expr}{ta:TA}
end
end L2
local macro_rules | `(tactic| walk_at "sc")=>`(tactic| exact ⟨rfl,rfl,rfl,by decide +kernel,rfl,by decide +kernel,by decide +kernel⟩)
local macro_rules | `(tactic| walk_at "s")=>`(tactic| ((refine L2.st_of (by dsimp only [L2.start,List.map,List.length,Nat.zero_add,Nat.reduceAdd,Nat.reduceSub,List.replicate,List.cons_append,List.nil_append]) ?_); try dsimp only [L2.cx_K]))
local macro_rules | `(tactic| omega)=>`(tactic| first | lia | omega +splitNatSub)
open PySem PySem.Spec PyProof.Rows L2 Bg
local macro_rules | `(tactic| walk_at "bd")=>`(tactic| first | assumption | ((with_reducible show Bd _ (-_)); exact Bd.neg (by walk_at "bd")) | ((with_reducible show Bd _ (_*_)); exact Bd.mul (by walk_at "bd") (by walk_at "bd")) | ((with_reducible show Bd _ (_+_)); exact Io (by walk_at "bd") (by walk_at "bd")) | ((with_reducible show Bd _ (_ - _)); exact Jm (by walk_at "bd") (by walk_at "bd")) | ((with_reducible show Bd _ (_ ^ _)); exact bd_powx (by walk_at "bd")) | ((with_reducible show Bd _ (_ / _)); exact IT (by walk_at "bd")) | ((with_reducible show Bd _ (_ % _)); exact Jj (by walk_at "bd") (by decide +kernel)) | ((with_reducible show Bd _ (Int.fdiv _ _)); exact Bd.fdiv (by walk_at "bd") _) | exact Bd.abs (by walk_at "bd") | exact u7 _)
local macro_rules | `(tactic| walk_at "cd")=>`(tactic| first | assumption | decide | omega | exact ⟨by decide,by decide +kernel⟩ | exact Bd.ok (by walk_at "bd") (by walk_at "bd") (by decide +kernel) | exact cpw_of (by walk_at "bd") (by decide) (by decide +kernel) | decide +kernel)
local macro_rules | `(tactic| walk_at "rd")=>`(tactic| first | ((with_reducible refine JS ?_); intro _ _) | with_reducible refine i_asg ?_ | ((with_reducible refine i_gname ?_); try dsimp only [List.set_cons_zero,List.set_cons_succ]) | with_reducible refine i_ret ?_ | with_reducible refine i_drop ?_ | with_reducible refine i_ifS ?_ | with_reducible refine i_next ?_ | ((with_reducible show tVar _ _ _ _); refine i_var rfl ?_) | with_reducible refine i_c ?_ | with_reducible refine i_op ?_ | with_reducible refine i_un ?_ | with_reducible refine i_I0 ?_ | ((with_reducible show rI _ _ (V.int _) (V.int _) _ _); first | refine i_I ?_ (by walk_at "cd") | refine i_I ?_ ?c) | with_reducible refine i_U ?_ | with_reducible refine Mj ?_ | with_reducible refine MS ?_ | with_reducible refine Mf ?_ | with_reducible refine i_neB ?_ | with_reducible refine Kj ?_ | with_reducible refine i_tB ?_ | with_reducible refine i_bl ?_ | with_reducible refine MT ?_ | with_reducible refine i_or ?_ | with_reducible refine L0 ?_ | with_reducible refine Ku ?_ | with_reducible refine Mz ?_ | with_reducible refine LO ?_ | with_reducible refine Md ?_ | with_reducible refine MO ?_ | with_reducible refine LB ?_ | with_reducible refine Ls ?_ | with_reducible refine i_callK ?_ | with_reducible refine i_cb ?_ | with_reducible refine Mu ?_ | with_reducible refine MC ?_ | with_reducible refine if_t ?_ | with_reducible refine if_f ?_ | with_reducible refine JQ ?_ | with_reducible refine Mt ?_ | with_reducible refine Mi ?_ | with_reducible refine LM ?_ | with_reducible refine Me ?_ | with_reducible refine LP ?_ | with_reducible refine GP ?_ | with_reducible refine Ev ?_ | with_reducible refine i_is_bool ?_ | with_reducible refine Go (by assumption) ?_ | with_reducible refine KL (by assumption) ?_ | with_reducible refine KA (by assumption) ?_ | ((with_reducible show rIxT _ (V.ref _) (V.int _) _ _); first | refine vF (by assumption) (by rfl) ?_ | refine Mx (by assumption) (by rfl) ?_) | ((with_reducible show rIxL _ (V.ref _) (V.int _) _ _); refine xr (by assumption) (by rfl) ?_) | with_reducible refine i_bm ?_ | with_reducible refine MU (by assumption) ?_ | with_reducible refine i_sl ?_ | with_reducible refine F4 ?_ | with_reducible refine KQ ?_ | with_reducible refine Mq ?_ | with_reducible refine MP ?_ | with_reducible refine Kt ?_ | ((with_reducible show gTup _ _ _ (V.ref _) _ _ _); refine Lm (by assumption) (by rfl) ?_) | with_reducible refine IK ?_ | with_reducible refine JL ?_ | with_reducible refine Ma ?_ | with_reducible refine (show ∀ σ' H',_->_ from by assumption) _ _ ?_)
local macro_rules | `(tactic| walk_at "mm")=>`(tactic| repeat first | exact aG | refine aB _ ?_)
local macro_rules | `(tactic| walk_at "rd")=>`(tactic| first | with_reducible refine i_min ?_ | with_reducible refine L6 ?_ | with_reducible refine MG ?_ | with_reducible refine FS ?_ | with_reducible refine MV ?_ | with_reducible refine i_fF ?_ | with_reducible refine i_fVal0 ?_ | with_reducible refine i_fInt0 ?_ | with_reducible refine i_tyS ?_ | with_reducible refine MK ?_ | with_reducible refine JZ ?_)
local macro_rules | `(tactic| walk_at "b8")=>`(tactic| first | assumption | decide +kernel | exact Bd.mono (by walk_at "bd") (by decide +kernel))
local macro_rules | `(tactic| lia)=>`(tactic| first | (lia (splits:=9)) | omega +splitNatSub)
local macro_rules | `(tactic| exists $e)=>`(tactic| ((repeat walk_at "rd"); refine $e))
local macro_rules | `(tactic| walk_at "r")=>`(tactic| repeat walk_at "rd")
set_option maxHeartbeats 4000000
namespace Bk
local macro_rules | `(⋯)=>`(by decide)
local macro_rules | `(!1)=>`(by simp)
local macro_rules | `(!2)=>`(by lia)
local macro_rules | `(!3)=>`(by decide +kernel)
inductive A3(a b c:Prop):Prop | mk:a->b->c->A3 a b c
inductive A4(a b c d:Prop):Prop | mk:a->b->c->d->A4 a b c d
inductive A5(a b c d e:Prop):Prop | mk:a->b->c->d->e->A5 a b c d e
inductive A6(a b c d e f:Prop):Prop | mk:a->b->c->d->e->f->A6 a b c d e f
inductive A7(a b c d e f g:Prop):Prop | mk:a->b->c->d->e->f->g->A7 a b c d e f g
inductive A8(a b c d e f g h:Prop):Prop | mk:a->b->c->d->e->f->g->h->A8 a b c d e f g h
inductive A10(a b c d e f g h i j:Prop):Prop | mk:a->b->c->d->e->f->g->h->i->j->A10 a b c d e f g h i j
inductive E1{A:Type}(p:A->Prop):Prop | mk (a:A) (h:p a):E1 p
inductive E2{A B:Type}(p:A->B->Prop):Prop | mk (a:A) (b:B) (h:p a b):E2 p
inductive E3{A B C:Type}(p:A->B->C->Prop):Prop | mk (a:A) (b:B) (c:C) (h:p a b c):E3 p
inductive E4{A B C D:Type}(p:A->B->C->D->Prop):Prop | mk (a:A) (b:B) (c:C) (d:D) (h:p a b c d):E4 p
inductive E5{A B C D E:Type}(p:A->B->C->D->E->Prop):Prop | mk (a:A) (b:B) (c:C) (d:D) (e:E) (h:p a b c d e):E5 p
inductive E6{A B C D E F:Type}(p:A->B->C->D->E->F->Prop):Prop | mk (a:A) (b:B) (c:C) (d:D) (e:E) (f:F) (h:p a b c d e f):E6 p
inductive E7{A B C D E F G:Type}(p:A->B->C->D->E->F->G->Prop):Prop | mk (a:A) (b:B) (c:C) (d:D) (e:E) (f:F) (g:G) (h:p a b c d e f g):E7 p
inductive E9{A B C D E F G H I:Type}(p:A->B->C->D->E->F->G->H->I->Prop):Prop | mk (a:A) (b:B) (c:C) (d:D) (e:E) (f:F) (g:G) (h:H) (i:I) (h:p a b c d e f g h i):E9 p
def top(i:Nat):Stmt:=PySem.Challenge.pw_boardglue_k64_whole_cut_and_made_few.main.body.getD i (.Pass ⟨0,0,0,0⟩)
abbrev S0:Stmt:=top 12
abbrev S1:Stmt:=top 13
abbrev S2:Stmt:=top 16
abbrev S3:Stmt:=top 17
abbrev S4:Stmt:=top 18
abbrev S5:Stmt:=top 19
abbrev S6:Stmt:=top 20
abbrev S7:Stmt:=top 21
abbrev S8:Stmt:=top 22
abbrev S9:Stmt:=top 23
abbrev S10:Stmt:=top 24
abbrev S11:Stmt:=top 25
abbrev S12:Stmt:=top 27
abbrev S13:Stmt:=top 28
abbrev S14:Stmt:=top 29
abbrev S15:Stmt:=top 30
abbrev S16:Stmt:=top 31
abbrev S17:Stmt:=top 32
abbrev S18:Stmt:=top 34
abbrev S20:Stmt:=top 35
abbrev S21:Stmt:=top 36
abbrev S22:Stmt:=top 37
abbrev S23:Stmt:=top 39
abbrev S24:Stmt:=top 45
abbrev S25:Stmt:=top 46
abbrev S26:Stmt:=top 47
abbrev S27:Stmt:=top 48
abbrev S28:Stmt:=top 49
abbrev S29:Stmt:=top 50
abbrev S30:Stmt:=top 51
abbrev S31:Stmt:=top 54
abbrev S32:Stmt:=top 55
abbrev S33:Stmt:=top 56
abbrev S34:Stmt:=top 57
abbrev S35:Stmt:=top 58
abbrev S36:Stmt:=top 59
abbrev S37:Stmt:=top 60
abbrev S38:Stmt:=top 61
abbrev S39:Stmt:=top 64
abbrev S40:Stmt:=top 65
abbrev S41:Stmt:=top 66
abbrev S42:Stmt:=top 67
abbrev S43:Stmt:=top 68
abbrev S44:Stmt:=top 69
abbrev S45:Stmt:=top 70
abbrev S46:Stmt:=top 72
abbrev S47:Stmt:=top 73
abbrev S48:Stmt:=top 75
abbrev S49:Stmt:=top 76
abbrev S50:Stmt:=top 77
abbrev S51:Stmt:=top 78
abbrev S52:Stmt:=top 79
abbrev S53:Stmt:=top 81
abbrev S54:Stmt:=top 82
abbrev S55:Stmt:=top 83
abbrev S56:Stmt:=top 84
abbrev S57:Stmt:=top 85
abbrev S58:Stmt:=top 86
abbrev S59:Stmt:=top 87
abbrev S60:Stmt:=top 88
abbrev S61:Stmt:=top 89
abbrev S62:Stmt:=top 90
abbrev S63:Stmt:=top 91
abbrev S64:Stmt:=top 92
abbrev S65:Stmt:=top 93
abbrev S66:Stmt:=top 94
abbrev S67:Stmt:=top 95
abbrev S68:Stmt:=xX (top 52) 0
abbrev S69:Stmt:=xX (top 52) 1
abbrev S70:Stmt:=xX (top 52) 2
abbrev S71:Stmt:=xX (top 52) 3
abbrev S72:Stmt:=xX (top 52) 4
abbrev S73:Stmt:=xX (top 52) 5
abbrev S74:Stmt:=xX (top 52) 6
structure Bl(mg:Str->Option Value):Prop where
  ValueError:mg "ValueError"=none
  abs:mg "abs"=none
  all:mg "all"=none
  bool:mg "bool"=none
  dict:mg "dict"=none
  enumerate:mg "enumerate"=none
  int:mg "int"=none
  isinstance:mg "isinstance"=none
  len:mg "len"=none
  list:mg "list"=none
  min:mg "min"=none
  range:mg "range"=none
  reversed:mg "reversed"=none
  sorted:mg "sorted"=none
  str:mg "str"=none
  sum:mg "sum"=none
  tuple:mg "tuple"=none
theorem vH:bootBuiltins "abs"=some (.builtin "abs"):=by decide +kernel
theorem JP:bootBuiltins "all"=some (.builtin "all"):=by decide +kernel
theorem Id:bootBuiltins "bool"=some (.type "bool"):=by decide +kernel
theorem Dz:bootBuiltins "dict"=some (.type "dict"):=by decide +kernel
theorem B8:bootBuiltins "int"=some (.type "int"):=by decide +kernel
theorem yj:bootBuiltins "isinstance"=some (.builtin "isinstance"):=by decide +kernel
theorem vq:bootBuiltins "list"=some (.type "list"):=by decide +kernel
theorem JM:bootBuiltins "min"=some (.builtin "min"):=by decide +kernel
theorem DV:bootBuiltins "sorted"=some (.builtin "sorted"):=by decide +kernel
theorem Ks:bootBuiltins "str"=some (.type "str"):=by decide +kernel
theorem uI:bootBuiltins "sum"=some (.builtin "sum"):=by decide +kernel
theorem vf:bootBuiltins "tuple"=some (.type "tuple"):=by decide +kernel
structure Cs where
  YardError:Addr
  NoLength:Addr
  NoDeed:Addr
  NoName:Addr
  Grain:Addr
  Unfit:Addr
  Yard:Addr
structure Xs(K:iJ)(mg:Str->Option Value)(cs:Cs):Prop where
  m_YardError:mg "YardError"=some (.ref cs.YardError)
  m_NoLength:mg "NoLength"=some (.ref cs.NoLength)
  m_NoDeed:mg "NoDeed"=some (.ref cs.NoDeed)
  m_NoName:mg "NoName"=some (.ref cs.NoName)
  m_Grain:mg "Grain"=some (.ref cs.Grain)
  m_Unfit:mg "Unfit"=some (.ref cs.Unfit)
  m_Yard:mg "Yard"=some (.ref cs.Yard)
  c_Yard:Cls K cs.Yard
  n_Yard_root:NoAttr K cs.Yard "root"
  n_Yard_turning:NoAttr K cs.Yard "turning"
  n_Yard_known:NoAttr K cs.Yard "known"
  n_Yard_lying:NoAttr K cs.Yard "lying"
  n_Yard_done:NoAttr K cs.Yard "done"
def Rep(D:Int)(M:Nat)(s:Sd):Prop:=∃ X Y:Int,Bd M X/\Bd M Y/\s.x*D=X*s.z/\s.y*D=Y*s.z
structure So(d D:Int)(M:Nat)(s:Sd):Prop where
  z1:1<=s.z
  g:g3 s.x s.y s.z=1
  up:sgn d s.x s.y=1
  r:Rep D M s
variable {D d:Int}{M:Nat}
theorem So.sk{K:Nat}{s:Sd}(h:So d D M s)(hD:1<=D)(bD:Bd K D):SK M K s:=by
  obtain ⟨X,Y,bX,bY,hx,hy⟩:=h.r;obtain ⟨e1,e2,e3⟩:=zS h.z1 h.g (show D≠0 by lia) hx hy;refine ⟨h.z1,h.g,?_,?_,?_⟩
  . rw [e1];exact bX.fdiv _
  . rw [e2];exact bY.fdiv _
  . rw [e3];exact bD.fdiv _
theorem So.ne{s:Sd}(h:So d D M s):s.z≠0:=by have:=h.z1; lia
theorem So.scale{k:Int}{j:Nat}{s:Sd}(h:So d D M s)(bk:Bd j k):So d (D*k) (M+j) s:=by
  obtain ⟨X,Y,bX,bY,hx,hy⟩:=h.r;exact ⟨h.z1,h.g,h.up,X*k,Y*k,bX.mul bk,bY.mul bk,by rw [<-am,hx]; grind,by rw [<-am,hy]; grind⟩
theorem So.mono{d D:Int}{M M':Nat}{s:Sd}(h:So d D M s)(l:M<=M'):So d D M' s:=by
  obtain ⟨X,Y,bX,bY,hx,hy⟩:=h.r;exact ⟨h.z1,h.g,h.up,X,Y,bX.mono l,bY.mono l,hx,hy⟩
variable {a:Int}
theorem zE{b c e:Int}(hb:b≠0)(he:e≠0)(h:a*e=c*b):Rat.divInt a b=Rat.divInt c e:=(aC hb he).mpr h
theorem So.pq{s:Sd}(h:So d D M s)(hD:1<=D):∃ X Y:Int,Bd M X/\Bd M Y/\s.p=Rat.divInt X D/\s.q=Rat.divInt Y D:=by
  obtain ⟨X,Y,bX,bY,hx,hy⟩:=h.r;exact ⟨X,Y,bX,bY,zE h.ne (!2) hx,zE h.ne (!2) hy⟩
def BoD(d D:Int)(M:Nat)(b:Bo):Prop:=So d D M b.w/\So d D M b.h
def TbD(E:Int)(k:Nat)(t:Tb):Prop:=∃ a b c e:Int,(Bd k a/\Bd k b/\Bd k c/\Bd k e)/\t.a=Rat.divInt a E/\t.b=Rat.divInt b E/\t.c=Rat.divInt c E/\t.e=Rat.divInt e E
variable {E:Int}{t:Tb}
theorem TbD.bt{k j:Nat}(h:TbD E k t)(hE:E≠0)(bE:Bd j E):t.Bt k j:=by
  obtain ⟨a,b,c,e,⟨h1,h2,h3,h4⟩,e1,e2,e3,e4⟩:=h;refine ⟨?_,?_,?_,?_⟩
  . rw [e1]; exact wj hE h1 bE
  . rw [e2]; exact wj hE h2 bE
  . rw [e3]; exact wj hE h3 bE
  . rw [e4]; exact wj hE h4 bE
theorem xA{b:Int}(hE:E≠0):Rat.divInt a E+Rat.divInt b E=Rat.divInt (a+b) E:=by
  rw [<-uZ hE hE];refine zE (ar hE hE) hE ?_;grind
theorem TbD.add{E:Int}{k:Nat}{s t:Tb}(hE:E≠0)(h:TbD E k s)(h':TbD E k t):TbD E (k+1) (s.add t):=by
  obtain ⟨a,b,c,e,⟨h1,h2,h3,h4⟩,e1,e2,e3,e4⟩:=h;obtain ⟨a',b',c',e',⟨k1,k2,k3,k4⟩,f1,f2,f3,f4⟩:=h';refine ⟨a+a',b+b',c+c',e+e',⟨h1.add k1,h2.add k2,h3.add k3,h4.add k4⟩,?_,?_,?_,?_⟩
  . show s.a+t.a=_;rw [e1,f1,xA hE]
  . show s.b+t.b=_;rw [e2,f2,xA hE]
  . show s.c+t.c=_;rw [e3,f3,xA hE]
  . show s.e+t.e=_;rw [e4,f4,xA hE]
theorem TbD.mono{E:Int}{k k':Nat}{t:Tb}(h:TbD E k t)(l:k<=k'):TbD E k' t:=by
  obtain ⟨a,b,c,e,⟨h1,h2,h3,h4⟩,r⟩:=h;exact ⟨a,b,c,e,⟨h1.mono l,h2.mono l,h3.mono l,h4.mono l⟩,r⟩
def tkS(s t:Sd):Sd:=⟨lA (s.x*t.z+-t.x*s.z) (s.y*t.z+-t.y*s.z) (s.z*t.z),lB (s.x*t.z+-t.x*s.z) (s.y*t.z+-t.y*s.z) (s.z*t.z),lN (s.x*t.z+-t.x*s.z) (s.y*t.z+-t.y*s.z) (s.z*t.z)⟩
def shS(s:Sd)(m k:Int):Sd:=⟨lA (s.x*m) (s.y*m) (s.z*k),lB (s.x*m) (s.y*m) (s.z*k),lN (s.x*m) (s.y*m) (s.z*k)⟩
variable {X Y:Int}
theorem wO{b n:Int}(hn:n≠0)(h1:a*D=X*n)(h2:b*D=Y*n):lA a b n*D=X*lN a b n/\lB a b n*D=Y*lN a b n:=by
  have e1:=l_a (a:=a) (b:=b) (n:=n);have e2:=l_b (a:=a) (b:=b) (n:=n);constructor
  . refine wC hn ?_;have:lA a b n*D*n=(lA a b n*n)*D:=by grind
    rw [this,e1];have:a*lN a b n*D=(a*D)*lN a b n:=by grind
    rw [this,h1];grind
  . refine wC hn ?_;have:lB a b n*D*n=(lB a b n*n)*D:=by grind
    rw [this,e2];have:b*lN a b n*D=(b*D)*lN a b n:=by grind
    rw [this,h2];grind
theorem L9{s t:Sd}(hR:Rt d)(h:So d D M s)(h':So d D M t)(up:sgn d (tkS s t).x (tkS s t).y=1):So d D (M+1) (tkS s t):=by
  obtain ⟨X,Y,bX,bY,hx,hy⟩:=h.r;obtain ⟨X',Y',bX',bY',hx',hy'⟩:=h'.r;have hn:s.z*t.z≠0:=ar h.ne h'.ne;obtain ⟨r1,r2⟩:=wO (a:=s.x*t.z+-t.x*s.z) (b:=s.y*t.z+-t.y*s.z) (n:=s.z*t.z) (D:=D) (X:=X - X') (Y:=Y - Y') hn (by grind) (by grind);exact ⟨l_n hn,xq hn,up,X - X',Y - Y',bX.sub bX',bY.sub bY',r1,r2⟩
variable {m:Int}
theorem KE{k:Int}{j:Nat}{s:Sd}(hR:Rt d)(h:So d D M s)(m1:1<=m)(k1:1<=k)(bm:Bd j m):So d (D*k) (M+j) (shS s m k):=by
  obtain ⟨X,Y,bX,bY,hx,hy⟩:=h.r;have hn:s.z*k≠0:=ar h.ne (!2);have hn1:1<=s.z*k:=aI (by have:=h.z1; lia) (!2);obtain ⟨r1,r2⟩:=wO (a:=s.x*m) (b:=s.y*m) (n:=s.z*k) (D:=D*k) (X:=X*m) (Y:=Y*m) hn (by grind) (by grind);refine ⟨l_n hn,xq hn,?_,X*m,Y*m,bX.mul bm,bY.mul bm,r1,r2⟩;exact (yv hR hn1).trans ((wv hR (k:=1) (m:=m) ⋯ (!2) (by grind) (by grind)).trans h.up)
theorem Jq{s t:Sd}(hs:s.z≠0)(ht:t.z≠0):(tkS s t).p=s.p - t.p/\(tkS s t).q=s.q - t.q:=by
  have hn:s.z*t.z≠0:=ar hs ht;obtain ⟨h1,h2⟩:=wT (a:=s.x*t.z+-t.x*s.z) (b:=s.y*t.z+-t.y*s.z) hn;constructor
  . show Rat.divInt (lA _ _ _) (lN _ _ _)=_;rw [h1,uZ hs ht,<-Rat.neg_divInt,Rat.sub_eq_add_neg];rfl
  . show Rat.divInt (lB _ _ _) (lN _ _ _)=_;rw [h2,uZ hs ht,<-Rat.neg_divInt,Rat.sub_eq_add_neg];rfl
theorem Kx{s t:Sd}(hs:s.z≠0)(ht:t.z≠0):(adS s t).p=s.p+t.p/\(adS s t).q=s.q+t.q:=by
  have hn:s.z*t.z≠0:=ar hs ht;obtain ⟨h1,h2⟩:=wT (a:=s.x*t.z+t.x*s.z) (b:=s.y*t.z+t.y*s.z) hn;constructor
  . show Rat.divInt (lA _ _ _) (lN _ _ _)=_;rw [h1,uZ hs ht];rfl
  . show Rat.divInt (lB _ _ _) (lN _ _ _)=_;rw [h2,uZ hs ht];rfl
theorem GJ{s:Sd}{k:Int}(hs:s.z≠0)(hk:k≠0):(shS s m k).p=s.p*Rat.divInt m k/\(shS s m k).q=s.q*Rat.divInt m k:=by
  have hn:s.z*k≠0:=ar hs hk;obtain ⟨h1,h2⟩:=wT (a:=s.x*m) (b:=s.y*m) hn;constructor
  . show Rat.divInt (lA _ _ _) (lN _ _ _)=_;rw [h1,yF];rfl
  . show Rat.divInt (lB _ _ _) (lN _ _ _)=_;rw [h2,yF];rfl
variable {h w:Sd}
theorem LV{f:Sd}(hw:w.z≠0)(hf:f.z≠0):(⟨f,h⟩:Bo).tb.add (⟨tkS w f,h⟩:Bo).tb=(⟨w,h⟩:Bo).tb:=by
  obtain ⟨e1,e2⟩:=Jq hw hf;refine Tb.ext ?_ ?_ ?_ ?_ <;> simp only [Tb.add,Bo.tb,e1,e2] <;> grind
theorem MH{f:Sd}(hh:h.z≠0)(hf:f.z≠0):(⟨w,f⟩:Bo).tb.add (⟨w,tkS h f⟩:Bo).tb=(⟨w,h⟩:Bo).tb:=by
  obtain ⟨e1,e2⟩:=Jq hh hf;refine Tb.ext ?_ ?_ ?_ ?_ <;> simp only [Tb.add,Bo.tb,e1,e2] <;> grind
theorem D9(hm:m≠0):Rat.divInt 1 m*Rat.divInt m 1=1:=by
  rw [<-yF];refine (zE (c:=1) (e:=1) (ar hm ⋯) ⋯ (by grind)).trans ?_;decide +kernel
theorem Mn(hw:w.z≠0)(hh:h.z≠0)(hm:m≠0):(⟨shS w 1 m,shS h m 1⟩:Bo).tb=(⟨w,h⟩:Bo).tb:=by
  obtain ⟨e1,e2⟩:=GJ (m:=1) (k:=m) hw hm;obtain ⟨e3,e4⟩:=GJ (m:=m) (k:=1) hh ⋯;have e:=D9 hm;refine Tb.ext ?_ ?_ ?_ ?_ <;> simp only [Bo.tb,e1,e2,e3,e4] <;> grind
theorem ML(hw:w.z≠0)(hh:h.z≠0)(hm:m≠0):(⟨shS w m 1,shS h 1 m⟩:Bo).tb=(⟨w,h⟩:Bo).tb:=by
  obtain ⟨e1,e2⟩:=GJ (m:=m) (k:=1) hw ⋯;obtain ⟨e3,e4⟩:=GJ (m:=1) (k:=m) hh hm;have e:=D9 hm;refine Tb.ext ?_ ?_ ?_ ?_ <;> simp only [Bo.tb,e1,e2,e3,e4] <;> grind
theorem Mm{w':Sd}(hw:w.z≠0)(hw':w'.z≠0):(⟨adS w w',h⟩:Bo).tb=(⟨w,h⟩:Bo).tb.add (⟨w',h⟩:Bo).tb:=by
  obtain ⟨e1,e2⟩:=Kx hw hw';refine Tb.ext ?_ ?_ ?_ ?_ <;> simp only [Tb.add,Bo.tb,e1,e2] <;> grind
theorem Mp{h':Sd}(hh:h.z≠0)(hh':h'.z≠0):(⟨w,adS h h'⟩:Bo).tb=(⟨w,h⟩:Bo).tb.add (⟨w,h'⟩:Bo).tb:=by
  obtain ⟨e1,e2⟩:=Kx hh hh';refine Tb.ext ?_ ?_ ?_ ?_ <;> simp only [Tb.add,Bo.tb,e1,e2] <;> grind
inductive Dd where
  | cut (al:Bool) (n:Int) (s:Sd)
  | glue (al:Bool) (n m:Int)
  | shift (al:Bool) (n k:Int)
  | turn (n:Int)
abbrev SY(s:Sd):Prop:=SK 2400 2100 s
def Dd.wd:Dd->Str
  | .cut al _ _=>if al then "along" else "across"
  | .glue al _ _=>if al then "atop" else "beside"
  | .shift al _ _=>if al then "spread" else "stack"
  | .turn _=>"turn"
def Dd.n:Dd->Int
  | .cut _ n _=>n
  | .glue _ n _=>n
  | .shift _ n _=>n
  | .turn n=>n
def Dd.names:Dd->List Int
  | .glue _ n m=>[n,m]
  | d=>[d.n]
def DdAt(H:Hp)(p:Addr):Dd->Prop
  | .cut al n s=>∃ q,H p=some (.tup [.str (Dd.cut al n s).wd,.int n,.ref q])/\SdAt H q s
  | .glue al n m=>H p=some (.tup [.str (Dd.glue al n m).wd,.int n,.int m])
  | .shift al n k=>H p=some (.tup [.str (Dd.shift al n k).wd,.int n,.int k])
  | .turn n=>H p=some (.tup [.str "turn",.int n])
def Dd.Ok:Dd->Prop
  | .cut _ _ s=>SY s
  | .shift _ _ k=>1<=k/\Bd 1024 k
  | _=>True
variable {e:Dd}{H H':Hp}
theorem DdAt.same{p:Addr}(h:DdAt H p e)(s:Same H H'):DdAt H' p e:=by
  cases e with
  | cut al n t=>obtain ⟨q,h1,h2⟩:=h; exact ⟨q,s _ _ h1,s _ _ h2⟩
  | glue al n m=>exact s _ _ h
  | shift al n k=>exact s _ _ h
  | turn n=>exact s _ _ h
def Dd.two:Dd->Bool
  | .glue _ _ _=>true
  | _=>false
def Dd.new(b c:Bo):Dd->List Bo
  | .cut false _ s=>[⟨s,b.h⟩,⟨tkS b.w s,b.h⟩]
  | .cut true _ s=>[⟨b.w,s⟩,⟨b.w,tkS b.h s⟩]
  | .glue false _ _=>[⟨adS b.w c.w,b.h⟩]
  | .glue true _ _=>[⟨b.w,adS b.h c.h⟩]
  | .shift false _ k=>[⟨shS b.w 1 k,shS b.h k 1⟩]
  | .shift true _ k=>[⟨shS b.w k 1,shS b.h 1 k⟩]
  | .turn _=>[⟨b.h,b.w⟩]
def Gq(d:Int)(w s:Sd):Prop:=SY w/\SY s/\0<sgn d s.x s.y/\0<sgn d (w.x*s.z - s.x*w.z) (w.y*s.z - s.y*w.z)
def Dd.Fit(d:Int)(b c:Bo):Dd->Prop
  | .cut false _ s=>Gq d b.w s
  | .cut true _ s=>Gq d b.h s
  | .glue false _ _=>b.h=c.h/\SY b.w/\SY c.w
  | .glue true _ _=>b.w=c.w/\SY b.h/\SY c.h
  | .shift _ _ k=>1<=k/\Bd 1024 k/\SY b.w/\SY b.h
  | .turn _=>True
def Dd.isT:Dd->Bool
  | .turn _=>true
  | _=>false
def yq(ns:List Nat):List Int->List Nat
  | []=>ns
  | m::ms=>yq (ns.filter λn:Nat=>decide ((n:Int)≠m)) ms
def CellsOf(cl:List Cell)(e:Dd)(c c':Cell):Prop:=match e with
  | .glue _ n m=>(∃ i:Nat,n=(i:Int)/\cl[i]?=some c)/\∃ i:Nat,m=(i:Int)/\cl[i]?=some c'
  | e=>(∃ i:Nat,e.n=(i:Int)/\cl[i]?=some c)/\c'=c
structure Yd where
  p:Addr
  dx:Addr
  k:Addr
  l:Addr
  t:Addr
def Yd.fs (y:Yd) (d:Int) (tn:Bool):List (Str×V):=[("root",.int d),("turning",.bl tn),("known",.ref y.k),("lying",.ref y.l),("done",.ref y.t)]
def nmK(ns:List Nat):List (Key×V):=ns.map λn:Nat=>((.inl (n:Int):Key),V.bl true)
structure YdAt(C:Addr)(H:Hp)(y:Yd)(d:Int)(tn:Bool)(cl:List Cell)(ns:List Nat)(lg:List V):Prop where
  o:H y.p=some (.ins C y.dx (y.fs d tn))
  k:H y.k=some (.lst (cl.map Cell.v))
  l:H y.l=some (.dK (nmK ns))
  t:H y.t=some (.lst lg)
  kt:y.k≠y.t
  at':∀ c∈cl,c.At H
  up:ns.Pairwise (· < ·)
  lt:∀ n∈ns,n<cl.length
  lc:cl.length<=400
  ll:lg.length<=200
theorem YdAt.same{C:Addr}{H H':Hp}{y:Yd}{d:Int}{tn:Bool}{cl:List Cell}{ns:List Nat}{lg:List V}(h:YdAt C H y d tn cl ns lg)(s:Same H H'):YdAt C H' y d tn cl ns lg :=
  ⟨s _ _ h.o,s _ _ h.k,s _ _ h.l,s _ _ h.t,h.kt,λc hc=>(h.at' c hc).same s,h.up,h.lt,h.lc,h.ll⟩
variable {ta:TE}
theorem ye{X:Cx}{e:Expr}{f:Str}{pos:Pos}{K:iJ}(hK:X.K=K)(he:PE X e ta)(hb:attributeBase e f X.env (eval e X.env)=eval e X.env):PE X (.Attribute e f pos) (tFld K ta f):=by
  subst hK;exact JR he hb
variable {σ:L2.St}
theorem Mr{K:iJ}{f:Str}{Q:VK}(h:ta σ H λx H1=>∃ a C dx fs v,x=.ref a/\H1 a=some (.ins C dx fs)/\Cls K C/\NoAttr K C f/\fs.lookup f=some v/\Q v H1):tFld K ta f σ H Q:=h
variable {tv:TE}
theorem LU{K:iJ}{f:Str}{D:Ends}(h:tv σ H λy H1=>ta σ H1 λx H2=>∃ a C dx fs,x=.ref a/\H2 a=some (.ins C dx fs)/\Cls K C/\NoAttr K C f/\fs.length<1000/\D.nx σ (upd H2 a (.ins C dx (putF f y fs)))):sFld K ta tv f D σ H:=h
local macro_rules | `(tactic| walk_at "rd")=>`(tactic| first | with_reducible refine Mr ?_ | with_reducible refine LU ?_)
variable {dx:Addr}
theorem AF{K:iJ}{f:Str}{D:Ends}{y:V}{a C:Addr}{fs:List (Str×V)}(e:H a=some (.ins C dx fs))(c:Cls K C)(n:NoAttr K C f)(hl:fs.length<1000)(q:∀ H1,SameX a H H1->H1 a=some (.ins C dx (putF f y fs))->D.nx σ H1):∃ a' C dx fs,V.ref a=.ref a'/\H a'=some (.ins C dx fs)/\Cls K C/\NoAttr K C f/\fs.length<1000/\D.nx σ (upd H a' (.ins C dx (putF f y fs))) :=
  ⟨a,C,dx,fs,rfl,e,c,n,hl,q _ (λb u q n=>by rw [zn n]; exact q) zj⟩
variable {ys:List V}
theorem tt{K:iJ}{Q:VK}{p:Addr}(h:H p=some (.lst ys))(q:∀ l H2,H l=none->Same H H2->H2 l=some (.lst ys)->Q (.ref l) H2):rLst K [.ref p] H Q:=⟨p,ys,rfl,.inl (SqL.of h),λl hl=>q l _ hl (zC hl _) zj⟩
variable {l:Addr}{kvs:List (Key×V)}{ps:List Addr}
theorem Fx{Q:VK}(e:H l=some (.lst (ps.map V.ref)))(hl:ps.length=kvs.length)(hp:∀ (i:Nat) (p:Addr) (kv:Key×V),ps[i]?=some p->kvs[i]?=some kv->H p=some (.tup [kV kv.1,kv.2]))(hn:(kvs.map (·.1)).Nodup)(hz:kvs.length<=1000)(q:∀ p H2,H p=none->Same H H2->H2 p=some (.dK kvs)->Q (.ref p) H2):HJ [.ref l] H Q :=
  ⟨l,ps,kvs,rfl,e,hl,hp,hn,ce hz (!3),λp h=>q p _ h (zC h _) zj⟩
variable {ns:List Nat}
theorem Aj(h:ns.Pairwise (· < ·)):((nmK ns).map (·.1)).Nodup:=by
  rw [nmK,List.map_map];refine gB.mpr (h.imp λ{a b} hab e=>?_);have e:(a:Int)=b:=fI e
  lia
theorem SameX.of(s:Same H H'):SameX l H H':=λb o e _=>s b o e
theorem yZ{f:Str}{v:V}{fs:List (Str×V)}{n:Nat}(h:fs.length<n):(putF f v fs).length<n+1:=aX (xW f v fs) (Nat.succ_lt_succ h)
variable {ty:TE}
theorem LA{td:TE}{Q:VK}(h:ty σ H λy H1=>td σ H1 λx H2=>∃ a o,x=.ref a/\DGet H2 a y o/\Q (.bl (!o.isSome)) H2):EO ty td σ H Q:=h
theorem Kq{td:TE}{Q:VK}(h:td σ H λx H1=>ty σ H1 λy H2=>∃ a v,x=.ref a/\DGet H2 a y (some v)/\Q v H2):Kd td ty σ H Q:=h
theorem JG{td:TE}{D:Ends}(h:tv σ H λv H1=>td σ H1 λx H2=>ty σ H2 λy H3=>∃ a H4,x=.ref a/\DPut H3 a y v H4/\D.nx σ H4):Ko td ty tv D σ H:=h
local macro_rules | `(tactic| walk_at "rd")=>`(tactic| first | with_reducible refine LA ?_ | with_reducible refine Kq ?_ | with_reducible refine JG ?_)
theorem vk{n:Nat}:∀ {ns:List Nat},n∈ns->valV (nmK ns) (.inl (n:Int))=some (.bl true)
  | m::ns,h=>by
    by_cases e:m=n
    . subst e; exact yb rfl
    . rw [nmK,aR,zZ (λc=>e (eP (fI c)))];exact vk (by simpa [ck e] using h)
def pick(cl:List Cell)(ns:List Nat):List Cell:=ns.filterMap λn=>cl[n]?
variable {c:Cell}{cl:List Cell}
theorem DM{i n:Nat}(hi:ns[i]?=some n)(hc:cl[n]?=some c):pick cl (ns.take (i+1))=pick cl (ns.take i)++[c]:=by
  rw [pick,br,hi,List.filterMap_append];simp [pick,hc]
theorem CH{cl:List Cell}:∀ {ns:List Nat},(pick cl ns).length<=ns.length
  | []=>ag _
  | n::ns=>by
    have:=CH (cl:=cl) (ns:=ns);cases e:cl[n]? with
    | none=>simp only [pick,dk,e,ax]; exact Nat.le_succ_of_le this
    | some c=>simp only [pick,dk,e,ax]; exact Nat.succ_le_succ this
theorem CC{k:Nat}(h:ns.Pairwise (· < ·))(hk:∀ n∈ns,n<k):ns.length<=k:=by
  have hn:ns.Nodup:=h.imp λhab=>aQ hab;have:=(gO (n:=k))
  exact (cz (n:=k)) ▸ (fA hn λn h=>b9.mpr (hk n h))
def Prs(cl:List Cell)(ns:List Nat)(H:Hp)(ps:List Addr):Prop:=ps.length=ns.length/\∀ (j:Nat) (p:Addr),ps[j]?=some p->∃ n c,ns[j]?=some n/\cl[n]?=some c/\H p=some (.tup [.int (n:Int),.ref c.p])
variable {dvs:List V}{sp:Sp}
theorem La{C:Addr}{m:Str}{E:XK}{t:TA}{Q:VK}(h:ta σ H λx H1=>∃ a dx fs,x=.ref a/\H1 a=some (.ins C dx fs)/\fs.lookup m=none/\t σ H1 λvs H2=>sp (x::(vs++dvs)) H2 Q E):DJ C m sp dvs E ta t σ H Q:=h
theorem Lq{td:TE}{Q:VK}(h:td σ H λx H1=>∃ a,x=.ref a/\IsD H1 a/\ty σ H1 λy H2=>∃ kvs k v,H2 a=some (.dK kvs)/\y=kV k/\valV kvs k=some v/\Q v (upd H2 a (.dK (Aw kvs k)))):Hr td ty σ H Q:=h
local macro_rules | `(tactic| walk_at "rd")=>`(tactic| first | with_reducible refine La ?_ | with_reducible refine Lq ?_)
theorem DdAt.tup{H:Hp}{p:Addr}{e:Dd}(h:DdAt H p e):∃ r,H p=some (.tup (.str e.wd::.int e.n::r)):=by
  cases e with
  | cut al n t=>obtain ⟨q,h1,h2⟩:=h; exact ⟨_,h1⟩
  | glue al n m=>exact ⟨_,h⟩
  | shift al n k=>exact ⟨_,h⟩
  | turn n=>exact ⟨_,h⟩
theorem Jn(h:e.wd=Str.ofString "turn"):e.isT=true:=by
  cases e with
  | cut al n t=>cases al <;> exact absurd (show Str.ofString _=Str.ofString "turn" from h) (!3)
  | glue al n m=>cases al <;> exact absurd (show Str.ofString _=Str.ofString "turn" from h) (!3)
  | shift al n k=>cases al <;> exact absurd (show Str.ofString _=Str.ofString "turn" from h) (!3)
  | turn n=>rfl
theorem MA{p A B F:Prop}[Decidable p](h:B)(k:p->B->A):if decide p=true then A else if false=true then F else B:=if_d (λc=>k c h) λ_=>if_f h
theorem Dd.names_len(e:Dd):e.names.length<=2:=by cases e <;> simp [Dd.names]
def Dd.cells(e:Dd)(c c':Cell):List Cell:=if e.two then [c,c'] else [c]
variable {c':Cell}
theorem A1(h:CellsOf cl e c c'){i:Nat}(hi:e.names[i]?=some m):∃ (n:Nat) (x:Cell),m=(n:Int)/\cl[n]?=some x/\(e.cells c c')[i]?=some x:=by
  cases e with
  | glue al n k =>
    obtain ⟨⟨j,h1,h2⟩,j',h3,h4⟩:=h
    match i,hi with
    | 0,hi=>injection hi with hi; exact ⟨j,c,hi ▸ h1,h2,rfl⟩
    | 1,hi=>injection hi with hi; exact ⟨j',c',hi ▸ h3,h4,rfl⟩
    | i+2,hi=>exact nomatch hi
  | cut al n t =>
    obtain ⟨⟨j,h1,h2⟩,_⟩:=h
    match i,hi with
    | 0,hi=>injection hi with hi; exact ⟨j,c,hi ▸ h1,h2,rfl⟩
    | i+1,hi=>exact nomatch hi
  | shift al n k =>
    obtain ⟨⟨j,h1,h2⟩,_⟩:=h
    match i,hi with
    | 0,hi=>injection hi with hi; exact ⟨j,c,hi ▸ h1,h2,rfl⟩
    | i+1,hi=>exact nomatch hi
  | turn n =>
    obtain ⟨⟨j,h1,h2⟩,_⟩:=h
    match i,hi with
    | 0,hi=>injection hi with hi; exact ⟨j,c,hi ▸ h1,h2,rfl⟩
    | i+1,hi=>exact nomatch hi
theorem CellsOf.mem(h:CellsOf cl e c c'):c∈cl/\c'∈cl:=by
  cases e with
  | glue al n k=>obtain ⟨⟨j,h1,h2⟩,j',h3,h4⟩:=h; exact ⟨aw h2,aw h4⟩
  | cut al n t=>obtain ⟨⟨j,h1,h2⟩,rfl⟩:=h; exact ⟨aw h2,aw h2⟩
  | shift al n k=>obtain ⟨⟨j,h1,h2⟩,rfl⟩:=h; exact ⟨aw h2,aw h2⟩
  | turn n=>obtain ⟨⟨j,h1,h2⟩,rfl⟩:=h; exact ⟨aw h2,aw h2⟩
theorem Dd.cells_len(e:Dd)(c c':Cell):(e.cells c c').length=e.names.length:=by cases e <;> rfl
theorem wH{m:Int}:∀ (ms:List Int) (ns:List Nat),yq ns (ms++[m])=(yq ns ms).filter λn:Nat=>decide ((n:Int)≠m)
  | [],_=>rfl
  | _::ms,_=>wH ms _
theorem mem_ndrop{n:Nat}:∀ {ms:List Int} {ns:List Nat},n∈yq ns ms↔n∈ns/\(n:Int)∉ms
  | [],ns=>by simp [yq]
  | m::ms,ns=>by
    rw [yq,mem_ndrop,eI];simp only [a7,decide_eq_true_eq,not_or];constructor
    . rintro ⟨⟨a,b⟩,c⟩; exact ⟨a,b,c⟩
    . rintro ⟨a,b,c⟩; exact ⟨⟨a,b⟩,c⟩
theorem xK:∀ {ms:List Int} {ns:List Nat},ns.Pairwise (· < ·)->(yq ns ms).Pairwise (· < ·)
  | [],_,h=>h
  | m::ms,ns,h=>show (yq (ns.filter λn:Nat=>decide ((n:Int)≠m)) ms).Pairwise (· < ·) from xK (h.filter _)
theorem vJ{n:Nat}:∀ ns:List Nat,Aw (nmK ns) (.inl (n:Int))=nmK (ns.filter λk:Nat=>decide ((k:Int)≠(n:Int)))
  | []=>rfl
  | k::ns=>by
    have ih:=vJ (n:=n) ns;simp only [Aw,nmK] at ih ⊢;by_cases c:(k:Int)=n
    . simp only [aR,dw,c,ne_eq,not_true_eq_false,decide_false,ih];rfl
    . simp only [aR,dw,ne_eq,Sum.inl.injEq,c,not_false_eq_true,decide_true,ih];rfl
theorem wM{k:Nat}:∀ {ns:List Nat},(∀ n∈ns,n<k)->valV (nmK ns) (.inl (k:Int))=none
  | [],_=>rfl
  | m::ns,h=>by
    rw [nmK,aR,zZ (λc=>absurd (eP (fI c)) (aQ (h m aG)))];exact wM λn hn=>h n (aB _ hn)
theorem BG(e:Dd)(b c:Bo):(e.new b c).length<=2:=by
  cases e with
  | cut al n t=>cases al <;> exact ag _
  | glue al n m=>cases al <;> exact fi _
  | shift al n k=>cases al <;> exact fi _
  | turn n=>exact fi _
theorem Same.nn(s:Same H H'){a:Addr}(h:H' a=none):H a=none:=by
  cases e:H a with
  | none=>rfl
  | some o=>rw [s _ _ e] at h; cases h
theorem zK{Q:VK}{xs:List V}(hl:xs.length<=1000)(h:∀ p H2,H p=none->Same H H2->H2 p=some (.tup xs)->Q (.ref p) H2):NewT xs H Q :=
  ⟨DT hl,λp hp=>h p _ hp (zC hp _) zj⟩
def rNeL(X:Cx):R2:=λx y H Q=>∃ a b xs ys bs n,x=.ref a/\y=.ref b/\n<=9/\SqL X.K H a xs/\SqL X.K H b ys/\EqVs X n H xs ys bs/\Q (.bl (!(bs.all id))) H
theorem Fc{X:Cx}(hu:X.A.units+64<cLine):OpR X (compareOp .NotEq) (rNeL X):=by
  intro pins s σ H x y v u Q I rx ry h;obtain ⟨a,b,xs,ys,bs,n,rfl,rfl,hn,ha,hb,he,q⟩:=h;cases rx
  cases ry
  obtain ⟨is,js,p1,p2,hz,hj,e⟩:=Ho (A:=X.A) ha hb he I (!2);refine SeqAt.RcNeAt.lists p1 p2 hz (!2) hj X.prog X.w X.xe _ ?_;rw [e];exact ⟨.bl _,H,I,rfl,q⟩
variable {C:List Cell}
theorem HQ{X:Cx}{Q:VK}{a b:Addr}{D:List Cell}(ha:H a=some (.lst (C.map Cell.v)))(hb:H b=some (.lst (D.map Cell.v)))(hC:∀ c∈C,c.At H)(hD:∀ c∈D,c.At H)(e:C.map Cell.b=D.map Cell.b)(q:Q (.bl false) H):rNeL X (.ref a) (.ref b) H Q:=by
  obtain ⟨a',b',xs,ys,bs,n,e1,e2,hn,h1,h2,h3,h4⟩:=Lh (X:=X) (Q:=λv H'=>v=.bl true/\H'=H) ha hb hC hD e ⟨rfl,rfl⟩;refine ⟨a',b',xs,ys,bs,n,e1,e2,hn,h1,h2,h3,?_⟩;have h5:bs.all id=true:=by
    have:=h4.1;injection this
  rw [h5];exact q
structure Dd.Good(d D:Int)(M:Nat)(ns:List Nat)(f:Nat->Cell)(e:Dd)(n m:Nat):Prop where
  nm:e.names=if e.two then [(n:Int),(m:Int)] else [(n:Int)]
  hn:n∈ns
  hm:m∈ns
  ne:e.two=true->n≠m
  eq:e.two=false->m=n
  ok:e.Ok
  fit:e.Fit d (f n).b (f m).b
  new:∃ k,1<=k/\Bd 30 k/\∀ x∈e.new (f n).b (f m).b,BoD d (D*k) (M+32) x
theorem BoD.mono{d D:Int}{M M':Nat}{b:Bo}(h:BoD d D M b)(l:M<=M'):BoD d D M' b:=⟨h.1.mono l,h.2.mono l⟩
structure Sz(D:Int)(K' M:Nat):Prop where
  d1:1<=D
  bd:Bd K' D
  k:K'<=2050
  m:M<=2300
variable {K':Nat}
theorem Sz.sy{s:Sd}(z:Sz D K' M)(h:So d D M s):SY s:=(h.sk z.d1 z.bd).mono (by have:=z.m; lia) (by have:=z.k; lia)
def fL(L:List Cell)(n:Nat):Cell:=L[n]?.getD ⟨0,0,0,⟨⟨0,0,1⟩,⟨0,0,1⟩⟩⟩
theorem JI{L:List Cell}{n:Nat}(h:L[n]?=some c):fL L n=c:=by unfold fL; rw [h]; rfl
theorem Gs(h:c∈pick cl ns):c∈cl:=by
  obtain ⟨n,_,hn⟩:=fV.mp h;exact aw hn
theorem J6{C:Addr}{E:XK}{t:TA}{Q:VK}(h:t σ H λvs H1=>∀ x dx,H1 x=none->H1 dx=none->dx≠x->sp (.ref x::(vs++dvs)) (upd (upd H1 dx (.own x)) x (.ins C dx [])) (λv H2=>v=.non/\Q (.ref x) H2) E):IB C sp dvs E t σ H Q:=h
variable {tn:Bool}
theorem YdAt.mv{C:Addr}{y:Yd}{lg:List V}(h:YdAt C H y d tn cl ns lg)(f:∀ b o,H b=some o->(∃ xs,o=.tup xs)\/b=y.p\/b=y.k\/b=y.l\/b=y.t->H' b=some o):YdAt C H' y d tn cl ns lg :=
  ⟨f _ _ h.o (.inr (.inl rfl)),f _ _ h.k (.inr (.inr (.inl rfl))),f _ _ h.l (.inr (.inr (.inr (.inl rfl)))),f _ _ h.t (.inr (.inr (.inr (.inr rfl)))),h.kt,λc hc=>⟨f _ _ (h.at' c hc).t (.inl ⟨_,rfl⟩),f _ _ (h.at' c hc).w (.inl ⟨_,rfl⟩),f _ _ (h.at' c hc).h (.inl ⟨_,rfl⟩)⟩,h.up,h.lt,h.lc,h.ll⟩
theorem KU(e:Dd)(b c:Bo):1<=(e.new b c).length:=by
  cases e with
  | cut al n t=>cases al <;> exact fi _
  | glue al n m=>cases al <;> exact ag _
  | shift al n k=>cases al <;> exact ag _
  | turn n=>exact ag _
theorem Ga{ms:List Int}{n:Nat}(up:ns.Pairwise (· < ·))(hn:n∈ns)(hm:(n:Int)∈ms):(yq ns ms).length+1<=ns.length:=by
  have nd:(n::yq ns ms).Nodup:=dE.mpr ⟨λh=>(mem_ndrop.mp h).2 hm,(xK up).imp λhab=>aQ hab⟩;exact fA nd λk hk=>by
    rcases a7.mp hk with rfl|hk
    . exact hn
    . exact (mem_ndrop.mp hk).1
theorem DdAt.sameX{p:Addr}{xs:List V}(h:DdAt H p e)(s:SameX l H H')(e0:H l=some (.lst xs)):DdAt H' p e:=by
  cases e with
  | cut al n t=>obtain ⟨q,h1,h2⟩:=h; exact ⟨q,s.tup h1 e0,s.tup h2 e0⟩
  | glue al n m=>exact s.tup h e0
  | shift al n k=>exact s.tup h e0
  | turn n=>exact s.tup h e0
structure As where
  k:Nat
  ns:List Nat
  g:Nat->Bo
def gN(g:Nat->Bo)(k:Nat)(N:List Bo)(j:Nat):Bo:=if j<k then g j else N[j - k]?.getD ⟨⟨0,0,1⟩,⟨0,0,1⟩⟩
def As.next(s:As)(x:Dd×Nat×Nat):As:=⟨s.k+(x.1.new (s.g x.2.1) (s.g x.2.2)).length,yq s.ns x.1.names++List.range' s.k (x.1.new (s.g x.2.1) (s.g x.2.2)).length,gN s.g s.k (x.1.new (s.g x.2.1) (s.g x.2.2))⟩
def ends(s:As)(es:List (Dd×Nat×Nat)):As:=es.foldl As.next s
def As.st(L:List Cell):As:=⟨L.length,List.range L.length,λn=>(fL L n).b⟩
structure Nms(s:As)(e:Dd)(n m:Nat):Prop where
  nm:e.names=if e.two then [(n:Int),(m:Int)] else [(n:Int)]
  hn:n∈s.ns
  hm:m∈s.ns
  ne:e.two=true->n≠m
  eq:e.two=false->m=n
structure Stp(d:Int)(tn:Bool)(s:As)(x:Dd×Nat×Nat):Prop where
  nms:Nms s x.1 x.2.1 x.2.2
  ok:x.1.Ok
  fit:x.1.Fit d (s.g x.2.1) (s.g x.2.2)
  tn:x.1.isT=true->tn=true
def Walk(d:Int)(tn:Bool)(s:As)(es:List (Dd×Nat×Nat)):Prop:=∀ (i:Nat) (x:Dd×Nat×Nat),es[i]?=some x->Stp d tn (ends s (es.take i)) x
variable {x:Dd×Nat×Nat}
theorem ym{s:As}{es:List (Dd×Nat×Nat)}{i:Nat}(h:es[i]?=some x):ends s (es.take (i+1))=(ends s (es.take i)).next x:=by
  rw [br,h];show ends s (es.take i++[x])=_;unfold ends;rw [dG];rfl
def Runs(H:Hp)(ps:List Addr)(es:List (Dd×Nat×Nat)):Prop:=ps.length=es.length/\∀ (i:Nat) (p:Addr) (x:Dd×Nat×Nat),ps[i]?=some p->es[i]?=some x->DdAt H p x.1
theorem Runs.same{H H':Hp}{ps:List Addr}{es:List (Dd×Nat×Nat)}(h:Runs H ps es)(s:Same H H'):Runs H' ps es:=⟨h.1,λi p x h1 h2=>(h.2 i p x h1 h2).same s⟩
def YdS(C:Addr)(H:Hp)(y:Yd)(d:Int)(tn:Bool)(s:As)(lg:List V):Prop:=∃ cl,YdAt C H y d tn cl s.ns lg/\cl.length=s.k/\∀ n,n<s.k->∃ c,cl[n]?=some c/\c.b=s.g n
theorem Nms.names_in{s:As}{n m:Nat}(h:Nms s e n m):∀ k∈e.names,∃ i∈s.ns,k=(i:Int):=λk hk=>by
  rw [h.nm] at hk;cases ht:e.two with
  | true =>
    rw [ht,io rfl] at hk;rcases a7.mp hk with rfl|hk
    . exact ⟨n,h.hn,rfl⟩
    . rw [ao.mp hk]; exact ⟨m,h.hm,rfl⟩
  | false =>
    rw [ht,ip ⋯] at hk;rw [ao.mp hk]; exact ⟨n,h.hn,rfl⟩
theorem Nms.nodup{s:As}{n m:Nat}(h:Nms s e n m):e.names.Nodup:=by
  rw [h.nm];cases ht:e.two with
  | true =>
    rw [io rfl];have:=h.ne ht;simp
    lia
  | false =>
    rw [ip ⋯];simp
theorem Nms.en{s:As}{n m:Nat}(h:Nms s e n m):e.n=(n:Int):=by
  have:=h.nm;cases e <;> simp [Dd.names,Dd.two,Dd.n] at this ⊢
  . exact this
  . exact this.1
  . exact this
  . exact this
theorem Nms.cells{s:As}{n m:Nat}(h:Nms s e n m)(h1:cl[n]?=some c)(h2:cl[m]?=some c'):CellsOf cl e c c':=by
  have hnm:=h.nm;have heq:=h.eq;cases e with
  | glue al a b =>
    simp [Dd.names,Dd.two] at hnm;exact ⟨⟨n,hnm.1,h1⟩,m,hnm.2,h2⟩
  | cut al a t =>
    have:m=n:=heq rfl;subst this;refine ⟨⟨m,h.en,h1⟩,aq (h2.symm.trans h1)⟩
  | shift al a t =>
    have:m=n:=heq rfl;subst this;refine ⟨⟨m,h.en,h1⟩,aq (h2.symm.trans h1)⟩
  | turn a =>
    have:m=n:=heq rfl;subst this;refine ⟨⟨m,h.en,h1⟩,aq (h2.symm.trans h1)⟩
theorem YdS.next{C:Addr}{H':Hp}{y:Yd}{d:Int}{tn:Bool}{s:As}{x:Dd×Nat×Nat}{cl N:List Cell}{lg:List V}(h2:cl.length=s.k)(h3:∀ n,n<s.k->∃ c,cl[n]?=some c/\c.b=s.g n) (hy:YdAt C H' y d tn (cl++N) (yq s.ns x.1.names++List.range' cl.length N.length) lg) (hN:N.map Cell.b=x.1.new (s.g x.2.1) (s.g x.2.2)):YdS C H' y d tn (s.next x) lg:=by
  have hl:N.length=(x.1.new (s.g x.2.1) (s.g x.2.2)).length:=by rw [<-hN,aa]
  rw [h2,hl] at hy;refine ⟨cl++N,hy,by rw [ai,h2,hl]; rfl,λj hj=>?_⟩;have hj:j<s.k+(x.1.new (s.g x.2.1) (s.g x.2.2)).length:=hj;show ∃ c,(cl++N)[j]?=some c/\c.b=gN s.g s.k _ j;by_cases hjl:j<s.k
  . obtain ⟨c,h4,h5⟩:=h3 j hjl;exact ⟨c,by rw [aT (!2)]; exact h4,by unfold gN; rw [io (!2)]; exact h5⟩
  . obtain ⟨t,rfl⟩:∃ t,j=s.k+t:=⟨j - s.k,by lia⟩
    have ht:t<N.length:=by lia
    refine ⟨N[t],by rw [aM (!2),h2,eW]; exact ae ht,?_⟩;unfold gN;rw [ip (!2),eW,<-hN,aj,ae ht];rfl
abbrev DL:=List (Dd×Nat×Nat)
theorem Lb{s:As}{es:List (Dd×Nat×Nat)}:(ends s es).k<=s.k+2*es.length:=by
  induction es generalizing s with
  | nil=>exact ag _
  | cons x es ih =>
    have h1:(s.next x).k<=s.k+2:=Nat.add_le_add_left (BG x.1 _ _) _;have h2:=ih (s:=s.next x);show (ends (s.next x) es).k<=_;rw [ax]
    lia
structure As.Ok(B:Nat)(s:As)(i:Nat):Prop where
  up:s.ns.Pairwise (· < ·)
  lt:∀ n∈s.ns,n<s.k
  ne:s.ns≠[]
  nl:s.ns.length<=B+i
  kl:s.k<=B+2*i
theorem As.Ok.next{B:Nat}{s:As}{i:Nat}{x:Dd×Nat×Nat}(h:As.Ok B s i)(n:Nms s x.1 x.2.1 x.2.2):As.Ok B (s.next x) (i+1):=by
  have l2:=BG x.1 (s.g x.2.1) (s.g x.2.2);have l1:=KU x.1 (s.g x.2.1) (s.g x.2.2);have hk:=h.kl;have hnl:=h.nl;have dl:=Ga h.up n.hn (show (x.2.1:Int)∈x.1.names by rw [n.nm]; cases x.1.two <;> simp);generalize hN:x.1.new (s.g x.2.1) (s.g x.2.2)=N at l1 l2;have e1:(s.next x).ns=yq s.ns x.1.names++List.range' s.k N.length:=by rw [<-hN]; rfl
  have e2:(s.next x).k=s.k+N.length:=by rw [<-hN]; rfl
  refine ⟨?_,?_,?_,?_,?_⟩
  . rw [e1];refine List.pairwise_append.mpr ⟨xK h.up,gJ ..,λn1 h1 n2 h2=>?_⟩;have:=h.lt n1 (mem_ndrop.mp h1).1;have:=dj.mp h2
    lia
  . rw [e1,e2];intro j hj;rcases aE.mp hj with hj|hj
    . have:=h.lt j (mem_ndrop.mp hj).1
      lia
    . have:=dj.mp hj
      lia
  . rw [e1];intro hh;have:=congrArg List.length hh;rw [ai,eZ,aK] at this
    lia
  . rw [e1,ai,eZ]
    lia
  . rw [e2]
    lia
theorem Runs.sameX{H H':Hp}{l:Addr}{ps:List Addr}{es:DL}{xs:List V}(h:Runs H ps es)(z:SameX l H H')(e:H l=some (.lst xs)):Runs H' ps es:=⟨h.1,λi p x h1 h2=>(h.2 i p x h1 h2).sameX z e⟩
variable {es:DL}
theorem vi{s:As}:ends s (es++[x])=(ends s es).next x:=by
  unfold ends;rw [dG];rfl
theorem Ff{s:As}(h:Walk d tn s es)(g:Stp d tn (ends s es) x):Walk d tn s (es++[x]):=λi y hy=>by
  by_cases c:i<es.length
  . rw [aT c] at hy;rw [cT (!2)];exact h i y hy
  . have hl:=(af.mp hy).1;rw [ai] at hl;have:i=es.length:=by simp only [ax,aK] at hl; lia
    subst this;rw [aM (ag _),eC] at hy;have:x=y:=aq hy;subst this;rw [List.take_left];exact g
theorem xC{p:Addr}(h:Runs H ps es)(g:DdAt H p x.1):Runs H (ps++[p]) (es++[x]):=⟨by rw [ai,ai,h.1]; rfl,λi q y h1 h2=>by
  by_cases c:i<ps.length
  . rw [aT c] at h1;rw [aT (by rw [<-h.1]; exact c)] at h2;exact h.2 i q y h1 h2
  . have hl:=(af.mp h1).1;rw [ai] at hl;have:i=ps.length:=by simp only [ax,aK] at hl; lia
    subst this;rw [aM (ag _),eC] at h1;rw [h.1,aM (ag _),eC] at h2;have e1:p=q:=aq h1;have e2:x=y:=aq h2;subst e1;subst e2;exact g⟩
structure Rv(D X Y:Int)(s:Sd):Prop where
  z1:1<=s.z
  g:g3 s.x s.y s.z=1
  x:s.x*D=X*s.z
  y:s.y*D=Y*s.z
theorem So.rv{s:Sd}(h:So d D M s):∃ X Y,Rv D X Y s:=by
  obtain ⟨X,Y,_,_,hx,hy⟩:=h.r;exact ⟨X,Y,h.z1,h.g,hx,hy⟩
theorem Rv.eq{s t:Sd}(hD:D≠0)(h:Rv D X Y s)(h':Rv D X Y t):s=t:=by
  obtain ⟨a1,a2,a3⟩:=zS h.z1 h.g hD h.x h.y;obtain ⟨b1,b2,b3⟩:=zS h'.z1 h'.g hD h'.x h'.y;cases s
  cases t
  simp only at a1 a2 a3 b1 b2 b3;rw [a1,a2,a3,b1,b2,b3]
variable {X' Y':Int}
theorem Rv.tk{s t:Sd}(h:Rv D X Y s)(h':Rv D X' Y' t):Rv D (X - X') (Y - Y') (tkS s t):=by
  have hn:s.z*t.z≠0:=ar (by have:=h.z1; lia) (by have:=h'.z1; lia);have h1:=h.x;have h2:=h.y;have h3:=h'.x;have h4:=h'.y;obtain ⟨r1,r2⟩:=wO (a:=s.x*t.z+-t.x*s.z) (b:=s.y*t.z+-t.y*s.z) (n:=s.z*t.z) (D:=D) (X:=X - X') (Y:=Y - Y') hn (by grind) (by grind);exact ⟨l_n hn,xq hn,r1,r2⟩
theorem Rv.ad{s t:Sd}(h:Rv D X Y s)(h':Rv D X' Y' t):Rv D (X+X') (Y+Y') (adS s t):=by
  have hn:s.z*t.z≠0:=ar (by have:=h.z1; lia) (by have:=h'.z1; lia);have h1:=h.x;have h2:=h.y;have h3:=h'.x;have h4:=h'.y;obtain ⟨r1,r2⟩:=wO (a:=s.x*t.z+t.x*s.z) (b:=s.y*t.z+t.y*s.z) (n:=s.z*t.z) (D:=D) (X:=X+X') (Y:=Y+Y') hn (by grind) (by grind);exact ⟨l_n hn,xq hn,r1,r2⟩
theorem Rv.sh{k:Int}{s:Sd}(h:Rv D X Y s)(k1:1<=k):Rv (D*k) (X*m) (Y*m) (shS s m k):=by
  have hn:s.z*k≠0:=ar (by have:=h.z1; lia) (!2);have h1:=h.x;have h2:=h.y;obtain ⟨r1,r2⟩:=wO (a:=s.x*m) (b:=s.y*m) (n:=s.z*k) (D:=D*k) (X:=X*m) (Y:=Y*m) hn (by grind) (by grind);exact ⟨l_n hn,xq hn,r1,r2⟩
theorem Rv.sc{k:Int}{s:Sd}(h:Rv D X Y s):Rv (D*k) (X*k) (Y*k) s :=
  ⟨h.z1,h.g,by rw [<-am,h.x]; grind,by rw [<-am,h.y]; grind⟩
variable {M':Nat}
theorem LE{s:Sd}(hD:1<=D)(h:So d D M w)(h':So d D M' s):adS s (tkS w s)=w:=by
  obtain ⟨X,Y,r⟩:=h.rv;obtain ⟨X',Y',r'⟩:=h'.rv;have:=r'.ad (r.tk r');rw [show X'+(X - X')=X by lia,show Y'+(Y - Y')=Y by lia] at this;exact this.eq (!2) r
theorem KW{s:Sd}(hD:1<=D)(h:So d D M w)(h':So d D M' s):tkS (adS w s) w=s:=by
  obtain ⟨X,Y,r⟩:=h.rv;obtain ⟨X',Y',r'⟩:=h'.rv;have:=(r.ad r').tk r;rw [show X+X' - X=X' by lia,show Y+Y' - Y=Y' by lia] at this;exact this.eq (!2) r'
theorem Gw{k:Int}(hD:1<=D)(h:So d D M w)(k1:1<=k):shS (shS w 1 k) k 1=w/\shS (shS w k 1) 1 k=w:=by
  obtain ⟨X,Y,r⟩:=h.rv;have hk:D*k≠0:=ar (!2) (!2);have r1:Rv (D*k*1) (X*1*k) (Y*1*k) (shS (shS w 1 k) k 1):=(r.sh (m:=1) k1).sh (m:=k) (!2);have r2:Rv (D*1*k) (X*k*1) (Y*k*1) (shS (shS w k 1) 1 k):=(r.sh (m:=k) (k:=1) (!2)).sh (m:=1) k1;simp only [cH] at r1 r2;exact ⟨r1.eq hk r.sc,r2.eq hk r.sc⟩
def Dd.und(m m':Int)(b:Bo):Dd->Dd
  | .cut al _ _=>.glue al m m'
  | .glue al _ _=>.cut al m (if al then b.h else b.w)
  | .shift al _ k=>.shift (!al) m k
  | .turn _=>.turn m
def Dd.puts:Dd->Nat
  | .cut _ _ _=>2
  | _=>1
theorem Dd.puts_new(e:Dd)(b c:Bo):(e.new b c).length=e.puts:=by
  cases e with
  | cut al n s=>cases al <;> rfl
  | glue al n m=>cases al <;> rfl
  | shift al n k=>cases al <;> rfl
  | turn n=>rfl
def undo(s:As)(x:Dd×Nat×Nat)(r:Nat->Nat):Dd×Nat×Nat:=(x.1.und (r s.k:Nat) (r (s.k+1):Nat) (s.g x.2.1),r s.k,if x.1.puts=2 then r (s.k+1) else r s.k)
def ren(r:Nat->Nat)(x:Dd×Nat×Nat)(u j:Nat):Nat:=if x.1.two=true/\j=x.2.2 then u+1 else if j=x.2.1 then u else r j
structure Sim(r:Nat->Nat)(s t:As):Prop where
  mp:∀ n∈s.ns,r n∈t.ns
  on:∀ m∈t.ns,∃ n∈s.ns,r n=m
  inj:∀ n∈s.ns,∀ m∈s.ns,r n=r m->n=m
  g:∀ n∈s.ns,t.g (r n)=s.g n
theorem Bb(m m':Int)(b:Bo)(e:Dd):(e.und m m' b).two=decide (e.puts=2):=by cases e <;> rfl
theorem Jx(m m':Int)(b:Bo)(e:Dd):(e.und m m' b).isT=e.isT:=by cases e <;> rfl
theorem Cg(m m':Int)(b:Bo)(e:Dd):(e.und m m' b).puts=if e.two then 2 else 1:=by cases e <;> rfl
theorem AW(m m':Int)(b:Bo)(e:Dd):(e.und m m' b).names=if e.puts=2 then [m,m'] else [m]:=by cases e <;> rfl
theorem puts_le(e:Dd):e.puts=1\/e.puts=2:=by cases e <;> simp [Dd.puts]
theorem xo(s:As)(x:Dd×Nat×Nat):(s.next x).k=s.k+x.1.puts:=by
  show s.k+_=_;rw [Dd.puts_new]
theorem mem_next{s:As}{j:Nat}:j∈(s.next x).ns↔(j∈s.ns/\(j:Int)∉x.1.names)\/(s.k<=j/\j<s.k+x.1.puts):=by
  show j∈yq s.ns x.1.names++List.range' s.k _↔_;rw [Dd.puts_new,aE,mem_ndrop,dj]
variable {g:Nat->Bo}
theorem ud{k j:Nat}{N:List Bo}(h:j<k):gN g k N j=g j:=by unfold gN; rw [io h]
theorem yA{k j:Nat}{N:List Bo}{b:Bo}(h:N[j]?=some b):gN g k N (k+j)=b:=by
  unfold gN;rw [ip (!2),eW,h];rfl
theorem Ar{s:As}{n m j:Nat}(h:Nms s e n m):(j:Int)∈e.names↔j=n\/(e.two=true/\j=m):=by
  rw [h.nm];cases e.two with
  | true=>simp; lia
  | false=>simp; lia
variable {r:Nat->Nat}
theorem B7{s t:As}(hD:1<=D)(st:Stp d tn s x)(so:∀ n∈s.ns,BoD d D M (s.g n))(sn:∀ b∈x.1.new (s.g x.2.1) (s.g x.2.2),BoD d D M b)(sim:Sim r (s.next x) t):(undo s x r).1.new (t.g (undo s x r).2.1) (t.g (undo s x r).2.2)=if x.1.two then [s.g x.2.1,s.g x.2.2] else [s.g x.2.1]:=by
  have hk:∀ j,j<x.1.puts->t.g (r (s.k+j))=gN s.g s.k (x.1.new (s.g x.2.1) (s.g x.2.2)) (s.k+j):=λj hj=>sim.g _ (mem_next.mpr (.inr ⟨by lia,by lia⟩));have o1:=so _ st.nms.hn;have o2:=so _ st.nms.hm;have ft:=st.fit;obtain ⟨e,n,m⟩:=x;dsimp only [undo] at hk o1 o2 ft sn ⊢;generalize s.g n=b at *
  generalize s.g m=c at *
  obtain ⟨bw,bh⟩:=b;obtain ⟨cw,ch⟩:=c;have h0:=hk 0 (by rcases puts_le e with h | h <;> lia);rw [h7] at h0;rw [h0];cases e with
  | cut al n s' =>
    have h1:=hk 1 (by show 1<2; decide);rw [io (show (Dd.cut al n s').puts=2 from rfl),h1];cases al with
    | false =>
      rw [yA (j:=1) rfl];rw [show gN s.g s.k (Dd.new ⟨bw,bh⟩ ⟨cw,ch⟩ (.cut false n s')) s.k=⟨s',bh⟩ from yA (j:=0) rfl];show [(⟨adS s' (tkS bw s'),bh⟩:Bo)]=[⟨bw,bh⟩]
      rw [LE hD o1.1 (sn ⟨s',bh⟩ (by simp [Dd.new])).1]
    | true =>
      rw [yA (j:=1) rfl];rw [show gN s.g s.k (Dd.new ⟨bw,bh⟩ ⟨cw,ch⟩ (.cut true n s')) s.k=⟨bw,s'⟩ from yA (j:=0) rfl];show [(⟨bw,adS s' (tkS bh s')⟩:Bo)]=[⟨bw,bh⟩]
      rw [LE hD o1.2 (sn ⟨bw,s'⟩ (by simp [Dd.new])).2]
  | glue al n' m' =>
    cases al with
    | false =>
      rw [show gN s.g s.k (Dd.new ⟨bw,bh⟩ ⟨cw,ch⟩ (.glue false n' m')) s.k=⟨adS bw cw,bh⟩ from yA (j:=0) rfl];have e:bh=ch:=ft.1;show [(⟨bw,bh⟩:Bo),⟨tkS (adS bw cw) bw,bh⟩]=[⟨bw,bh⟩,⟨cw,ch⟩]
      rw [KW hD o1.1 o2.1,e]
    | true =>
      rw [show gN s.g s.k (Dd.new ⟨bw,bh⟩ ⟨cw,ch⟩ (.glue true n' m')) s.k=⟨bw,adS bh ch⟩ from yA (j:=0) rfl];have e:bw=cw:=ft.1;show [(⟨bw,bh⟩:Bo),⟨bw,tkS (adS bh ch) bh⟩]=[⟨bw,bh⟩,⟨cw,ch⟩]
      rw [KW hD o1.2 o2.2,e]
  | shift al n' k =>
    have k1:1<=k:=ft.1;cases al with
    | false =>
      rw [show gN s.g s.k (Dd.new ⟨bw,bh⟩ ⟨cw,ch⟩ (.shift false n' k)) s.k=⟨shS bw 1 k,shS bh k 1⟩ from yA (j:=0) rfl];show [(⟨shS (shS bw 1 k) k 1,shS (shS bh k 1) 1 k⟩:Bo)]=[⟨bw,bh⟩]
      rw [(Gw hD o1.1 k1).1,(Gw hD o1.2 k1).2]
    | true =>
      rw [show gN s.g s.k (Dd.new ⟨bw,bh⟩ ⟨cw,ch⟩ (.shift true n' k)) s.k=⟨shS bw k 1,shS bh 1 k⟩ from yA (j:=0) rfl];show [(⟨shS (shS bw k 1) 1 k,shS (shS bh 1 k) k 1⟩:Bo)]=[⟨bw,bh⟩]
      rw [(Gw hD o1.1 k1).2,(Gw hD o1.2 k1).1]
  | turn n' =>
    rw [show gN s.g s.k (Dd.new ⟨bw,bh⟩ ⟨cw,ch⟩ (.turn n')) s.k=⟨bh,bw⟩ from yA (j:=0) rfl];rfl
theorem AX{s:Sd}(hR:Rt d)(z:Sz D K' M)(hw:So d D M w)(hs:So d D M s)(ht:So d D M (tkS w s)):Gq d w s:=by
  have hn1:1<=w.z*s.z:=aI (by have:=hw.z1; lia) (by have:=hs.z1; lia);refine ⟨z.sy hw,z.sy hs,by rw [hs.up]; decide,?_⟩;have e:sgn d (tkS w s).x (tkS w s).y=sgn d (w.x*s.z - s.x*w.z) (w.y*s.z - s.y*w.z):=by
    refine (yv hR hn1).trans ?_;rw [show w.x*s.z+-s.x*w.z=w.x*s.z - s.x*w.z by grind,show w.y*s.z+-s.y*w.z=w.y*s.z - s.y*w.z by grind]
  rw [<-e,ht.up];decide
theorem EH{s t:As}{f:Nat->Cell}(hR:Rt d)(z:Sz D K' M)(st:Stp d tn s x)(so:∀ n∈s.ns,BoD d D M (s.g n))(sn:∀ b∈x.1.new (s.g x.2.1) (s.g x.2.2),BoD d D M b)(sim:Sim r (s.next x) t)(hf:∀ n∈t.ns,(f n).b=t.g n):(undo s x r).1.Good d D M t.ns f (undo s x r).2.1 (undo s x r).2.2:=by
  have hD:=z.d1;have nw:=B7 hD st so sn sim;have p1:=puts_le x.1;have i0:s.k∈(s.next x).ns:=mem_next.mpr (.inr ⟨ag _,by lia⟩);have m0:r s.k∈t.ns:=sim.mp _ i0;have f0:(f (undo s x r).2.1).b=t.g (undo s x r).2.1:=hf _ m0;have m1:(undo s x r).2.2∈t.ns:=by
    show (if x.1.puts=2 then r (s.k+1) else r s.k)∈t.ns;split
    . exact sim.mp _ (mem_next.mpr (.inr ⟨by lia,by lia⟩))
    . exact m0
  have hb:∀ b∈(undo s x r).1.new (f (undo s x r).2.1).b (f (undo s x r).2.2).b,BoD d D M b:=by
    rw [f0,hf _ m1,nw];intro b hb;split at hb
    . rcases a7.mp hb with rfl | hb
      . exact so _ st.nms.hn
      . rw [ao.mp hb]; exact so _ st.nms.hm
    . rw [ao.mp hb]; exact so _ st.nms.hn
  have tso:∀ j,j<x.1.puts->BoD d D M (t.g (r (s.k+j))):=λj hj=>by
    rw [sim.g _ (mem_next.mpr (.inr ⟨by lia,by lia⟩))];have hl:=Dd.puts_new x.1 (s.g x.2.1) (s.g x.2.2);have hj':j<(x.1.new (s.g x.2.1) (s.g x.2.2)).length:=by lia
    show BoD d D M (gN s.g s.k _ (s.k+j));rw [yA (ae hj')];exact sn _ (cR hj')
  have t0:=tso 0 (!2);rw [h7] at t0;have ftx:=st.fit;have okx:=st.ok;have hnn:=st.nms.hn;refine ⟨?_,m0,m1,?_,?_,?_,?_,1,by decide,by decide,λb hb'=>?_⟩
  . show (x.1.und _ _ _).names=_;rw [AW];show _=if (x.1.und _ _ _).two then _ else _
    rw [Bb];rcases p1 with h|h
    . rw [ip (!2),ip (by simp [h])];rfl
    . rw [io h,io (by simp [h])];show _=[_,((if x.1.puts=2 then r (s.k+1) else r s.k:Nat):Int)]
      rw [io h];rfl
  . intro h2;have h2:(x.1.und _ _ _).two=true:=h2;rw [Bb] at h2;have h2:x.1.puts=2:=by simpa using h2
    show r s.k≠if x.1.puts=2 then r (s.k+1) else r s.k
    rw [io h2];intro c;have:=sim.inj _ i0 _ (mem_next.mpr (.inr ⟨by lia,by lia⟩)) c
    lia
  . intro h2;have h2:(x.1.und _ _ _).two=false:=h2;rw [Bb] at h2;have h2:¬ x.1.puts=2:=by simpa using h2
    show (if x.1.puts=2 then r (s.k+1) else r s.k)=r s.k;rw [ip h2]
  . show (x.1.und _ _ _).Ok;have o:=so _ hnn
    revert okx
    cases x.1 with
    | cut al n s'=>exact λ_=>trivial
    | glue al n m =>
      intro _;cases al with
      | false=>exact z.sy o.1
      | true=>exact z.sy o.2
    | shift al n k=>exact id
    | turn n=>exact λ_=>trivial
  . rw [f0,hf _ m1];rw [f0,hf _ m1] at hb;have o:=so _ hnn;have o':=so _ st.nms.hm;have g0:t.g (r s.k)=gN s.g s.k (x.1.new (s.g x.2.1) (s.g x.2.2)) s.k:=sim.g _ i0;have g1:x.1.puts=2->t.g (r (s.k+1))=gN s.g s.k (x.1.new (s.g x.2.1) (s.g x.2.2)) (s.k+1):=λh=>sim.g _ (mem_next.mpr (.inr ⟨by lia,by lia⟩));clear m1 m0 i0 nw f0 hf sim;obtain ⟨e,n,m⟩:=x;dsimp only [undo] at *
    generalize t.g (r s.k)=B at *
    cases e with
    | cut al n' s' =>
      have g1:=g1 rfl;have t1:=tso 1 (by show 1<2; decide);rw [io (show (Dd.cut al n' s').puts=2 from rfl)] at hb ⊢;generalize t.g (r (s.k+1))=C at *
      cases al with
      | false =>
        have q0:B=⟨s',(s.g n).h⟩:=g0.trans (yA (j:=0) rfl);have q1:C=⟨tkS (s.g n).w s',(s.g n).h⟩:=g1.trans (yA (j:=1) rfl);subst q0;subst q1;exact ⟨rfl,z.sy t0.1,z.sy t1.1⟩
      | true =>
        have q0:B=⟨(s.g n).w,s'⟩:=g0.trans (yA (j:=0) rfl);have q1:C=⟨(s.g n).w,tkS (s.g n).h s'⟩:=g1.trans (yA (j:=1) rfl);subst q0;subst q1;exact ⟨rfl,z.sy t0.2,z.sy t1.2⟩
    | glue al n' m' =>
      cases al with
      | false =>
        have hb1:=hb _ (aB _ aG);exact AX hR z t0.1 o.1 hb1.1
      | true =>
        have hb1:=hb _ (aB _ aG);exact AX hR z t0.2 o.2 hb1.2
    | shift al n' k =>
      cases al with
      | false=>exact ⟨ftx.1,ftx.2.1,z.sy t0.1,z.sy t0.2⟩
      | true=>exact ⟨ftx.1,ftx.2.1,z.sy t0.1,z.sy t0.2⟩
    | turn n'=>exact trivial
  . rw [cH];exact (hb b hb').mono (!2)
theorem GG{s t:As}(hR:Rt d)(z:Sz D K' M)(st:Stp d tn s x)(so:∀ n∈s.ns,BoD d D M (s.g n))(sn:∀ b∈x.1.new (s.g x.2.1) (s.g x.2.2),BoD d D M b)(sim:Sim r (s.next x) t):Stp d tn t (undo s x r):=by
  have gd:=EH (f:=λn=>⟨0,0,0,t.g n⟩) hR z st so sn sim (λn _=>rfl);exact ⟨⟨gd.nm,gd.hn,gd.hm,gd.ne,gd.eq⟩,gd.ok,gd.fit,λh=>st.tn (by rw [<-h]; exact (Jx _ _ _ _).symm)⟩
theorem GF{s t:As}(hD:1<=D)(st:Stp d tn s x)(so:∀ n∈s.ns,BoD d D M (s.g n))(sn:∀ b∈x.1.new (s.g x.2.1) (s.g x.2.2),BoD d D M b)(sim:Sim r (s.next x) t)(lt:∀ n∈s.ns,n<s.k)(tl:∀ m∈t.ns,m<t.k):Sim (ren r x t.k) s (t.next (undo s x r)):=by
  have nw:=B7 hD st so sn sim;have p1:=puts_le x.1;have nx:∀ j:Nat,(j:Int)∈x.1.names↔j=x.2.1\/(x.1.two=true/\j=x.2.2):=λj=>Ar st.nms;have ne:=st.nms.ne;have pu:(undo s x r).1.puts=if x.1.two then 2 else 1:=Cg _ _ _ _
  have un:∀ j:Nat,(j:Int)∈(undo s x r).1.names↔∃ i,s.k<=i/\i<s.k+x.1.puts/\r i=j:=λj=>by
    show (j:Int)∈(x.1.und _ _ _).names↔_;rw [AW];rcases p1 with h|h
    . rw [ip (!2),ao,h];constructor
      . intro q;exact ⟨s.k,ag _,by lia,by lia⟩
      . rintro ⟨i,h1,h2,rfl⟩;rw [show i=s.k by lia]
    . rw [io h,a7,ao,h];constructor
      . rintro (q | q)
        . exact ⟨s.k,ag _,by lia,by lia⟩
        . exact ⟨s.k+1,by lia,by lia,by lia⟩
      . rintro ⟨i,h1,h2,rfl⟩;have:i=s.k\/i=s.k+1:=by lia
        rcases this with rfl|rfl
        . exact .inl rfl
        . exact .inr rfl
  have cs:∀ n∈s.ns,(x.1.two=true/\n=x.2.2/\ren r x t.k n=t.k+1)\/(n=x.2.1/\ren r x t.k n=t.k)\/(n∈(s.next x).ns/\ren r x t.k n=r n/\n<s.k/\r n<t.k):=λn hn=>by
    unfold ren;by_cases c1:x.1.two=true/\n=x.2.2
    . exact .inl ⟨c1.1,c1.2,io c1⟩
    . rw [ip c1];by_cases c2:n=x.2.1
      . exact .inr (.inl ⟨c2,io c2⟩)
      . have hm:n∈(s.next x).ns:=mem_next.mpr (.inl ⟨hn,λh=>by
          rcases (nx n).mp h with h|h
          . exact c2 h
          . exact c1 h⟩)
        exact .inr (.inr ⟨hm,ip c2,lt n hn,tl _ (sim.mp n hm)⟩)
  have tm:∀ j,j∈(t.next (undo s x r)).ns↔(j∈t.ns/\¬ ∃ i,s.k<=i/\i<s.k+x.1.puts/\r i=j)\/(t.k<=j/\j<t.k+if x.1.two then 2 else 1):=λj=>by rw [mem_next,un,pu]
  have tg:∀ j,(t.next (undo s x r)).g j=gN t.g t.k (if x.1.two then [s.g x.2.1,s.g x.2.2] else [s.g x.2.1]) j:=λj=>by rw [<-nw]; rfl
  refine ⟨λn hn=>?_,λm hm=>?_,λn hn m hm e=>?_,λn hn=>?_⟩
  . rw [tm];rcases cs n hn with ⟨h1,h2,h3⟩|⟨h1,h2⟩|⟨h1,h2,h3,h4⟩
    . rw [h3,io h1]; exact .inr (!2)
    . rw [h2];refine .inr ⟨ag _,?_⟩;split <;> lia
    . rw [h2];refine .inl ⟨sim.mp n h1,?_⟩;rintro ⟨i,i1,i2,i3⟩;have:=sim.inj _ (mem_next.mpr (.inr ⟨i1,i2⟩)) _ h1 i3
      lia
  . rw [tm] at hm;rcases hm with ⟨h1,h2⟩|⟨h1,h2⟩
    . obtain ⟨n,hn,e⟩:=sim.on m h1;rcases mem_next.mp hn with ⟨h3,h4⟩|⟨h3,h4⟩
      . refine ⟨n,h3,?_⟩;unfold ren;rw [ip (λc=>h4 ((nx n).mpr (.inr c))),ip (λc=>h4 ((nx n).mpr (.inl c)))];exact e
      . exact absurd ⟨n,h3,h4,e⟩ h2
    . by_cases c:m=t.k
      . refine ⟨x.2.1,st.nms.hn,?_⟩;unfold ren;rw [ip (λq=>ne q.1 q.2),io rfl,c]
      . have ht:x.1.two=true:=by
          cases h:x.1.two with
          | true=>rfl
          | false=>rw [h,ip ⋯] at h2; lia
        rw [io ht] at h2;refine ⟨x.2.2,st.nms.hm,?_⟩;unfold ren;rw [io ⟨ht,rfl⟩]
        lia
  . rcases cs n hn with ⟨h1,h2,h3⟩ | ⟨h1,h2⟩ | ⟨h1,h2,h3,h4⟩ <;> rcases cs m hm with ⟨k1,k2,k3⟩ | ⟨k1,k2⟩ | ⟨k1,k2,k3,k4⟩ <;> first | omega | exact sim.inj n h1 m k1 (!2)
  . rw [tg];rcases cs n hn with ⟨h1,h2,h3⟩|⟨h1,h2⟩|⟨h1,h2,h3,h4⟩
    . rw [h3,io h1,yA (j:=1) rfl,h2]
    . rw [h2,h1];split
      . exact yA (j:=0) rfl
      . exact yA (j:=0) rfl
    . rw [h2,ud h4,sim.g n h1];exact ud h3
theorem xI(h:ns.Pairwise (· < ·)):ns.Nodup:=h.imp λhab=>aQ hab
theorem Co{s t:As}(h:Sim r s t)(us:s.ns.Nodup)(ut:t.ns.Nodup):(s.ns.map r).Perm t.ns:=by
  have hn:(s.ns.map r).Nodup:=gB.mpr (List.Pairwise.imp_of_mem (λ{a b} ha hb hab e=>hab (h.inj a ha b hb e)) us);refine (fU hn ut).mpr λm=>⟨λhm=>?_,λhm=>?_⟩
  . obtain ⟨n,h1,rfl⟩:=aV.mp hm;exact h.mp n h1
  . obtain ⟨n,h1,e⟩:=h.on m hm;exact aV.mpr ⟨n,h1,e⟩
def rk(ts:List Nat)(m:Nat):Nat:=ts.idxOf m
variable {ts:List Nat}
theorem AO{m:Nat}(h:m∈ts):ts[rk ts m]?=some m:=by
  have hl:=dO h;unfold rk;rw [ae hl,List.getElem_idxOf hl]
theorem F3(hn:ts.Nodup){i m:Nat}(h:ts[i]?=some m):rk ts m=i:=by
  have hm:=aw h;have hl:=dO hm;have h1:=AO hm;exact ((fk hl hn).mp (h1.trans h.symm))
theorem FV(hn:ts.Nodup):ts.map (rk ts)=List.range ts.length:=by
  refine List.ext_getElem? λj=>?_;rw [aj];by_cases hj:j<ts.length
  . rw [dn hj,ae hj];exact congrArg some (F3 hn (ae hj))
  . rw [dA (!2),dA (by rw [cz]; lia)];rfl
theorem Iu{ms:List Nat}(hp:ms.Perm ts)(hn:ts.Nodup):(ms.map (rk ts)).Perm (List.range ts.length):=by
  have:=hp.map (rk ts)
  rwa [FV hn] at this
theorem ES{ms:List Nat}(hp:ms.Perm ts):(ts.map λn:Nat=>(n:Int)).Perm (ms.map λn:Nat=>(n:Int)):=(hp.map _).symm
theorem Iq(h:ts.Pairwise (· < ·)):(ts.map λn:Nat=>(n:Int)).Pairwise (·<=·):=gB.mpr (h.imp λ{a b} hab=>Int.ofNat_le.mpr (bO hab))
theorem xz{s:As}:(ends s es).k=s.k+(es.map λx=>x.1.puts).sum:=by
  induction es generalizing s with
  | nil=>rfl
  | cons x es ih =>
    show (ends (s.next x) es).k=_;rw [ih,xo,aR,il]
    lia
def Rn(kvs:List (Key×V))(ns:List Nat)(r:Nat->Nat):Prop:=∀ n∈ns,valV kvs (.inl (n:Int))=some (.int (r n:Nat))
theorem CD{j n:Nat}(c:j≠n):¬ ((.inl (j:Int):Key)=.inl (n:Int)):=λh=>c (eP (fI h))
def As.sb(bs:List Bo):As:=⟨bs.length,List.range bs.length,λn=>bs[n]?.getD ⟨⟨0,0,1⟩,⟨0,0,1⟩⟩⟩
theorem vM(L:List Cell):As.st L=As.sb (L.map Cell.b):=by
  unfold As.st As.sb;rw [aa];congr 1;funext n;rw [aj];unfold fL;cases L[n]? <;> rfl
theorem uJ{s:As}{n:Nat}(h:n<s.k):(ends s es).g n=s.g n:=by
  induction es generalizing s with
  | nil=>rfl
  | cons x es ih =>
    show (ends (s.next x) es).g n=_;rw [ih (by rw [xo]; lia)];exact ud h
theorem vK{s:As}{i:Nat}:ends s es=ends (ends s (es.take i)) (es.drop i):=by
  conv=>lhs; rw [<-dM i es]
  unfold ends;rw [dG]
theorem AR{s:As}{i:Nat}:(ends s (es.take i)).k<=(ends s es).k:=by
  rw [vK (es:=es) (i:=i),xz (s:=ends s (es.take i))]
  lia
theorem sim0{s:As}(hn:s.ns.Nodup):Sim (rk s.ns) s (As.sb (s.ns.map s.g)):=by
  have hl:∀ n∈s.ns,rk s.ns n<s.ns.length:=λn h=>dO h;refine ⟨λn h=>?_,λm h=>?_,λn h m k e=>?_,λn h=>?_⟩
  . show _∈List.range (s.ns.map s.g).length;rw [aa];exact b9.mpr (hl n h)
  . have h:m∈List.range (s.ns.map s.g).length:=h;rw [aa] at h;have h:=b9.mp h;exact ⟨s.ns[m],cR h,F3 hn (ae h)⟩
  . have h1:=AO h;have h2:=AO k;rw [e,h2] at h1;exact (aq h1).symm
  . show ((s.ns.map s.g)[rk s.ns n]?).getD _=_;rw [aj,AO h];rfl
structure Turned(d:Int)(tn:Bool)(D:Int)(M:Nat)(bs0 bs:List Bo)(es:DL)(qs:List Nat):Prop where
  w:Walk d tn (As.sb bs) es
  b:∀ i,i<=es.length->∀ n∈(ends (As.sb bs) (es.take i)).ns,BoD d D M ((ends (As.sb bs) (es.take i)).g n)
  p:qs.Perm (List.range bs0.length)
  l:(ends (As.sb bs) es).ns.length=bs0.length
  g:∀ k q:Nat,qs[k]?=some q->∃ n,(ends (As.sb bs) es).ns[q]?=some n/\bs0[k]?=some ((ends (As.sb bs) es).g n)
theorem EF{bs0 bs:List Bo}(w:Walk d tn (As.sb bs) es)(b:∀ i,i<=es.length->∀ n∈(ends (As.sb bs) (es.take i)).ns,BoD d D M ((ends (As.sb bs) (es.take i)).g n))(sim:Sim r (As.sb bs0) (ends (As.sb bs) es))(ut:(ends (As.sb bs) es).ns.Nodup):Turned d tn D M bs0 bs es (((List.range bs0.length).map r).map (rk (ends (As.sb bs) es).ns)):=by
  have hp:((List.range bs0.length).map r).Perm (ends (As.sb bs) es).ns:=Co sim (gO (n:=bs0.length)) ut;have hl:=hp.length_eq;rw [aa,cz] at hl;refine ⟨w,b,?_,hl.symm,λk q hq=>?_⟩
  . have:=Iu hp ut
    rwa [<-hl] at this
  . rw [aj,aj] at hq;obtain ⟨z,hz,rfl⟩:=av.mp hq;obtain ⟨j,hj,rfl⟩:=av.mp hz;have hk:=(af.mp hj).1;rw [cz] at hk;rw [dn hk] at hj;have hj:k=j:=aq hj;subst hj;have hm:k∈(As.sb bs0).ns:=b9.mpr hk;refine ⟨r k,AO (sim.mp k hm),?_⟩;rw [sim.g k hm];show bs0[k]?=some (bs0[k]?.getD _);rw [ae hk];rfl
def deal:List (Key×V)->List Int->Nat->List (Key×V)
  | kvs,[],_=>kvs
  | kvs,m::ms,u=>deal (putK kvs (.inl m) (.int (u:Nat))) ms (u+1)
theorem AB(m:Int):∀ (ms:List Int) (kvs:List (Key×V)) (u:Nat),deal kvs (ms++[m]) u=putK (deal kvs ms u) (.inl m) (.int ((u+ms.length:Nat):Int))
  | [],kvs,u=>rfl
  | a::ms,kvs,u=>by
    show deal (putK kvs (.inl a) (.int (u:Nat))) (ms++[m]) (u+1)=_;rw [AB m ms];show putK (deal (putK kvs (.inl a) (.int (u:Nat))) ms (u+1)) (.inl m) (.int ((u+1+ms.length:Nat):Int))=putK (deal (putK kvs (.inl a) (.int (u:Nat))) ms (u+1)) _ _;rw [show u+1+ms.length=u+(a::ms).length by rw [ax]; lia]
theorem vh:∀ (ms:List Int) (kvs:List (Key×V)) (u:Nat),(deal kvs ms u).length<=kvs.length+ms.length
  | [],kvs,u=>ag _
  | a::ms,kvs,u=>by
    have h1:=vh ms (putK kvs (.inl a) (.int (u:Nat))) (u+1);have h2:=yJ kvs (.inl a) (.int (u:Nat));show (deal (putK kvs (.inl a) (.int (u:Nat))) ms (u+1)).length<=_;rw [ax]
    lia
theorem IX{s:As}{u:Nat}(h:Rn kvs (s.next x).ns r)(nm:Nms s x.1 x.2.1 x.2.2):Rn (deal kvs x.1.names u) s.ns (ren r x u):=by
  intro j hj;have ni:=Ar (j:=j) nm;unfold ren;have key:(¬ (j=x.2.1\/(x.1.two=true/\j=x.2.2)))->valV kvs (.inl (j:Int))=some (.int (r j:Nat)):=λc=>h j (mem_next.mpr (.inl ⟨hj,λq=>c (ni.mp q)⟩));rw [nm.nm];cases ht:x.1.two with
  | true =>
    rw [ht] at key;have e:valV (deal kvs (if true=true then [(x.2.1:Int),(x.2.2:Int)] else [(x.2.1:Int)]) u) (.inl (j:Int))=if (.inl (j:Int):Key)=.inl (x.2.2:Int) then some (.int ((u+1:Nat):Int)) else if (.inl (j:Int):Key)=.inl (x.2.1:Int) then some (.int (u:Nat)) else valV kvs (.inl (j:Int)):=by
      show valV (putK (putK kvs (.inl (x.2.1:Int)) (.int (u:Nat))) (.inl (x.2.2:Int)) (.int ((u+1:Nat):Int))) _=_;rw [wl,wl]
    rw [e];by_cases c1:j=x.2.2
    . rw [io (by rw [c1]),io ⟨rfl,c1⟩]
    . rw [ip (CD c1),ip (c:=true=true/\j=x.2.2) (λq=>c1 q.2)];by_cases c2:j=x.2.1
      . rw [io (by rw [c2]),io c2]
      . rw [ip (CD c2),ip c2];exact key (λq=>by
          rcases q with q|q
          . exact c2 q
          . exact c1 q.2)
  | false =>
    rw [ht] at key;have e:valV (deal kvs (if false=true then [(x.2.1:Int),(x.2.2:Int)] else [(x.2.1:Int)]) u) (.inl (j:Int))=if (.inl (j:Int):Key)=.inl (x.2.1:Int) then some (.int (u:Nat)) else valV kvs (.inl (j:Int)):=by
      show valV (putK kvs (.inl (x.2.1:Int)) (.int (u:Nat))) _=_;rw [wl]
    rw [e,ip (c:=false=true/\j=x.2.2) (λq=>by simp at q)];by_cases c2:j=x.2.1
    . rw [io (by rw [c2]),io c2]
    . rw [ip (CD c2),ip c2];exact key (λq=>by
        rcases q with q|q
        . exact c2 q
        . simp at q)
theorem names_len{s:As}{n m:Nat}(h:Nms s e n m):e.names.length=if e.two then 2 else 1:=by
  rw [h.nm];split <;> rfl
def TupK(H H':Hp):Prop:=∀ b xs,H b=some (.tup xs)->H' b=some (.tup xs)
theorem DdAt.tk{p:Addr}(h:DdAt H p e)(s:TupK H H'):DdAt H' p e:=by
  cases e with
  | cut al n t=>obtain ⟨q,h1,h2⟩:=h; exact ⟨q,s _ _ h1,s _ _ h2⟩
  | glue al n m=>exact s _ _ h
  | shift al n k=>exact s _ _ h
  | turn n=>exact s _ _ h
theorem Runs.tk{H H':Hp}{ps:List Addr}{es:DL}(h:Runs H ps es)(s:TupK H H'):Runs H' ps es:=⟨h.1,λi p x h1 h2=>(h.2 i p x h1 h2).tk s⟩
theorem DC{s:As}(h:Walk d tn s es):Walk d true s es:=λi x hx=>⟨(h i x hx).nms,(h i x hx).ok,(h i x hx).fit,λ_=>rfl⟩
theorem zY{d:Int}{tn:Bool}{s:As}{es:DL}{B:Nat}(h0:As.Ok B s 0)(hw:Walk d tn s es):∀ i,i<=es.length->As.Ok B (ends s (es.take i)) i
  | 0,_=>h0
  | i+1,h=>by
    have hi:i<es.length:=h;have hx:=ae hi;rw [ym hx];exact (zY h0 hw i (bO hi)).next (hw i _ hx).nms
theorem ul{bs:List Bo}{B:Nat}(h1:1<=bs.length)(h:bs.length<=B):As.Ok B (As.sb bs) 0 :=
  ⟨cM,λn hn=>b9.mp hn,λh=>by
    have:List.range bs.length=[]:=h;rw [fm] at this; lia,by show (List.range bs.length).length<=_; rw [cz]; lia,by show bs.length<=_; lia⟩
def Ever(d D:Int)(M:Nat)(s:As):Prop:=∀ n,n<s.k->BoD d D M (s.g n)
theorem Ap{s:As}(h:Ever d D M (ends s es))(i:Nat):Ever d D M (ends s (es.take i)):=λn hn=>by
  have:=h n (aN hn AR)
  rwa [vK (es:=es) (i:=i),uJ hn] at this
theorem GO{s:As}(h:Ever d D M (s.next x)):∀ b∈x.1.new (s.g x.2.1) (s.g x.2.2),BoD d D M b:=λb hb=>by
  obtain ⟨j,hj⟩:=d5 hb;have hl:=(af.mp hj).1;rw [Dd.puts_new] at hl;have:=h (s.k+j) (by rw [xo]; lia)
  rwa [show (s.next x).g (s.k+j)=b from yA hj] at this
theorem Cr(es:DL):(es.map λx=>((x.1.puts:Nat):Int)).sum=((es.map λx=>x.1.puts).sum:Nat):=by
  induction es with
  | nil=>rfl
  | cons x es ih =>
    rw [aR,il,ih,aR,il]
    lia
theorem Hk{n j:Nat}(h:j<n):n - j=(n - 1 - j)+1:=by lia
def sdO(D X Y:Int):Sd:=⟨lA X Y D,lB X Y D,lN X Y D⟩
theorem yh(hD:1<=D):Rv D X Y (sdO D X Y):=⟨l_n (!2),xq (!2),l_a,l_b⟩
theorem wy{s:Sd}(hD:1<=D)(h:Rv D X Y s):s=sdO D X Y:=h.eq (!2) (yh hD)
theorem G9(hD:1<=D):adS (sdO D X Y) (sdO D X' Y')=sdO D (X+X') (Y+Y'):=wy hD ((yh hD).ad (yh hD))
theorem HG(hD:1<=D):tkS (sdO D X Y) (sdO D X' Y')=sdO D (X - X') (Y - Y'):=wy hD ((yh hD).tk (yh hD))
theorem Rv.un{k:Int}{s:Sd}(hk:k≠0)(h:Rv (D*k) (X*k) (Y*k) s):Rv D X Y s :=
  ⟨h.z1,h.g,ay hk (by have:=h.x; grind),ay hk (by have:=h.y; grind)⟩
theorem KF(hD:1<=D):shS (sdO D X Y) m 1=sdO D (X*m) (Y*m):=by
  have:=(yh (D:=D) (X:=X) (Y:=Y) hD).sh (m:=m) (k:=1) ⋯;rw [cH] at this;exact wy hD this
theorem KS(hD:1<=D)(hm:1<=m):shS (sdO D (X*m) (Y*m)) 1 m=sdO D X Y:=by
  have:=(yh (D:=D) (X:=X*m) (Y:=Y*m) hD).sh (m:=1) (k:=m) hm;simp only [cH] at this;exact wy hD (this.un (!2))
theorem y9(hR:Rt d)(hD:1<=D)(up:sgn d X Y=1)(bX:Bd M X)(bY:Bd M Y):So d D M (sdO D X Y) :=
  ⟨(yh hD).z1,(yh hD).g,(yv hR hD).trans up,X,Y,bX,bY,(yh hD).x,(yh hD).y⟩
structure Pc where
  n:Nat
  m:Int
  x:Int
  y:Int
def accX:List Pc->Int
  | []=>0
  | p::ps=>p.m*p.x+accX ps
def accY:List Pc->Int
  | []=>0
  | p::ps=>p.m*p.y+accY ps
theorem xg(p:Pc):∀ ps,accX (ps++[p])=accX ps+p.m*p.x
  | []=>by show p.m*p.x+0=0+_; lia
  | q::ps=>by
    show q.m*q.x+accX (ps++[p])=q.m*q.x+accX ps+_;rw [xg p ps]; lia
theorem xa(p:Pc):∀ ps,accY (ps++[p])=accY ps+p.m*p.y
  | []=>by show p.m*p.y+0=0+_; lia
  | q::ps=>by
    show q.m*q.y+accY (ps++[p])=q.m*q.y+accY ps+_;rw [xa p ps]; lia
def gd1(u t:Nat)(p:Pc):DL:=(Dd.shift false p.n p.m,p.n,p.n)::(if t=0 then [] else [(Dd.glue true ((u+2*t - 1:Nat):Int) ((u+2*t - 2:Nat):Int),u+2*t - 1,u+2*t - 2)])
def gth(u:Nat)(pc:List Pc):Nat->DL
  | 0=>[]
  | t+1=>gth u pc t++(match pc[t]? with | some p=>gd1 u t p | none=>[])
theorem wQ{u:Nat}{pc:List Pc}:∀ {t:Nat},t<=pc.length->(gth u pc t).length=2*t - 1
  | 0,_=>rfl
  | t+1,h=>by
    have ht:t<pc.length:=h;show (gth u pc t++_).length=_;rw [ae ht,ai,wQ (bO ht)];show _+(gd1 u t pc[t]).length=_;unfold gd1;by_cases c:t=0
    . subst c; rfl
    . rw [ip c];simp only [ax,aK]
      lia
structure PcOk(d D px py:Int)(M:Nat)(s:As)(p:Pc):Prop where
  hn:p.n∈s.ns
  m1:1<=p.m
  mb:Bd 1024 p.m
  g:s.g p.n=⟨sdO D (px*p.m) (py*p.m),sdO D p.x p.y⟩
  up:sgn d p.x p.y=1
  bw:Bd M (px*p.m)/\Bd M (py*p.m)
  bh:Bd M p.x/\Bd M p.y
  bm:Bd M (p.m*p.x)/\Bd M (p.m*p.y)
variable {y:Int}
theorem yP{x:Int}(hR:Rt d)(hm:1<=m)(h:sgn d x y=1):sgn d (m*x) (m*y)=1:=(wv hR (k:=1) (m:=m) ⋯ (!2) (by grind) (by grind)).trans h
theorem CL{d:Int}(hR:Rt d):∀ {ps:List Pc},ps≠[]->(∀ p∈ps,1<=p.m/\sgn d p.x p.y=1)->sgn d (accX ps) (accY ps)=1
  | [p],_,h=>by
    have:=h p aG;show sgn d (p.m*p.x+0) (p.m*p.y+0)=1;rw [cg,cg];exact yP hR this.1 this.2
  | p::q::ps,_,h=>by
    have h1:=h p aG;have h2:=CL hR (ps:=q::ps) (!1) (λr hr=>h r (aB _ hr));exact vW hR (yP hR h1.1 h1.2) h2
theorem Fh{s:As}{n:Nat}{al:Bool}(z:Sz D K' M)(hn:n∈s.ns)(m1:1<=m)(mb:Bd 1024 m)(ow:So d D M (s.g n).w)(oh:So d D M (s.g n).h):Stp d tn s (.shift al n m,n,n) :=
  ⟨⟨rfl,hn,hn,(λh=>nomatch h),λ_=>rfl⟩,⟨m1,mb⟩,⟨m1,mb,z.sy ow,z.sy oh⟩,(λh=>nomatch h)⟩
theorem Gj{s:As}{n m:Nat}(z:Sz D K' M)(hn:n∈s.ns)(hm:m∈s.ns)(nm:n≠m)(ew:(s.g n).w=(s.g m).w)(oh:So d D M (s.g n).h)(oh':So d D M (s.g m).h):Stp d tn s (.glue true n m,n,m) :=
  ⟨⟨rfl,hn,hm,λ_=>nm,(λh=>nomatch h)⟩,trivial,⟨ew,z.sy oh,z.sy oh'⟩,(λh=>nomatch h)⟩
theorem yD{s:As}{fs:DL}:ends s (es++fs)=ends (ends s es) fs:=by unfold ends; rw [dG]
structure Stq(d D:Int)(M:Nat)(tn:Bool)(s:As)(x:Dd×Nat×Nat):Prop where
  st:Stp d tn s x
  nw:∀ b∈x.1.new (s.g x.2.1) (s.g x.2.2),BoD d D M b
def WalkB(d D:Int)(M:Nat)(tn:Bool)(s:As)(es:DL):Prop:=∀ (i:Nat) (x:Dd×Nat×Nat),es[i]?=some x->Stq d D M tn (ends s (es.take i)) x
theorem WalkB.walk{s:As}(h:WalkB d D M tn s es):Walk d tn s es:=λi x hx=>(h i x hx).st
theorem we{s:As}{fs:DL}(h:WalkB d D M tn s es)(g:WalkB d D M tn (ends s es) fs):WalkB d D M tn s (es++fs):=λi x hx=>by
  by_cases c:i<es.length
  . rw [aT c] at hx;rw [cT (!2)];exact h i x hx
  . rw [aM (!2)] at hx;have e:(es++fs).take i=es++fs.take (i - es.length):=by rw [gP,bT (!2)]
    rw [e,yD];exact g _ x hx
theorem wK{s:As}(h:WalkB d D M tn s es)(g:Stq d D M tn (ends s es) x):WalkB d D M tn s (es++[x]):=we h λi y hy=>by
  have:i=0:=by
    have:=(af.mp hy).1;simp only [ax,aK] at this
    lia
  subst this;have e:x=y:=aq hy;subst e;exact g
structure Gst(d D px py:Int)(M:Nat)(tn:Bool)(s0:As)(pc:List Pc)(t:Nat):Prop where
  w:WalkB d D M tn s0 (gth s0.k pc t)
  k:(ends s0 (gth s0.k pc t)).k=s0.k+(2*t - 1)
  mem:∀ j,j∈(ends s0 (gth s0.k pc t)).ns↔(j∈s0.ns/\∀ i p,i<t->pc[i]?=some p->p.n≠j)\/(0<t/\j=s0.k+2*t - 2)
  g:0<t->(ends s0 (gth s0.k pc t)).g (s0.k+2*t - 2)=⟨sdO D px py,sdO D (accX (pc.take t)) (accY (pc.take t))⟩
theorem Ed{d D px py:Int}{M K':Nat}{tn:Bool}{s0:As}{pc:List Pc}(hR:Rt d)(z:Sz D K' M)(lt:∀ n∈s0.ns,n<s0.k)(hp:∀ p∈pc,PcOk d D px py M s0 p)(nd:(pc.map Pc.n).Nodup)(up:sgn d px py=1)(bp:Bd M px/\Bd M py) (ba:∀ t,Bd M (accX (pc.take t))/\Bd M (accY (pc.take t))):∀ t,t<=pc.length->Gst d D px py M tn s0 pc t
  | 0,_=>⟨λi x h=>by simp [gth] at h,rfl,λj=>by
      show j∈s0.ns↔_;constructor
      . exact λh=>.inl ⟨h,λi p hi=>absurd hi (!2)⟩
      . rintro (h | h)
        . exact h.1
        . lia,λh=>absurd h (!2)⟩
  | t+1,ht=>by
    have ih:=Ed (tn:=tn) hR z lt hp nd up bp ba t (bO ht);have ht':t<pc.length:=ht;have hD:=z.d1;obtain ⟨p,hpt⟩:∃ p,pc[t]?=some p:=⟨_,ae ht'⟩
    have hpm:=aw hpt;have pk:=hp p hpm;have eg:gth s0.k pc (t+1)=gth s0.k pc t++gd1 s0.k t p:=by
      show gth s0.k pc t++_=_;rw [hpt]
    have acx:accX (pc.take (t+1))=accX (pc.take t)+p.m*p.x:=by rw [br,hpt]; exact xg p _
    have acy:accY (pc.take (t+1))=accY (pc.take t)+p.m*p.y:=by rw [br,hpt]; exact xa p _
    obtain ⟨w,k,mem,g⟩:=ih;have gk:∀ n,n<s0.k->(ends s0 (gth s0.k pc t)).g n=s0.g n:=λn h=>uJ h;generalize hs:ends s0 (gth s0.k pc t)=s at *
    have pnk:=lt p.n pk.hn;have hn:p.n∈s.ns:=(mem p.n).mpr (.inl ⟨pk.hn,λi q hi hq c=>by
      have h1:(pc.map Pc.n)[i]?=some p.n:=by rw [aj,hq,<-c]; rfl
      have h2:(pc.map Pc.n)[t]?=some p.n:=by rw [aj,hpt]; rfl
      have:=(fk (i:=i) (by rw [aa]; lia) nd).mp (h1.trans h2.symm)
      lia⟩)
    have hg:s.g p.n=⟨sdO D (px*p.m) (py*p.m),sdO D p.x p.y⟩:=(gk _ pnk).trans pk.g;have upw:sgn d (px*p.m) (py*p.m)=1:=by rw [ak px,ak py]; exact yP hR pk.m1 up
    have st1:Stp d tn s (.shift false p.n p.m,p.n,p.n):=Fh z hn pk.m1 pk.mb (by rw [hg]; exact y9 hR hD upw pk.bw.1 pk.bw.2) (by rw [hg]; exact y9 hR hD pk.up pk.bh.1 pk.bh.2);have nw1:(Dd.shift false p.n p.m).new (s.g p.n) (s.g p.n)=[⟨sdO D px py,sdO D (p.m*p.x) (p.m*p.y)⟩]:=by
      show [(⟨shS (s.g p.n).w 1 p.m,shS (s.g p.n).h p.m 1⟩:Bo)]=_;rw [hg,ak p.m,ak p.m];show [(⟨shS (sdO D (px*p.m) (py*p.m)) 1 p.m,shS (sdO D p.x p.y) p.m 1⟩:Bo)]=_;rw [KS hD pk.m1,KF hD]
    have w1:WalkB d D M tn s0 (gth s0.k pc t++[(.shift false p.n p.m,p.n,p.n)]):=wK w (by
      rw [hs];refine ⟨st1,λb hb=>?_⟩;have hb:b∈(Dd.shift false p.n p.m).new (s.g p.n) (s.g p.n):=hb;rw [nw1] at hb;rw [ao.mp hb];exact ⟨y9 hR hD up bp.1 bp.2,y9 hR hD (yP hR pk.m1 pk.up) pk.bm.1 pk.bm.2⟩)
    have e1:ends s0 (gth s0.k pc t++[(Dd.shift false p.n p.m,p.n,p.n)])=s.next (.shift false p.n p.m,p.n,p.n):=by rw [vi,hs]
    have g1:(s.next (.shift false p.n p.m,p.n,p.n)).g s.k=⟨sdO D px py,sdO D (p.m*p.x) (p.m*p.y)⟩:=by
      exact yA (j:=0) (by show ((Dd.shift false p.n p.m).new (s.g p.n) (s.g p.n))[0]?=_; rw [nw1]; rfl)
    have k1:(s.next (.shift false p.n p.m,p.n,p.n)).k=s.k+1:=xo s _;have m1:∀ j,j∈(s.next (.shift false p.n p.m,p.n,p.n)).ns↔(j∈s.ns/\j≠p.n)\/j=s.k:=λj=>by
      rw [mem_next];show (j∈s.ns/\(j:Int)∉[(p.n:Int)])\/(s.k<=j/\j<s.k+1)↔_;rw [ao];grind
    have lt':∀ i q,i<t+1->pc[i]?=some q->i<t\/q=p:=λi q hi hq=>by
      by_cases c:i<t
      . exact .inl c
      . have:i=t:=by lia
        subst this;exact .inr (aq (hq.symm.trans hpt))
    by_cases c0:t=0
    . subst c0;have eg':gth s0.k pc (0+1)=gth s0.k pc 0++[(.shift false p.n p.m,p.n,p.n)]:=eg;have ss:s=s0:=hs.symm;refine ⟨by rw [eg']; exact w1,by rw [eg',e1,k1,ss],λj=>?_,λ_=>?_⟩
      . rw [eg',e1,m1,ss];grind
      . rw [eg',e1,show s0.k+2*(0+1) - 2=s.k by rw [ss]; lia,g1,acx,acy];rw [show accX (pc.take 0)=0 from rfl,show accY (pc.take 0)=0 from rfl,dc,dc]
    . have eg':gth s0.k pc (t+1)=gth s0.k pc t++[(Dd.shift false p.n p.m,p.n,p.n)]++[(Dd.glue true ((s0.k+2*t - 1:Nat):Int) ((s0.k+2*t - 2:Nat):Int),s0.k+2*t - 1,s0.k+2*t - 2)]:=by
        rw [eg];unfold gd1;rw [ip c0,bQ];rfl
      have sk:s.k=s0.k+2*t - 1:=by lia
      have hacc:=g (!2);generalize hs1:s.next (.shift false p.n p.m,p.n,p.n)=s1 at *
      have n1:s0.k+2*t - 1∈s1.ns:=(m1 _).mpr (.inr sk.symm);have n2:s0.k+2*t - 2∈s1.ns:=(m1 _).mpr (.inl ⟨(mem _).mpr (.inr ⟨by lia,rfl⟩),by lia⟩);have g1':s1.g (s0.k+2*t - 1)=⟨sdO D px py,sdO D (p.m*p.x) (p.m*p.y)⟩:=by rw [<-sk]; exact g1
      have g2':s1.g (s0.k+2*t - 2)=⟨sdO D px py,sdO D (accX (pc.take t)) (accY (pc.take t))⟩:=by
        rw [<-hs1];exact (ud (!2)).trans hacc
      have upa:sgn d (accX (pc.take t)) (accY (pc.take t))=1:=CL hR (λc=>by
        have:=congrArg List.length c;rw [az,aK] at this
        lia) λq hq=>⟨(hp q (aW hq)).m1,(hp q (aW hq)).up⟩
      have st2:Stp d tn s1 (.glue true ((s0.k+2*t - 1:Nat):Int) ((s0.k+2*t - 2:Nat):Int),s0.k+2*t - 1,s0.k+2*t - 2) :=
        Gj z n1 n2 (!2) (by rw [g1',g2']) (by rw [g1']; exact y9 hR hD (yP hR pk.m1 pk.up) pk.bm.1 pk.bm.2) (by rw [g2']; exact y9 hR hD upa (ba t).1 (ba t).2)
      have nw2:(Dd.glue true ((s0.k+2*t - 1:Nat):Int) ((s0.k+2*t - 2:Nat):Int)).new (s1.g (s0.k+2*t - 1)) (s1.g (s0.k+2*t - 2))=[⟨sdO D px py,sdO D (accX (pc.take (t+1))) (accY (pc.take (t+1)))⟩]:=by
        show [(⟨(s1.g (s0.k+2*t - 1)).w,adS (s1.g (s0.k+2*t - 1)).h (s1.g (s0.k+2*t - 2)).h⟩:Bo)]=_;rw [g1',g2',acx,acy];show [(⟨sdO D px py,adS (sdO D (p.m*p.x) (p.m*p.y)) (sdO D (accX (pc.take t)) (accY (pc.take t)))⟩:Bo)]=_;rw [G9 hD,gf (p.m*p.x),gf (p.m*p.y)]
      have upb:sgn d (accX (pc.take (t+1))) (accY (pc.take (t+1)))=1:=CL hR (λc=>by
        have:=congrArg List.length c;rw [az,aK] at this
        lia) λq hq=>⟨(hp q (aW hq)).m1,(hp q (aW hq)).up⟩
      have w2:=wK w1 (by
        rw [e1];refine ⟨st2,λb hb=>?_⟩;have hb:b∈(Dd.glue true ((s0.k+2*t - 1:Nat):Int) ((s0.k+2*t - 2:Nat):Int)).new (s1.g (s0.k+2*t - 1)) (s1.g (s0.k+2*t - 2)):=hb;rw [nw2] at hb;rw [ao.mp hb];exact ⟨y9 hR hD up bp.1 bp.2,y9 hR hD upb (ba (t+1)).1 (ba (t+1)).2⟩)
      have e2:=vi (s:=s0) (es:=gth s0.k pc t++[(Dd.shift false p.n p.m,p.n,p.n)]) (x:=(Dd.glue true ((s0.k+2*t - 1:Nat):Int) ((s0.k+2*t - 2:Nat):Int),s0.k+2*t - 1,s0.k+2*t - 2));rw [e1] at e2;have k2:=xo s1 (Dd.glue true ((s0.k+2*t - 1:Nat):Int) ((s0.k+2*t - 2:Nat):Int),s0.k+2*t - 1,s0.k+2*t - 2);have k2:(s1.next (Dd.glue true ((s0.k+2*t - 1:Nat):Int) ((s0.k+2*t - 2:Nat):Int),s0.k+2*t - 1,s0.k+2*t - 2)).k=s1.k+1:=k2;refine ⟨by rw [eg']; exact w2,by rw [eg',e2,k2]; lia,λj=>?_,λ_=>?_⟩
      . rw [eg',e2,mem_next];show (j∈s1.ns/\(j:Int)∉[((s0.k+2*t - 1:Nat):Int),((s0.k+2*t - 2:Nat):Int)])\/(s1.k<=j/\j<s1.k+1)↔_;rw [a7,ao,m1,mem];have:=lt j;grind
      . rw [eg',e2,show s0.k+2*(t+1) - 2=s1.k by lia];exact yA (j:=0) (by rw [nw2]; rfl)
theorem Hl{a:Nat}{xs ys:List Nat}(h:(xs++ys).Nodup)(n:a∉xs++ys):(xs++([a]++ys)).Nodup:=by
  have hp:(xs++([a]++ys)).Perm (a::(xs++ys)):=by
    rw [List.singleton_append];exact List.perm_middle
  exact hp.nodup_iff.mpr (dE.mpr ⟨n,h⟩)
theorem HU{a:Nat}{xs:List Nat}(h:xs.Nodup)(n:a∉xs):(xs++[a]).Nodup:=by
  have hp:(xs++[a]).Perm (a::xs):=List.perm_append_singleton a xs;exact hp.nodup_iff.mpr (dE.mpr ⟨n,h⟩)
structure Bx where
  i:Int
  j:Int
  x:Int
  y:Int
structure Bas(d:Int)(M:Nat)(px py qx qy:Int):Prop where
  up:sgn d px py=1
  uq:sgn d qx qy=1
  bp:Bd M px/\Bd M py
  bq:Bd M qx/\Bd M qy
structure BxOk(d px py qx qy:Int)(M0 M:Nat)(b:Bx):Prop where
  i0:0<=b.i
  j0:0<=b.j
  ne:b.i≠0\/b.j≠0
  bi:Bd 1024 b.i
  bj:Bd 1024 b.j
  up:sgn d b.x b.y=1
  bh:Bd M b.x/\Bd M b.y
  bpi:Bd M (px*b.i)/\Bd M (py*b.i)
  bqj:Bd M (qx*b.j)/\Bd M (qy*b.j)
  bw:Bd M (px*b.i+qx*b.j)/\Bd M (py*b.i+qy*b.j)
  bxi:Bd M0 (b.i*b.x)/\Bd M0 (b.i*b.y)
  bxj:Bd M0 (b.j*b.x)/\Bd M0 (b.j*b.y)
def Bx.bo(D px py qx qy:Int)(b:Bx):Bo:=⟨sdO D (px*b.i+qx*b.j) (py*b.i+qy*b.j),sdO D b.x b.y⟩
structure Np where
  ds:DL
  F:List Pc
  O:List Pc
  u:Nat
def np1(D px py:Int)(n:Nat)(hb:List Bx):Nat->Np
  | 0=>⟨[],[],[],n⟩
  | t+1=>match hb[t]? with
    | none=>np1 D px py n hb t
    | some b=>if b.j=0 then ⟨(np1 D px py n hb t).ds,(np1 D px py n hb t).F++[⟨t,b.i,b.x,b.y⟩],(np1 D px py n hb t).O,(np1 D px py n hb t).u⟩
      else if b.i=0 then ⟨(np1 D px py n hb t).ds,(np1 D px py n hb t).F,(np1 D px py n hb t).O++[⟨t,b.j,b.x,b.y⟩],(np1 D px py n hb t).u⟩
      else ⟨(np1 D px py n hb t).ds++[(.cut false t (sdO D (px*b.i) (py*b.i)),t,t)],(np1 D px py n hb t).F++[⟨(np1 D px py n hb t).u,b.i,b.x,b.y⟩],(np1 D px py n hb t).O++[⟨(np1 D px py n hb t).u+1,b.j,b.x,b.y⟩],(np1 D px py n hb t).u+2⟩
def sI(f:Bx->Int):List Bx->Int
  | []=>0
  | b::l=>f b+sI f l
theorem yf(f:Bx->Int)(b:Bx):∀ l,sI f (l++[b])=sI f l+f b
  | []=>by show f b+0=0+_; lia
  | c::l=>by
    show f c+sI f (l++[b])=f c+sI f l+_;rw [yf f b l]; lia
structure PcG(d D px py:Int)(M0 M:Nat)(s:As)(p:Pc):Prop where
  m1:1<=p.m
  mb:Bd 1024 p.m
  lt:p.n<s.k
  g:s.g p.n=⟨sdO D (px*p.m) (py*p.m),sdO D p.x p.y⟩
  up:sgn d p.x p.y=1
  bw:Bd M (px*p.m)/\Bd M (py*p.m)
  bh:Bd M p.x/\Bd M p.y
  bm:Bd M0 (p.m*p.x)/\Bd M0 (p.m*p.y)
theorem PcG.next{d D px py:Int}{M0 M:Nat}{s:As}{p:Pc}(h:PcG d D px py M0 M s p)(x:Dd×Nat×Nat):PcG d D px py M0 M (s.next x) p :=
  ⟨h.m1,h.mb,by rw [xo]; have:=h.lt; lia,(show gN s.g s.k _ p.n=_ from ud h.lt).trans h.g,h.up,h.bw,h.bh,h.bm⟩
theorem PcG.ends{d D px py:Int}{M0 M:Nat}{s:As}{p:Pc}(h:PcG d D px py M0 M s p)(es:DL):PcG d D px py M0 M (ends s es) p :=
  ⟨h.m1,h.mb,by rw [xz]; have:=h.lt; lia,(uJ h.lt).trans h.g,h.up,h.bw,h.bh,h.bm⟩
variable {px py:Int}{M0:Nat}
theorem PcG.ok{s:As}{p:Pc}(h:PcG d D px py M0 M s p)(hM:M0<=M)(hn:p.n∈s.ns):PcOk d D px py M s p:=⟨hn,h.m1,h.mb,h.g,h.up,h.bw,h.bh,h.bm.1.mono hM,h.bm.2.mono hM⟩
structure N1(d D px py qx qy:Int)(M0 M:Nat)(tn:Bool)(s0:As)(n:Nat)(hb:List Bx)(t:Nat)(r:Np):Prop where
  w:WalkB d D M tn s0 r.ds
  k:(ends s0 r.ds).k=r.u
  nu:n<=r.u
  mem:∀ j,j∈(ends s0 r.ds).ns↔(t<=j/\j<n)\/j∈r.F.map Pc.n\/j∈r.O.map Pc.n
  nd:(r.F.map Pc.n++r.O.map Pc.n).Nodup
  ap:∀ j∈r.F.map Pc.n++r.O.map Pc.n,j<r.u/\(j<t\/n<=j)
  okF:∀ p∈r.F,PcG d D px py M0 M (ends s0 r.ds) p
  okO:∀ p∈r.O,PcG d D qx qy M0 M (ends s0 r.ds) p
  aF:accX r.F=sI (λb=>b.i*b.x) (hb.take t)/\accY r.F=sI (λb=>b.i*b.y) (hb.take t)
  aO:accX r.O=sI (λb=>b.j*b.x) (hb.take t)/\accY r.O=sI (λb=>b.j*b.y) (hb.take t)
  len:r.ds.length<=t/\r.F.length<=t/\r.O.length<=t
theorem HS{d D px py qx qy:Int}{M0 M K':Nat}{tn:Bool}{s0:As}{hb:List Bx}(hR:Rt d)(z:Sz D K' M)(bs:Bas d M px py qx qy)(hk:s0.k=hb.length)(hns:s0.ns=List.range hb.length)(hg:∀ (k:Nat) (b:Bx),hb[k]?=some b->s0.g k=b.bo D px py qx qy) (ok:∀ b∈hb,BxOk d px py qx qy M0 M b):∀ t,t<=hb.length->N1 d D px py qx qy M0 M tn s0 hb.length hb t (np1 D px py hb.length hb t)
  | 0,_=>⟨λi x h=>by simp [np1] at h,hk,ag _,λj=>by
      show j∈s0.ns↔_;rw [hns,b9];simp [np1],by simp [np1],λj hj=>by simp [np1] at hj,λp hp=>by simp [np1] at hp,λp hp=>by simp [np1] at hp,⟨rfl,rfl⟩,⟨rfl,rfl⟩,⟨ag _,ag _,ag _⟩⟩
  | t+1,ht=>by
    have ht':t<hb.length:=ht;have ih:=HS (tn:=tn) hR z bs hk hns hg ok t (bO ht);obtain ⟨b,hbt⟩:∃ b,hb[t]?=some b:=⟨_,ae ht'⟩
    have bk:=ok b (aw hbt);have hD:=z.d1;have e:np1 D px py hb.length hb (t+1)=if b.j=0 then ⟨(np1 D px py hb.length hb t).ds,(np1 D px py hb.length hb t).F++[⟨t,b.i,b.x,b.y⟩],(np1 D px py hb.length hb t).O,(np1 D px py hb.length hb t).u⟩
      else if b.i=0 then ⟨(np1 D px py hb.length hb t).ds,(np1 D px py hb.length hb t).F,(np1 D px py hb.length hb t).O++[⟨t,b.j,b.x,b.y⟩],(np1 D px py hb.length hb t).u⟩
      else ⟨(np1 D px py hb.length hb t).ds++[(.cut false t (sdO D (px*b.i) (py*b.i)),t,t)],(np1 D px py hb.length hb t).F++[⟨(np1 D px py hb.length hb t).u,b.i,b.x,b.y⟩],(np1 D px py hb.length hb t).O++[⟨(np1 D px py hb.length hb t).u+1,b.j,b.x,b.y⟩],(np1 D px py hb.length hb t).u+2⟩:=by
      show (match hb[t]? with | none=>_ | some b=>_)=_;rw [hbt]
    rw [e];generalize np1 D px py hb.length hb t=r at ih;have tk:hb.take (t+1)=hb.take t++[b]:=by rw [br,hbt]; rfl
    have tmem:t∈(ends s0 r.ds).ns:=(ih.mem t).mpr (.inl ⟨ag _,ht'⟩);have tnot:t∉r.F.map Pc.n++r.O.map Pc.n:=λh=>by have:=(ih.ap t h).2; lia
    have gt:(ends s0 r.ds).g t=b.bo D px py qx qy:=(uJ (!2)).trans (hg t b hbt);have tku:t<(ends s0 r.ds).k:=by rw [ih.k]; have:=ih.nu; lia
    obtain ⟨l1,l2,l3⟩:=ih.len;by_cases cj:b.j=0
    . rw [io cj];have bi1:1<=b.i:=by have:=bk.i0; have:=bk.ne; lia
      refine ⟨ih.w,ih.k,ih.nu,λj=>?_,?_,λj hj=>?_,λp hp=>?_,ih.okO,⟨?_,?_⟩,⟨?_,?_⟩,⟨by show r.ds.length<=_; lia,by show (r.F++_).length<=_; rw [ai]; simp only [ax,aK]; lia,by show r.O.length<=_; lia⟩⟩
      . show j∈(ends s0 r.ds).ns↔_\/j∈(r.F++[_]).map Pc.n\/_;rw [ih.mem,ah,aE,aR,cJ,ao];show _↔_\/(_\/j=t)\/_;grind
      . show ((r.F++[_]).map Pc.n++r.O.map Pc.n).Nodup;rw [ah,bQ];exact Hl ih.nd tnot
      . have hj:j∈(r.F++[_]).map Pc.n++r.O.map Pc.n:=hj;rw [ah,bQ,aE,aE,aR,cJ,ao] at hj;have hj:j∈r.F.map Pc.n\/j=t\/j∈r.O.map Pc.n:=hj;rcases hj with h|h|h
        . have:=ih.ap j (cZ _ h); exact ⟨this.1,by lia⟩
        . have:=ih.nu; exact ⟨by show j<r.u; lia,by lia⟩
        . have:=ih.ap j (bg _ h); exact ⟨this.1,by lia⟩
      . rcases aE.mp hp with h | h
        . exact ih.okF p h
        . rw [ao.mp h];refine ⟨bi1,bk.bi,tku,?_,bk.up,bk.bpi,bk.bh,bk.bxi⟩;rw [gt];show (⟨sdO D (px*b.i+qx*b.j) (py*b.i+qy*b.j),sdO D b.x b.y⟩:Bo)=_;rw [cj,bU,bU,cg,cg]
      . show accX (r.F++[_])=_;rw [xg,ih.aF.1,tk,yf]
      . show accY (r.F++[_])=_;rw [xa,ih.aF.2,tk,yf]
      . show accX r.O=_;rw [ih.aO.1,tk,yf,cj,bL,cg]
      . show accY r.O=_;rw [ih.aO.2,tk,yf,cj,bL,cg]
    . rw [ip cj];have bj1:1<=b.j:=by have:=bk.j0; lia
      by_cases ci:b.i=0
      . rw [io ci];refine ⟨ih.w,ih.k,ih.nu,λj=>?_,?_,λj hj=>?_,ih.okF,λp hp=>?_,⟨?_,?_⟩,⟨?_,?_⟩,⟨by show r.ds.length<=_; lia,by show r.F.length<=_; lia,by show (r.O++_).length<=_; rw [ai]; simp only [ax,aK]; lia⟩⟩
        . show j∈(ends s0 r.ds).ns↔_\/_\/j∈(r.O++[_]).map Pc.n;rw [ih.mem,ah,aE,aR,cJ,ao];show _↔_\/_\/_\/j=t;grind
        . show (r.F.map Pc.n++(r.O++[_]).map Pc.n).Nodup;rw [ah,<-bQ];exact HU ih.nd tnot
        . have hj:j∈r.F.map Pc.n++(r.O++[_]).map Pc.n:=hj;rw [ah,<-bQ,aE,aR,cJ,ao] at hj;have hj:j∈r.F.map Pc.n++r.O.map Pc.n\/j=t:=hj;rcases hj with h|h
          . have:=ih.ap j h; exact ⟨this.1,by lia⟩
          . have:=ih.nu; exact ⟨by show j<r.u; lia,by lia⟩
        . rcases aE.mp hp with h | h
          . exact ih.okO p h
          . rw [ao.mp h];refine ⟨bj1,bk.bj,tku,?_,bk.up,bk.bqj,bk.bh,bk.bxj⟩;rw [gt];show (⟨sdO D (px*b.i+qx*b.j) (py*b.i+qy*b.j),sdO D b.x b.y⟩:Bo)=_;rw [ci,bU,bU,dc,dc]
        . show accX r.F=_;rw [ih.aF.1,tk,yf,ci,bL,cg]
        . show accY r.F=_;rw [ih.aF.2,tk,yf,ci,bL,cg]
        . show accX (r.O++[_])=_;rw [xg,ih.aO.1,tk,yf]
        . show accY (r.O++[_])=_;rw [xa,ih.aO.2,tk,yf]
      . rw [ip ci];have bi1:1<=b.i:=by have:=bk.i0; lia
        have upi:sgn d (px*b.i) (py*b.i)=1:=by rw [ak px,ak py]; exact yP hR bi1 bs.up
        have uqj:sgn d (qx*b.j) (qy*b.j)=1:=by rw [ak qx,ak qy]; exact yP hR bj1 bs.uq
        have upw:sgn d (px*b.i+qx*b.j) (py*b.i+qy*b.j)=1:=vW hR upi uqj;have so_w:=y9 (D:=D) hR hD upw bk.bw.1 bk.bw.2;have so_s:=y9 (D:=D) hR hD upi bk.bpi.1 bk.bpi.2;have so_t:=y9 (D:=D) hR hD uqj bk.bqj.1 bk.bqj.2;have tke:tkS (sdO D (px*b.i+qx*b.j) (py*b.i+qy*b.j)) (sdO D (px*b.i) (py*b.i))=sdO D (qx*b.j) (qy*b.j):=by
          rw [HG hD];congr 1 <;> lia
        have stp:Stp d tn (ends s0 r.ds) (.cut false t (sdO D (px*b.i) (py*b.i)),t,t):=by
          refine ⟨⟨rfl,tmem,tmem,(λh=>nomatch h),λ_=>rfl⟩,z.sy so_s,?_,(λh=>nomatch h)⟩;show Gq d ((ends s0 r.ds).g t).w _;rw [gt];exact AX hR z so_w so_s (by show So d D M (tkS (sdO D _ _) _); rw [tke]; exact so_t)
        have e1:ends s0 (r.ds++[(Dd.cut false t (sdO D (px*b.i) (py*b.i)),t,t)])=(ends s0 r.ds).next (.cut false t (sdO D (px*b.i) (py*b.i)),t,t):=vi;have nw:(Dd.cut false t (sdO D (px*b.i) (py*b.i))).new ((ends s0 r.ds).g t) ((ends s0 r.ds).g t)=[⟨sdO D (px*b.i) (py*b.i),sdO D b.x b.y⟩,⟨sdO D (qx*b.j) (qy*b.j),sdO D b.x b.y⟩]:=by
          rw [gt];show [(⟨_,sdO D b.x b.y⟩:Bo),⟨tkS (sdO D (px*b.i+qx*b.j) (py*b.i+qy*b.j)) (sdO D (px*b.i) (py*b.i)),sdO D b.x b.y⟩]=_;rw [tke]
        have w1:=wK ih.w ⟨stp,λc hc=>by
          have hc:c∈(Dd.cut false t (sdO D (px*b.i) (py*b.i))).new ((ends s0 r.ds).g t) ((ends s0 r.ds).g t):=hc;rw [nw] at hc;have so_h:=y9 (D:=D) hR hD bk.up bk.bh.1 bk.bh.2;rcases a7.mp hc with rfl|hc
          . exact ⟨so_s,so_h⟩
          . rw [ao.mp hc];exact ⟨so_t,so_h⟩⟩
        have k1:=xo (ends s0 r.ds) (Dd.cut false t (sdO D (px*b.i) (py*b.i)),t,t);rw [ih.k] at k1;have k1:((ends s0 r.ds).next (Dd.cut false t (sdO D (px*b.i) (py*b.i)),t,t)).k=r.u+2:=k1;have g0:((ends s0 r.ds).next (Dd.cut false t (sdO D (px*b.i) (py*b.i)),t,t)).g r.u=⟨sdO D (px*b.i) (py*b.i),sdO D b.x b.y⟩:=by
          rw [<-ih.k];exact yA (j:=0) (by rw [nw]; rfl)
        have g1:((ends s0 r.ds).next (Dd.cut false t (sdO D (px*b.i) (py*b.i)),t,t)).g (r.u+1)=⟨sdO D (qx*b.j) (qy*b.j),sdO D b.x b.y⟩:=by
          rw [<-ih.k];exact yA (j:=1) (by rw [nw]; rfl)
        have nu:=ih.nu;have unot:∀ j,r.u<=j->j∉r.F.map Pc.n++r.O.map Pc.n:=λj hj h=>by have:=(ih.ap j h).1; lia
        refine ⟨w1,by show (ends s0 (r.ds++_)).k=_; rw [e1,k1],by show _<=r.u+2; lia,λj=>?_,?_,λj hj=>?_,λp hp=>?_,λp hp=>?_,⟨?_,?_⟩,⟨?_,?_⟩,⟨by show (r.ds++_).length<=_; rw [ai]; simp only [ax,aK]; lia,by show (r.F++_).length<=_; rw [ai]; simp only [ax,aK]; lia,by show (r.O++_).length<=_; rw [ai]; simp only [ax,aK]; lia⟩⟩
        . show j∈(ends s0 (r.ds++_)).ns↔_\/j∈(r.F++[_]).map Pc.n\/j∈(r.O++[_]).map Pc.n;rw [e1,mem_next,ih.k,ah,ah,aE,aE,aR,cJ,ao,aR,cJ,ao,ih.mem];show (_/\(j:Int)∉[(t:Int)])\/(r.u<=j/\j<r.u+2)↔_\/(_\/j=r.u)\/_\/j=r.u+1;rw [ao];grind
        . show ((r.F++[_]).map Pc.n++(r.O++[_]).map Pc.n).Nodup;rw [ah,ah];have h1:(r.F.map Pc.n++([r.u]++r.O.map Pc.n)).Nodup:=Hl ih.nd (unot _ (ag _));have h2:=HU (a:=r.u+1) h1 (λh=>by
            rcases aE.mp h with h|h
            . exact unot _ (!2) (cZ _ h)
            . rcases aE.mp h with h | h
              . rw [ao] at h; lia
              . exact unot _ (!2) (bg _ h))
          simp only [bQ] at h2 ⊢;exact h2
        . have hj:j∈(r.F++[_]).map Pc.n++(r.O++[_]).map Pc.n:=hj;rw [ah,ah,aE,aE,aE,aR,cJ,ao,aR,cJ,ao] at hj;have hj:(j∈r.F.map Pc.n\/j=r.u)\/j∈r.O.map Pc.n\/j=r.u+1:=hj;show j<r.u+2/\_;rcases hj with (h|h)|h|h
          . have:=ih.ap j (cZ _ h); lia
          . lia
          . have:=ih.ap j (bg _ h); lia
          . lia
        . show PcG d D px py M0 M (ends s0 (r.ds++_)) p;rw [e1];rcases aE.mp hp with h|h
          . exact (ih.okF p h).next _
          . rw [ao.mp h];exact ⟨bi1,bk.bi,by rw [k1]; show r.u<_; lia,g0,bk.up,bk.bpi,bk.bh,bk.bxi⟩
        . show PcG d D qx qy M0 M (ends s0 (r.ds++_)) p;rw [e1];rcases aE.mp hp with h|h
          . exact (ih.okO p h).next _
          . rw [ao.mp h];exact ⟨bj1,bk.bj,by rw [k1]; show r.u+1<_; lia,g1,bk.up,bk.bqj,bk.bh,bk.bxj⟩
        . show accX (r.F++[_])=_;rw [xg,ih.aF.1,tk,yf]
        . show accY (r.F++[_])=_;rw [xa,ih.aF.2,tk,yf]
        . show accX (r.O++[_])=_;rw [xg,ih.aO.1,tk,yf]
        . show accY (r.O++[_])=_;rw [xa,ih.aO.2,tk,yf]
theorem EG{M0:Nat}:∀ {ps:List Pc},(∀ p∈ps,Bd M0 (p.m*p.x)/\Bd M0 (p.m*p.y))->Bd (M0+ps.length) (accX ps)/\Bd (M0+ps.length) (accY ps)
  | [],_=>⟨dP _,dP _⟩
  | p::ps,h=>by
    have h1:=h p aG;have h2:=EG (ps:=ps) λq hq=>h q (aB _ hq);rw [ax,<-fH];exact ⟨Bd.add (h1.1.mono (dy _ _)) h2.1,Bd.add (h1.2.mono (dy _ _)) h2.2⟩
def hp1(D px py X Y:Int):List Bo:=if X=0/\Y=0 then [] else [⟨sdO D px py,sdO D X Y⟩]
theorem Fb(hR:Rt d){ps:List Pc}(h:∀ p∈ps,1<=p.m/\sgn d p.x p.y=1):hp1 D px py (accX ps) (accY ps)=if ps=[] then [] else [⟨sdO D px py,sdO D (accX ps) (accY ps)⟩]:=by
  unfold hp1;by_cases c:ps=[]
  . subst c;rw [io ⟨rfl,rfl⟩,io rfl]
  . rw [ip c,ip];rintro ⟨h1,h2⟩;have:=CL hR c h;rw [h1,h2] at this;exact absurd this (by unfold sgn; simp)
def npl(D px py:Int)(hb:List Bx):DL:=(np1 D px py hb.length hb hb.length).ds++(gth (np1 D px py hb.length hb hb.length).u (np1 D px py hb.length hb hb.length).F (np1 D px py hb.length hb hb.length).F.length++gth ((np1 D px py hb.length hb hb.length).u+(2*(np1 D px py hb.length hb hb.length).F.length - 1)) (np1 D px py hb.length hb hb.length).O (np1 D px py hb.length hb hb.length).O.length)
theorem BW:∀ {xs ys:List Nat},xs.Pairwise (· < ·)->ys.Pairwise (· < ·)->(∀ j,j∈xs↔j∈ys)->xs=ys:=λ{xs ys} hx hy h =>
  gA (λa b _ _ h k=>Nat.le_antisymm h k) (hx.imp bO) (hy.imp bO) ((fU (xI hx) (xI hy)).mpr h)
variable {qx qy:Int}
theorem Kf{s0:As}{hb:List Bx}(hR:Rt d)(z:Sz D K' M)(bs:Bas d M px py qx qy)(hk:s0.k=hb.length)(hns:s0.ns=List.range hb.length)(hg:∀ (k:Nat) (b:Bx),hb[k]?=some b->s0.g k=b.bo D px py qx qy)(ok:∀ b∈hb,BxOk d px py qx qy M0 M b)(hM:M0+hb.length<=M)(h1:1<=hb.length):WalkB d D M tn s0 (npl D px py hb)/\(npl D px py hb).length<=5*hb.length /\
      (ends s0 (npl D px py hb)).ns.map (ends s0 (npl D px py hb)).g=hp1 D px py (sI (λb=>b.i*b.x) hb) (sI (λb=>b.i*b.y) hb)++hp1 D qx qy (sI (λb=>b.j*b.x) hb) (sI (λb=>b.j*b.y) hb):=by
  have n1:=HS (tn:=tn) hR z bs hk hns hg ok hb.length (ag _);unfold npl;generalize np1 D px py hb.length hb hb.length=r at n1;obtain ⟨w,k,nu,mem,nd,ap,okF,okO,aF,aO,l1,l2,l3⟩:=n1;rw [au] at aF aO;have ok0:As.Ok hb.length s0 0:=⟨by rw [hns]; exact cM,λn hn=>by rw [hns] at hn; rw [hk]; exact b9.mp hn,by rw [hns]; intro h; rw [fm] at h; lia,by rw [hns,cz]; lia,by rw [hk]; lia⟩
  have oks:=zY ok0 w.walk r.ds.length (ag _);rw [au] at oks;generalize hs:ends s0 r.ds=s at *
  have ndF:(r.F.map Pc.n).Nodup:=(gC.mp nd).1;have ndO:(r.O.map Pc.n).Nodup:=(gC.mp nd).2.1;have dis:∀ j,j∈r.F.map Pc.n->j∈r.O.map Pc.n->False:=λj a b=>(gC.mp nd).2.2 j a j b rfl;have memF:∀ p∈r.F,p.n∈s.ns:=λp hp=>(mem _).mpr (.inr (.inl (aU hp)));have memO:∀ p∈r.O,p.n∈s.ns:=λp hp=>(mem _).mpr (.inr (.inr (aU hp)));have hM0:M0<=M:=by lia
  have accb:∀ (L:List Pc),L.length<=hb.length->(∀ p∈L,Bd M0 (p.m*p.x)/\Bd M0 (p.m*p.y))->∀ t,Bd M (accX (L.take t))/\Bd M (accY (L.take t)):=λL hl h t=>by
    have:=EG (M0:=M0) (ps:=L.take t) λp hp=>h p (aW hp);have hl2:(L.take t).length<=hb.length:=by rw [az]; lia
    exact ⟨this.1.mono (!2),this.2.mono (!2)⟩
  have G1:=Ed (tn:=tn) hR z oks.lt (λp hp=>(okF p hp).ok hM0 (memF p hp)) ndF bs.up bs.bp (accb r.F l2 λp hp=>(okF p hp).bm) r.F.length (ag _);obtain ⟨w1,k1,mem1,g1⟩:=G1;rw [k] at w1 k1 mem1 g1;rw [au] at g1;have w01:WalkB d D M tn s0 (r.ds++gth r.u r.F r.F.length):=we w (by rw [hs]; exact w1);have ok1:=zY ok0 w01.walk _ (ag _);rw [au,yD,hs] at ok1;have okO1:∀ p∈r.O,PcG d D qx qy M0 M (ends s (gth r.u r.F r.F.length)) p:=λp hp=>(okO p hp).ends _;generalize hs1:ends s (gth r.u r.F r.F.length)=s1 at *
  have memO1:∀ p∈r.O,p.n∈s1.ns:=λp hp=>(mem1 _).mpr (.inl ⟨memO p hp,λi q hi hq c=>dis p.n (by rw [<-c]; exact aU (aw hq)) (aU hp)⟩);have G2:=Ed (tn:=tn) hR z ok1.lt (λp hp=>(okO1 p hp).ok hM0 (memO1 p hp)) ndO bs.uq bs.bq (accb r.O l3 λp hp=>(okO p hp).bm) r.O.length (ag _);obtain ⟨w2,k2,mem2,g2⟩:=G2;rw [k1] at w2 k2 mem2 g2;rw [au] at g2;have e:ends s0 (r.ds++(gth r.u r.F r.F.length++gth (r.u+(2*r.F.length - 1)) r.O r.O.length))=ends s1 (gth (r.u+(2*r.F.length - 1)) r.O r.O.length):=by rw [yD,hs,yD,hs1]
  have W:=we w (by rw [hs]; exact we w1 (by rw [hs1]; exact w2));have okT:=zY ok0 W.walk _ (ag _);rw [au,e] at okT;refine ⟨W,?_,?_⟩
  . rw [ai,ai,wQ (ag _),wQ (ag _)]
    lia
  rw [e];have gst:∀ n,n<s1.k->(ends s1 (gth (r.u+(2*r.F.length - 1)) r.O r.O.length)).g n=s1.g n:=λn h=>uJ h;generalize hs2:ends s1 (gth (r.u+(2*r.F.length - 1)) r.O r.O.length)=s2 at *
  have notin:∀ (L:List Pc) (j:Nat),(∀ i p,i<L.length->L[i]?=some p->p.n≠j)->j∉L.map Pc.n:=λL j h hj=>by
    obtain ⟨p,hp,e⟩:=aV.mp hj;obtain ⟨i,hi⟩:=d5 hp;exact h i p (af.mp hi).1 hi e
  have char:∀ j,j∈s2.ns↔(0<r.F.length/\j=r.u+2*r.F.length - 2)\/(0<r.O.length/\j=r.u+(2*r.F.length - 1)+2*r.O.length - 2):=λj=>by
    rw [mem2,mem1,mem];constructor
    . rintro (⟨⟨(h | h | h),h2⟩ | h1,h3⟩ | h)
      . lia
      . exact absurd h (notin r.F j h2)
      . exact absurd h (notin r.O j h3)
      . exact .inl h1
      . exact .inr h
    . rintro (h | h)
      . refine .inl ⟨.inr h,λi p hi hp c=>?_⟩;have:=(ap p.n (bg _ (aU (aw hp)))).1
        lia
      . exact .inr h
  have hF:∀ p∈r.F,1<=p.m/\sgn d p.x p.y=1:=λp hp=>⟨(okF p hp).m1,(okF p hp).up⟩
  have hO:∀ p∈r.O,1<=p.m/\sgn d p.x p.y=1:=λp hp=>⟨(okO p hp).m1,(okO p hp).up⟩
  rw [<-aF.1,<-aF.2,<-aO.1,<-aO.2,Fb hR hF,Fb hR hO];by_cases cF:r.F=[]
  . by_cases cO:r.O=[]
    . have:s2.ns=[]:=BW okT.up List.Pairwise.nil λj=>by rw [char,cF,cO]; simp
      exact absurd this okT.ne
    . have lO:=cG.mpr cO;have lF:r.F.length=0:=by rw [cF]; rfl
      have:s2.ns=[r.u+(2*r.F.length - 1)+2*r.O.length - 2]:=BW okT.up (gL _ _) λj=>by
        rw [char,ao]
        lia
      rw [this,io cF,ip cO];show [s2.g _]=_;rw [g2 lO];rfl
  . have lF:=cG.mpr cF;have ga:s2.g (r.u+2*r.F.length - 2)=⟨sdO D px py,sdO D (accX r.F) (accY r.F)⟩:=(gst _ (by rw [k1]; lia)).trans (g1 lF);by_cases cO:r.O=[]
    . have lO:r.O.length=0:=by rw [cO]; rfl
      have:s2.ns=[r.u+2*r.F.length - 2]:=BW okT.up (gL _ _) λj=>by
        rw [char,ao]
        lia
      rw [this,ip cF,io cO];show [s2.g _]=_;rw [ga];rfl
    . have lO:=cG.mpr cO;have:s2.ns=[r.u+2*r.F.length - 2,r.u+(2*r.F.length - 1)+2*r.O.length - 2]:=BW okT.up (by simp; lia) λj=>by
        rw [char,a7,ao]
        lia
      rw [this,ip cF,ip cO];show [s2.g _,s2.g _]=_;rw [ga,g2 lO];rfl
def PcAt(H:Hp)(us:List Addr)(pc:List Pc):Prop:=us.length=pc.length/\∀ (i:Nat) (q:Addr) (p:Pc),us[i]?=some q->pc[i]?=some p->H q=some (.tup [.int (p.n:Int),.int p.m])
variable {us:List Addr}{pc:List Pc}
theorem PcAt.tk(h:PcAt H us pc)(s:TupK H H'):PcAt H' us pc:=⟨h.1,λi q p h1 h2=>s _ _ (h.2 i q p h1 h2)⟩
theorem PcAt.snoc{q:Addr}{p:Pc}(h:PcAt H us pc)(e:H q=some (.tup [.int (p.n:Int),.int p.m])):PcAt H (us++[q]) (pc++[p]):=⟨by rw [ai,ai,h.1]; rfl,λi q' p' h1 h2=>by
  by_cases c:i<us.length
  . rw [aT c] at h1;rw [aT (by rw [<-h.1]; exact c)] at h2;exact h.2 i q' p' h1 h2
  . have hl:=(af.mp h1).1;rw [ai] at hl;have:i=us.length:=by simp only [ax,aK] at hl; lia
    subst this;rw [aM (ag _),eC] at h1;rw [h.1,aM (ag _),eC] at h2;have e1:q=q':=aq h1;have e2:p=p':=aq h2;subst e1;subst e2;exact e⟩
theorem Cq{qs:List Addr}{fs:DL}(h:Runs H ps es)(g:Runs H qs fs):Runs H (ps++qs) (es++fs):=⟨by rw [ai,ai,h.1,g.1],λi p x h1 h2=>by
  by_cases c:i<ps.length
  . rw [aT c] at h1;rw [aT (by rw [<-h.1]; exact c)] at h2;exact h.2 i p x h1 h2
  . rw [aM (!2)] at h1;rw [aM (by rw [<-h.1]; lia),<-h.1] at h2;exact g.2 _ p x h1 h2⟩
theorem HD(hD:1<=D):tmS m (sdO D X Y)=sdO D (X*m) (Y*m):=by
  have r:=yh (D:=D) (X:=X) (Y:=Y) hD;have z:=r.z1;have n0:(sdO D X Y).z≠0:=by lia
  obtain ⟨r1,r2⟩:=wO (a:=m*(sdO D X Y).x) (b:=m*(sdO D X Y).y) (n:=(sdO D X Y).z) (D:=D) (X:=X*m) (Y:=Y*m) n0 (by have:=r.x; grind) (by have:=r.y; grind);exact wy hD ⟨l_n n0,xq n0,r1,r2⟩
theorem HH{Q:VK}{b:Addr}{xs zs:List V}(h1:H l=some (.lst xs))(h2:H b=some (.lst zs))(hz:xs.length+zs.length<=1000)(h:∀ p H2,H p=none->Same H H2->H2 p=some (.lst (xs++zs))->Q (.ref p) H2):rCat (.ref l) (.ref b) H Q :=
  ⟨l,b,xs,zs,rfl,rfl,h1,h2,yW hz,λp hp=>h p _ hp (zC hp _) zj⟩
theorem B9(hD:1<=D)(bX:Bd M X)(bY:Bd M Y)(bD:Bd K' D):SK M K' (sdO D X Y):=⟨(yh hD).z1,(yh hD).g,Bd.fdiv bX _,Bd.fdiv bY _,Bd.fdiv bD _⟩
theorem tY(hD:1<=D):sdO D 0 0=⟨0,0,1⟩:=(wy hD ⟨by decide,by decide +kernel,by simp,by simp⟩).symm
theorem IJ(hD:1<=D):((sdO D X Y).x=0/\(sdO D X Y).y=0/\(sdO D X Y).z=1)↔(X=0/\Y=0):=by
  constructor
  . intro h;have r:=yh (D:=D) (X:=X) (Y:=Y) hD;have h1:=r.x;have h2:=r.y;rw [h.1,h.2.2] at h1;rw [h.2.1,h.2.2] at h2
    lia
  . rintro ⟨rfl,rfl⟩;rw [tY hD];exact ⟨rfl,rfl,rfl⟩
theorem FN{f:Bx->Int}{M0:Nat}:∀ {l:List Bx},(∀ b∈l,Bd M0 (f b))->Bd (M0+l.length) (sI f l)
  | [],_=>dP _
  | b::l,h=>by
    have h2:=FN (l:=l) λc hc=>h c (aB _ hc);rw [ax,<-fH];exact Bd.add ((h b aG).mono (dy _ _)) h2
def cn(pl:Nat)(b:Bx):Int:=if pl=0 then b.i else b.j
def hX(pl:Nat)(l:List Bx):Int:=sI (λb=>cn pl b*b.x) l
def hY(pl:Nat)(l:List Bx):Int:=sI (λb=>cn pl b*b.y) l
def bwq(s:B4)(N:Int)(pl:Nat):Sd:=if pl=0 then bw1 s N else bw2 s N
def nrx(s:B4)(N D:Int)(l:List Bx):Nat->List Bo
  | 0=>[]
  | k+1=>nrx s N D l k++(if hX k l=0/\hY k l=0 then [] else [⟨bwq s N k,sdO D (hX k l) (hY k l)⟩])
theorem BA(s:B4)(N D:Int)(l:List Bx):∀ k,(nrx s N D l k).length<=k
  | 0=>ag _
  | k+1=>by
    have:=BA s N D l k;show (nrx s N D l k++_).length<=_;rw [ai];split
    . simp only [aK]; lia
    . simp only [ax,aK]; lia
variable {r1 r2:Addr}
theorem JN{p:Addr}{s:B4}{N:Int}(h:BsAt H p r1 r2 s N)(i:Nat):SdAt H (if i=0 then r1 else r2) (bwq s N i):=by
  unfold bwq;split
  . exact h.f
  . exact h.g
theorem LW{b:Bx}{i:Nat}(hi:i<2):atI [V.int b.i,V.int b.j] (0+(i:Int))=some (.int (cn i b)):=by
  have:i=0\/i=1:=by lia
  rcases this with rfl|rfl <;> rfl
theorem Kp{i:Nat}(hi:i<2):atI [V.ref r1,V.ref r2] (0+(i:Int))=some (.ref (if i=0 then r1 else r2)):=by
  have:i=0\/i=1:=by lia
  rcases this with rfl|rfl <;> rfl
theorem DY{k:Int}(hD:1<=D)(hk:1<=k):sdO (D*k) (X*k) (Y*k)=sdO D X Y :=
  (wy (aI (!2) (!2)) (yh hD).sc).symm
theorem DN{s:Sd}{N:Int}(z1:1<=s.z)(g:g3 s.x s.y s.z=1)(hN:1<=N)(dv:s.z∣N):s=sdO N (N / s.z*s.x) (N / s.z*s.y):=by
  obtain ⟨t,ht⟩:=dv;have et:N / s.z=t:=by rw [ht]; exact cV _ (!2)
  rw [et];refine wy hN ⟨z1,g,?_,?_⟩
  . rw [ht]; grind
  . rw [ht]; grind
theorem Ie{s:B4}{N:Int}(hN:1<=N)(hE:1<=E):bw1 s N=sdO (N*E) (s.a*E) (s.b*E)/\bw2 s N=sdO (N*E) (s.c*E) (s.e*E):=⟨(DY hN hE).symm,(DY hN hE).symm⟩
theorem KR{s:B4}{N:Int}(hN:1<=N)(hE:1<=E)(l:List Bx):nrx s N (N*E) l 2=hp1 (N*E) (s.a*E) (s.b*E) (sI (λb=>b.i*b.x) l) (sI (λb=>b.i*b.y) l)++hp1 (N*E) (s.c*E) (s.e*E) (sI (λb=>b.j*b.x) l) (sI (λb=>b.j*b.y) l):=by
  obtain ⟨b1,b2⟩:=Ie (s:=s) hN hE;show (([]:List Bo)++(if hX 0 l=0/\hY 0 l=0 then [] else [(⟨bwq s N 0,sdO (N*E) (hX 0 l) (hY 0 l)⟩:Bo)]))++(if hX 1 l=0/\hY 1 l=0 then [] else [(⟨bwq s N 1,sdO (N*E) (hX 1 l) (hY 1 l)⟩:Bo)])=_;rw [List.nil_append,show bwq s N 0=bw1 s N from rfl,show bwq s N 1=bw2 s N from rfl,b1,b2];rfl
variable {z:Int}
theorem DU{k:Nat}(z1:1<=z)(hE:1<=E)(bE:Bd k E)(dv:z∣E):1<=E / z/\Bd k (E / z):=by
  obtain ⟨t,ht⟩:=dv;have et:E / z=t:=by rw [ht]; exact cV _ (!2)
  have t1:1<=t:=by
    refine fj.mp λq=>?_;have:=bZ (show (0:Int)<=z by lia) (show t<=0 by lia)
    lia
  rw [et];exact ⟨t1,bE.of_le (by rw [ht,cB]; exact fh _ (!2))⟩
def fbx(l:List Bx):List Bx:=(if hX 0 l=0/\hY 0 l=0 then [] else [⟨1,0,hX 0 l,hY 0 l⟩])++(if hX 1 l=0/\hY 1 l=0 then [] else [⟨0,1,hX 1 l,hY 1 l⟩])
theorem MM(l:List Bx):hX 0 (fbx l)=hX 0 l/\hY 0 (fbx l)=hY 0 l/\hX 1 (fbx l)=hX 1 l/\hY 1 (fbx l)=hY 1 l:=by
  unfold fbx;generalize hX 0 l=a;generalize hY 0 l=b;generalize hX 1 l=c;generalize hY 1 l=e;by_cases c1:a=0/\b=0 <;> by_cases c2:c=0/\e=0
  . rw [io c1,io c2,c1.1,c1.2,c2.1,c2.2]; exact ⟨rfl,rfl,rfl,rfl⟩
  . rw [io c1,ip c2,c1.1,c1.2]; simp [hX,hY,sI,cn]
  . rw [ip c1,io c2,c2.1,c2.2]; simp [hX,hY,sI,cn]
  . rw [ip c1,ip c2]; simp [hX,hY,sI,cn]
theorem FJ{s:B4}{N:Int}{l m:List Bx}(h0:hX 0 l=hX 0 m/\hY 0 l=hY 0 m)(h1:hX 1 l=hX 1 m/\hY 1 l=hY 1 m):nrx s N D l 2=nrx s N D m 2:=by
  show (([]:List Bo)++(if hX 0 l=0/\hY 0 l=0 then [] else [(⟨bwq s N 0,sdO D (hX 0 l) (hY 0 l)⟩:Bo)]))++(if hX 1 l=0/\hY 1 l=0 then [] else [(⟨bwq s N 1,sdO D (hX 1 l) (hY 1 l)⟩:Bo)])=_;rw [h0.1,h0.2,h1.1,h1.2];rfl
theorem uC{k:Nat}{s:B4}(g:GB d k s):s.i s.a s.b=1/\s.j s.a s.b=0/\s.i s.c s.e=0/\s.j s.c s.e=1:=by
  have h:=EN g;unfold B4.i B4.j;unfold B4.det at *
  refine ⟨?_,?_,?_,?_⟩ <;> grind
def bxD(s:B4)(N D:Int)(b:Bo):Bx:=⟨mny s N 0 b.w,mny s N 1 b.w,D / b.h.z*b.h.x,D / b.h.z*b.h.y⟩
structure BK(d:Int)(s:B4)(N E:Int)(M0 M:Nat)(b:Bo):Prop where
  w:∃ X Y,b.w=sdO N X Y/\Bd 900 X/\Bd 900 Y/\(bxD s N (N*E) b).i=s.i X Y/\(bxD s N (N*E) b).j=s.j X Y
  bo:b=(bxD s N (N*E) b).bo (N*E) (s.a*E) (s.b*E) (s.c*E) (s.e*E)
  ok:BxOk d (s.a*E) (s.b*E) (s.c*E) (s.e*E) M0 M (bxD s N (N*E) b)
theorem Lf{N i j:Int}{k:Nat}{s:B4}(g:GB d k s)(e:w=sdO N X Y)(hN:1<=N)(hE:1<=E)(hi:i=s.i X Y)(hj:j=s.j X Y):w=sdO (N*E) (s.a*E*i+s.c*E*j) (s.b*E*i+s.e*E*j):=by
  obtain ⟨c1,c2⟩:=Bn g X Y;rw [hi,hj];refine e.trans ((DY hN hE).symm.trans ?_);congr 1
  . conv=>lhs; rw [<-c1]
    grind
  . conv=>lhs; rw [<-c2]
    grind
variable {kE kh kw:Nat}
theorem BK.gen{N:Int}{k:Nat}{s:B4}{b:Bo}(hR:Rt d)(g:GB d k s)(hN:1<=N)(hE:1<=E)(w1:1<=b.w.z)(wg:g3 b.w.x b.w.y b.w.z=1)(wu:sgn d b.w.x b.w.y=1)(wd:b.w.z∣N)(h1:1<=b.h.z)(hg:g3 b.h.x b.h.y b.h.z=1)(hu:sgn d b.h.x b.h.y=1)(hd:b.h.z∣N*E)(nn:∀ pl,0<=mny s N pl b.w)(bE:Bd kE E)(bwx:Bd kw (N / b.w.z*b.w.x))(bwy:Bd kw (N / b.w.z*b.w.y))(bhx:Bd kh (N*E / b.h.z*b.h.x))(bhy:Bd kh (N*E / b.h.z*b.h.y))(l1:kw<=900)(l2:kw+k+2<=1024)(l3:kh<=M)(l4:k+kE+(kw+k+2)+1<=M)(l5:kw+k+2+kh<=M0):BK d s N E M0 M b:=by
  have hD:1<=N*E:=aI (!2) (!2);have e0:=DN w1 wg hN wd;have eh:=DN h1 hg hD hd;have m0:(bxD s N (N*E) b).i=s.i (N / b.w.z*b.w.x) (N / b.w.z*b.w.y):=by show mny s N 0 b.w=_; unfold mny; rw [io rfl]
  have m1:(bxD s N (N*E) b).j=s.j (N / b.w.z*b.w.x) (N / b.w.z*b.w.y):=by show mny s N 1 b.w=_; unfold mny; rw [ip ⋯]
  obtain ⟨c1,c2⟩:=KY g bwx bwy;have bi:Bd (kw+k+2) (bxD s N (N*E) b).i:=by rw [m0]; exact c1.mono (!2)
  have bj:Bd (kw+k+2) (bxD s N (N*E) b).j:=by rw [m1]; exact c2.mono (!2)
  have ew:=Lf (E:=E) g e0 hN hE m0 m1;have p1:Bd (k+kE+(kw+k+2)) (s.a*E*(bxD s N (N*E) b).i):=(g.ba.mul bE).mul bi;have p2:Bd (k+kE+(kw+k+2)) (s.b*E*(bxD s N (N*E) b).i):=(g.bb.mul bE).mul bi;have p3:Bd (k+kE+(kw+k+2)) (s.c*E*(bxD s N (N*E) b).j):=(g.bc.mul bE).mul bj;have p4:Bd (k+kE+(kw+k+2)) (s.e*E*(bxD s N (N*E) b).j):=(g.be.mul bE).mul bj;refine ⟨⟨_,_,e0,bwx.mono l1,bwy.mono l1,m0,m1⟩,?_,nn 0,nn 1,?_,bi.mono l2,bj.mono l2,?_,⟨bhx.mono l3,bhy.mono l3⟩,⟨p1.mono (!2),p2.mono (!2)⟩,⟨p3.mono (!2),p4.mono (!2)⟩,⟨(Bd.add p1 p3).mono (!2),(Bd.add p2 p4).mono (!2)⟩,⟨(bi.mul bhx).mono l5,(bi.mul bhy).mono l5⟩,⟨(bj.mul bhx).mono l5,(bj.mul bhy).mono l5⟩⟩
  . show b=⟨_,_⟩
    rw [<-ew];show b=⟨b.w,sdO (N*E) (N*E / b.h.z*b.h.x) (N*E / b.h.z*b.h.y)⟩
    rw [<-eh]
  . refine Classical.or_iff_not_imp_left.mpr λc1 c2=>?_;have c1:(bxD s N (N*E) b).i=0:=fq.mp c1;rw [c1,c2] at ew;simp only [bU,cg] at ew;rw [tY hD] at ew;rw [ew] at wu;exact absurd wu (by unfold sgn; simp)
  . show sgn d (N*E / b.h.z*b.h.x) (N*E / b.h.z*b.h.y)=1;obtain ⟨t,ht⟩:=hd;have et:N*E / b.h.z=t:=by rw [ht]; exact cV _ (!2)
    have t1:1<=t:=by
      refine fj.mp λq=>?_;have:=bZ (show (0:Int)<=b.h.z by lia) (show t<=0 by lia)
      lia
    rw [et];exact yP hR t1 hu
theorem EZ{k:Nat}{s:B4}(hR:Rt d)(g:GB d k s)(hE:1<=E)(bE:Bd kE E)(l:k+kE<=M):Bas d M (s.a*E) (s.b*E) (s.c*E) (s.e*E) :=
  ⟨by rw [ak s.a,ak s.b]; exact yP hR hE g.p1,by rw [ak s.c,ak s.e]; exact yP hR hE g.q1,⟨(g.ba.mul bE).mono l,(g.bb.mul bE).mono l⟩,⟨(g.bc.mul bE).mono l,(g.be.mul bE).mono l⟩⟩
theorem uX(hD:1<=D):D / (sdO D X Y).z*(sdO D X Y).x=X/\D / (sdO D X Y).z*(sdO D X Y).y=Y:=by
  have r:=yh (D:=D) (X:=X) (Y:=Y) hD;have e:(sdO D X Y).z*gd X Y D=D:=lN_mul;have z1:=r.z1;have et:D / (sdO D X Y).z=gd X Y D:=by
    conv=>lhs; lhs; rw [<-e]
    exact cV _ (!2)
  have hx:=r.x;have hy:=r.y;rw [et];generalize gd X Y D=g at *
  generalize (sdO D X Y).z=z at *
  generalize (sdO D X Y).x=x at *
  generalize (sdO D X Y).y=y at *
  subst e;exact ⟨ay (show z≠0 by lia) (by grind),ay (show z≠0 by lia) (by grind)⟩
theorem Fl{N:Int}{k:Nat}{s:B4}(g:GB d k s)(hN:1<=N)(hE:1<=E):bxD s N (N*E) ⟨bw1 s N,sdO (N*E) X Y⟩=⟨1,0,X,Y⟩/\bxD s N (N*E) ⟨bw2 s N,sdO (N*E) X Y⟩=⟨0,1,X,Y⟩:=by
  have hD:1<=N*E:=aI (!2) (!2);obtain ⟨a1,a2⟩:=uX (X:=s.a) (Y:=s.b) hN;obtain ⟨b1,b2⟩:=uX (X:=s.c) (Y:=s.e) hN;obtain ⟨h1,h2⟩:=uX (X:=X) (Y:=Y) hD;obtain ⟨c1,c2,c3,c4⟩:=uC g;constructor
  . show (⟨mny s N 0 (sdO N s.a s.b),mny s N 1 (sdO N s.a s.b),N*E / (sdO (N*E) X Y).z*(sdO (N*E) X Y).x,N*E / (sdO (N*E) X Y).z*(sdO (N*E) X Y).y⟩:Bx)=_;unfold mny;rw [io rfl,ip ⋯,a1,a2,h1,h2,c1,c2]
  . show (⟨mny s N 0 (sdO N s.c s.e),mny s N 1 (sdO N s.c s.e),N*E / (sdO (N*E) X Y).z*(sdO (N*E) X Y).x,N*E / (sdO (N*E) X Y).z*(sdO (N*E) X Y).y⟩:Bx)=_;unfold mny;rw [io rfl,ip ⋯,b1,b2,h1,h2,c3,c4]
theorem bd0(k:Nat):Bd k 0:=dP _
theorem BK.own{N:Int}{k:Nat}{s:B4}(g:GB d k s)(hk:k<=900)(hN:1<=N)(hE:1<=E)(bas:Bas d M (s.a*E) (s.b*E) (s.c*E) (s.e*E))(up:sgn d X Y=1)(bX:Bd M0 X)(bY:Bd M0 Y)(hM:M0<=M)(pl:Nat):BK d s N E M0 M ⟨bwq s N pl,sdO (N*E) X Y⟩:=by
  obtain ⟨o1,o2⟩:=Fl (X:=X) (Y:=Y) g hN hE;obtain ⟨c1,c2,c3,c4⟩:=uC g;obtain ⟨w1,w2⟩:=Ie (s:=s) hN hE;unfold bwq;split
  . refine ⟨⟨s.a,s.b,rfl,g.ba.mono hk,g.bb.mono hk,by rw [o1]; exact c1.symm,by rw [o1]; exact c2.symm⟩,?_,?_⟩
    . rw [o1];show (⟨bw1 s N,sdO (N*E) X Y⟩:Bo)=⟨sdO (N*E) (s.a*E*1+s.c*E*0) (s.b*E*1+s.e*E*0),sdO (N*E) X Y⟩
      rw [w1];simp only [cH,bU,cg]
    . rw [o1];refine ⟨show (0:Int)<=1 by decide,show (0:Int)<=0 by decide,.inl (show (1:Int)≠0 by decide),Bd.mono (show Bd 1 1 by decide) ⋯,bd0 _,up,⟨bX.mono hM,bY.mono hM⟩,⟨?_,?_⟩,⟨?_,?_⟩,⟨?_,?_⟩,⟨?_,?_⟩,⟨?_,?_⟩⟩ <;> simp only [cH,bU,cg,cY,bL]
      . exact bas.bp.1
      . exact bas.bp.2
      . exact bd0 _
      . exact bd0 _
      . exact bas.bp.1
      . exact bas.bp.2
      . exact bX
      . exact bY
      . exact bd0 _
      . exact bd0 _
  . refine ⟨⟨s.c,s.e,rfl,g.bc.mono hk,g.be.mono hk,by rw [o2]; exact c3.symm,by rw [o2]; exact c4.symm⟩,?_,?_⟩
    . rw [o2];show (⟨bw2 s N,sdO (N*E) X Y⟩:Bo)=⟨sdO (N*E) (s.a*E*0+s.c*E*1) (s.b*E*0+s.e*E*1),sdO (N*E) X Y⟩
      rw [w2];simp only [cH,bU,dc]
    . rw [o2];refine ⟨show (0:Int)<=0 by decide,show (0:Int)<=1 by decide,.inr (show (1:Int)≠0 by decide),bd0 _,Bd.mono (show Bd 1 1 by decide) ⋯,up,⟨bX.mono hM,bY.mono hM⟩,⟨?_,?_⟩,⟨?_,?_⟩,⟨?_,?_⟩,⟨?_,?_⟩,⟨?_,?_⟩⟩ <;> simp only [cH,bU,dc,cY,bL]
      . exact bd0 _
      . exact bd0 _
      . exact bas.bq.1
      . exact bas.bq.2
      . exact bas.bq.1
      . exact bas.bq.2
      . exact bd0 _
      . exact bd0 _
      . exact bX
      . exact bY
theorem LL{d:Int}(hR:Rt d)(pl:Nat):∀ {l:List Bx},(∀ b∈l,0<=cn pl b/\sgn d b.x b.y=1)->(hX pl l=0/\hY pl l=0)\/sgn d (hX pl l) (hY pl l)=1
  | [],_=>.inl ⟨rfl,rfl⟩
  | b::l,h=>by
    have h1:=h b aG;have ih:=LL hR pl (l:=l) λc hc=>h c (aB _ hc);have ex:hX pl (b::l)=cn pl b*b.x+hX pl l:=rfl;have ey:hY pl (b::l)=cn pl b*b.y+hY pl l:=rfl;rw [ex,ey];by_cases c:cn pl b=0
    . rw [c,bL,bL,dc,dc]; exact ih
    . have up:=yP hR (m:=cn pl b) (!2) h1.2;rcases ih with ⟨z1,z2⟩|z
      . rw [z1,z2,cg,cg]; exact .inr up
      . exact .inr (vW hR up z)
def nrmD(s:B4)(N E:Int)(L:List Bo):List Bo:=nrx s N (N*E) (L.map (bxD s N (N*E))) 2
theorem EM(s:B4)(N D:Int)(l:List Bx):nrx s N D l 2=(if hX 0 l=0/\hY 0 l=0 then [] else [(⟨bw1 s N,sdO D (hX 0 l) (hY 0 l)⟩:Bo)])++(if hX 1 l=0/\hY 1 l=0 then [] else [(⟨bw2 s N,sdO D (hX 1 l) (hY 1 l)⟩:Bo)]):=by
  show (([]:List Bo)++(if hX 0 l=0/\hY 0 l=0 then [] else [(⟨bwq s N 0,sdO D (hX 0 l) (hY 0 l)⟩:Bo)]))++(if hX 1 l=0/\hY 1 l=0 then [] else [(⟨bwq s N 1,sdO D (hX 1 l) (hY 1 l)⟩:Bo)])=_;rw [List.nil_append];rfl
theorem EB{s:B4}{N:Int}{l:List Bx}{b:Bo}(h:b∈nrx s N D l 2):∃ pl,pl<2/\b=⟨bwq s N pl,sdO D (hX pl l) (hY pl l)⟩/\¬ (hX pl l=0/\hY pl l=0):=by
  rw [EM] at h;rcases aE.mp h with h|h <;> split at h
  . cases h
  . next z=>exact ⟨0,by decide,ao.mp h,z⟩
  . cases h
  . next z=>exact ⟨1,by decide,ao.mp h,z⟩
theorem MQ{l:List Bx}(h:∀ b∈l,BxOk d px py qx qy M0 M b)(pl:Nat):Bd (M0+l.length) (hX pl l)/\Bd (M0+l.length) (hY pl l):=by
  constructor
  . refine FN λb hb=>?_;unfold cn;split
    . exact (h b hb).bxi.1
    . exact (h b hb).bxj.1
  . refine FN λb hb=>?_;unfold cn;split
    . exact (h b hb).bxi.2
    . exact (h b hb).bxj.2
theorem L5{l:List Bx}(hR:Rt d)(h:∀ b∈l,BxOk d px py qx qy M0 M b)(pl:Nat):(hX pl l=0/\hY pl l=0)\/sgn d (hX pl l) (hY pl l)=1 :=
  LL hR pl λb hb=>⟨by unfold cn; split; exact (h b hb).i0; exact (h b hb).j0,(h b hb).up⟩
theorem Hy{N:Int}{s:B4}{L:List Bo}(h:∀ b∈L,BK d s N E M0 M b):∀ x∈L.map (bxD s N (N*E)),BxOk d (s.a*E) (s.b*E) (s.c*E) (s.e*E) M0 M x:=λx hx=>by
  obtain ⟨b,hb,rfl⟩:=aV.mp hx;exact (h b hb).ok
theorem El{N:Int}{s:B4}{k:Nat}{L:List Bo}(hR:Rt d)(g:GB d k s)(hk:k<=900)(hN:1<=N)(hE:1<=E)(bas:Bas d M (s.a*E) (s.b*E) (s.c*E) (s.e*E))(h:∀ b∈L,BK d s N E M0 M b)(hM:M0+L.length<=M):∀ b∈nrmD s N E L,BK d s N E (M0+L.length) M b:=λb hb=>by
  obtain ⟨pl,_,rfl,nz⟩:=EB hb;have ok:=Hy h;obtain ⟨b1,b2⟩:=MQ ok pl;rw [aa] at b1 b2;exact BK.own g hk hN hE bas ((L5 hR ok pl).resolve_left nz) b1 b2 hM pl
theorem JE{k:Nat}(h:C[k]?=some c):(fL C k)=c:=by
  unfold fL;rw [h];rfl
theorem u9{N:Int}{s:B4}(tn:Bool)(hR:Rt d)(z:Sz (N*E) K' M)(hN:1<=N)(hE:1<=E)(bas:Bas d M (s.a*E) (s.b*E) (s.c*E) (s.e*E))(hC:∀ c∈C,BK d s N E M0 M c.b)(hM:M0+C.length<=M)(h1:1<=C.length) : WalkB d (N*E) M tn (As.st C) (npl (N*E) (s.a*E) (s.b*E) ((C.map Cell.b).map (bxD s N (N*E))))/\(npl (N*E) (s.a*E) (s.b*E) ((C.map Cell.b).map (bxD s N (N*E)))).length<=5*C.length /\
      (ends (As.st C) (npl (N*E) (s.a*E) (s.b*E) ((C.map Cell.b).map (bxD s N (N*E))))).ns.map (ends (As.st C) (npl (N*E) (s.a*E) (s.b*E) ((C.map Cell.b).map (bxD s N (N*E))))).g=nrmD s N E (C.map Cell.b)/\nrmD s N E (C.map Cell.b)≠[]:=by
  have hB:∀ b∈C.map Cell.b,BK d s N E M0 M b:=λb hb=>by
    obtain ⟨c,hc,rfl⟩:=aV.mp hb;exact hC c hc
  have hl:((C.map Cell.b).map (bxD s N (N*E))).length=C.length:=by rw [aa,aa]
  have st:=Kf (tn:=tn) (s0:=As.st C) hR z bas (hb:=(C.map Cell.b).map (bxD s N (N*E))) hl.symm (by rw [hl]; rfl) (λk x hx=>by
    rw [aj,aj] at hx;obtain ⟨b,hb,rfl⟩:=av.mp hx;obtain ⟨c,hc,rfl⟩:=av.mp hb;show (fL C k).b=_;rw [JE hc];exact (hC c (aw hc)).bo) (Hy hB) (by rw [hl]; exact hM) (by rw [hl]; exact h1)
  rw [hl] at st;obtain ⟨w,len,en⟩:=st;rw [<-KR hN hE] at en;refine ⟨w,len,en,λc=>?_⟩;have ok0:As.Ok C.length (As.st C) 0:=⟨cM,λn hn=>b9.mp hn,λh=>by have h:List.range C.length=[]:=h; rw [fm] at h; lia,by show (List.range C.length).length<=_; rw [cz]; lia,by show C.length<=_; lia⟩
  have okT:=zY ok0 w.walk _ (ag _);rw [au] at okT;have:(ends (As.st C) (npl (N*E) (s.a*E) (s.b*E) ((C.map Cell.b).map (bxD s N (N*E))))).ns.map (ends (As.st C) (npl (N*E) (s.a*E) (s.b*E) ((C.map Cell.b).map (bxD s N (N*E))))).g=[]:=en.trans c;exact okT.ne (List.map_eq_nil_iff.mp this)
theorem ve{g:Nat->Bo}{n:Nat}:∀ {ns:List Nat},ns.Pairwise (· < ·)->n∈ns->tbs (ns.map g)=(tbs ((ns.filter λk:Nat=>decide ((k:Int)≠(n:Int))).map g)).add (g n).tb
  | k::ns,h,hn=>by
    have h2:=List.pairwise_cons.mp h;by_cases e:k=n
    . subst e;have f:(k::ns).filter (λj:Nat=>decide ((j:Int)≠(k:Int)))=ns:=by
        rw [dw,ip (!1)];refine List.filter_eq_self.mpr λj hj=>?_;have:=h2.1 j hj;simp
        lia
      rw [f];show (g k).tb.add (tbs (ns.map g))=_;exact Tb.add_comm ..
    . have hn':n∈ns:=by simpa [ck e] using hn
      rw [dw,io (by simp; lia)];show (g k).tb.add (tbs (ns.map g))=((g k).tb.add (tbs _)).add (g n).tb;rw [ve h2.2 hn',Tb.add_assoc]
theorem Ik{k:Nat}{N:List Bo}:(List.range' k N.length).map (gN g k N)=N:=by
  refine gQ (!1) λi h1 h2=>?_;rw [d9,fS];unfold gN;rw [ip (!2),show k+1*i - k=i by lia,ae h2];rfl
theorem Lv{s:As}(h:Stp d tn s x)(ht:x.1.isT=false)(up:s.ns.Pairwise (· < ·))(lt:∀ n∈s.ns,n<s.k)(ob:∀ n∈s.ns,BoD d D M (s.g n)):tbs ((s.next x).ns.map (s.next x).g)=tbs (s.ns.map s.g):=by
  obtain ⟨e,n,m⟩:=x;have h0:=h.nms;have on:=ob n h0.hn;have om:=ob m h0.hm;have key:tbs ((s.next (e,n,m)).ns.map (s.next (e,n,m)).g)=(tbs ((yq s.ns e.names).map s.g)).add (tbs (e.new (s.g n) (s.g m))):=by
    show tbs ((yq s.ns e.names++List.range' s.k (e.new (s.g n) (s.g m)).length).map (gN s.g s.k (e.new (s.g n) (s.g m))))=_;rw [ah,yu,Ik,List.map_congr_left (g:=s.g) λj hj=>ud (lt j (mem_ndrop.mp hj).1)]
  rw [key];clear key;have one:∀ l:List Bo,tbs l=(s.g n).tb->(tbs ((yq s.ns [(n:Int)]).map s.g)).add (tbs l)=tbs (s.ns.map s.g):=λl hl=>by
    rw [hl];exact (ve (g:=s.g) up h0.hn).symm
  have two:∀ b1 b2:Bo,tbs [b1,b2]=b1.tb.add b2.tb:=λb1 b2=>by
    show b1.tb.add (b2.tb.add Tb.zero)=_;rw [Tb.add_comm b2.tb,Tb.zero_add]
  have hnm:=h0.nm;have hfit:=h.fit;have ht:e.isT=false:=ht;have hnm:e.names=if e.two then [(n:Int),(m:Int)] else [(n:Int)]:=hnm
  have hfit:e.Fit d (s.g n) (s.g m):=hfit;cases e with
  | cut al a t =>
    rw [hnm];refine one _ ?_;cases al with
    | false =>
      obtain ⟨_,ss,_,_⟩:=hfit;exact (two _ _).trans (LV on.1.ne ss.ne)
    | true =>
      obtain ⟨_,ss,_,_⟩:=hfit;exact (two _ _).trans (MH on.2.ne ss.ne)
  | shift al a k =>
    rw [hnm];have hk:k≠0:=by have:=hfit.1; lia
    refine one _ ?_;cases al with
    | false=>exact (z6 _).trans (Mn on.1.ne on.2.ne hk)
    | true=>exact (z6 _).trans (ML on.1.ne on.2.ne hk)
  | turn a=>exact nomatch ht
  | glue al a b =>
    rw [hnm];have nm:n≠m:=h0.ne rfl;have up2:(s.ns.filter λk:Nat=>decide ((k:Int)≠(n:Int))).Pairwise (· < ·):=up.filter _;have hm2:m∈s.ns.filter λk:Nat=>decide ((k:Int)≠(n:Int)):=eI.mpr ⟨h0.hm,by simp; lia⟩;have e1:=ve (g:=s.g) up h0.hn;have e2:=ve (g:=s.g) up2 hm2;show (tbs ((((s.ns.filter λk:Nat=>decide ((k:Int)≠(n:Int))).filter λk:Nat=>decide ((k:Int)≠(m:Int)))).map s.g)).add _=_;rw [e1,e2,Tb.add_assoc];congr 1;rw [Tb.add_comm];cases al with
    | false =>
      obtain ⟨eh,_,_⟩:=hfit;refine (z6 _).trans ((Mm on.1.ne om.1.ne).trans ?_);show (Bo.tb _).add (⟨(s.g m).w,(s.g n).h⟩:Bo).tb=(s.g n).tb.add (s.g m).tb;rw [show (⟨(s.g m).w,(s.g n).h⟩:Bo)=s.g m from by rw [eh]]
    | true =>
      obtain ⟨eh,_,_⟩:=hfit;refine (z6 _).trans ((Mp on.2.ne om.2.ne).trans ?_);show (Bo.tb _).add (⟨(s.g n).w,(s.g m).h⟩:Bo).tb=(s.g n).tb.add (s.g m).tb;rw [show (⟨(s.g n).w,(s.g m).h⟩:Bo)=s.g m from by rw [eh]]
theorem u5{d D:Int}{M c:Nat}{s:As}{es:DL}(h:WalkB d D M false s es)(ok:As.Ok c s 0)(ob:∀ n∈s.ns,BoD d D M (s.g n)):∀ t,t<=es.length->(∀ n∈(ends s (es.take t)).ns,BoD d D M ((ends s (es.take t)).g n))/\tbs ((ends s (es.take t)).ns.map (ends s (es.take t)).g)=tbs (s.ns.map s.g)
  | 0,_=>⟨ob,rfl⟩
  | t+1,ht=>by
    obtain ⟨ih1,ih2⟩:=u5 h ok ob t (bO ht);have ht':t<es.length:=ht;have hx:es[t]?=some es[t]:=ae ht';have st:=h t _ hx;have okt:=zY ok h.walk t (bO ht);rw [ym hx];generalize ends s (es.take t)=s1 at *
    generalize es[t]=x at *
    refine ⟨λn hn=>?_,?_⟩
    . rcases mem_next.mp hn with ⟨h1,_⟩ | ⟨h1,h2⟩
      . have:(s1.next x).g n=s1.g n:=ud (okt.lt n h1);rw [this];exact ih1 n h1
      . obtain ⟨j,rfl⟩:∃ j,n=s1.k+j:=⟨n - s1.k,by lia⟩
        have hj:j<(x.1.new (s1.g x.2.1) (s1.g x.2.2)).length:=by rw [Dd.puts_new]; lia
        have e:(s1.next x).g (s1.k+j)=(x.1.new (s1.g x.2.1) (s1.g x.2.2))[j]:=yA (ae hj);rw [e];exact st.nw _ (cR hj)
    . refine (Lv (D:=D) (M:=M) st.st ?_ okt.up okt.lt ih1).trans ih2;cases e:x.1.isT with
      | false=>rfl
      | true=>exact nomatch st.st.tn e
theorem Kr(h1:1<=C.length):As.Ok C.length (As.st C) 0:=⟨cM,λn hn=>b9.mp hn,λh=>by have h:List.range C.length=[]:=h; rw [fm] at h; lia,by show (List.range C.length).length<=_; rw [cz]; lia,by show C.length<=_; lia⟩
theorem BK.bod{N:Int}{s:B4}{b:Bo}(hR:Rt d)(hD:1<=N*E)(h:BK d s N E M0 M b)(wu:sgn d b.w.x b.w.y=1):BoD d (N*E) M b:=by
  have ew:b.w=sdO (N*E) (s.a*E*(bxD s N (N*E) b).i+s.c*E*(bxD s N (N*E) b).j) (s.b*E*(bxD s N (N*E) b).i+s.e*E*(bxD s N (N*E) b).j):=congrArg Bo.w h.bo;have eh:b.h=sdO (N*E) (bxD s N (N*E) b).x (bxD s N (N*E) b).y:=congrArg Bo.h h.bo;have r:=yh (D:=N*E) (X:=s.a*E*(bxD s N (N*E) b).i+s.c*E*(bxD s N (N*E) b).j) (Y:=s.b*E*(bxD s N (N*E) b).i+s.e*E*(bxD s N (N*E) b).j) hD;rw [<-ew] at r;refine ⟨⟨r.z1,r.g,wu,_,_,h.ok.bw.1,h.ok.bw.2,r.x,r.y⟩,?_⟩;rw [eh];exact y9 hR hD h.ok.up h.ok.bh.1 h.ok.bh.2
theorem vw(hD:1<=D):(sdO D X Y).p=Rat.divInt X D/\(sdO D X Y).q=Rat.divInt Y D:=by
  have r:=yh (D:=D) (X:=X) (Y:=Y) hD;have z:=r.z1;exact ⟨zE (!2) (!2) r.x,zE (!2) (!2) r.y⟩
def TbX(s:B4)(E D:Int)(l:List Bx):Tb:=⟨Rat.divInt (s.a*E*hX 0 l+s.c*E*hX 1 l) (D*D),Rat.divInt (s.a*E*hY 0 l+s.c*E*hY 1 l) (D*D),Rat.divInt (s.b*E*hX 0 l+s.e*E*hX 1 l) (D*D),Rat.divInt (s.b*E*hY 0 l+s.e*E*hY 1 l) (D*D)⟩
theorem uy{d N E:Int}{s:B4}{M0 M:Nat}(hD:1<=N*E):∀ {L:List Bo},(∀ b∈L,BK d s N E M0 M b)->tbs L=TbX s E (N*E) (L.map (bxD s N (N*E)))
  | [],_=>by
    unfold TbX;show Tb.zero=_;simp only [hX,hY,sI,cJ,bU,cg,de];rfl
  | b::L,h=>by
    have hb:=h b aG;have ih:=uy hD (L:=L) λc hc=>h c (aB _ hc);have n0:N*E*(N*E)≠0:=ar (!2) (!2);have ew:b.w=sdO (N*E) (s.a*E*(bxD s N (N*E) b).i+s.c*E*(bxD s N (N*E) b).j) (s.b*E*(bxD s N (N*E) b).i+s.e*E*(bxD s N (N*E) b).j):=congrArg Bo.w hb.bo;have eh:b.h=sdO (N*E) (bxD s N (N*E) b).x (bxD s N (N*E) b).y:=congrArg Bo.h hb.bo;have e1:b.w.p=_:=(congrArg Sd.p ew).trans (vw hD).1;have e2:b.w.q=_:=(congrArg Sd.q ew).trans (vw hD).2;have e3:b.h.p=_:=(congrArg Sd.p eh).trans (vw hD).1;have e4:b.h.q=_:=(congrArg Sd.q eh).trans (vw hD).2;show b.tb.add (tbs L)=_;rw [ih];unfold TbX;show (⟨b.w.p*b.h.p+_,b.w.p*b.h.q+_,b.w.q*b.h.p+_,b.w.q*b.h.q+_⟩:Tb)=_;rw [e1,e2,e3,e4,<-yF,<-yF,<-yF,<-yF,xA n0,xA n0,xA n0,xA n0];have cx:∀ pl,hX pl ((b::L).map (bxD s N (N*E)))=cn pl (bxD s N (N*E) b)*(bxD s N (N*E) b).x+hX pl (L.map (bxD s N (N*E))):=λpl=>rfl;have cy:∀ pl,hY pl ((b::L).map (bxD s N (N*E)))=cn pl (bxD s N (N*E) b)*(bxD s N (N*E) b).y+hY pl (L.map (bxD s N (N*E))):=λpl=>rfl;rw [cx,cx,cy,cy,show cn 0 (bxD s N (N*E) b)=(bxD s N (N*E) b).i from rfl,show cn 1 (bxD s N (N*E) b)=(bxD s N (N*E) b).j from rfl];generalize (bxD s N (N*E) b).i=i;generalize (bxD s N (N*E) b).j=j;generalize (bxD s N (N*E) b).x=x;generalize (bxD s N (N*E) b).y=y;generalize hX 0 (L.map (bxD s N (N*E)))=x0;generalize hX 1 (L.map (bxD s N (N*E)))=x1;generalize hY 0 (L.map (bxD s N (N*E)))=y0;generalize hY 1 (L.map (bxD s N (N*E)))=y1;clear cx cy e1 e2 e3 e4 ew eh hb h ih;refine Tb.ext ?_ ?_ ?_ ?_ <;> (dsimp only; congr 1; grind)
variable {x' y':Int}
theorem lin2{k:Nat}{s:B4}{x:Int}(g:GB d k s)(hE:1<=E)(h1:s.a*E*x+s.c*E*y=s.a*E*x'+s.c*E*y')(h2:s.b*E*x+s.e*E*y=s.b*E*x'+s.e*E*y'):x=x'/\y=y':=by
  have n:E≠0:=by lia
  have a1:s.a*(x - x')+s.c*(y - y')=0:=by
    have:E*(s.a*(x - x')+s.c*(y - y'))=0:=by grind
    rcases dQ.mp this with z|z
    . exact absurd z n
    . exact z
  have a2:s.b*(x - x')+s.e*(y - y')=0:=by
    have:E*(s.b*(x - x')+s.e*(y - y'))=0:=by grind
    rcases dQ.mp this with z|z
    . exact absurd z n
    . exact z
  have dt:s.a*s.e - s.b*s.c≠0:=by
    rcases g.det with z|z <;> lia
  have b1:(s.a*s.e - s.b*s.c)*(x - x')=0:=by grind
  have b2:(s.a*s.e - s.b*s.c)*(y - y')=0:=by grind
  constructor
  . rcases dQ.mp b1 with z | z
    . exact absurd z dt
    . lia
  . rcases dQ.mp b2 with z | z
    . exact absurd z dt
    . lia
theorem Ds{N:Int}{s:B4}{k M0':Nat}{L L':List Bo}(g:GB d k s)(hN:1<=N)(hE:1<=E)(h:∀ b∈L,BK d s N E M0 M b)(h':∀ b∈L',BK d s N E M0' M' b)(e:tbs L=tbs L'):nrmD s N E L=nrmD s N E L':=by
  have hD:1<=N*E:=aI (!2) (!2);have n0:N*E*(N*E)≠0:=ar (!2) (!2);rw [uy hD h,uy hD h'] at e;have cut:∀ {a b:Int},Rat.divInt a (N*E*(N*E))=Rat.divInt b (N*E*(N*E))->a=b:=λz=>ay n0 ((aC n0 n0).mp z);obtain ⟨x0,x1⟩:=lin2 g hE (cut (congrArg Tb.a e)) (cut (congrArg Tb.c e));obtain ⟨y0,y1⟩:=lin2 g hE (cut (congrArg Tb.b e)) (cut (congrArg Tb.e e));exact FJ ⟨x0,y0⟩ ⟨x1,y1⟩
theorem Gg{N:Int}{s:B4}{k:Nat}{L:List Bo}(g:GB d k s)(hN:1<=N)(hE:1<=E):(nrmD s N E L).map (bxD s N (N*E))=fbx (L.map (bxD s N (N*E))):=by
  unfold nrmD fbx;rw [EM];generalize L.map (bxD s N (N*E))=l;rw [ah];congr 1
  . split
    . rfl
    . rw [aR,cJ,(Fl g hN hE).1]
  . split
    . rfl
    . rw [aR,cJ,(Fl g hN hE).2]
theorem Il{N:Int}{s:B4}{k:Nat}{L:List Bo}(hR:Rt d)(g:GB d k s)(hk:k<=900)(hN:1<=N)(hE:1<=E)(bas:Bas d M (s.a*E) (s.b*E) (s.c*E) (s.e*E))(h:∀ b∈L,BK d s N E M0 M b)(hM:M0+L.length<=M):tbs (nrmD s N E L)=tbs L:=by
  have hD:1<=N*E:=aI (!2) (!2);rw [uy hD h,uy hD (El hR g hk hN hE bas h hM),Gg g hN hE];obtain ⟨a,b,c,e⟩:=MM (L.map (bxD s N (N*E)));unfold TbX;rw [a,b,c,e]
theorem uE{d D:Int}{M c:Nat}{tn:Bool}{s:As}{es:DL}(h:WalkB d D M tn s es)(ev:Ever d D M s):∀ t,t<=es.length->Ever d D M (ends s (es.take t))
  | 0,_=>ev
  | t+1,ht=>by
    have ih:=uE (c:=c) h ev t (bO ht);have ht':t<es.length:=ht;have hx:es[t]?=some es[t]:=ae ht';have st:=h t _ hx;rw [ym hx];intro n hn;rw [xo] at hn;generalize ends s (es.take t)=s1 at *
    generalize es[t]=x at *
    by_cases c:n<s1.k
    . have:(s1.next x).g n=s1.g n:=ud c;rw [this];exact ih n c
    . obtain ⟨j,rfl⟩:∃ j,n=s1.k+j:=⟨n - s1.k,by lia⟩
      have hj:j<(x.1.new (s1.g x.2.1) (s1.g x.2.2)).length:=by rw [Dd.puts_new]; lia
      have e:(s1.next x).g (s1.k+j)=(x.1.new (s1.g x.2.1) (s1.g x.2.2))[j]:=yA (ae hj);rw [e];exact st.nw _ (cR hj)
def Dd.rn(r:Nat->Nat):Dd->Dd
  | .cut al n s=>.cut al (r n.toNat:Nat) s
  | .glue al n m=>.glue al (r n.toNat:Nat) (r m.toNat:Nat)
  | .shift al n k=>.shift al (r n.toNat:Nat) k
  | .turn n=>.turn (r n.toNat:Nat)
def rnx(r:Nat->Nat)(x:Dd×Nat×Nat):Dd×Nat×Nat:=(x.1.rn r,r x.2.1,r x.2.2)
structure Led(r:Nat->Nat)(s t:As):Prop where
  mono:∀ i j,i<j->r i<r j
  ns:t.ns=s.ns.map r
  g:∀ n,n<s.k->t.g (r n)=s.g n
  k:∀ i,r (s.k+i)=t.k+i
theorem Led.inj{s t:As}(h:Led r s t){i j:Nat}(e:r i=r j):i=j:=by
  rcases Nat.lt_trichotomy i j with c|c|c
  . have:=h.mono i j c; lia
  . exact c
  . have:=h.mono j i c; lia
theorem FI(r:Nat->Nat)(e:Dd):(e.rn r).two=e.two:=by cases e <;> rfl
theorem JV(r:Nat->Nat)(e:Dd):(e.rn r).isT=e.isT:=by cases e <;> rfl
theorem Ld(r:Nat->Nat)(e:Dd)(b c:Bo):(e.rn r).new b c=e.new b c:=by
  cases e with
  | cut al n s=>cases al <;> rfl
  | glue al n m=>cases al <;> rfl
  | shift al n k=>cases al <;> rfl
  | turn n=>rfl
theorem Ck{s:As}{n m:Nat}(h:Nms s e n m):(e.rn r).names=if e.two then [((r n:Nat):Int),((r m:Nat):Int)] else [((r n:Nat):Int)]:=by
  have hn:=h.nm;cases e with
  | glue al a b =>
    simp [Dd.names,Dd.two] at hn;obtain ⟨rfl,rfl⟩:=hn;rfl
  | cut al a t =>
    simp [Dd.names,Dd.two,Dd.n] at hn;subst hn;rfl
  | shift al a t =>
    simp [Dd.names,Dd.two,Dd.n] at hn;subst hn;rfl
  | turn a =>
    simp [Dd.names,Dd.two,Dd.n] at hn;subst hn;rfl
theorem tU{s t:As}(h:Led r s t)(ns:List Nat)(n:Nat):(ns.map r).filter (λk:Nat=>decide ((k:Int)≠((r n:Nat):Int)))=(ns.filter λk:Nat=>decide ((k:Int)≠(n:Int))).map r:=by
  rw [List.filter_map];congr 1;refine List.filter_congr λk _=>?_;show decide (((r k:Nat):Int)≠((r n:Nat):Int))=decide ((k:Int)≠(n:Int));by_cases c:k=n
  . subst c; simp
  . have:r k≠r n:=λz=>c (h.inj z);rw [iH (!2),iH (!2)]
theorem II{s t:As}{n m:Nat}(h:Led r s t)(hn:Nms s e n m):yq t.ns (e.rn r).names=(yq s.ns e.names).map r:=by
  rw [Ck hn,hn.nm,h.ns];cases e.two with
  | true =>
    show ((s.ns.map r).filter _).filter _=((s.ns.filter _).filter _).map r;rw [tU h,tU h]
  | false =>
    show (s.ns.map r).filter _=(s.ns.filter _).map r;rw [tU h]
theorem Led.step{s t:As}(h:Led r s t)(lt:∀ n∈s.ns,n<s.k)(st:Stp d tn s x):Stp d tn t (rnx r x)/\Led r (s.next x) (t.next (rnx r x)):=by
  obtain ⟨e,n,m⟩:=x;have n0:=st.nms;have gn:t.g (r n)=s.g n:=h.g n (lt n n0.hn);have gm:t.g (r m)=s.g m:=h.g m (lt m n0.hm);have nw:(rnx r (e,n,m)).1.new (t.g (r n)) (t.g (r m))=e.new (s.g n) (s.g m):=by
    show (e.rn r).new _ _=_;rw [Ld,gn,gm]
  refine ⟨⟨⟨?_,?_,?_,?_,?_⟩,?_,?_,?_⟩,h.mono,?_,?_,?_⟩
  . show (e.rn r).names=if (e.rn r).two then _ else _
    rw [FI];exact Ck n0
  . show r n∈t.ns;rw [h.ns]; exact aU n0.hn
  . show r m∈t.ns;rw [h.ns]; exact aU n0.hm
  . intro z c;exact n0.ne (by rw [<-z]; exact (FI r e).symm) (h.inj c)
  . intro z;show r m=r n;exact congrArg r (n0.eq (by rw [<-z]; exact (FI r e).symm))
  . have:=st.ok;show (e.rn r).Ok;cases e <;> exact this
  . have:=st.fit;show (e.rn r).Fit d (t.g (r n)) (t.g (r m));rw [gn,gm];cases e with
    | cut al a s=>cases al <;> exact this
    | glue al a b=>cases al <;> exact this
    | shift al a k=>cases al <;> exact this
    | turn a=>exact this
  . intro z;exact st.tn (by rw [<-z]; exact (JV r e).symm)
  . show yq t.ns (e.rn r).names++List.range' t.k ((e.rn r).new (t.g (r n)) (t.g (r m))).length=(yq s.ns e.names++List.range' s.k (e.new (s.g n) (s.g m)).length).map r;rw [II h n0,ah,show (e.rn r).new (t.g (r n)) (t.g (r m))=e.new (s.g n) (s.g m) from nw];congr 1;refine gQ (!1) λi h1 h2=>?_;rw [fS,d9,fS,Nat.one_mul,h.k]
  . intro j hj;show gN t.g t.k ((e.rn r).new (t.g (r n)) (t.g (r m))) (r j)=gN s.g s.k (e.new (s.g n) (s.g m)) j;rw [show (e.rn r).new (t.g (r n)) (t.g (r m))=e.new (s.g n) (s.g m) from nw];have hj:j<s.k+(e.new (s.g n) (s.g m)).length:=hj;have k0:=h.k 0;simp only [h7] at k0;by_cases c:j<s.k
    . have:=h.mono j s.k c;rw [ud c,ud (!2),h.g j c]
    . obtain ⟨i,rfl⟩:∃ i,j=s.k+i:=⟨j - s.k,by lia⟩
      have hi:i<(e.new (s.g n) (s.g m)).length:=by lia
      rw [h.k,yA (ae hi),yA (ae hi)]
  . intro i;show r (s.k+(e.new (s.g n) (s.g m)).length+i)=t.k+((e.rn r).new (t.g (r n)) (t.g (r m))).length+i;rw [show (e.rn r).new (t.g (r n)) (t.g (r m))=e.new (s.g n) (s.g m) from nw,fH,h.k,fH]
theorem GC{s t:As}{fs:DL}{B:Nat}(h:Led r s t)(ok:As.Ok B s 0)(w:Walk d tn s fs):Walk d tn t (fs.map (rnx r))/\∀ i,i<=fs.length->Led r (ends s (fs.take i)) (ends t ((fs.map (rnx r)).take i)):=by
  have key:∀ i,i<=fs.length->Led r (ends s (fs.take i)) (ends t ((fs.map (rnx r)).take i)):=λi=>by
    induction i with
    | zero=>exact λ_=>h
    | succ i ih =>
      intro hi;have hi':i<fs.length:=hi;have hx:fs[i]?=some fs[i]:=ae hi';have hx':(fs.map (rnx r))[i]?=some (rnx r fs[i]):=by rw [aj,hx]; rfl
      rw [ym hx,ym hx'];exact ((ih (bO hi)).step (zY ok w i (bO hi)).lt (w i _ hx)).2
  refine ⟨λi y hy=>?_,key⟩;rw [aj] at hy;obtain ⟨x,hx,rfl⟩:=av.mp hy;have hi:=(af.mp hx).1;exact ((key i (bO hi)).step (zY ok w i (bO hi)).lt (w i x hx)).1
theorem FW{s:As}{fs:DL}(h:Walk d tn s es)(g:Walk d tn (ends s es) fs):Walk d tn s (es++fs):=λi x hx=>by
  by_cases c:i<es.length
  . rw [aT c] at hx;rw [cT (!2)];exact h i x hx
  . rw [aM (!2)] at hx;have e:(es++fs).take i=es++fs.take (i - es.length):=by rw [gP,bT (!2)]
    rw [e,yD];exact g _ x hx
def nmr(s:As)(i:Nat):Nat:=if i<s.ns.length then s.ns[i]?.getD 0 else s.k+(i - s.ns.length)
theorem led0{s:As}{bs:List Bo}(up:s.ns.Pairwise (· < ·))(lt:∀ n∈s.ns,n<s.k)(hb:s.ns.map s.g=bs):Led (nmr s) (As.sb bs) s:=by
  have hl:bs.length=s.ns.length:=by rw [<-hb,aa]
  have at':∀ i (h:i<s.ns.length),nmr s i=s.ns[i]:=λi h=>by unfold nmr; rw [io h,ae h]; rfl
  refine ⟨λi j hij=>?_,?_,λn hn=>?_,λi=>?_⟩
  . by_cases cj:j<s.ns.length
    . rw [at' i (!2),at' j cj];exact gv.mp up i j (!2) cj hij
    . by_cases ci:i<s.ns.length
      . rw [at' i ci];have:=lt _ (cR ci);unfold nmr;rw [ip cj]
        lia
      . unfold nmr;rw [ip ci,ip cj]
        lia
  . show s.ns=(List.range bs.length).map (nmr s);rw [hl];refine gQ (!1) λi h1 h2=>?_;rw [d9,List.getElem_range,at' i h1]
  . have hn:n<bs.length:=hn;show s.g (nmr s n)=bs[n]?.getD _;rw [at' n (!2),ae hn];subst hb;show _=(s.ns.map s.g)[n]
    rw [d9]
  . show nmr s (bs.length+i)=s.k+i;unfold nmr;rw [ip (!2)]
    lia
structure Plan(d:Int)(tn:Bool)(D:Int)(M:Nat)(bs bs':List Bo)(es:DL)(qs:List Nat):Prop where
  w:Walk d tn (As.sb bs) es
  b:∀ i,i<=es.length->∀ n∈(ends (As.sb bs) (es.take i)).ns,BoD d D M ((ends (As.sb bs) (es.take i)).g n)
  p:qs.Perm (List.range bs'.length)
  l:(ends (As.sb bs) es).ns.length=bs'.length
  g:∀ k q:Nat,qs[k]?=some q->∃ n,(ends (As.sb bs) es).ns[q]?=some n/\bs'[k]?=some ((ends (As.sb bs) es).g n)
variable {qs:List Nat}
theorem Ji{B:Nat}{bs bs' F:List Bo}{fs:DL}(h1:1<=bs.length)(hB:bs.length<=B)(w:Walk d tn (As.sb bs) es)(wb:∀ i,i<=es.length->∀ n∈(ends (As.sb bs) (es.take i)).ns,BoD d D M ((ends (As.sb bs) (es.take i)).g n))(e:(ends (As.sb bs) es).ns.map (ends (As.sb bs) es).g=F)(T:Turned d tn D M bs' F fs qs) : Plan d tn D M bs bs' (es++fs.map (rnx (nmr (ends (As.sb bs) es)))) qs:=by
  have ok:=zY (ul h1 hB) w es.length (ag _);rw [au] at ok;have l0:=led0 ok.up ok.lt e;have F1:1<=F.length:=by
    rw [<-e,aa];exact cG.mpr ok.ne
  obtain ⟨w2,key⟩:=GC l0 (ul F1 (ag _)) T.w;have kN:=key fs.length (ag _);rw [au,show (fs.map (rnx (nmr (ends (As.sb bs) es)))).take fs.length=fs.map (rnx (nmr (ends (As.sb bs) es))) by rw [<-aa (f:=rnx (nmr (ends (As.sb bs) es))),au]] at kN;have okF:=zY (ul F1 (ag _)) T.w fs.length (ag _);rw [au] at okF;refine ⟨FW w w2,λi hi n hn=>?_,T.p,?_,λk q hq=>?_⟩
  . by_cases c:i<=es.length
    . rw [cT c] at hn ⊢;exact wb i c n hn
    . have et:(es++fs.map (rnx (nmr (ends (As.sb bs) es)))).take i=es++(fs.map (rnx (nmr (ends (As.sb bs) es)))).take (i - es.length):=by rw [gP,bT (!2)]
      rw [ai,aa] at hi;have hj:i - es.length<=fs.length:=by lia
      have kj:=key (i - es.length) hj;have okj:=zY (ul F1 (ag _)) T.w (i - es.length) hj;rw [et,yD] at hn ⊢;rw [kj.ns] at hn;obtain ⟨m,hm,rfl⟩:=aV.mp hn;rw [kj.g m (okj.lt m hm)];exact T.b _ hj m hm
  . rw [yD,kN.ns,aa];exact T.l
  . obtain ⟨n,h1,h2⟩:=T.g k q hq;rw [yD];refine ⟨nmr (ends (As.sb bs) es) n,?_,?_⟩
    . rw [kN.ns,aj,h1]; rfl
    . rw [h2,kN.g n (okF.lt n (aw h1))]
theorem F0{f:Int}(hf:1<=f)(hz:1<=z)(h1:f∣D)(h2:z∣D):lcmI f z∣D:=by
  obtain ⟨s,u,v,hs,s1,u1,v1,ez,ez',fu,fv,guv⟩:=B3 hf hz;unfold lcmI;rw [<-hs,fu];obtain ⟨t,ht⟩:=h2;have h3:u∣v*t:=by
    obtain ⟨w,hw⟩:=h1;refine ⟨w,ca (show s≠0 by lia) ?_⟩;have e1:s*(v*t)=D:=by rw [ht,ez',am]
    have e2:s*(u*w)=D:=by rw [hw,ez,am]
    rw [e1,e2]
  have h4:u∣t:=bK.mp (fz (show Nat.gcd u.natAbs v.natAbs=1 from guv) (by rw [<-cB]; exact bK.mpr h3));obtain ⟨w,hw⟩:=h4;exact ⟨w,by rw [ht,hw]; grind⟩
theorem BE{D:Int}:∀ (zs:List Int) (f:Int),1<=f->f∣D->(∀ z∈zs,1<=z/\z∣D)->zs.foldl lcmI f∣D
  | [],_,_,h,_=>h
  | z::zs,f,hf,h,hz=>by
    have h1:=hz z aG;exact BE zs _ (wE hf h1.1).1 (F0 hf h1.1 h h1.2) λu hu=>hz u (aB _ hu)
theorem vV:∀ (zs:List Int) (f:Int),1<=f->(∀ z∈zs,1<=z)->1<=zs.foldl lcmI f/\f∣zs.foldl lcmI f/\∀ z∈zs,z∣zs.foldl lcmI f
  | [],_,h,_=>⟨h,cL _,λz hz=>absurd hz (!1)⟩
  | z::zs,f,hf,h=>by
    obtain ⟨a1,a2,a3,_⟩:=wE hf (h z aG);obtain ⟨b1,b2,b3⟩:=vV zs (lcmI f z) a1 λu hu=>h u (aB _ hu);exact ⟨b1,aH a2 b2,λu hu=>by
      rcases a7.mp hu with e|e
      . subst e; exact aH a3 b2
      . exact b3 u e⟩
theorem So.dvd{s:Sd}(h:So d D M s)(hD:1<=D):s.z∣D:=by
  obtain ⟨X,Y,_,_,hx,hy⟩:=h.r;rw [(zS h.z1 h.g (show D≠0 by lia) hx hy).2.2];exact ⟨gd X Y D,lN_mul.symm⟩
theorem Bd.dvd_le{k:Nat}{b:Int}(h:Bd k b)(hb:1<=b)(d:a∣b):Bd k a:=by
  obtain ⟨t,ht⟩:=d;refine h.of_le ?_;rw [ht,cB];refine fe _ ?_;have:t≠0:=λz=>by rw [z,bU] at ht; lia
  lia
theorem So.num{N:Int}{s:Sd}(h:So d D M s)(hD:1<=D)(ND:N∣D)(zN:s.z∣N):Bd M (N / s.z*s.x)/\Bd M (N / s.z*s.y):=by
  obtain ⟨X,Y,bX,bY,hx,hy⟩:=h.r;obtain ⟨t,ht⟩:=ND;obtain ⟨u,hu⟩:=zN;have z1:=h.z1;have eu:N / s.z=u:=by rw [hu]; exact cV _ (!2)
  have t0:t≠0:=λz=>by rw [z,bU] at ht; lia
  have ex:u*s.x*t=X:=ay (show s.z≠0 by lia) (by rw [<-hx,ht,hu]; grind);have ey:u*s.y*t=Y:=ay (show s.z≠0 by lia) (by rw [<-hy,ht,hu]; grind);rw [eu];exact ⟨bX.of_le (by rw [<-ex,cB (u*s.x)]; exact fe _ (!2)),bY.of_le (by rw [<-ey,cB (u*s.y)]; exact fe _ (!2))⟩
variable {kN:Nat}
theorem So.num2{N:Int}{s:Sd}(h:So d E M s)(hE:1<=E)(bN:Bd kN N):Bd (kN+M) (N*E / s.z*s.x)/\Bd (kN+M) (N*E / s.z*s.y):=by
  obtain ⟨X,Y,bX,bY,hx,hy⟩:=h.r;obtain ⟨u,hu⟩:=h.dvd hE;have z1:=h.z1;have eu:N*E / s.z=N*u:=by rw [hu,show N*(s.z*u)=s.z*(N*u) by grind]; exact cV _ (!2)
  have ex:u*s.x=X:=ay (show s.z≠0 by lia) (by rw [<-hx,hu]; grind);have ey:u*s.y=Y:=ay (show s.z≠0 by lia) (by rw [<-hy,hu]; grind);rw [eu,am,am,ex,ey];exact ⟨bN.mul bX,bN.mul bY⟩
theorem BK.so{N:Int}{k Mw Mh:Nat}{s:B4}{b:Bo}(hR:Rt d)(g:GB d k s)(hN:1<=N)(hE:1<=E)(hD:1<=D)(ow:So d D Mw b.w)(wd:b.w.z∣N)(ND:N∣D)(oh:So d E Mh b.h)(sv:s.srv b.w.x b.w.y)(bN:Bd kN N)(bE:Bd kE E)(l1:Mw<=900)(l2:Mw+k+2<=1024)(l3:kN+Mh<=M)(l4:k+kE+(Mw+k+2)+1<=M)(l5:Mw+k+2+(kN+Mh)<=M0):BK d s N E M0 M b:=by
  obtain ⟨n1,n2⟩:=ow.num hD ND wd;obtain ⟨m1,m2⟩:=oh.num2 hE bN;obtain ⟨t1,_⟩:=DU ow.z1 hN bN wd;exact BK.gen (k:=k) (kw:=Mw) (kh:=kN+Mh) (kE:=kE) hR g hN hE ow.z1 ow.g ow.up wd oh.z1 oh.g oh.up (aH (oh.dvd hE) (b7 _ _)) (λpl=>by
    have:=(Fr t1).mpr sv;unfold mny;split
    . exact this.1
    . exact this.2) bE n1 n2 m1 m2 l1 l2 l3 l4 l5
theorem Ex{K:iJ}{Q:VK}{a b:Addr}{xs:List V}(h:H a=some (.tup xs))(h':H b=some (.tup ys))(n:xs≠[])(n':ys≠[])(z:xs.length+ys.length<=1000)(q:∀ (p:Addr) (H2:Hp),H p=none->Same H H2->H2 p=some (.tup (xs++ys))->Q (.ref p) H2):Lg K (.ref a) (.ref b) H Q :=
  ⟨a,b,_,_,rfl,rfl,SqT.of h,SqT.of h',n,DT z,λe=>absurd e n',λ_ p hp=>q p _ hp (zC hp _) zj⟩
theorem GY{K:iJ}{Q:VK}{a:Addr}{x y z:V}(h:H a=some (.tup [x,y,z]))(q:∀ (p:Addr) (H2:Hp),Same H H2->H2 p=some (.tup [z])->Q (.ref p) H2):rSlT K (.ref a) (some 2) none H Q :=
  ⟨a,_,rfl,SqT.of h,show ¬ (HT.sIx 3 0 (some 2)=0/\HT.sIx 3 3 none=3) by decide,λp hp=>q p _ (zC hp _) zj⟩
theorem Fa(e:Dd):inV (.str e.wd) [.str (Str.ofString "beside"),.str (Str.ofString "atop")]=e.two:=by
  cases e with
  | cut al n s =>
    cases al
    . exact (show inV (V.str (Str.ofString "across")) [.str (Str.ofString "beside"),.str (Str.ofString "atop")]=false by decide +kernel)
    . exact (show inV (V.str (Str.ofString "along")) [.str (Str.ofString "beside"),.str (Str.ofString "atop")]=false by decide +kernel)
  | glue al n m =>
    cases al
    . exact (show inV (V.str (Str.ofString "beside")) [.str (Str.ofString "beside"),.str (Str.ofString "atop")]=true by decide +kernel)
    . exact (show inV (V.str (Str.ofString "atop")) [.str (Str.ofString "beside"),.str (Str.ofString "atop")]=true by decide +kernel)
  | shift al n k =>
    cases al
    . exact (show inV (V.str (Str.ofString "stack")) [.str (Str.ofString "beside"),.str (Str.ofString "atop")]=false by decide +kernel)
    . exact (show inV (V.str (Str.ofString "spread")) [.str (Str.ofString "beside"),.str (Str.ofString "atop")]=false by decide +kernel)
  | turn n=>exact (show inV (V.str (Str.ofString "turn")) [.str (Str.ofString "beside"),.str (Str.ofString "atop")]=false by decide +kernel)
def nmI(r:Nat->Nat)(k:Nat):List V:=((List.range k).map λj=>((r j:Nat):Int)).map V.int
theorem B1{k n:Nat}(h:n<k):atI (nmI r k) (n:Int)=some (.int ((r n:Nat):Int)):=xt (by
  unfold nmI;rw [aj,aj,dn h];rfl)
theorem Gd{k:Nat}:nmI r (k+1)=nmI r k++[.int ((r k:Nat):Int)]:=by
  unfold nmI;rw [eQ,ah,ah];rfl
def cmT(k:Nat)(t:Tb):Rat:=if k=0 then t.a else if k=1 then t.b else if k=2 then t.c else t.e
theorem Jt{s:Tb}(h:∀ k,k<4->cmT k s=cmT k t):s=t:=Tb.ext (h 0 ⋯) (h 1 ⋯) (h 2 ⋯) (h 3 ⋯)
theorem KK{p:Addr}(h:TbAt H p t){i j:Nat}(hi:i<2)(hj:j<2):∃ (xs ys:List V) (rr ff:Addr),H p=some (.tup xs)/\atI xs (0+(i:Int))=some (.ref rr)/\H rr=some (.tup ys)/\atI ys (0+(j:Int))=some (.ref ff)/\H ff=some (.tup [.int (cmT (2*i+j) t).num,.int (cmT (2*i+j) t).den]):=by
  obtain ⟨r0,r1,f0,f1,f2,f3,hp,h0,h1,g0,g1,g2,g3⟩:=h;have i2:i=0\/i=1:=by lia
  have j2:j=0\/j=1:=by lia
  rcases i2 with rfl|rfl <;> rcases j2 with rfl|rfl
  . exact ⟨_,_,r0,f0,hp,rfl,h0,rfl,g0⟩
  . exact ⟨_,_,r0,f1,hp,rfl,h0,rfl,g1⟩
  . exact ⟨_,_,r1,f2,hp,rfl,h1,rfl,g2⟩
  . exact ⟨_,_,r1,f3,hp,rfl,h1,rfl,g3⟩
structure Fu(s t:Tb)(i j:Nat):Prop where
  i2:i<2
  j2:j<2
  eq:∀ k,k<2*i+j->cmT k s=cmT k t
  ne:cmT (2*i+j) s≠cmT (2*i+j) t
structure S19(s:Sd):Prop where
  nz:s.z≠0
  bx:Bd 1900 s.x
  by':Bd 1900 s.y
  bz:Bd 1900 s.z
def pqS(x y:Rat):Sd:=⟨lA (x.num*(y.den:Int)) (y.num*(x.den:Int)) ((x.den:Int)*(y.den:Int)),lB (x.num*(y.den:Int)) (y.num*(x.den:Int)) ((x.den:Int)*(y.den:Int)),lN (x.num*(y.den:Int)) (y.num*(x.den:Int)) ((x.den:Int)*(y.den:Int))⟩
def hbS(t:Tb)(w:Sd):Sd:=if w.p.num≠0 then pqS (t.a*w.p⁻¹) (t.b*w.p⁻¹) else pqS (t.c*w.q⁻¹) (t.e*w.q⁻¹)
theorem den1(x:Rat):1<=(x.den:Int):=by have:=x.den_pos; lia
theorem xB(x:Rat):Int.gcd x.num (x.den:Int)=1:=x.reduced
theorem S19.p8{s:Sd}(h:S19 s):Bq 8000 s.p:=(va h.nz h.bx h.bz).mono ⋯
theorem S19.q8{s:Sd}(h:S19 s):Bq 8000 s.q:=(va h.nz h.by' h.bz).mono ⋯
theorem S19.tb{b:Bo}(h:S19 b.w/\S19 b.h):b.tb.Bt 4000 4000:=by
  have w1:=wj h.1.nz h.1.bx h.1.bz;have w2:=wj h.1.nz h.1.by' h.1.bz;have h1:=wj h.2.nz h.2.bx h.2.bz;have h2:=wj h.2.nz h.2.by' h.2.bz;exact ⟨(Br.mul w1 h1).mono ⋯ ⋯,(Br.mul w1 h2).mono ⋯ ⋯,(Br.mul w2 h1).mono ⋯ ⋯,(Br.mul w2 h2).mono ⋯ ⋯⟩
theorem BoD.s19{b:Bo}(h:BoD d D M b)(D1:1<=D)(bD:Bd K' D)(hM:M<=1900)(hK:K'<=1900):S19 b.w/\S19 b.h:=by
  have a:=h.1.sk D1 bD;have c:=h.2.sk D1 bD;exact ⟨⟨h.1.ne,a.bx.mono hM,a.by'.mono hM,a.bz.mono hK⟩,⟨h.2.ne,c.bx.mono hM,c.by'.mono hM,c.bz.mono hK⟩⟩
theorem tF{x y:Rat}(hx:Bq 940 x)(hy:Bq 940 y):S19 (pqS x y):=by
  have n:(x.den:Int)*(y.den:Int)≠0:=ar (by have:=den1 x; lia) (by have:=den1 y; lia);exact ⟨by have:=l_n (a:=x.num*(y.den:Int)) (b:=y.num*(x.den:Int)) n; show lN _ _ _≠0; lia,Bd.fdiv ((hx.1.mul hy.2).mono ⋯) _,Bd.fdiv ((hy.1.mul hx.2).mono ⋯) _,Bd.fdiv ((hx.2.mul hy.2).mono ⋯) _⟩
theorem JA(bt:t.Bt 440 440)(wz:w.z≠0)(bx:Bd 500 w.x)(bY:Bd 500 w.y)(bz:Bd 500 w.z)(nz:w.p.num≠0\/w.q.num≠0):S19 (hbS t w):=by
  have bp:Bq 500 w.p:=va wz bx bz;have bq:Bq 500 w.q:=va wz bY bz;unfold hbS;by_cases c:w.p.num≠0
  . rw [io c];exact tF (Bq.mul (bt.a.bq (ag _) (ag _)) (bp.inv c)) (Bq.mul (bt.b.bq (ag _) (ag _)) (bp.inv c))
  . rw [ip c];have c2:=nz.resolve_left c;exact tF (Bq.mul (bt.c.bq (ag _) (ag _)) (bq.inv c2)) (Bq.mul (bt.e.bq (ag _) (ag _)) (bq.inv c2))
theorem GZ:(tbs ([]:List Bo)).Bt 4000 4000:=by
  have z:Br 4000 4000 0:=⟨dP _,by show Bd 4000 1; exact (u7 1).mono ⋯⟩
  exact ⟨z,z,z,z⟩
theorem ER{s:Sd}(z:s.z≠0):s.p.num*s.z=s.x*(s.p.den:Int):=by
  have h:Rat.divInt s.p.num (s.p.den:Int)=Rat.divInt s.x s.z:=df s.p;have h:=(aC (by have:=den1 s.p; lia) z).mp h;rw [h]
theorem FH{s:Sd}(z:s.z≠0):s.q.num*s.z=s.y*(s.q.den:Int):=by
  have h:Rat.divInt s.q.num (s.q.den:Int)=Rat.divInt s.y s.z:=df s.q;have h:=(aC (by have:=den1 s.q; lia) z).mp h;rw [h]
theorem BV(z1:1<=h.z)(g:g3 h.x h.y h.z=1):pqS h.p h.q=h:=by
  have hz:h.z≠0:=by lia
  have e1:=ER hz;have e2:=FH hz;have n:(h.p.den:Int)*(h.q.den:Int)≠0:=ar (by have:=den1 h.p; lia) (by have:=den1 h.q; lia);obtain ⟨a,b,c⟩:=zS z1 g n (a:=h.p.num*(h.q.den:Int)) (b:=h.q.num*(h.p.den:Int)) (by
    rw [<-am,<-e1]; grind) (by
    rw [ak (h.p.den:Int),<-am,<-e2]; grind)
  unfold pqS;rw [<-a,<-b,<-c]
theorem num_ne{x:Rat}:x.num≠0↔x≠0:=not_congr Rat.num_eq_zero
theorem Cy{x y:Rat}(h:x≠0):x*y*x⁻¹=y:=by
  rw [Rat.mul_comm x y,Rat.mul_assoc,Rat.mul_inv_cancel _ h,Rat.mul_one]
theorem HV(z1:1<=h.z)(g:g3 h.x h.y h.z=1)(nz:w.p.num≠0\/w.q.num≠0)(e:tbs [⟨w,h⟩]=t):hbS t w=h:=by
  subst e;rw [z6];unfold hbS;by_cases c:w.p.num≠0
  . rw [io c];have c':=num_ne.mp c;show pqS (w.p*h.p*w.p⁻¹) (w.p*h.q*w.p⁻¹)=h;rw [Cy c',Cy c',BV z1 g]
  . rw [ip c];have c':=num_ne.mp (nz.resolve_left c);show pqS (w.q*h.p*w.q⁻¹) (w.q*h.q*w.q⁻¹)=h;rw [Cy c',Cy c',BV z1 g]
theorem Ag(hR:Rt d){l:List Bo}(h:∀ b∈l,(1<=b.w.z/\sgn d b.w.x b.w.y=1)/\1<=b.h.z/\sgn d b.h.x b.h.y=1)(hne:l≠[]):∃ P Q N:Int,0<N/\(tbs l).A d=Rat.divInt P N/\(tbs l).B=Rat.divInt Q N/\sgn d P Q=1:=by
  have one:∀ b:Bo,((1<=b.w.z/\sgn d b.w.x b.w.y=1)/\1<=b.h.z/\sgn d b.h.x b.h.y=1)->0<b.w.z*b.h.z/\sgn d (b.w.x*b.h.x+d*b.w.y*b.h.y) (b.w.x*b.h.y+b.w.y*b.h.x)=1:=λb hb =>
    ⟨aI (!2) (!2),by rw [vm hR,hb.1.2,hb.2.2]; rfl⟩
  induction l with
  | nil=>exact absurd rfl hne
  | cons b l ih =>
    have hb:=h b aG;obtain ⟨p1,s1⟩:=one b hb;have z1:b.w.z≠0:=by lia
    have z2:b.h.z≠0:=by lia
    by_cases z:l=[]
    . subst z;rw [z6];exact ⟨_,_,_,p1,A_tb z1 z2,B_tb z1 z2,s1⟩
    . obtain ⟨P,Q,N,hN,eA,eB,hs⟩:=ih (λc hc=>h c (aB _ hc)) z;refine ⟨(b.w.x*b.h.x+d*b.w.y*b.h.y)*N+P*(b.w.z*b.h.z),(b.w.x*b.h.y+b.w.y*b.h.x)*N+Q*(b.w.z*b.h.z),b.w.z*b.h.z*N,aI p1 hN,?_,?_,?_⟩
      . show (b.tb.add (tbs l)).A d=_;rw [LY,eA,A_tb z1 z2,<-uZ (!2) (!2)]
      . show (b.tb.add (tbs l)).B=_;rw [Mo,eB,B_tb z1 z2,<-uZ (!2) (!2)]
      . refine vW hR ?_ ?_
        . rw [ak _ N,ak _ N,yl hR hN];exact s1
        . rw [ak P,ak Q,yl hR p1];exact hs
theorem MR(hR:Rt d){l:List Bo}(h:∀ b∈l,(1<=b.w.z/\sgn d b.w.x b.w.y=1)/\1<=b.h.z/\sgn d b.h.x b.h.y=1)(hne:l≠[]){s:Sd}(wz:1<=w.z)(wu:sgn d w.x w.y=1)(sz:1<=s.z)(e:tbs l=tbs [⟨w,s⟩]):sgn d s.x s.y=1:=by
  obtain ⟨P,Q,N,hN,eA,eB,hs⟩:=Ag hR h hne;rw [e,z6] at eA eB;have a:=A_tb (d:=d) (b:=⟨w,s⟩) (show w.z≠0 by lia) (show s.z≠0 by lia);have b:=B_tb (b:=⟨w,s⟩) (show w.z≠0 by lia) (show s.z≠0 by lia);have zz:0<w.z*s.z:=aI (!2) (!2);have c1:=(aC (show N≠0 by lia) (show w.z*s.z≠0 by lia)).mp (eA.symm.trans a);have c2:=(aC (show N≠0 by lia) (show w.z*s.z≠0 by lia)).mp (eB.symm.trans b);have k:=vm hR (a:=w.x) (b:=w.y) (a':=s.x) (b':=s.y);have k2:sgn d (w.x*s.x+d*w.y*s.y) (w.x*s.y+w.y*s.x)=1:=by
    rw [wv hR hN zz (a':=P) (b':=Q) (by rw [ak N]; exact c1.symm.trans (ak _ _)) (by rw [ak N]; exact c2.symm.trans (ak _ _))];exact hs
  rw [k,wu,cY] at k2;exact k2
theorem q_up{x:Rat}{k:Int}(hk:k≠0)(e:x=Rat.divInt a E):x=Rat.divInt (a*k) (E*k):=by
  rw [e];exact (Rat.divInt_mul_right hk).symm
theorem MX{b:Int}(z1:1<=h.z)(g:g3 h.x h.y h.z=1)(up:sgn d h.x h.y=1)(hE:E≠0)(ba:Bd M a)(bb:Bd M b)(ea:h.p=Rat.divInt a E)(eb:h.q=Rat.divInt b E):So d E M h :=
  ⟨z1,g,up,a,b,ba,bb,(aC (show h.z≠0 by lia) hE).mp ea,(aC (show h.z≠0 by lia) hE).mp eb⟩
theorem EqV.lstD{X:Cx}{n:Nat}{a b:Addr}{xs:List V}{bs:List Bool}(ha:SqL X.K H a xs)(hb:SqL X.K H b ys)(he:EqVs X n H xs ys bs)(hs:a=b->bs.all id=true):EqV X (n+1) H (.ref a) (.ref b) (bs.all id):=λpins σ s v u A I rv ru hu=>by
  cases rv
  cases ru
  by_cases hab:a=b
  . subst hab;rw [hs rfl];exact SeqAt.EqAt.same _
  . obtain ⟨is,js,p1,p2,hz,hj,e⟩:=Ho ha hb he I hu;have:=SeqAt.RcAt.lists (A:=A) (e:=λj=>bs.getD j false) p1 p2 hz (!2) hj;rw [e] at this;exact SeqAt.EqAt.of_refs hab this
theorem Fv{a:Addr}{x y:Rat}(ha:Fq H a x)(hb:Fq H a y):x=y:=by
  have e:some (HO.tup [.int x.num,.int (x.den:Int)])=some (.tup [.int y.num,.int (y.den:Int)]):=ha.symm.trans hb;simp only [gz,HO.tup.injEq,hZ,V.int.injEq] at e;exact Rat.ext e.1 (by have:=e.2.1; lia)
theorem Fm{X:Cx}{n:Nat}{a b:Addr}{x y:Rat}(ha:Fq H a x)(hb:Fq H b y):EqV X (n+1) H (.ref a) (.ref b) (decide (x=y)):=by
  have h:=EqV.tup (X:=X) (n:=n) (SqT.of ha) (SqT.of hb) (.cons (EqV.int x.num y.num) (.cons (EqV.int (x.den:Int) (y.den:Int)) .nil)) (λe=>by
    subst e;have:=Fv ha hb;subst this;simp)
  have e:([x.num==y.num,(x.den:Int)==(y.den:Int)]:List Bool).all id=decide (x=y):=by
    by_cases c:x=y
    . subst c; simp
    . rw [im c];by_cases c1:x.num=y.num
      . by_cases c2:(x.den:Int)=(y.den:Int)
        . exact absurd (Rat.ext c1 (!2)) c
        . simp [c2]
      . simp [c1]
  rw [e] at h;exact h
variable {l0 l1 q0 q1 q2 q3:Addr}
theorem IP{X:Cx}{Q:VK}{m m0 m1 p0 p1 p2 p3:Addr}{u:Tb}(h:LsH H l l0 l1 q0 q1 q2 q3 t)(h':LsH H m m0 m1 p0 p1 p2 p3 u)(qt:t=u->Q (.bl false) H)(qf:t≠u->Q (.bl true) H):rNeL X (.ref l) (.ref m) H Q:=by
  have r:∀ {a b c e a' c':Addr} {x y x' y':Rat},H a=some (.lst [.ref b,.ref c])->H e=some (.lst [.ref a',.ref c'])->Fq H b x->Fq H c y->Fq H a' x'->Fq H c' y'->EqV X 2 H (.ref a) (.ref e) (([decide (x=x'),decide (y=y')]:List Bool).all id):=λha he hb hc ha' hc' =>
    EqV.lstD (SqL.of ha) (SqL.of he) (.cons (Fm hb ha') (.cons (Fm hc hc') .nil)) (λz=>by
      subst z;rw [ha] at he;simp only [gz,HO.lst.injEq,hZ,V.ref.injEq,and_true] at he;obtain ⟨rfl,rfl⟩:=he;have e1:=Fv hb ha';have e2:=Fv hc hc';subst e1 e2;simp)
  refine ⟨l,m,_,_,_,2,rfl,rfl,by decide,SqL.of h.l,SqL.of h'.l,.cons (r h.l0 h'.l0 h.q0 h.q1 h'.q0 h'.q1) (.cons (r h.l1 h'.l1 h.q2 h.q3 h'.q2 h'.q3) .nil),?_⟩;by_cases c:t=u
  . subst c;have:=qt rfl;simpa using this
  . have k:¬ (t.a=u.a/\t.b=u.b/\t.c=u.c/\t.e=u.e):=λ⟨h1,h2,h3,h4⟩=>c (by cases t; cases u; simp only at h1 h2 h3 h4; subst h1 h2 h3 h4; rfl);have e:(!(([([decide (t.a=u.a),decide (t.b=u.b)]:List Bool).all id,([decide (t.c=u.c),decide (t.e=u.e)]:List Bool).all id]:List Bool).all id))=true:=by
      by_cases c1:t.a=u.a
      . by_cases c2:t.b=u.b
        . by_cases c3:t.c=u.c
          . by_cases c4:t.e=u.e
            . exact absurd ⟨c1,c2,c3,c4⟩ k
            . simp [c4]
          . simp [c3]
        . simp [c2]
      . simp [c1]
    rw [e];exact qf c
theorem LsH.due(h:LsH H l l0 l1 q0 q1 q2 q3 t):JT H l t:=⟨l0,l1,q0,q1,q2,q3,⟨.inl h.l,.inl h.l0,.inl h.l1,h.q0,h.q1,h.q2,h.q3⟩⟩
theorem IV(x y:Rat):1<=(pqS x y).z/\g3 (pqS x y).x (pqS x y).y (pqS x y).z=1:=by
  have n:(x.den:Int)*(y.den:Int)≠0:=ar (by have:=den1 x; lia) (by have:=den1 y; lia);exact ⟨l_n n,xq n⟩
theorem LD(wz:w.z≠0)(n:¬ (w.x=0/\w.y=0)):w.p.num≠0\/w.q.num≠0:=by
  by_cases c:w.x=0
  . refine .inr λz=>n ⟨c,?_⟩;have:=FH wz;rw [z,bL] at this;rcases dQ.mp this.symm with h|h
    . exact h
    . have:=den1 w.q; lia
  . refine .inl λz=>c ?_;have:=ER wz;rw [z,bL] at this;rcases dQ.mp this.symm with h|h
    . exact h
    . have:=den1 w.p; lia
theorem tH{bs:List Bo}{b:Bo}(T:Plan d tn D M bs [b] es qs):(ends (As.sb bs) es).ns.map (ends (As.sb bs) es).g=[b]:=by
  have hq:qs=[0]:=by simpa [eQ] using T.p
  obtain ⟨n,h1,h2⟩:=T.g 0 0 (by rw [hq]; rfl);have h3:b=(ends (As.sb bs) es).g n:=aq h2;have h4:(ends (As.sb bs) es).ns.length=1:=T.l
  match e:(ends (As.sb bs) es).ns,h4 with
  | [m],_ =>
    rw [e] at h1;have h5:m=n:=aq h1;rw [aR,cJ,h3,h5]
theorem JX{X:Cx}{Q:VK}{a b:Cell}(ha:a.At H)(hb:b.At H)(e:a.b=b.b)(q:Q (.bl false) H):rNeT X a.v b.v H Q:=by
  have w1:=ha.w;have w2:=hb.w;have h1:=ha.h;have h2:=hb.h;rw [<-e] at w2 h2;exact ⟨a.p,b.p,_,_,_,1,rfl,rfl,by decide,SqT.of ha.t,SqT.of hb.t,.cons (eqv3 w1 w2) (.cons (eqv3 h1 h2) .nil),q⟩
structure Wh(d N E:Int)(kx kw kh:Nat)(b:Bo):Prop where
  w:So d N kw b.w
  x:Bd kx b.w.x/\Bd kx b.w.y
  h:So d E kh b.h
structure LkB(kx kN kw kE kh M:Nat):Prop where
  x1:1<=kx
  c1:kx<=690
  c2:kN<=690
  c3:kw<=900
  c4:kw+kx+3<=1024
  c5:kx+1+kE+(kw+kx+3)+1<=M
  c6:kw+kx+3+(kN+kh)+20<=M
  c7:M<=2300
  c8:kN+kE<=2050
variable {kx:Nat}
theorem Wh.s19{N:Int}{b:Bo}(h:Wh d N E kx kw kh b)(N1:1<=N)(bN:Bd kN N)(E1:1<=E)(bE:Bd kE E)(l1:kx<=1900)(l2:kN<=1900)(l3:kh<=1900)(l4:kE<=1900):S19 b.w/\S19 b.h:=by
  have a:=h.w.sk N1 bN;have c:=h.h.sk E1 bE;exact ⟨⟨h.w.ne,h.x.1.mono l1,h.x.2.mono l1,a.bz.mono l2⟩,⟨h.h.ne,c.bx.mono l3,c.by'.mono l3,c.bz.mono l4⟩⟩
structure Way(d D:Int)(M:Nat)(bs R:List Bo)(es:DL):Prop where
  w:Walk d false (As.sb bs) es
  b:∀ i,i<=es.length->∀ n∈(ends (As.sb bs) (es.take i)).ns,BoD d D M ((ends (As.sb bs) (es.take i)).g n)
  e:(ends (As.sb bs) es).ns.map (ends (As.sb bs) es).g=R
theorem Hu(bs:List Bo):(As.sb bs).ns.map (As.sb bs).g=bs:=by
  show (List.range bs.length).map (As.sb bs).g=bs;refine List.ext_getElem? λi=>?_;by_cases h:i<bs.length
  . rw [aj,dn h,ae h];show some (bs[i]?.getD _)=_;rw [ae h];rfl
  . rw [dA (by simp; lia),dA (!2)]
theorem way_nil{bs:List Bo}(h:∀ b∈bs,BoD d D M b):Way d D M bs bs [] :=
  ⟨λi x hx=>by simp at hx,λi hi n hn=>by
    rw [gI] at hn ⊢;show BoD d D M ((As.sb bs).g n);have hn:n∈(As.sb bs).ns:=hn;exact h _ (by have:=aU (f:=(As.sb bs).g) hn; rw [Hu] at this; exact this),Hu bs⟩
theorem Gm{bs R:List Bo}(h:Way d D M bs R es):∀ b∈R,BoD d D M b:=λb hb=>by
  rw [<-h.e] at hb;obtain ⟨n,hn,rfl⟩:=aV.mp hb;have:=h.b es.length (ag _);rw [au] at this;exact this n hn
theorem Hn{N:Int}(N1:1<=N)(E1:1<=E){l:List Bo}(h:∀ b∈l,Wh d N E kx kw kh b):TbD (E*N) (kw+kh+l.length) (tbs l):=by
  have hE:E*N≠0:=ar (!2) (!2);induction l with
  | nil =>
    have z:(0:Rat)=Rat.divInt 0 (E*N):=(de _).symm;have b0:Bd (kw+kh+([]:List Bo).length) 0:=dP _;exact ⟨0,0,0,0,⟨b0,b0,b0,b0⟩,z,z,z,z⟩
  | cons b l ih =>
    obtain ⟨X,Y,bX,bY,ep,eq⟩:=(h b aG).w.pq N1;obtain ⟨X',Y',bX',bY',ep',eq'⟩:=(h b aG).h.pq E1;have h1:TbD (E*N) (kw+kh) b.tb:=by
      rw [ak E N];refine ⟨X*X',X*Y',Y*X',Y*Y',⟨bX.mul bX',bX.mul bY',bY.mul bX',bY.mul bY'⟩,?_,?_,?_,?_⟩
      . show b.w.p*b.h.p=_;rw [ep,ep',yF]
      . show b.w.p*b.h.q=_;rw [ep,eq',yF]
      . show b.w.q*b.h.p=_;rw [eq,ep',yF]
      . show b.w.q*b.h.q=_;rw [eq,eq',yF]
    have h2:=ih λc hc=>h c (aB _ hc);exact TbD.add hE (h1.mono (dy _ _)) h2
theorem LX{N:Int}{n:Nat}(N1:1<=N)(bN:Bd kN N)(E1:1<=E)(bE:Bd kE E){l:List Bo}(h:∀ b∈l,Wh d N E kx kw kh b)(hl:l.length<=n):(tbs l).Bt (kw+kh+n) (kE+kN) :=
  ((Hn N1 E1 h).mono (show kw+kh+l.length<=kw+kh+n by lia)).bt (ar (!2) (!2)) (bE.mul bN)
theorem FX{N:Int}(N1:1<=N)(bN:Bd kN N)(E1:1<=E)(bE:Bd kE E){L:List Cell}(h:∀ c∈L,Wh d N E kx kw kh c.b)(hl:L.length<=20)(l1:kw+kh+20<=4000)(l2:kE+kN<=4000)(i:Nat)(_:i<L.length):(tbs ((L.take i).map Cell.b)).Bt 4000 4000 :=
  (LX N1 bN E1 bE (n:=20) (λb hb=>by
    obtain ⟨c,hc,rfl⟩:=aV.mp hb;exact h c (aW hc)) (by rw [aa,az]; lia)).mono l1 l2
def BoE(d N E:Int)(M:Nat)(b:Bo):Prop:=So d N M b.w/\So d E M b.h
theorem BoE.wh{N:Int}{K:Nat}{b:Bo}(h:BoE d N E M b)(N1:1<=N)(bN:Bd K N):Wh d N E M M M b:=⟨h.1,⟨(h.1.sk N1 bN).bx,(h.1.sk N1 bN).by'⟩,h.2⟩
theorem J4{R:List Cell}(ok:∀ x∈R,S19 x.b.w/\S19 x.b.h)(l:R.length<=2)(i:Nat)(hi:i<R.length):(tbs ((R.take i).map Cell.b)).Bt 4000 4000:=by
  match i,R,hi,l with
  | 0,R,_,_=>exact GZ
  | 1,c::R,_,_ =>
    show (tbs [c.b]).Bt 4000 4000;rw [z6];exact S19.tb (ok c aG)
  | i+2,R,hi,l=>lia
def xP(t:Tb):Int:=t.a.num*t.e.num*(t.b.den:Int)*(t.c.den:Int) - t.b.num*t.c.num*(t.a.den:Int)*(t.e.den:Int)
def rkT(t:Tb):Int:=if xP t=0 then 1 else 2
theorem JY{k:Bool}:atI [V.int 2,V.int 1] (if k=true then 1 else 0)=some (.int (if k=true then 1 else 2)):=by cases k <;> rfl
theorem Bv{c:Int}(g:Int.gcd X Y=1)(e:X*c=Y*a):∃ k,a=X*k/\c=Y*k:=by
  have h3:X∣Y*a:=⟨c,e.symm⟩
  have h4:X∣a:=bK.mp (fz (show Nat.gcd X.natAbs Y.natAbs=1 from g) (by rw [<-cB]; exact bK.mpr h3));by_cases hX:X=0
  . subst hX;have hY:Y.natAbs=1:=by
      have:Nat.gcd (Int.natAbs 0) Y.natAbs=1:=g;simpa using this
    have ha:a=0:=by
      obtain ⟨z,hz⟩:=h4
      lia
    have hYY:Y*Y=1:=by
      rcases (show Y=1\/Y=-1 by lia) with h|h <;> rw [h] <;> rfl
    exact ⟨Y*c,by rw [ha,bL],by rw [<-am,hYY,cY]⟩
  . obtain ⟨k,hk⟩:=h4;refine ⟨k,hk,?_⟩;rw [hk] at e;have:X*c=X*(Y*k):=by rw [e]; grind
    exact ca hX this
theorem wq{k:Nat}(h:Bd k (X*m))(hX:X≠0):Bd k m:=by
  unfold Bd at *
  rw [cB] at h;have:1<=X.natAbs:=by lia
  exact aX (by have:=Nat.mul_le_mul_right m.natAbs this; lia) h
def mnO(d:Int)(s:Sd):Int:=if 0<sgn d (0*s.z - s.x*1) (0*s.z - s.y*1) then -((Int.gcd s.x s.y:Nat):Int) else ((Int.gcd s.x s.y:Nat):Int)
def colS(t:Tb):Sd:=if t.a.num≠0\/t.c.num≠0 then pqS t.a t.c else pqS t.b t.e
def pwS(d:Int)(t:Tb):Sd:=⟨(colS t).x.fdiv (mnO d (colS t)),(colS t).y.fdiv (mnO d (colS t)),1⟩
theorem CQ(hR:Rt d){s:Sd}(n:¬ (s.x=0/\s.y=0)):mnO d s≠0/\s.x=mnO d s*s.x.fdiv (mnO d s)/\s.y=mnO d s*s.y.fdiv (mnO d s)/\Int.gcd (s.x.fdiv (mnO d s)) (s.y.fdiv (mnO d s))=1/\sgn d (s.x.fdiv (mnO d s)) (s.y.fdiv (mnO d s))=1:=by
  have g0:Int.gcd s.x s.y≠0:=λz=>n (Int.gcd_eq_zero_iff.mp z);obtain ⟨X,hX⟩:=bH (a:=s.x) (b:=s.y);obtain ⟨Y,hY⟩:=bM (a:=s.x) (b:=s.y);have hg:Int.gcd X Y=1:=by
    have:Int.gcd s.x s.y=Int.gcd s.x s.y*Int.gcd X Y:=(congr (congrArg Int.gcd hX) hY).trans (by rw [d7,b8]);exact dB (Nat.pos_of_ne_zero g0) (by rw [<-this,fN])
  generalize hG:((Int.gcd s.x s.y:Nat):Int)=G at *
  have Gp:0<G:=by lia
  have sc:=yl hR Gp X Y;rw [<-hX,<-hY] at sc;unfold mnO;rw [show (0:Int)*s.z - s.x*1=-s.x by lia,show (0:Int)*s.z - s.y*1=-s.y by lia,xT hR,hG];rcases sgn_tri hR s.x s.y with h|h|h
  . rw [h,ip ⋯];have e1:s.x.fdiv G=X:=by
      conv=>lhs; rw [hX]
      exact bW _ (!2)
    have e2:s.y.fdiv G=Y:=by
      conv=>lhs; rw [hY]
      exact bW _ (!2)
    rw [e1,e2];exact ⟨by lia,hX,hY,hg,by rw [<-sc]; exact h⟩
  . rw [h,io ⋯];have e1:s.x.fdiv (-G)=-X:=by
      have:s.x=-G*-X:=by rw [cq]; exact hX
      conv=>lhs; rw [this]
      exact bW _ (!2)
    have e2:s.y.fdiv (-G)=-Y:=by
      have:s.y=-G*-Y:=by rw [cq]; exact hY
      conv=>lhs; rw [this]
      exact bW _ (!2)
    rw [e1,e2];refine ⟨by lia,by rw [cq]; exact hX,by rw [cq]; exact hY,by rw [Int.gcd_neg,Int.neg_gcd]; exact hg,?_⟩;rw [xT hR,<-sc,h];rfl
  . exact absurd h n
theorem Hm{s:Sd}{k:Nat}(n:¬ (s.x=0/\s.y=0))(bx:Bd k s.x)(bY:Bd k s.y):Bd k (mnO d s):=by
  have g:Bd k ((Int.gcd s.x s.y:Nat):Int):=by
    by_cases z:s.x=0
    . have hy:s.y≠0:=λw=>n ⟨z,w⟩;obtain ⟨Y,hY⟩:=bM (a:=s.x) (b:=s.y);rw [hY,ak] at bY;exact wq bY (λw=>hy (by rw [hY,w,bU]))
    . obtain ⟨X,hX⟩:=bH (a:=s.x) (b:=s.y);rw [hX,ak] at bx;exact wq bx (λw=>z (by rw [hX,w,bU]))
  unfold mnO;split
  . exact g.neg
  . exact g
theorem slant_eq:xP t=0↔t.a*t.e=t.b*t.c:=by
  have r:∀ x y:Rat,x*y=Rat.divInt (x.num*y.num) ((x.den:Int)*(y.den:Int)):=λx y=>by
    rw [yF,df,df]
  have n:∀ x y:Rat,(x.den:Int)*(y.den:Int)≠0:=λx y=>ar (by have:=den1 x; lia) (by have:=den1 y; lia);rw [r,r t.b t.c,aC (n _ _) (n _ _)];unfold xP;rw [<-am,<-am]
  lia
theorem Em(h:xP t=0):t.a*t.e=t.b*t.c:=slant_eq.mp h
theorem Ey(b:Bo):xP (tbs [b])=0:=slant_eq.mpr (by
  rw [z6];show b.w.p*b.h.p*(b.w.q*b.h.q)=b.w.p*b.h.q*(b.w.q*b.h.p)
  grind)
theorem Hj(x y:Rat):(pqS x y).p=x/\(pqS x y).q=y:=by
  have n:(x.den:Int)*(y.den:Int)≠0:=ar (by have:=den1 x; lia) (by have:=den1 y; lia);have l:=l_n (a:=x.num*(y.den:Int)) (b:=y.num*(x.den:Int)) n;constructor
  . show Rat.divInt (lA _ _ _) (lN _ _ _)=x;conv=>rhs; rw [<-df x]
    refine zE (!2) (by have:=den1 x; lia) ?_;have:=l_a (a:=x.num*(y.den:Int)) (b:=y.num*(x.den:Int)) (n:=(x.den:Int)*(y.den:Int));refine wC (show (y.den:Int)≠0 by have:=den1 y; lia) ?_;rw [am,this];grind
  . show Rat.divInt (lB _ _ _) (lN _ _ _)=y;conv=>rhs; rw [<-df y]
    refine zE (!2) (by have:=den1 y; lia) ?_;have:=l_b (a:=x.num*(y.den:Int)) (b:=y.num*(x.den:Int)) (n:=(x.den:Int)*(y.den:Int));refine wC (show (x.den:Int)≠0 by have:=den1 x; lia) ?_;rw [am,ak (y.den:Int),this];grind
theorem JB{s:Sd}(h:s.x=0/\s.y=0):s.p=0/\s.q=0:=by
  unfold Sd.p Sd.q;rw [h.1,h.2,de];exact ⟨rfl,rfl⟩
variable {kt:Nat}
theorem AQ{C:List Bo}(hR:Rt d)(hC:∀ b∈C,(1<=b.w.z/\sgn d b.w.x b.w.y=1)/\1<=b.h.z/\sgn d b.h.x b.h.y=1)(hne:C≠[])(T:TbD E kt (tbs C))(E1:1<=E)(hs:xP (tbs C)=0) : Int.gcd (pwS d (tbs C)).x (pwS d (tbs C)).y=1/\sgn d (pwS d (tbs C)).x (pwS d (tbs C)).y=1/\Bd kt (pwS d (tbs C)).x/\Bd kt (pwS d (tbs C)).y/\∃ h,tbs C=tbs [⟨pwS d (tbs C),h⟩]/\So d E kt h:=by
  obtain ⟨P,Q,N,hN,eA,eB,hs'⟩:=Ag hR hC hne;obtain ⟨a,b,c,e,⟨ba,bb,bc,be⟩,ta,tb,tc,te⟩:=T;have sl:=Em hs;have key:∀ {w h:Sd},1<=w.z->sgn d w.x w.y=1->1<=h.z->tbs C=tbs [⟨w,h⟩]->sgn d h.x h.y=1:=λa b c e=>MR hR hC hne a b c e;generalize tbs C=t at *
  have hE:E≠0:=by lia
  have dz:∀ {x:Int},Rat.divInt x E=0↔x=0:=λ{x}=>by
    constructor
    . intro z;have:=(aC (n₂:=0) (d₂:=1) hE ⋯).mp (z.trans (de 1).symm)
      lia
    . intro z; rw [z,de]
  have cut:∀ {x y:Int},Rat.divInt x E=Rat.divInt y E->x=y:=λz=>ay hE ((aC hE hE).mp z);have num0:∀ {x:Rat},x.num≠0↔x≠0:=λ{x}=>not_congr Rat.num_eq_zero;have sl:a*e=b*c:=by
    rw [ta,tb,tc,te,<-yF,<-yF] at sl;exact ay (ar hE hE) ((aC (ar hE hE) (ar hE hE)).mp sl)
  have nz:¬ (a=0/\b=0/\c=0/\e=0):=λ⟨z1,z2,z3,z4⟩=>by
    have hA:t.A d=0:=by unfold Tb.A; rw [ta,te,z1,z4,de]; grind
    have hB:t.B=0:=by unfold Tb.B; rw [tb,tc,z2,z3,de]; grind
    have hP:P=0:=by
      have:=(aC (n₂:=0) (d₂:=1) (show N≠0 by lia) ⋯).mp ((eA.symm.trans hA).trans (de 1).symm)
      lia
    have hQ:Q=0:=by
      have:=(aC (n₂:=0) (d₂:=1) (show N≠0 by lia) ⋯).mp ((eB.symm.trans hB).trans (de 1).symm)
      lia
    rw [hP,hQ,zQ] at hs';exact absurd hs' ⋯
  obtain ⟨x,y,hx,hy,hxy,h1,h2,bx,bY⟩:∃ x y:Int,(colS t).p=Rat.divInt x E/\(colS t).q=Rat.divInt y E/\¬ (x=0/\y=0)/\x*c=y*a/\x*e=y*b/\Bd kt x/\Bd kt y:=by
    unfold colS;by_cases k:t.a.num≠0\/t.c.num≠0
    . rw [io k];obtain ⟨p1,p2⟩:=Hj t.a t.c;refine ⟨a,c,p1.trans ta,p2.trans tc,λ⟨z1,z2⟩=>?_,ak _ _,by rw [sl]; exact ak _ _,ba,bc⟩;rw [num0,num0,ta,tc] at k;exact k.elim (λz=>z (dz.mpr z1)) (λz=>z (dz.mpr z2))
    . rw [ip k];obtain ⟨p1,p2⟩:=Hj t.b t.e;have z1:a=0:=fq.mp λz=>k (.inl (num0.mpr (by rw [ta]; exact λw=>z (dz.mp w))));have z2:c=0:=fq.mp λz=>k (.inr (num0.mpr (by rw [tc]; exact λw=>z (dz.mp w))));refine ⟨b,e,p1.trans tb,p2.trans te,λ⟨z3,z4⟩=>nz ⟨z1,z3,z2,z4⟩,by rw [z1,z2]; lia,ak _ _,bb,be⟩
  have low:1<=(colS t).z:=by unfold colS; split <;> exact (IV _ _).1
  have cn:¬ ((colS t).x=0/\(colS t).y=0):=λz=>by
    obtain ⟨z1,z2⟩:=JB z;exact hxy ⟨dz.mp (hx.symm.trans z1),dz.mp (hy.symm.trans z2)⟩
  obtain ⟨m0,f1,f2,fg,fs⟩:=CQ hR cn;have e1:(colS t).x*E=x*(colS t).z:=(aC (!2) hE).mp hx;have e2:(colS t).y*E=y*(colS t).z:=(aC (!2) hE).mp hy;unfold pwS;generalize (colS t).x.fdiv (mnO d (colS t))=X at *
  generalize (colS t).y.fdiv (mnO d (colS t))=Y at *
  generalize mnO d (colS t)=m at *
  generalize (colS t).z=z at *
  generalize (colS t).x=cx at *
  generalize (colS t).y=cy at *
  subst f1 f2;have cr:X*y=Y*x:=by
    have hz:m*E*z≠0:=ar (ar m0 hE) (!2);refine ca hz ?_;have:m*E*z*(X*y)=(m*X*E)*(y*z):=by grind
    rw [this,e1,<-e2];grind
  obtain ⟨k,hk1,hk2⟩:=Bv fg cr;have kn:k≠0:=λz=>hxy (by rw [hk1,hk2,z]; exact ⟨bU _,bU _⟩);have c1:X*c=Y*a:=ca kn (by rw [hk1,hk2] at h1; have:k*(X*c)=X*k*c:=(by grind); rw [this,h1]; grind);have c2:X*e=Y*b:=ca kn (by rw [hk1,hk2] at h2; have:k*(X*e)=X*k*e:=(by grind); rw [this,h2]; grind);obtain ⟨u,hu1,hu2⟩:=Bv fg c1;obtain ⟨v,hv1,hv2⟩:=Bv fg c2;have XY:X≠0\/Y≠0:=by
    by_cases z:X=0
    . refine .inr λz2=>?_;rw [z,z2,zQ] at fs;exact absurd fs ⋯
    . exact .inl z
  have bX:Bd kt X:=by
    rw [hk1,ak] at bx;exact wq bx kn
  have bY:Bd kt Y:=by
    rw [hk2,ak] at bY;exact wq bY kn
  have bu:Bd kt u:=XY.elim (λz=>wq (by rw [<-hu1]; exact ba) z) (λz=>wq (by rw [<-hu2]; exact bc) z);have bv:Bd kt v:=XY.elim (λz=>wq (by rw [<-hv1]; exact bb) z) (λz=>wq (by rw [<-hv2]; exact be) z);have w1:(⟨X,Y,1⟩:Sd).p=Rat.divInt X 1:=rfl;have w2:(⟨X,Y,1⟩:Sd).q=Rat.divInt Y 1:=rfl;obtain ⟨p1,p2⟩:=vw (D:=E) (X:=u) (Y:=v) E1;have eq:t=tbs [⟨⟨X,Y,1⟩,sdO E u v⟩]:=by
    rw [z6];refine Tb.ext ?_ ?_ ?_ ?_
    . show t.a=(⟨X,Y,1⟩:Sd).p*(sdO E u v).p;rw [w1,p1,<-yF,cY,<-hu1]; exact ta
    . show t.b=(⟨X,Y,1⟩:Sd).p*(sdO E u v).q;rw [w1,p2,<-yF,cY,<-hv1]; exact tb
    . show t.c=(⟨X,Y,1⟩:Sd).q*(sdO E u v).p;rw [w2,p1,<-yF,cY,<-hu2]; exact tc
    . show t.e=(⟨X,Y,1⟩:Sd).q*(sdO E u v).q;rw [w2,p2,<-yF,cY,<-hv2]; exact te
  have rv:=yh (D:=E) (X:=u) (Y:=v) E1;have up:=key (w:=⟨X,Y,1⟩) (h:=sdO E u v) (gH _) fs rv.z1 eq;exact ⟨fg,fs,bX,bY,sdO E u v,eq,⟨rv.z1,rv.g,up,u,v,bu,bv,l_a,l_b⟩⟩
structure Wn(d N:Int)(kx:Nat)(s:Sd):Prop where
  z1:1<=s.z
  g:g3 s.x s.y s.z=1
  up:sgn d s.x s.y=1
  bx:Bd kx s.x
  bY:Bd kx s.y
  dv:s.z∣N
theorem Wn.mono{d N:Int}{k k':Nat}{s:Sd}(h:Wn d N k s)(l:k<=k'):Wn d N k' s:=⟨h.z1,h.g,h.up,h.bx.mono l,h.bY.mono l,h.dv⟩
theorem Wn.scale{N:Int}{k:Nat}{s:Sd}(h:Wn d N k s)(m:Int):Wn d (N*m) k s:=⟨h.z1,h.g,h.up,h.bx,h.bY,aH h.dv (dU _ _)⟩
theorem uM{k:Nat}{x:Int}(b:Bd k D)(D1:1<=D)(h:x∣D):Bd k x:=by
  obtain ⟨t,ht⟩:=h;rw [ht,ak] at b;exact wq b (λz=>by rw [z,bU] at ht; lia)
theorem Wn.so{N:Int}{s:Sd}(h:Wn d N kx s)(N1:1<=N)(bN:Bd kN N):So d N (kx+kN) s:=by
  obtain ⟨t,ht⟩:=h.dv;have bt:Bd kN t:=uM bN N1 ⟨s.z,by rw [ht]; exact ak _ _⟩;exact ⟨h.z1,h.g,h.up,s.x*t,s.y*t,h.bx.mul bt,h.bY.mul bt,by rw [ht]; grind,by rw [ht]; grind⟩
theorem HW{b n:Int}:lN a b n∣n:=⟨gd a b n,lN_mul.symm⟩
theorem DW{N:Int}{k:Nat}{b n:Int}(hR:Rt d)(n1:1<=n)(ba:Bd k a)(bb:Bd k b)(up:sgn d a b=1)(dv:n∣N):Wn d N k ⟨lA a b n,lB a b n,lN a b n⟩ :=
  ⟨l_n (!2),xq (!2),by rw [yv hR n1]; exact up,Bd.fdiv ba _,Bd.fdiv bb _,aH HW dv⟩
theorem Wn.sh{N k:Int}{j:Nat}{s:Sd}(hR:Rt d)(h:Wn d N kx s)(m1:1<=m)(k1:1<=k)(bm:Bd j m):Wn d (N*k) (kx+j) (shS s m k):=by
  have z1:=h.z1;refine DW hR (aI (!2) (!2)) (h.bx.mul bm) (h.bY.mul bm) ?_ (Int.mul_dvd_mul h.dv (cL _));rw [ak s.x,ak s.y,yl hR (!2)];exact h.up
theorem Gc{s:Sd}{k:Int}(z1:1<=s.z)(g:g3 s.x s.y s.z=1)(k1:1<=k):tkS s (shS s m k)=shS s (k - m) k:=by
  have hD:1<=s.z*k:=aI (!2) (!2);have e:s=sdO (s.z*k) (s.x*k) (s.y*k):=wy hD ⟨z1,g,by grind,by grind⟩;have e2:shS s m k=sdO (s.z*k) (s.x*m) (s.y*m):=rfl;have e3:shS s (k - m) k=sdO (s.z*k) (s.x*(k - m)) (s.y*(k - m)):=rfl;have e4:tkS (sdO (s.z*k) (s.x*k) (s.y*k)) (sdO (s.z*k) (s.x*m) (s.y*m))=sdO (s.z*k) (s.x*k - s.x*m) (s.y*k - s.y*m):=HG hD;rw [<-e] at e4;rw [e2,e3,e4,ei,ei]
theorem Wn.tk{N:Int}{s t:Sd}(hR:Rt d)(h:Wn d N kx s)(t1:1<=t.z)(bz:Bd 10 t.z)(bx:Bd 30 t.x)(bY:Bd 30 t.y)(N1:1<=N)(bN:Bd kN N)(l:30+kN<=kx+10)(up:sgn d (tkS s t).x (tkS s t).y=1):Wn d (N*t.z) (kx+11) (tkS s t):=by
  have z1:=h.z1;have sz:Bd kN s.z:=uM bN N1 h.dv;have n0:s.z*t.z≠0:=ar (!2) (!2);exact ⟨l_n n0,xq n0,up,Bd.fdiv ((h.bx.mul bz).add ((bx.neg.mul sz).mono l)) _,Bd.fdiv ((h.bY.mul bz).add ((bY.neg.mul sz).mono l)) _,aH HW (Int.mul_dvd_mul h.dv (cL _))⟩
def WnB(d N E:Int)(kx kh:Nat)(b:Bo):Prop:=Wn d N kx b.w/\So d E kh b.h
theorem WnB.mono{d N E:Int}{k h k' h':Nat}{b:Bo}(z:WnB d N E k h b)(l:k<=k')(l':h<=h'):WnB d N E k' h' b:=⟨z.1.mono l,z.2.mono l'⟩
theorem WnB.wh{N:Int}{b:Bo}(h:WnB d N E kx kh b)(N1:1<=N)(bN:Bd kN N):Wh d N E kx (kx+kN) kh b:=⟨h.1.so N1 bN,⟨h.1.bx,h.1.bY⟩,h.2⟩
theorem MF{N Et:Int}{s:B4}{k:Nat}{L:List Bo}(hR:Rt d)(g:GB d k s)(hk:k<=900)(hN:1<=N)(hE:1<=E)(bas:Bas d M (s.a*E) (s.b*E) (s.c*E) (s.e*E))(h:∀ b∈L,BK d s N E M0 M b)(hM:M0+L.length<=M)(T:TbD Et kt (tbs L))(Et1:1<=Et)(bN:Bd kN N):∀ b∈nrmD s N E L,WnB d N Et k (kN+(k+kt+1)) b:=λb hb=>by
  have hD:1<=N*E:=aI (!2) (!2);have bk:=El hR g hk hN hE bas h hM b hb;obtain ⟨A,B,C,F,⟨bA,bB,bC,bF⟩,ta,tb,tc,te⟩:=T;rw [uy hD h] at ta tb tc te;obtain ⟨pl,hpl,rfl,nz⟩:=EB hb;have hup:sgn d (bwq s N pl).x (bwq s N pl).y=1:=by
    unfold bwq;split
    . exact (yv hR hN).trans g.p1
    . exact (yv hR hN).trans g.q1
  have bo:=bk.bod hR hD hup;have hEt:Et≠0:=by lia
  have hDD:N*E*(N*E)≠0:=ar (!2) (!2);have wok:Wn d N k (bwq s N pl):=by
    unfold bwq;split
    . exact DW hR hN g.ba g.bb g.p1 (cL _)
    . exact DW hR hN g.bc g.be g.q1 (cL _)
  refine ⟨wok,?_⟩;generalize hl:L.map (bxD s N (N*E))=l at *
  have ta:=(aC hDD hEt).mp ta;have tb:=(aC hDD hEt).mp tb;have tc:=(aC hDD hEt).mp tc;have te:=(aC hDD hEt).mp te;have cut:∀ {x y:Int},E*x=E*y->x=y:=λz=>ca (!2) z;have key:∀ {x0 x1 P R:Int},(s.a*E*x0+s.c*E*x1)*Et=P*(N*E*(N*E))->(s.b*E*x0+s.e*E*x1)*Et=R*(N*E*(N*E))->(s.a*s.e - s.b*s.c)*x0*Et=(s.e*P - s.c*R)*N*(N*E)/\(s.a*s.e - s.b*s.c)*x1*Et=(s.a*R - s.b*P)*N*(N*E):=λ{x0 x1 P R} h1 h2=>by
    constructor
    . refine cut ?_;have:E*((s.a*s.e - s.b*s.c)*x0*Et)=s.e*((s.a*E*x0+s.c*E*x1)*Et) - s.c*((s.b*E*x0+s.e*E*x1)*Et):=by grind
      rw [this,h1,h2];grind
    . refine cut ?_;have:E*((s.a*s.e - s.b*s.c)*x1*Et)=s.a*((s.b*E*x0+s.e*E*x1)*Et) - s.b*((s.a*E*x0+s.c*E*x1)*Et):=by grind
      rw [this,h1,h2];grind
  obtain ⟨kx0,kx1⟩:=key ta tc;obtain ⟨ky0,ky1⟩:=key tb te;have dd:(s.a*s.e - s.b*s.c)*(s.a*s.e - s.b*s.c)=1:=by rcases g.det with z | z <;> rw [z] <;> rfl
  have db:∀ {m:Nat} {x:Int},Bd m x->Bd m ((s.a*s.e - s.b*s.c)*x):=λ{m x} hx=>by
    rcases g.det with z|z
    . rw [z,cY]; exact hx
    . rw [z,Int.neg_one_mul]; exact hx.neg
  obtain ⟨P,R,bP,bR,e1,e2⟩:∃ P R:Int,Bd (k+kt+1) P/\Bd (k+kt+1) R/\(s.a*s.e - s.b*s.c)*hX pl l*Et=P*N*(N*E)/\(s.a*s.e - s.b*s.c)*hY pl l*Et=R*N*(N*E):=by
    rcases (show pl=0\/pl=1 by lia) with rfl|rfl
    . exact ⟨_,_,(g.be.mul bA).sub (g.bc.mul bC),(g.be.mul bB).sub (g.bc.mul bF),kx0,ky0⟩
    . exact ⟨_,_,(g.ba.mul bC).sub (g.bb.mul bA),(g.ba.mul bF).sub (g.bb.mul bB),kx1,ky1⟩
  obtain ⟨p1,p2⟩:=vw (D:=N*E) (X:=hX pl l) (Y:=hY pl l) hD;refine MX bo.2.z1 bo.2.g bo.2.up hEt (a:=N*((s.a*s.e - s.b*s.c)*P)) (b:=N*((s.a*s.e - s.b*s.c)*R)) (bN.mul (db bP)) (bN.mul (db bR)) ?_ ?_
  . refine p1.trans (zE (!2) hEt ?_);have:hX pl l*Et=(s.a*s.e - s.b*s.c)*((s.a*s.e - s.b*s.c)*hX pl l*Et):=by
      have:(s.a*s.e - s.b*s.c)*((s.a*s.e - s.b*s.c)*hX pl l*Et)=(s.a*s.e - s.b*s.c)*(s.a*s.e - s.b*s.c)*(hX pl l*Et):=by grind
      rw [this,dd,cY]
    rw [this,e1];grind
  . refine p2.trans (zE (!2) hEt ?_);have:hY pl l*Et=(s.a*s.e - s.b*s.c)*((s.a*s.e - s.b*s.c)*hY pl l*Et):=by
      have:(s.a*s.e - s.b*s.c)*((s.a*s.e - s.b*s.c)*hY pl l*Et)=(s.a*s.e - s.b*s.c)*(s.a*s.e - s.b*s.c)*(hY pl l*Et):=by grind
      rw [this,dd,cY]
    rw [this,e2];grind
structure FwC(kx kN kE kh kt ke kr M:Nat):Prop where
  a:LkB kx kN (kx+kN) kE kh M
  b:kt<=kx
  h:kt+kE<=kh
  t:kt<=440
  e:ke<=440
  r1:kt<=kr
  r2:kx+1<=kr
  n:kN+kE<=900
  m:kN+kh<=900
variable {G:Prop}
theorem F6{R:Prop}(m:G->R)(f:G):R:=m f
theorem ET(P:Prop){R:Prop}(m:(P->G)->R)(f:P->G):R:=m f
def PcS(w:Bool)(d D:Int)(k:Nat)(s:Sd):Prop:=if w=true then Wn d D k s else So d D k s
theorem PcS.sk{w:Bool}{d D:Int}{k j:Nat}{s:Sd}(h:PcS w d D k s)(D1:1<=D)(bD:Bd j D):SK k j s:=by
  cases w
  . exact So.sk (M:=k) h D1 bD
  . have h:Wn d D k s:=h;exact ⟨h.z1,h.g,h.bx,h.bY,uM bD D1 h.dv⟩
theorem PcS.sh{w:Bool}{d D m n:Int}{k:Nat}{s:Sd}(hR:Rt d)(h:PcS w d D k s)(m1:1<=m)(n1:1<=n)(bm:Bd 10 m):PcS w d (D*n) (k+11) (shS s m n):=by
  cases w
  . exact (KE (M:=k) hR h m1 n1 bm).mono (!2)
  . exact (Wn.sh (kx:=k) hR h m1 n1 bm).mono (!2)
theorem PcS.tksh{w:Bool}{n:Int}{k:Nat}{s:Sd}(hR:Rt d)(h:PcS w d D k s)(D1:1<=D){j:Nat}(bD:Bd j D)(m1:1<=m)(mn:m<n)(bn:Bd 10 n):PcS w d (D*n) (k+11) (tkS s (shS s m n)):=by
  have z:=h.sk D1 bD;rw [Gc z.z1 z.g (!2)];exact h.sh hR (!2) (!2) (bn.of_le (!2))
theorem PcS.dr{w:Bool}{k j:Nat}{s t:Sd}(hR:Rt d)(h:PcS w d D k s)(D1:1<=D)(bD:Bd j D)(l:j+20<=k)(o:So d t.z 30 t)(bz:Bd 10 t.z)(up:sgn d (tkS s t).x (tkS s t).y=1):PcS w d (D*t.z) (k+11) t/\PcS w d (D*t.z) (k+11) (tkS s t):=by
  have q:=o.sk o.z1 bz;cases w
  . have h:So d D k s:=h;have a:=o.scale bD;rw [ak] at a;exact ⟨a.mono (!2),(L9 hR (h.scale bz) (a.mono (!2)) up).mono (!2)⟩
  . have h:Wn d D k s:=h;exact ⟨⟨o.z1,o.g,o.up,q.bx.mono (!2),q.by'.mono (!2),b7 _ _⟩,h.tk hR o.z1 bz q.bx q.by' D1 bD (!2) up⟩
theorem HF:Bd 10 1:=(u7 1).mono ⋯
theorem TbD.scale{k j:Nat}(h:TbD E k t)(m0:m≠0)(bm:Bd j m):TbD (E*m) (k+j) t:=by
  obtain ⟨a,b,c,e,⟨h1,h2,h3,h4⟩,e1,e2,e3,e4⟩:=h;exact ⟨a*m,b*m,c*m,e*m,⟨h1.mul bm,h2.mul bm,h3.mul bm,h4.mul bm⟩,q_up m0 e1,q_up m0 e2,q_up m0 e3,q_up m0 e4⟩
def nbB(z:Bool)(b:Bo)(s:Sd):Bo:=if z=true then ⟨s,b.h⟩ else ⟨b.w,s⟩
theorem L3{b:Bo}{z:Bool}{s t:Sd}(e:nbB z b s=b)(hs:s.z≠0)(ht:t.z≠0):tbs [nbB z b t,nbB z b (tkS s t)]=tbs [b]:=by
  obtain ⟨p,q⟩:=Jq (s:=s) (t:=t) hs ht;rw [show [nbB z b t,nbB z b (tkS s t)]=[nbB z b t]++[nbB z b (tkS s t)] from rfl,yu,z6,z6,z6];cases z
  . have e:s=b.h:=congrArg Bo.h e;subst e;refine Tb.ext ?_ ?_ ?_ ?_
    . show b.w.p*t.p+b.w.p*(tkS b.h t).p=b.w.p*b.h.p;rw [p]; grind
    . show b.w.p*t.q+b.w.p*(tkS b.h t).q=b.w.p*b.h.q;rw [q]; grind
    . show b.w.q*t.p+b.w.q*(tkS b.h t).p=b.w.q*b.h.p;rw [p]; grind
    . show b.w.q*t.q+b.w.q*(tkS b.h t).q=b.w.q*b.h.q;rw [q]; grind
  . have e:s=b.w:=congrArg Bo.w e;subst e;refine Tb.ext ?_ ?_ ?_ ?_
    . show t.p*b.h.p+(tkS b.w t).p*b.h.p=b.w.p*b.h.p;rw [p]; grind
    . show t.p*b.h.q+(tkS b.w t).p*b.h.q=b.w.p*b.h.q;rw [p]; grind
    . show t.q*b.h.p+(tkS b.w t).q*b.h.p=b.w.q*b.h.p;rw [q]; grind
    . show t.q*b.h.q+(tkS b.w t).q*b.h.q=b.w.q*b.h.q;rw [q]; grind
theorem Ix{L:List Cell}{j:Nat}{m:List Bo}(h:L[j]?=some c)(e:tbs m=tbs [c.b]):tbs ((L.take j).map Cell.b++(L.drop (j+1)).map Cell.b++m)=tbs (L.map Cell.b):=by
  have hj:=(af.mp h).1;have hc:=(af.mp h).2;have eL:L.map Cell.b=(L.take j).map Cell.b++([c.b]++(L.drop (j+1)).map Cell.b):=by
    conv=>lhs; rw [<-dM j L,List.drop_eq_getElem_cons hj,hc]
    rw [ah,aR];rfl
  rw [eL,yu,yu,yu,yu,e];generalize tbs [c.b]=x;generalize tbs ((L.take j).map Cell.b)=y;generalize tbs ((L.drop (j+1)).map Cell.b)=z;refine Tb.ext ?_ ?_ ?_ ?_
  . show y.a+z.a+x.a=y.a+(x.a+z.a); grind
  . show y.b+z.b+x.b=y.b+(x.b+z.b); grind
  . show y.c+z.c+x.c=y.c+(x.c+z.c); grind
  . show y.e+z.e+x.e=y.e+(x.e+z.e); grind
theorem shq4{s:Sd}{k:Int}(z1:1<=s.z)(k1:1<=k):(shS s m k).p=s.p*Rat.divInt m k/\(shS s m k).q=s.q*Rat.divInt m k:=by
  have hD:1<=s.z*k:=aI (!2) (!2);obtain ⟨a,b⟩:=vw (D:=s.z*k) (X:=s.x*m) (Y:=s.y*m) hD;exact ⟨a.trans (by rw [yF]; rfl),b.trans (by rw [yF]; rfl)⟩
theorem MD{k:Int}(w1:1<=w.z)(h1:1<=h.z)(m1:1<=m)(k1:1<=k):tbs [⟨shS w m k,shS h k m⟩]=tbs [⟨w,h⟩]:=by
  rw [z6,z6];obtain ⟨a,b⟩:=shq4 (s:=w) (m:=m) (k:=k) w1 k1;obtain ⟨c,e⟩:=shq4 (s:=h) (m:=k) (k:=m) h1 m1;have u:Rat.divInt m k*Rat.divInt k m=1:=by
    rw [<-yF,ak m k];have:k*m≠0:=ar (!2) (!2);exact Rat.divInt_self' this
  have key:∀ x y:Rat,x*Rat.divInt m k*(y*Rat.divInt k m)=x*y:=λx y=>by
    have:x*Rat.divInt m k*(y*Rat.divInt k m)=x*y*(Rat.divInt m k*Rat.divInt k m):=by grind
    rw [this,u,Rat.mul_one]
  refine Tb.ext ?_ ?_ ?_ ?_
  . show (shS w m k).p*(shS h k m).p=w.p*h.p;rw [a,c,key]
  . show (shS w m k).p*(shS h k m).q=w.p*h.q;rw [a,e,key]
  . show (shS w m k).q*(shS h k m).p=w.q*h.p;rw [b,c,key]
  . show (shS w m k).q*(shS h k m).q=w.q*h.q;rw [b,e,key]
theorem MW{N:Int}{k:Nat}(h:Wn d N k w):w.p.num≠0\/w.q.num≠0:=LD (by have:=h.z1; lia) λ⟨z1,z2⟩=>by have:=h.up; rw [z1,z2,zQ] at this; exact absurd this ⋯
structure LOb(d:Int)(k:Nat)(s:Sd):Prop where
  z1:1<=s.z
  g:g3 s.x s.y s.z=1
  up:sgn d s.x s.y=1
  bx:Bd k s.x
  by':Bd k s.y
  bz:Bd 890 s.z
structure LsB(d:Int)(k:Nat)(H:Hp)(p:Addr)(L:List Ln):Prop where
  l:H p=some (.lst (L.map Ln.v))
  at':∀ c∈L,SdAt H c.p c.s
  ok:∀ c∈L,LOb d k c.s
theorem LsB.same{k:Nat}{p:Addr}{L:List Ln}(h:LsB d k H p L)(s:Same H H'):LsB d k H' p L:=⟨s _ _ h.l,λc hc=>s _ _ (h.at' c hc),h.ok⟩
theorem J7{k:Nat}{L:List Ln}(ok:∀ c∈L,LOb d k c.s):∀ z∈L.map (λc=>c.s.z),1<=z/\Bd 890 z:=λz hz=>by
  obtain ⟨c,hc,e⟩:=aV.mp hz;subst e;exact ⟨(ok c hc).z1,(ok c hc).bz⟩
theorem FZ{k:Nat}{L:List Ln}(ok:∀ c∈L,LOb d k c.s)(hb:Bd 890 (cbs (L.map λc=>c.s.z)))(i:Nat):1<=cbs ((L.take i).map λc=>c.s.z)/\Bd 890 (cbs ((L.take i).map λc=>c.s.z)):=by
  have z1:∀ z∈L.map (λc=>c.s.z),1<=z:=λz hz=>(J7 ok z hz).1;have a:1<=cbs ((L.take i).map λc:Ln=>c.s.z):=(vV ((L.take i).map λc:Ln=>c.s.z) 1 ⋯ λz hz=>z1 z (by rw [dS] at hz; exact aW hz)).1;have e:cbs (L.map λc=>c.s.z)=((L.drop i).map λc=>c.s.z).foldl lcmI (cbs ((L.take i).map λc=>c.s.z)):=by
    conv=>lhs; rw [<-dM i L,ah]
    unfold cbs;rw [dG]
  obtain ⟨b1,b2,_⟩:=vV ((L.drop i).map λc:Ln=>c.s.z) (cbs ((L.take i).map λc:Ln=>c.s.z)) a λz hz=>z1 z (by rw [fG] at hz; exact fF hz);rw [<-e] at b1 b2;exact ⟨a,Bd.dvd_le hb b1 b2⟩
theorem FU{k:Nat}{L:List Ln}(ok:∀ c∈L,LOb d k c.s):(∀ u∈L.map Ln.u,sgn d u.1 u.2=1)/\∀ u∈L.map Ln.u,Bd k u.1/\Bd k u.2:=by
  constructor
  . intro u hu;obtain ⟨c,hc,e⟩:=aV.mp hu;subst e;exact (ok c hc).up
  . intro u hu;obtain ⟨c,hc,e⟩:=aV.mp hu;subst e;exact ⟨(ok c hc).bx,(ok c hc).by'⟩
theorem Jc{k:Nat}{L:List Ln}(ok:∀ c∈L,LOb d k c.s)(i:Nat):∀ c∈L.take i,LOb d k c.s:=λc hc=>ok c (aW hc)
theorem Ip{i j:Int}(h:m=i\/m=j)(h1:m<=i)(h2:m<=j):m<0↔¬ (0<=i/\0<=j):=by lia
inductive P0(vs:List V)(H:Hp)(Q:VK)(E:XK):Prop
  | mk (i:Int) (_:vs=[.int i]) (_:Q (.bl true) H):P0 vs H Q E
theorem CY{i:Int}{Q:VK}{E:XK}(q:Q (.bl true) H):P0 ([.int i]++[]) H Q E:=⟨i,rfl,q⟩
local macro_rules | `(tactic| walk_at "rd")=>`(tactic| with_reducible refine CY ?_)
inductive P1(vs:List V)(H:Hp)(Q:VK)(E:XK):Prop
  | mk (a b:Int) (_:vs=[.int a,.int b]) (_:Bd 8192 b) (_:Q (.int (Int.gcd a b:Nat)) H):P1 vs H Q E
theorem vd{b:Int}{Q:VK}{E:XK}(hb:Bd 8192 b)(q:Q (.int (Int.gcd a b:Nat)) H):P1 ([.int a,.int b]++[]) H Q E:=⟨a,b,rfl,hb,q⟩
local macro_rules | `(tactic| walk_at "rd")=>`(tactic| ((with_reducible refine vd ?_ ?_); focus (walk_at "b8")))
inductive P2(vs:List V)(H:Hp)(Q:VK)(E:XK):Prop
  | mk (g n:Int) (_:vs=[.int g,.int n]) (_:Q (.int (if n<0 then -g else g)) H):P2 vs H Q E
theorem uf{g n:Int}{Q:VK}{E:XK}(q:Q (.int (if n<0 then -g else g)) H):P2 ([.int g,.int n]++[]) H Q E:=⟨g,n,rfl,q⟩
local macro_rules | `(tactic| walk_at "rd")=>`(tactic| with_reducible refine uf ?_)
inductive P3(vs:List V)(H:Hp)(Q:VK)(E:XK):Prop
  | mk {d a b:Int} (_:vs=[.int d,.int a,.int b]) (_:Bd 64 d) (_:Bd 8000 a) (_:Bd 8000 b) (_:Q (.bl (decide (0<sgn d a b))) H):P3 vs H Q E
abbrev wN:=@P3.mk
inductive P4(vs:List V)(H:Hp)(Q:VK)(E:XK):Prop
  | mk (p p':Addr) (x y z x' y' z':Int) (_:vs=[.ref p,.ref p']) (_:H p=some (.tup [.int x,.int y,.int z])) (_:H p'=some (.tup [.int x',.int y',.int z'])) (_:(Bd 900 x/\Bd 900 y/\Bd 900 x'/\Bd 900 y')) (_:Q (.int (x*y' - y*x')) H):P4 vs H Q E
variable {p':Addr}{z':Int}
theorem vP{p:Addr}{x:Int}{Q:VK}{E:XK}(h1:H p=some (.tup [.int x,.int y,.int z]))(h2:H p'=some (.tup [.int x',.int y',.int z']))(b1:Bd 900 x)(b2:Bd 900 y)(b3:Bd 900 x')(b4:Bd 900 y')(q:Q (.int (x*y' - y*x')) H):P4 ([.ref p,.ref p']++[]) H Q E:=⟨p,p',x,y,z,x',y',z',rfl,h1,h2,⟨b1,b2,b3,b4⟩,q⟩
inductive P6(vs:List V)(H:Hp)(Q:VK)(E:XK):Prop
  | mk {a:Addr} {us:List Addr} {pc:List Pc} {u:Nat} (_:vs=[.ref a,.int (u:Int)]) (_:H a=some (.lst (us.map V.ref))) (_:PcAt H us pc) (_:pc.length<=100) (_:u<=1000) (_:(∀ (r:Addr) (ps:List Addr) (H':Hp),Same H H'->H r=none->H' r=some (.lst (ps.map V.ref))->Runs H' ps (gth u pc pc.length)->Q (.ref r) H')):P6 vs H Q E
abbrev v9:=@P6.mk
inductive P7(vs:List V)(H:Hp)(Q:VK)(E:XK):Prop
  | mk {p:Addr} {e:Dd} (_:vs=[.ref p]) (_:DdAt H p e) (_:∀ (r:Addr) (H':Hp),Same H H'->H r=none->H' r=some (.lst (e.names.map V.int))->Q (.ref r) H'):P7 vs H Q E
abbrev xk:=@P7.mk
inductive P9(vs:List V)(H:Hp)(Q:VK)(E:XK):Prop
  | mk {p:Addr} {e:Dd} (_:vs=[.ref p]) (_:DdAt H p e) (_:Q (.int (e.puts:Nat)) H):P9 vs H Q E
abbrev yd:=@P9.mk
inductive P10(vs:List V)(H:Hp)(Q:VK)(E:XK):Prop
  | mk {c:Cell} (_:vs=[.ref c.p]) (_:c.At H) (_:∀ (r:Addr) (H':Hp),Same H H'->H r=none->Cell.At H' ⟨r,c.ph,c.pw,⟨c.b.h,c.b.w⟩⟩->Q (.ref r) H'):P10 vs H Q E
abbrev yT:=@P10.mk
inductive P11(vs:List V)(H:Hp)(Q:VK)(E:XK):Prop
  | mk {a:Addr} {ms ts:List Nat} (_:vs=[.ref a]) (_:H a=some (.lst ((ms.map λn:Nat=>(n:Int)).map V.int))) (_:ms.Perm ts) (_:ts.Pairwise (· < ·)) (_:ts.length<64) (_:(∀ (r:Addr) (H':Hp),Same H H'->H r=none->H' r=some (.lst (((ms.map (rk ts)).map λn:Nat=>(n:Int)).map V.int))->Q (.ref r) H')):P11 vs H Q E
abbrev BH:=@P11.mk
inductive P12(vs:List V)(H:Hp)(Q:VK)(E:XK):Prop
  | mk {p a:Addr} {e:Dd} {r:Nat->Nat} {k:Nat} (_:vs=[.ref p,.ref a]) (_:DdAt H p e) (_:e.isT=false) (_:H a=some (.lst (nmI r k))) (_:(∀ m∈e.names,∃ n,n<k/\m=((n:Nat):Int))) (_:(∀ (b:Addr) (H':Hp),Same H H'->H b=none->DdAt H' b (e.rn r)->Q (.ref b) H')):P12 vs H Q E
abbrev AD:=@P12.mk
inductive P13(vs:List V)(H:Hp)(Q:VK)(E:XK):Prop
  | mk {p:Addr} {t:Tb} (_:vs=[.ref p]) (_:TbAt H p t) (_:t.Bt 3000 3000) (_:Q (.int (xP t)) H):P13 vs H Q E
abbrev Ih:=@P13.mk
inductive P14(vs:List V)(H:Hp)(Q:VK)(E:XK):Prop
  | mk {p p':Addr} {s t:Tb} (_:vs=[.ref p,.ref p']) (_:TbAt H p s) (_:TbAt H p' t) (_:(s=t->Q .non H)) (_:(∀ (r:Addr) (H':Hp) (i j:Nat),Same H H'->H' r=some (.tup [.int (i:Int),.int (j:Int)])->Fu s t i j->Q (.ref r) H')):P14 vs H Q E
abbrev uo:=@P14.mk
inductive P15(vs:List V)(H:Hp)(Q:VK)(E:XK):Prop
  | mk {c k:Int} (_:vs=[.int c,.int k]) (_:0<=k) (_:k<=1000) (_:∀ r:Int,0<=r->r<2147483629->Q (.int r) H):P15 vs H Q E
abbrev zu:=@P15.mk
inductive P16(vs:List V)(H:Hp)(Q:VK)(E:XK):Prop
  | mk {a b n:Int} (_:vs=[.int a,.int b,.int n]) (_:n≠0) (_:Bd 8000 n) (_:∀ (r:Addr) (H':Hp),Same H H'->H' r=some (.tup [.int (lA a b n),.int (lB a b n),.int (lN a b n)])->Q (.ref r) H'):P16 vs H Q E
abbrev wI:=@P16.mk
inductive P17(vs:List V)(H:Hp)(Q:VK)(E:XK):Prop
  | mk {t b:Int} (_:vs=[.int t,.int b]) (_:b≠0) (_:Bd 8000 b) (_:∀ (r:Addr) (H':Hp),Same H H'->Fq H' r (Rat.divInt t b)->Q (.ref r) H'):P17 vs H Q E
abbrev vB:=@P17.mk
inductive P18(vs:List V)(H:Hp)(Q:VK)(E:XK):Prop
  | mk {d a b:Int} (_:vs=[.int d,.int a,.int b]) (_:Rt d) (_:Bd 8000 a) (_:Bd 8000 b) (_:∀ H',Same H H'->Q (.int (sgn d a b)) H'):P18 vs H Q E
abbrev BF:=@P18.mk
inductive P19(vs:List V)(H:Hp)(Q:VK)(E:XK):Prop
  | mk {c:Int} (_:vs=[.int c]) (_:∀ (d:Int) (H':Hp),Rt d->Same H H'->Q (.int d) H'):P19 vs H Q E
abbrev BO:=@P19.mk
inductive P20(vs:List V)(H:Hp)(Q:VK)(E:XK):Prop
  | mk {p:Addr} {t:Tb} (_:vs=[.ref p]) (_:JT H p t) (_:t.Bt 3000 3000) (_:∀ H',Same H H'->Q (.int (rkT (t))) H'):P20 vs H Q E
abbrev BQ:=@P20.mk
inductive P21(cs:Cs)(vs:List V)(H:Hp)(Q:VK)(E:XK):Prop
  | mk (p dx hp:Addr) (d:Int) (tn:Bool) (cl:List Cell) (_:vs=[.ref p,.int d,.ref hp,.bl tn]) (_:H p=some (.ins cs.Yard dx [])) (_:H hp=some (.lst (cl.map Cell.v))) (_:(∀ c∈cl,c.At H)) (_:cl.length<=60) (_:∀ (y:Yd) (H':Hp),y.p=p->y.dx=dx->(∀ b o,H b=some o->b≠p->H' b=some o)->YdAt cs.Yard H' y d tn cl (List.range cl.length) []->H y.k=none->H y.l=none->H y.t=none->Q .non H'):P21 cs vs H Q E
variable {vs:List V}
theorem vT{cs:Cs}{x hp:Addr}{H1:Hp}{Q:VK}{E:XK}(hv:vs=[.ref x,.int d,.ref hp,.bl tn])(n1:H1 x=none)(n2:H1 dx=none)(hh:H1 hp=some (.lst (cl.map Cell.v)))(hat:∀ c∈cl,c.At H1)(hl:cl.length<=60)(q:∀ (y:Yd) (H':Hp),y.p=x->Same H1 H'->YdAt cs.Yard H' y d tn cl (List.range cl.length) []->H1 y.k=none->H1 y.l=none->H1 y.t=none->Q .non H') : P21 cs vs (upd (upd H1 dx (.own x)) x (.ins cs.Yard dx [])) Q E:=by
  subst hv;have k:∀ b o,H1 b=some o->(upd (upd H1 dx (.own x)) x (.ins cs.Yard dx [])) b=some o:=λb o e=>by
    rw [zn (zb e n1),zn (zb e n2)]; exact e
  have nn:∀ b,(upd (upd H1 dx (.own x)) x (.ins cs.Yard dx [])) b=none->H1 b=none:=λb h=>by
    cases e:H1 b with
    | none=>rfl
    | some o=>rw [k b o e] at h; cases h
  exact ⟨x,dx,hp,d,tn,cl,rfl,zj,k _ _ hh,λc hc=>⟨k _ _ (hat c hc).t,k _ _ (hat c hc).w,k _ _ (hat c hc).h⟩,hl,λy H' e1 _ fr hy h1 h2 h3=>q y H' e1 (λb o e=>fr b o (k b o e) (zb e n1)) hy (nn _ h1) (nn _ h2) (nn _ h3)⟩
inductive P22(cs:Cs)(vs:List V)(H:Hp)(Q:VK)(E:XK):Prop
  | mk {y:Yd} {d:Int} {tn:Bool} {cl:List Cell} {ns:List Nat} {lg:List V} {n:Nat} {c:Cell} (_:vs=[.ref y.p,.int (n:Int)]) (_:YdAt cs.Yard H y d tn cl ns lg) (_:cl[n]?=some c) (_:Q (.ref c.p) H):P22 cs vs H Q E
abbrev wG:=@P22.mk
inductive P23(cs:Cs)(vs:List V)(H:Hp)(Q:VK)(E:XK):Prop
  | mk {y:Yd} {d:Int} {tn:Bool} {cl:List Cell} {ns:List Nat} {lg:List V} (_:vs=[.ref y.p]) (_:YdAt cs.Yard H y d tn cl ns lg) (_:∀ (r:Addr) (H':Hp) (ps:List Addr),Same H H'->H r=none->H' r=some (.lst (ps.map V.ref))->Prs cl ns H' ps->Q (.ref r) H'):P23 cs vs H Q E
abbrev tD:=@P23.mk
inductive P24(cs:Cs)(vs:List V)(H:Hp)(Q:VK)(E:XK):Prop
  | mk {y:Yd} {d:Int} {tn:Bool} {cl:List Cell} {ns:List Nat} {lg:List V} (_:vs=[.ref y.p]) (_:YdAt cs.Yard H y d tn cl ns lg) (_:∀ (r:Addr) (H':Hp),Same H H'->H r=none->H' r=some (.lst ((pick cl ns).map Cell.v))->Q (.ref r) H'):P24 cs vs H Q E
abbrev Bp:=@P24.mk
inductive P25(vs:List V)(H:Hp)(Q:VK)(E:XK):Prop
  | mk (a b n:Int) (_:vs=[.int a,.int b,.int n]) (_:n≠0) (_:Bd 8000 n) (_:(Bd 8192 a/\Bd 8192 b)) (_:∀ p H',Same H H'->H' p=some (.tup [.int (lA a b n),.int (lB a b n),.int (lN a b n)])->Q (.ref p) H'):P25 vs H Q E
theorem yS{b n:Int}{Q:VK}{E:XK}(e:vs=[.int a,.int b,.int n])(hn:n≠0)(hb:Bd 8000 n)(q:∀ p H',Same H H'->H' p=some (.tup [.int (lA a b n),.int (lB a b n),.int (lN a b n)])->Q (.ref p) H')(ha8:Bd 8192 a:=by walk_at "b8")(hb8:Bd 8192 b:=by walk_at "b8"):P25 vs H Q E:=⟨a,b,n,e,hn,hb,⟨ha8,hb8⟩,q⟩
inductive P26(vs:List V)(H:Hp)(Q:VK)(E:XK):Prop
  | mk (t b:Int) (_:vs=[.int t,.int b]) (_:b≠0) (_:Bd 8000 b) (_:∀ (r:Addr) (H':Hp),Same H H'->H' r=some (.tup [.int (fT t b),.int (fB t b)])->Q (.ref r) H'):P26 vs H Q E
theorem wV{t b:Int}{Q:VK}{E:XK}(e:vs=[.int t,.int b])(hn:b≠0)(hb:Bd 8000 b)(q:∀ (r:Addr) (H':Hp),Same H H'->H' r=some (.tup [.int (fT t b),.int (fB t b)])->Q (.ref r) H'):P26 vs H Q E:=⟨t,b,e,hn,hb,q⟩
inductive P27(vs:List V)(H:Hp)(Q:VK)(E:XK):Prop
  | mk (p p':Addr) (t b t' b':Int) (_:vs=[.ref p,.ref p']) (_:H p=some (.tup [.int t,.int b])) (_:H p'=some (.tup [.int t',.int b'])) (_:1<=b) (_:1<=b') (_:Int.gcd t b=1) (_:Int.gcd t' b'=1) (_:(Bd 3900 t/\Bd 3900 b/\Bd 3900 t'/\Bd 3900 b')) (_:∀ (r:Addr) (H':Hp),Same H H'->H' r=some (.tup [.int (lA (t*b') (t'*b) (b*b')),.int (lB (t*b') (t'*b) (b*b')),.int (lN (t*b') (t'*b) (b*b'))])->Q (.ref r) H'):P27 vs H Q E
variable {b' t':Int}
theorem xE{p:Addr}{t b:Int}{Q:VK}{E:XK}(h1:H p=some (.tup [.int t,.int b]))(h2:H p'=some (.tup [.int t',.int b']))(n1:1<=b)(n2:1<=b')(k1:Int.gcd t b=1)(k2:Int.gcd t' b'=1)(b1:Bd 3900 t)(b2:Bd 3900 b)(b3:Bd 3900 t')(b4:Bd 3900 b')(q:∀ (r:Addr) (H':Hp),Same H H'->H' r=some (.tup [.int (lA (t*b') (t'*b) (b*b')),.int (lB (t*b') (t'*b) (b*b')),.int (lN (t*b') (t'*b) (b*b'))])->Q (.ref r) H'):P27 ([.ref p,.ref p']++[]) H Q E:=⟨p,p',t,b,t',b',rfl,h1,h2,n1,n2,k1,k2,⟨b1,b2,b3,b4⟩,q⟩
inductive P28(K:iJ)(vs:List V)(H:Hp)(Q:VK)(E:XK):Prop
  | mk (p q:Addr) (x y z x' y' z':Int) (_:vs=[.ref p,.ref q]) (_:SqT K H p [.int x,.int y,.int z]) (_:H q=some (.tup [.int x',.int y',.int z'])) (_:1<=z) (_:1<=z') (_:g3 x y z=1) (_:g3 x' y' z'=1) (_:(Bd 3900 x/\Bd 3900 y/\Bd 3900 z/\Bd 3900 x'/\Bd 3900 y'/\Bd 3900 z')) (_:∀ (r:Addr) (H':Hp),Same H H'->H' r=some (.tup [.int (lA (x*z'+x'*z) (y*z'+y'*z) (z*z')),.int (lB (x*z'+x'*z) (y*z'+y'*z) (z*z')),.int (lN (x*z'+x'*z) (y*z'+y'*z) (z*z'))])->Q (.ref r) H'):P28 K vs H Q E
theorem Bh{K:iJ}{p:Addr}{x:Int}{Q:VK}{E:XK}(h1:SqT K H p [.int x,.int y,.int z])(h2:H p'=some (.tup [.int x',.int y',.int z']))(n1:1<=z)(n2:1<=z')(k1:g3 x y z=1)(k2:g3 x' y' z'=1)(b1:Bd 3900 x)(b2:Bd 3900 y)(b3:Bd 3900 z)(b4:Bd 3900 x')(b5:Bd 3900 y')(b6:Bd 3900 z')(q:∀ (r:Addr) (H':Hp),Same H H'->H' r=some (.tup [.int (lA (x*z'+x'*z) (y*z'+y'*z) (z*z')),.int (lB (x*z'+x'*z) (y*z'+y'*z) (z*z')),.int (lN (x*z'+x'*z) (y*z'+y'*z) (z*z'))])->Q (.ref r) H'):P28 K ([.ref p,.ref p']++[]) H Q E:=⟨p,p',x,y,z,x',y',z',rfl,h1,h2,n1,n2,k1,k2,⟨b1,b2,b3,b4,b5,b6⟩,q⟩
inductive P29(K:iJ)(vs:List V)(H:Hp)(Q:VK)(E:XK):Prop
  | mk (d:Int) (p p':Addr) (x y z x' y' z':Int) (_:vs=[.int d,.ref p,.ref p']) (_:SqT K H p [.int x,.int y,.int z]) (_:SqT K H p' [.int x',.int y',.int z']) (_:Bd 64 d) (_:(Bd 2500 x/\Bd 2500 y/\Bd 2500 z/\Bd 2500 x'/\Bd 2500 y'/\Bd 2500 z')) (_:Q (.bl (decide (0<sgn d (x'*z - x*z') (y'*z - y*z')))) H):P29 K vs H Q E
theorem BB{K:iJ}{p:Addr}{x:Int}{Q:VK}{E:XK}(h1:SqT K H p [.int x,.int y,.int z])(h2:H p'=some (.tup [.int x',.int y',.int z']))(hd:Bd 64 d)(b1:Bd 2500 x)(b2:Bd 2500 y)(b3:Bd 2500 z)(b4:Bd 2500 x')(b5:Bd 2500 y')(b6:Bd 2500 z')(q:Q (.bl (decide (0<sgn d (x'*z - x*z') (y'*z - y*z')))) H):P29 K ([.int d,.ref p,.ref p']++[]) H Q E:=⟨d,p,p',x,y,z,x',y',z',rfl,h1,SqT.of h2,hd,⟨b1,b2,b3,b4,b5,b6⟩,q⟩
theorem Ca{K:iJ}{p:Addr}{x:Int}{Q:VK}{E:XK}(h1:SqT K H p [.int x,.int y,.int z])(h2:SqT K H p' [.int x',.int y',.int z'])(hd:Bd 64 d)(b1:Bd 2500 x)(b2:Bd 2500 y)(b3:Bd 2500 z)(b4:Bd 2500 x')(b5:Bd 2500 y')(b6:Bd 2500 z')(q:Q (.bl (decide (0<sgn d (x'*z - x*z') (y'*z - y*z')))) H):P29 K ([.int d,.ref p,.ref p']++[]) H Q E:=⟨d,p,p',x,y,z,x',y',z',rfl,h1,h2,hd,⟨b1,b2,b3,b4,b5,b6⟩,q⟩
inductive P30(vs:List V)(H:Hp)(Q:VK)(E:XK):Prop
  | mk (d d':Int) (p r1 r2 o:Addr) (s:B4) (N x y:Int) (_:vs=[.int d,.ref p,.ref o]) (_:BsAt H p r1 r2 s N) (_:H o=some (.tup [.int (lA x y N),.int (lB x y N),.int (lN x y N)])) (_:1<=N) (_:Bd 900 N) (_:GB d' 900 s) (_:(Bd 900 x/\Bd 900 y)) (_:∀ (r:Addr) (H':Hp),Same H H'->H' r=some (.tup [.int (s.i x y),.int (s.j x y)])->Q (.ref r) H'):P30 vs H Q E
theorem uQ{d':Int}{p o:Addr}{s:B4}{N x:Int}{Q:VK}{E:XK}(h:BsAt H p r1 r2 s N)(ho:H o=some (.tup [.int (lA x y N),.int (lB x y N),.int (lN x y N)]))(hN:1<=N)(hb:Bd 900 N)(g:GB d' 900 s)(bx:Bd 900 x)(by':Bd 900 y)(q:∀ (r:Addr) (H':Hp),Same H H'->H' r=some (.tup [.int (s.i x y),.int (s.j x y)])->Q (.ref r) H'):P30 ([.int d,.ref p,.ref o]++[]) H Q E:=⟨d,d',p,r1,r2,o,s,N,x,y,rfl,h,ho,hN,hb,g,⟨bx,by'⟩,q⟩
inductive P31(K:iJ)(vs:List V)(H:Hp)(Q:VK)(E:XK):Prop
  | mk {d:Int} {k:Nat} {p:Addr} {L:List Ln} (_:vs=[.ref p]) (_:LsB d k H p L) (_:L.length<=40) (_:Bd 890 (cbs (L.map λc=>c.s.z))) (_:Q (.int (cbs (L.map λc=>c.s.z))) H):P31 K vs H Q E
abbrev vy:=@P31.mk
inductive P32(cs:Cs)(vs:List V)(H:Hp)(Q:VK)(E:XK):Prop
  | mk {y:Yd} {d:Int} {tn:Bool} {cl:List Cell} {ns:List Nat} {lg:List V} {p a:Addr} {e:Dd} {n:Nat} {c:Cell} {m m':Int} (_:vs=[.ref y.p,.ref p,.ref a]) (_:YdAt cs.Yard H y d tn cl ns lg) (_:DdAt H p e) (_:H a=some (.lst (if e.puts=2 then [.int m,.int m'] else [.int m]))) (_:e.n=(n:Int)) (_:cl[n]?=some c) (_:(∀ (r:Addr) (H':Hp),Same H H'->H r=none->DdAt H' r (e.und m m' c.b)->Q (.ref r) H')):P32 cs vs H Q E
abbrev FM:=@P32.mk
inductive P33(vs:List V)(H:Hp)(Q:VK)(E:XK):Prop
  | mk {pl:Addr} {ps:List Addr} {bs:List Bo} {es:DL} {d:Int} {tn:Bool} (_:vs=[.int ((bs.length:Nat):Int),.ref pl]) (_:1<=bs.length) (_:bs.length<=30) (_:H pl=some (.lst (ps.map V.ref))) (_:ps.length<=150) (_:Runs H ps es) (_:Walk d tn (As.sb bs) es) (_:(∀ (r:Addr) (H':Hp),Same H H'->H r=none->H' r=some (.lst (((ends (As.sb bs) es).ns.map λn:Nat=>(n:Int)).map V.int))->Q (.ref r) H')):P33 vs H Q E
abbrev ug:=@P33.mk
inductive P34(K:iJ)(vs:List V)(H:Hp)(Q:VK)(E:XK):Prop
  | mk (p p':Addr) (x y:Rat) (_:vs=[.ref p,.ref p']) (_:Fs K H p x) (_:Fq H p' y) (_:(Bq 8000 x/\Bq 8000 y)) (_:∀ (r:Addr) (H':Hp),Same H H'->Fq H' r (x+y)->Q (.ref r) H'):P34 K vs H Q E
theorem uT{K:iJ}{p:Addr}{x y:Rat}{Q:VK}{E:XK}(h1:Fs K H p x)(h2:Fq H p' y)(b1:Bq 8000 x)(b2:Bq 8000 y)(q:∀ (r:Addr) (H':Hp),Same H H'->Fq H' r (x+y)->Q (.ref r) H'):P34 K ([.ref p,.ref p']++[]) H Q E:=⟨p,p',x,y,rfl,h1,h2,⟨b1,b2⟩,q⟩
inductive P35(vs:List V)(H:Hp)(Q:VK)(E:XK):Prop
  | mk (p p':Addr) (x y:Rat) (_:vs=[.ref p,.ref p']) (_:Fq H p x) (_:Fq H p' y) (_:(Bq 8000 x/\Bq 8000 y)) (_:∀ (r:Addr) (H':Hp),Same H H'->Fq H' r (x*y)->Q (.ref r) H'):P35 vs H Q E
theorem vt{p:Addr}{x y:Rat}{Q:VK}{E:XK}(h1:Fq H p x)(h2:Fq H p' y)(b1:Bq 8000 x)(b2:Bq 8000 y)(q:∀ (r:Addr) (H':Hp),Same H H'->Fq H' r (x*y)->Q (.ref r) H'):P35 ([.ref p,.ref p']++[]) H Q E:=⟨p,p',x,y,rfl,h1,h2,⟨b1,b2⟩,q⟩
inductive P36(vs:List V)(H:Hp)(Q:VK)(E:XK):Prop
  | mk {c k d:Int} (_:vs=[.int c,.int k,.int d]) (_:(0<=k/\k<=900)) (_:Rt d) (_:∀ (r:Addr) (H':Hp) (s:Sd),Same H H'->SdAt H' r s->LOk d 30 s->s.x.natAbs<=100000000->Bd 10 s.z->Q (.ref r) H'):P36 vs H Q E
abbrev xY:=@P36.mk
inductive P37(vs:List V)(H:Hp)(Q:VK)(E:XK):Prop
  | mk (p p':Addr) (t b t' b':Int) (_:vs=[.ref p,.ref p']) (_:H p=some (.tup [.int t,.int b])) (_:H p'=some (.tup [.int t',.int b'])) (_:(b≠0/\b'≠0)) (_:(Bd 4000 t/\Bd 4000 b/\Bd 4000 t'/\Bd 4000 b')) (_:∀ (r:Addr) (H':Hp),Same H H'->Fq H' r (Rat.divInt t b+Rat.divInt t' b')->Q (.ref r) H'):P37 vs H Q E
theorem Bu{p:Addr}{t b:Int}{Q:VK}{E:XK}(h1:H p=some (.tup [.int t,.int b]))(h2:H p'=some (.tup [.int t',.int b']))(hb:b≠0)(hb':b'≠0)(b1:Bd 4000 t)(b2:Bd 4000 b)(b3:Bd 4000 t')(b4:Bd 4000 b')(q:∀ (r:Addr) (H':Hp),Same H H'->Fq H' r (Rat.divInt t b+Rat.divInt t' b')->Q (.ref r) H'):P37 ([.ref p,.ref p']++[]) H Q E:=⟨p,p',t,b,t',b',rfl,h1,h2,⟨hb,hb'⟩,⟨b1,b2,b3,b4⟩,q⟩
theorem xJ{p:Addr}{x:Rat}{t b:Int}{Q:VK}{E:XK}(h1:Fq H p x)(h2:H p'=some (.tup [.int t,.int b]))(hb:b≠0)(b1:Bq 4000 x)(b3:Bd 4000 t)(b4:Bd 4000 b)(q:∀ (r:Addr) (H':Hp),Same H H'->Fq H' r (x+Rat.divInt t b)->Q (.ref r) H'):P37 ([.ref p,.ref p']++[]) H Q E:=Bu h1 h2 (yK x) hb b1.1 b1.2 b3 b4 λr H' s e=>q r H' s (Iw e (by rw [xh]))
inductive P38(vs:List V)(H:Hp)(Q:VK)(E:XK):Prop
  | mk {p:Addr} {s:Sd} {m k:Int} (_:vs=[.ref p,.int m,.int k]) (_:SdAt H p s) (_:SY s) (_:Bd 10 m) (_:1<=k) (_:Bd 10 k) (_:(∀ (r:Addr) (H':Hp),Same H H'->SdAt H' r (shS s m k)->Q (.ref r) H')):P38 vs H Q E
abbrev xu:=@P38.mk
inductive P39(vs:List V)(H:Hp)(Q:VK)(E:XK):Prop
  | mk {p p':Addr} {s t:Sd} (_:vs=[.ref p,.ref p']) (_:SdAt H p s) (_:SdAt H p' t) (_:SY s) (_:SY t) (_:(∀ (r:Addr) (H':Hp),Same H H'->SdAt H' r (tkS s t)->Q (.ref r) H')):P39 vs H Q E
abbrev ua:=@P39.mk
inductive P40(cs:Cs)(vs:List V)(H:Hp)(Q:VK)(E:XK):Prop
  | mk {y:Yd} {d:Int} {tn:Bool} {cl:List Cell} {ns:List Nat} {lg:List V} {a:Addr} {ms:List Int} (_:vs=[.ref y.p,.ref a]) (_:YdAt cs.Yard H y d tn cl ns lg) (_:H a=some (.lst (ms.map V.int))) (_:(∀ m∈ms,∃ n∈ns,m=(n:Int))) (_:ms.Nodup) (_:ms.length<=2) (_:Q .non H):P40 cs vs H Q E
abbrev wA:=@P40.mk
inductive P41(vs:List V)(H:Hp)(Q:VK)(E:XK):Prop
  | mk {p:Addr} {a b n:Int} (_:vs=[.ref p]) (_:H p=some (.tup [.int a,.int b,.int n])) (_:n≠0) (_:Bd 8000 n) (_:∀ (r r1 r2:Addr) (H':Hp),Same H H'->H' r=some (.tup [.ref r1,.ref r2])->H' r1=some (.tup [.int (fT a n),.int (fB a n)])->H' r2=some (.tup [.int (fT b n),.int (fB b n)])->Q (.ref r) H'):P41 vs H Q E
abbrev A9:=@P41.mk
inductive P42(vs:List V)(H:Hp)(Q:VK)(E:XK):Prop
  | mk (p q:Addr) (x y z x' y' z':Int) (_:vs=[.ref p,.ref q]) (_:H p=some (.tup [.int x,.int y,.int z])) (_:H q=some (.tup [.int x',.int y',.int z'])) (_:1<=z) (_:1<=z') (_:g3 x y z=1) (_:g3 x' y' z'=1) (_:(Bd 3900 x/\Bd 3900 y/\Bd 3900 z/\Bd 3900 x'/\Bd 3900 y'/\Bd 3900 z')) (_:∀ (r:Addr) (H':Hp),Same H H'->H' r=some (.tup [.int (lA (x*z'+-x'*z) (y*z'+-y'*z) (z*z')),.int (lB (x*z'+-x'*z) (y*z'+-y'*z) (z*z')),.int (lN (x*z'+-x'*z) (y*z'+-y'*z) (z*z'))])->Q (.ref r) H'):P42 vs H Q E
theorem A2{p:Addr}{x:Int}{Q:VK}{E:XK}(h1:H p=some (.tup [.int x,.int y,.int z]))(h2:H p'=some (.tup [.int x',.int y',.int z']))(n1:1<=z)(n2:1<=z')(k1:g3 x y z=1)(k2:g3 x' y' z'=1)(b1:Bd 3900 x)(b2:Bd 3900 y)(b3:Bd 3900 z)(b4:Bd 3900 x')(b5:Bd 3900 y')(b6:Bd 3900 z')(q:∀ (r:Addr) (H':Hp),Same H H'->H' r=some (.tup [.int (lA (x*z'+-x'*z) (y*z'+-y'*z) (z*z')),.int (lB (x*z'+-x'*z) (y*z'+-y'*z) (z*z')),.int (lN (x*z'+-x'*z) (y*z'+-y'*z) (z*z'))])->Q (.ref r) H'):P42 ([.ref p,.ref p']++[]) H Q E:=⟨p,p',x,y,z,x',y',z',rfl,h1,h2,n1,n2,k1,k2,⟨b1,b2,b3,b4,b5,b6⟩,q⟩
inductive P43(vs:List V)(H:Hp)(Q:VK)(E:XK):Prop
  | mk (d:Int) (p p':Addr) (x y z x' y' z':Int) (_:vs=[.int d,.ref p,.ref p']) (_:H p=some (.tup [.int x,.int y,.int z])) (_:H p'=some (.tup [.int x',.int y',.int z'])) (_:Bd 64 d) (_:(Bd 1990 x/\Bd 1990 y/\Bd 1990 z/\Bd 1990 x'/\Bd 1990 y'/\Bd 1990 z')) (_:z≠0) (_:z'≠0) (_:∀ (r:Addr) (H':Hp),Same H H'->H' r=some (.tup [.int (lA (x*x'+d*y*y') (x*y'+y*x') (z*z')),.int (lB (x*x'+d*y*y') (x*y'+y*x') (z*z')),.int (lN (x*x'+d*y*y') (x*y'+y*x') (z*z'))])->Q (.ref r) H'):P43 vs H Q E
theorem IL{p:Addr}{x:Int}{Q:VK}{E:XK}(h1:H p=some (.tup [.int x,.int y,.int z]))(h2:H p'=some (.tup [.int x',.int y',.int z']))(hd:Bd 64 d)(b1:Bd 1990 x)(b2:Bd 1990 y)(b3:Bd 1990 z)(b4:Bd 1990 x')(b5:Bd 1990 y')(b6:Bd 1990 z')(n1:z≠0)(n2:z'≠0)(q:∀ (r:Addr) (H':Hp),Same H H'->H' r=some (.tup [.int (lA (x*x'+d*y*y') (x*y'+y*x') (z*z')),.int (lB (x*x'+d*y*y') (x*y'+y*x') (z*z')),.int (lN (x*x'+d*y*y') (x*y'+y*x') (z*z'))])->Q (.ref r) H'):P43 ([.int d,.ref p,.ref p']++[]) H Q E:=⟨d,p,p',x,y,z,x',y',z',rfl,h1,h2,hd,⟨b1,b2,b3,b4,b5,b6⟩,n1,n2,q⟩
inductive P44(vs:List V)(H:Hp)(Q:VK)(E:XK):Prop
  | mk {d N:Int} (_:vs=[.int d,.int N]) (_:1<=N) (_:Bd 900 N) (_:∀ (p' r1' r2':Addr) (H':Hp),Same H H'->BsAt H' p' r1' r2' b4 N->Q (.ref p') H'):P44 vs H Q E
abbrev Ah:=@P44.mk
inductive P45(vs:List V)(H:Hp)(Q:VK)(E:XK):Prop
  | mk {p:Addr} {s:Sd} (_:vs=[.ref p]) (_:SdAt H p s) (_:SK 2400 2100 s) (_:∀ H',Same H H'->Q (.bl true) H'):P45 vs H Q E
abbrev BJ:=@P45.mk
inductive P46(vs:List V)(H:Hp)(Q:VK)(E:XK):Prop
  | mk {c c':Cell} (_:vs=[.ref c.p,.ref c'.p]) (_:c.At H) (_:c'.At H) (_:c.b.h=c'.b.h) (_:SY c.b.w) (_:SY c'.b.w) (_:∀ (c1:Cell) (H':Hp),Same H H'->H c1.p=none->c1.At H'->c1.b=⟨adS c.b.w c'.b.w,c.b.h⟩->Q (.ref c1.p) H'):P46 vs H Q E
abbrev xQ:=@P46.mk
inductive P47(vs:List V)(H:Hp)(Q:VK)(E:XK):Prop
  | mk {c:Cell} {k:Int} (_:vs=[.ref c.p,.int k]) (_:c.At H) (_:1<=k) (_:Bd 1024 k) (_:SY c.b.w) (_:SY c.b.h) (_:∀ (c1:Cell) (H':Hp),Same H H'->H c1.p=none->c1.At H'->c1.b=⟨shS c.b.w 1 k,shS c.b.h k 1⟩->Q (.ref c1.p) H'):P47 vs H Q E
abbrev Am:=@P47.mk
inductive P48(vs:List V)(H:Hp)(Q:VK)(E:XK):Prop
  | mk {pl ml:Addr} {ps ms:List Addr} {bs F:List Bo} {es fs:DL} {d:Int} {tn:Bool} (_:vs=[.int ((bs.length:Nat):Int),.ref pl,.ref ml]) (_:1<=bs.length) (_:bs.length<=30) (_:H pl=some (.lst (ps.map V.ref))) (_:ps.length<=150) (_:Runs H ps es) (_:Walk d tn (As.sb bs) es) (_:H ml=some (.lst (ms.map V.ref))) (_:ms.length<=150) (_:Runs H ms fs) (_:(ends (As.sb bs) es).ns.map (ends (As.sb bs) es).g=F) (_:Walk d false (As.sb F) fs) (_:(∀ (b:Addr) (qs:List Addr) (H':Hp),Same H H'->H b=none->H' b=some (.lst ((ps++qs).map V.ref))->Runs H' (ps++qs) (es++fs.map (rnx (nmr (ends (As.sb bs) es))))->Q (.ref b) H')):P48 vs H Q E
abbrev Db:=@P48.mk
inductive P49(vs:List V)(H:Hp)(Q:VK)(E:XK):Prop
  | mk (p p':Addr) (x y:Rat) (_:vs=[.ref p,.ref p']) (_:Fq H p x) (_:Fq H p' y) (_:y.num≠0) (_:(Bq 8000 x/\Bq 8000 y)) (_:∀ (r:Addr) (H':Hp),Same H H'->Fq H' r (x*y⁻¹)->Q (.ref r) H'):P49 vs H Q E
theorem c_by{p:Addr}{x y:Rat}{Q:VK}{E:XK}(h1:Fq H p x)(h2:Fq H p' y)(b1:Bq 8000 x)(b2:Bq 8000 y)(hy:y.num≠0)(q:∀ (r:Addr) (H':Hp),Same H H'->Fq H' r (x*y⁻¹)->Q (.ref r) H'):P49 ([.ref p,.ref p']++[]) H Q E:=⟨p,p',x,y,rfl,h1,h2,hy,⟨b1,b2⟩,q⟩
inductive P50(K:iJ)(vs:List V)(H:Hp)(Q:VK)(E:XK):Prop
  | mk {p p':Addr} {s t:Tb} (_:vs=[.ref p,.ref p']) (_:(∃ r0 r1 f0 f1 f2 f3:Addr,TbS K H p r0 r1 f0 f1 f2 f3 s)) (_:TbAt H p' t) (_:s.Bt 4000 4000) (_:t.Bt 4000 4000) (_:∀ (r:Addr) (H':Hp),Same H H'->TbAt H' r (s.add t)->Q (.ref r) H'):P50 K vs H Q E
abbrev Dr:=@P50.mk
inductive P51(K:iJ)(vs:List V)(H:Hp)(Q:VK)(E:XK):Prop
  | mk {d:Int} {pt:Addr} {t:Tb} (_:vs=[.int d,.ref pt]) (_:TbAt H pt t) (_:t.Bt 450 450) (_:Bd 64 d) (_:¬ ((colS t).x=0/\(colS t).y=0)) (_:Rt d) (_:(∀ (r:Addr) (H':Hp),Same H H'->SdAt H' r (pwS d t)->Q (.ref r) H')):P51 K vs H Q E
abbrev tK:=@P51.mk
inductive P52(vs:List V)(H:Hp)(Q:VK)(E:XK):Prop
  | mk {p:Addr} {L:List Cell} (_:vs=[.ref p]) (_:H p=some (.lst (L.map Cell.v))) (_:(∀ x∈L,x.At H)) (_:(∀ x∈L,S19 x.b.w/\S19 x.b.h)) (_:(∀ i,i<L.length->(tbs ((L.take i).map Cell.b)).Bt 4000 4000)) (_:(∀ (r l0 l1 q0 q1 q2 q3:Addr) (H':Hp),Same H H'->LsH H' r l0 l1 q0 q1 q2 q3 (tbs (L.map Cell.b))->Q (.ref r) H')):P52 vs H Q E
abbrev wn:=@P52.mk
inductive P53(K:iJ)(vs:List V)(H:Hp)(Q:VK)(E:XK):Prop
  | mk {p:Addr} {c d Nw Eh:Int} {L:List Cell} {kx kh K':Nat} (_:vs=[.ref p,.int c,.int d]) (_:H p=some (.lst (L.map Cell.v))) (_:(∀ x∈L,x.At H)) (_:(∀ x∈L,WnB d Nw Eh kx kh x.b)) (_:(1<=Nw/\1<=Eh)) (_:(Bd K' Nw/\Bd K' Eh)) (_:(K'+20<=kx/\K'+20<=kh/\kx<=900/\kh<=900)) (_:(1<=L.length/\L.length<=20)) (_:Rt d) (_:(∀ (r:Addr) (H':Hp) (L2:List Cell) (N' E':Int),Same H H'->H r=none->H' r=some (.lst (L2.map Cell.v))->(∀ x∈L2,x.At H')->(1<=N'/\1<=E')->(∃ ka kb:Int,N'=Nw*ka/\E'=Eh*kb/\1<=ka/\1<=kb/\Bd 10 ka/\Bd 10 kb/\Bd 10 (ka*kb))->(Bd (K'+10) N'/\Bd (K'+10) E')->(∀ x∈L2,WnB d N' E' (kx+11) (kh+11) x.b)->L2.length=L.length+1->tbs (L2.map Cell.b)=tbs (L.map Cell.b)->Q (.ref r) H')):P53 K vs H Q E
abbrev uA:=@P53.mk
inductive P54(vs:List V)(H:Hp)(Q:VK)(E:XK):Prop
  | mk {d:Int} {p r1 r2:Addr} {s:B4} {N:Int} (_:vs=[.int d,.ref p]) (_:BsAt H p r1 r2 s N) (_:Rt d) (_:1<=N) (_:Bd 900 N) (_:GB d 900 s) (_:∀ (p' r1' r2':Addr) (H':Hp),Same H H'->BsAt H' p' r1' r2' (s.nx d) N->Q (.ref p') H'):P54 vs H Q E
abbrev BI:=@P54.mk
inductive P55(vs:List V)(H:Hp)(Q:VK)(E:XK):Prop
  | mk {d m:Int} {p:Addr} {s:Sd} (_:vs=[.int d,.int m,.ref p]) (_:SdAt H p s) (_:Bd 64 d) (_:Bd 1024 m) (_:SK 900 900 s) (_:∀ (r:Addr) (H':Hp),Same H H'->SdAt H' r (tmS m s)->Q (.ref r) H'):P55 vs H Q E
abbrev wX:=@P55.mk
inductive P56(vs:List V)(H:Hp)(Q:VK)(E:XK):Prop
  | mk {p:Addr} {e:Dd} (_:vs=[.ref p]) (_:DdAt H p e) (_:e.Ok) (_:∀ H',Same H H'->Q (.bl true) H'):P56 vs H Q E
abbrev Ec:=@P56.mk
inductive P57(vs:List V)(H:Hp)(Q:VK)(E:XK):Prop
  | mk {d:Int} {c:Cell} {p:Addr} {s:Sd} (_:vs=[.int d,.ref c.p,.ref p]) (_:c.At H) (_:SdAt H p s) (_:Bd 64 d) (_:SY c.b.w) (_:SY s) (_:0<sgn d s.x s.y) (_:0<sgn d (c.b.w.x*s.z - s.x*c.b.w.z) (c.b.w.y*s.z - s.y*c.b.w.z)) (_:∀ (r:Addr) (c1 c2:Cell) (H':Hp),Same H H'->H r=none->H' r=some (.lst [.ref c1.p,.ref c2.p])->c1.At H'->c2.At H'->c1.b=⟨s,c.b.h⟩->c2.b=⟨tkS c.b.w s,c.b.h⟩->Q (.ref r) H'):P57 vs H Q E
abbrev wZ:=@P57.mk
inductive P58(vs:List V)(H:Hp)(Q:VK)(E:XK):Prop
  | mk {c:Cell} (_:vs=[.ref c.p]) (_:c.At H) (_:(S19 c.b.w/\S19 c.b.h)) (_:∀ (r:Addr) (H':Hp),Same H H'->TbAt H' r (c.b.tb)->Q (.ref r) H'):P58 vs H Q E
abbrev tP:=@P58.mk
inductive P59(vs:List V)(H:Hp)(Q:VK)(E:XK):Prop
  | mk {pt pw:Addr} {t:Tb} {w:Sd} (_:vs=[.ref pt,.ref pw]) (_:TbAt H pt t) (_:SdAt H pw w) (_:w.z≠0) (_:(Bd 1900 w.x/\Bd 1900 w.y/\Bd 1900 w.z)) (_:t.Bt 1900 1900) (_:(w.p.num≠0\/w.q.num≠0)) (_:(∀ (r:Addr) (H':Hp),Same H H'->SdAt H' r (hbS t w)->Q (.ref r) H')):P59 vs H Q E
abbrev A0:=@P59.mk
inductive P60(K:iJ)(vs:List V)(H:Hp)(Q:VK)(E:XK):Prop
  | mk {a:Addr} {ns:List Int} {mo:Nat} {d:Int} (_:vs=[.ref a,.int (mo:Int),.int d]) (_:SqL K H a (ns.map V.int)) (_:ns.length<=100) (_:(1<=mo/\mo<=16)) (_:Rt d) (_:(∀ (r:Addr) (H':Hp) (L:List Cell) (Nw Eh:Int),Same H H'->H' r=some (.lst (L.map Cell.v))->(∀ x∈L,x.At H')->(1<=Nw/\1<=Eh)->(Bd (10*mo+1) Nw/\Bd (10*mo+1) Eh)->(∀ x∈L,WnB d Nw Eh (11*mo+20) (11*mo+20) x.b)->TbD (Eh*Nw) (23*mo+40) (tbs (L.map Cell.b))->(1<=L.length/\L.length<=mo)->Q (.ref r) H')):P60 K vs H Q E
abbrev ur:=@P60.mk
inductive P61(K:iJ)(vs:List V)(H:Hp)(Q:VK)(E:XK):Prop
  | mk {d:Int} {p:Addr} {L:List Ln} {k:Nat} (_:vs=[.int d,.ref p]) (_:LsB d 700 H p L) (_:Rt d) (_:L.length<=40) (_:Fst d (L.map Ln.u) k) (_:Bd 890 (cbs (L.map λc=>c.s.z))) (_:∀ (p' r1 r2:Addr) (H':Hp),Same H H'->BsAt H' p' r1 r2 (st d k) (cbs (L.map λc=>c.s.z))->Q (.ref p') H'):P61 K vs H Q E
abbrev Ai:=@P61.mk
inductive P62(vs:List V)(H:Hp)(Q:VK)(E:XK):Prop
  | mk {d d':Int} {p pb r1 r2:Addr} {s':B4} {N D:Int} {C:List Cell} {hb:List Bx} (_:vs=[.int d,.ref p,.ref pb]) (_:H p=some (.lst (C.map Cell.v))) (_:(∀ c∈C,c.At H)) (_:BsAt H pb r1 r2 s' N) (_:1<=N) (_:Bd 900 N) (_:GB d' 900 s') (_:C.length=hb.length) (_:1<=hb.length) (_:hb.length<=60) (_:Bd 64 d) (_:1<=D) (_:Bd 900 D) (_:(∀ (k:Nat) (c:Cell) (b:Bx),C[k]?=some c->hb[k]?=some b->(∃ X Y,c.b.w=sdO N X Y/\Bd 900 X/\Bd 900 Y/\b.i=s'.i X Y/\b.j=s'.j X Y)/\c.b.h=sdO D b.x b.y)) (_:(∀ b∈hb,Bd 1024 b.i/\Bd 1024 b.j/\Bd 900 b.x/\Bd 900 b.y)) (_:(∀ (l:Addr) (H':Hp) (R:List Cell),H l=none->Same H H'->H' l=some (.lst (R.map Cell.v))->(∀ c∈R,c.At H')->R.map Cell.b=nrx s' N D hb 2->Q (.ref l) H')):P62 vs H Q E
abbrev u8:=@P62.mk
inductive P63(vs:List V)(H:Hp)(Q:VK)(E:XK):Prop
  | mk {d d':Int} {p pb r1 r2:Addr} {s':B4} {N D px py:Int} {C:List Cell} {hb:List Bx} (_:vs=[.int d,.ref p,.ref pb]) (_:H p=some (.lst (C.map Cell.v))) (_:(∀ c∈C,c.At H)) (_:BsAt H pb r1 r2 s' N) (_:1<=N) (_:Bd 900 N) (_:GB d' 900 s') (_:C.length=hb.length) (_:hb.length<=60) (_:Bd 64 d) (_:1<=D) (_:bw1 s' N=sdO D px py) (_:SK 900 900 (bw1 s' N)) (_:(∀ (k:Nat) (c:Cell) (b:Bx),C[k]?=some c->hb[k]?=some b->∃ X Y,c.b.w=sdO N X Y/\Bd 900 X/\Bd 900 Y/\b.i=s'.i X Y/\b.j=s'.j X Y/\Bd 1024 b.i)) (_:(∀ (r:Addr) (ps:List Addr) (H':Hp),Same H H'->H r=none->H' r=some (.lst (ps.map V.ref))->Runs H' ps (npl D px py hb)->Q (.ref r) H')):P63 vs H Q E
abbrev t9:=@P63.mk
inductive P64(K:iJ)(vs:List V)(H:Hp)(Q:VK)(E:XK):Prop
  | mk {p:Addr} {L:List Cell} (_:vs=[.ref p]) (_:H p=some (.lst (L.map Cell.v))) (_:(∀ x∈L,x.At H)) (_:(∀ x∈L,S19 x.b.w/\S19 x.b.h)) (_:(∀ i,i<L.length->(tbs ((L.take i).map Cell.b)).Bt 4000 4000)) (_:1<=L.length) (_:(∀ (r:Addr) (H':Hp),Same H H'->TbAt H' r (tbs (L.map Cell.b))->Q (.ref r) H')):P64 K vs H Q E
abbrev vY:=@P64.mk
inductive P65(cs:Cs)(vs:List V)(H:Hp)(Q:VK)(E:XK):Prop
  | mk {y:Yd} {d:Int} {tn:Bool} {cl:List Cell} {ns:List Nat} {lg:List V} {p a:Addr} {e:Dd} {c c':Cell} (_:vs=[.ref y.p,.ref p,.ref a]) (_:YdAt cs.Yard H y d tn cl ns lg) (_:DdAt H p e) (_:H a=some (.lst (if e.two then [.ref c.p,.ref c'.p] else [.ref c.p]))) (_:c.At H) (_:c'.At H) (_:Bd 64 d) (_:e.Fit d c.b c'.b) (_:(∀ (r:Addr) (N:List Cell) (H':Hp),Same H H'->H r=none->H' r=some (.lst (N.map Cell.v))->(∀ x∈N,x.At H')->N.map Cell.b=e.new c.b c'.b->Q (.ref r) H')):P65 cs vs H Q E
abbrev tw:=@P65.mk
inductive P66(K:iJ)(vs:List V)(H:Hp)(Q:VK)(E:XK):Prop
  | mk {p:Addr} {L:List Cell} (_:vs=[.ref p]) (_:H p=some (.lst (L.map Cell.v))) (_:(∀ x∈L,x.At H)) (_:(∀ x∈L,S19 x.b.w/\S19 x.b.h)) (_:(∀ i,i<L.length->(tbs ((L.take i).map Cell.b)).Bt 4000 4000)) (_:1<=L.length) (_:(tbs (L.map Cell.b)).Bt 3000 3000) (_:(∀ H',Same H H'->Q (.int (rkT (tbs (L.map Cell.b)))) H')):P66 K vs H Q E
abbrev Dy:=@P66.mk
inductive P67(cs:Cs)(vs:List V)(H:Hp)(Q:VK)(E:XK):Prop
  | mk {y:Yd} {d:Int} {tn:Bool} {cl:List Cell} {ns:List Nat} {lg:List V} {p:Addr} {e:Dd} {c c':Cell} (_:vs=[.ref y.p,.ref p]) (_:YdAt cs.Yard H y d tn cl ns lg) (_:DdAt H p e) (_:e.Ok) (_:(∀ m∈e.names,∃ n∈ns,m=(n:Int))) (_:e.names.Nodup) (_:(e.isT=true->tn=true)) (_:CellsOf cl e c c') (_:e.Fit d c.b c'.b) (_:Bd 64 d) (_:cl.length<=398) (_:lg.length<=199) (_:(∀ (N:List Cell) (H':Hp),YdAt cs.Yard H' y d tn (cl++N) (yq ns e.names++List.range' cl.length N.length) (lg++[.ref p])->N.map Cell.b=e.new c.b c'.b->(∀ b o,H b=some o->b≠y.k->b≠y.l->b≠y.t->H' b=some o)->Q .non H')):P67 cs vs H Q E
abbrev D6:=@P67.mk
inductive P68(cs:Cs)(vs:List V)(H:Hp)(Q:VK)(E:XK):Prop
  | mk {hp pl:Addr} {d:Int} {tn:Bool} {L:List Cell} {ps:List Addr} {es:DL} (_:vs=[.int d,.ref hp,.ref pl,.bl tn]) (_:H hp=some (.lst (L.map Cell.v))) (_:(∀ c∈L,c.At H)) (_:L.length<=30) (_:H pl=some (.lst (ps.map V.ref))) (_:ps.length<=150) (_:Bd 64 d) (_:Runs H ps es) (_:Walk d tn (As.st L) es) (_:(∀ (y:Yd) (H':Hp),Same H H'->YdS cs.Yard H' y d tn (ends (As.st L) es) (ps.map V.ref)->Q (.ref y.p) H')):P68 cs vs H Q E
abbrev wm:=@P68.mk
inductive P69(cs:Cs)(vs:List V)(H:Hp)(Q:VK)(E:XK):Prop
  | mk {hp pl:Addr} {d:Int} {tn:Bool} {L:List Cell} {ps:List Addr} {es:DL} (_:vs=[.int d,.ref hp,.ref pl,.bl tn]) (_:H hp=some (.lst (L.map Cell.v))) (_:(∀ c∈L,c.At H)) (_:L.length<=30) (_:H pl=some (.lst (ps.map V.ref))) (_:ps.length<=150) (_:Bd 64 d) (_:Runs H ps es) (_:Walk d tn (As.st L) es) (_:(∀ (r:Addr) (C:List Cell) (H':Hp),Same H H'->H r=none->H' r=some (.lst (C.map Cell.v))->(∀ c∈C,c.At H')->C.map Cell.b=(ends (As.st L) es).ns.map (ends (As.st L) es).g->Q (.ref r) H')):P69 cs vs H Q E
abbrev tO:=@P69.mk
inductive P70(cs:Cs)(vs:List V)(H:Hp)(Q:VK)(E:XK):Prop
  | mk {hp pl:Addr} {d:Int} {tn:Bool} {L:List Cell} {ps:List Addr} {es:DL} {D0:Int} {K' M:Nat} (_:vs=[.int d,.ref hp,.ref pl]) (_:H hp=some (.lst (L.map Cell.v))) (_:(∀ c∈L,c.At H)) (_:1<=L.length) (_:L.length<=20) (_:H pl=some (.lst (ps.map V.ref))) (_:ps.length<=100) (_:Rt d) (_:Runs H ps es) (_:Walk d tn (As.st L) es) (_:Sz D0 K' M) (_:Ever d D0 M (ends (As.st L) es)) (_:(∀ (r a b:Addr) (ps':List Addr) (es':DL) (qs:List Nat) (H':Hp),Same H H'->H' r=some (.tup [.ref a,.ref b])->H a=none->H b=none->a≠b->H' a=some (.lst (ps'.map V.ref))->H' b=some (.lst ((qs.map λn:Nat=>(n:Int)).map V.int))->Runs H' ps' es'->es'.length=es.length->Turned d tn D0 M (L.map Cell.b) ((ends (As.st L) es).ns.map (ends (As.st L) es).g) es' qs->Q (.ref r) H')):P70 cs vs H Q E
abbrev KH:=@P70.mk
inductive P71(cs:Cs)(vs:List V)(H:Hp)(Q:VK)(E:XK):Prop
  | mk {d N0 Eh:Int} {p1 p2:Addr} {C1 C2:List Cell} {kx kN kw kE kh M:Nat} (_:vs=[.int d,.ref p1,.ref p2]) (_:H p1=some (.lst (C1.map Cell.v))) (_:H p2=some (.lst (C2.map Cell.v))) (_:(∀ c∈C1,c.At H)) (_:(∀ c∈C2,c.At H)) (_:(∀ c∈C1,Wh d N0 Eh kx kw kh c.b)) (_:(∀ x∈C1,S19 x.b.w/\S19 x.b.h)) (_:(∀ i,i<C1.length->(tbs ((C1.take i).map Cell.b)).Bt 4000 4000)) (_:(tbs (C1.map Cell.b)=tbs (C2.map Cell.b)->∀ c∈C2,Wh d N0 Eh kx kw kh c.b)) (_:(∀ x∈C2,S19 x.b.w/\S19 x.b.h)) (_:(∀ i,i<C2.length->(tbs ((C2.take i).map Cell.b)).Bt 4000 4000)) (_:LkB kx kN kw kE kh M) (_:(1<=N0/\Bd kN N0)) (_:(1<=Eh/\Bd kE Eh)) (_:(1<=C1.length/\C1.length<=20)) (_:(1<=C2.length/\C2.length<=20)) (_:Rt d) (_:(tbs (C1.map Cell.b)=tbs (C2.map Cell.b)->∀ (r pl pp:Addr) (H':Hp) (ps:List Addr) (es:DL) (qs:List Nat) (D':Int),Same H H'->H' r=some (.tup [.str (Str.ofString "plan"),.ref pl,.ref pp])->H pl=none->H pp=none->pl≠pp->H' pl=some (.lst (ps.map V.ref))->Runs H' ps es->ps.length<=5*(C1.length+C2.length)->H' pp=some (.lst ((qs.map λn:Nat=>(n:Int)).map V.int))->Sz D' (kN+kE) M->Plan d false D' M (C1.map Cell.b) (C2.map Cell.b) es qs->Q (.ref r) H')) (_:(∀ (r:Addr) (H':Hp) (i j:Nat),Same H H'->H' r=some (.tup [.str (Str.ofString "apart"),.int (i:Int),.int (j:Int)])->Fu (tbs (C1.map Cell.b)) (tbs (C2.map Cell.b)) i j->Q (.ref r) H')):P71 cs vs H Q E
abbrev Hz:=@P71.mk
inductive P72(K:iJ)(cs:Cs)(vs:List V)(H:Hp)(Q:VK)(E:XK):Prop
  | mk {d N0 Eh:Int} {p pw:Addr} {C:List Cell} {w:Sd} {kx kN kw kE kh M:Nat} (_:vs=[.int d,.ref p,.ref pw]) (_:H p=some (.lst (C.map Cell.v))) (_:(∀ c∈C,c.At H)) (_:(∀ c∈C,Wh d N0 Eh kx kw kh c.b)) (_:(∀ x∈C,S19 x.b.w/\S19 x.b.h)) (_:(∀ i,i<C.length->(tbs ((C.take i).map Cell.b)).Bt 4000 4000)) (_:LkB kx kN kw kE kh M) (_:(1<=N0/\Bd kN N0)) (_:(1<=Eh/\Bd kE Eh)) (_:(1<=C.length/\C.length<=20)) (_:Rt d) (_:SdAt H pw w) (_:w.z≠0) (_:(Bd 500 w.x/\Bd 500 w.y/\Bd 500 w.z)) (_:(tbs (C.map Cell.b)).Bt 440 440) (_:(w.p.num≠0\/w.q.num≠0)) (_:(tbs (C.map Cell.b)=tbs [⟨w,(hbS (tbs (C.map Cell.b)) w)⟩]->Wh d N0 Eh kx kw kh ⟨w,(hbS (tbs (C.map Cell.b)) w)⟩)) (_:(tbs (C.map Cell.b)=tbs [⟨w,(hbS (tbs (C.map Cell.b)) w)⟩]->∀ (r pl pm ph:Addr) (H':Hp) (ps:List Addr) (es:DL) (qs:List Nat) (D':Int),Same H H'->H' r=some (.tup [.ref pl,.ref pm])->Cell.At H' ⟨pm,pw,ph,⟨w,(hbS (tbs (C.map Cell.b)) w)⟩⟩->H pl=none->H' pl=some (.lst (ps.map V.ref))->Runs H' ps es->ps.length<=5*(C.length+1)->Sz D' (kN+kE) M->Plan d false D' M (C.map Cell.b) [⟨w,(hbS (tbs (C.map Cell.b)) w)⟩] es qs->Q (.ref r) H')) (_:(tbs (C.map Cell.b)≠tbs [⟨w,(hbS (tbs (C.map Cell.b)) w)⟩]->∀ H',Same H H'->Q .non H')):P72 K cs vs H Q E
abbrev xU:=@P72.mk
inductive P73(K:iJ)(cs:Cs)(vs:List V)(H:Hp)(Q:VK)(E:XK):Prop
  | mk {d N0 Eh Et:Int} {p:Addr} {C:List Cell} {kx kN kE kh kt ke kr M:Nat} (_:vs=[.int d,.ref p]) (_:H p=some (.lst (C.map Cell.v))) (_:(∀ c∈C,c.At H)) (_:(∀ x∈C,S19 x.b.w/\S19 x.b.h)) (_:(∀ i,i<C.length->(tbs ((C.take i).map Cell.b)).Bt 4000 4000)) (_:(tbs (C.map Cell.b)).Bt 3000 3000) (_:(1<=C.length/\C.length<=20)) (_:Rt d) (_:(((C.length:Int)=rkT (tbs (C.map Cell.b))/\∃ (D0:Int) (K0:Nat),Sz D0 K0 M/\K0<=1900/\∀ c∈C,BoD d D0 M c.b)\/(FwC kx kN kE kh kt ke kr M/\(1<=N0/\Bd kN N0)/\(1<=Eh/\Bd kE Eh)/\(∀ c∈C,WnB d N0 Eh kx kh c.b)/\1<=Et/\Bd ke Et/\TbD Et kt (tbs (C.map Cell.b))/\Et∣Eh))) (_:(∀ (r pl ph:Addr) (H':Hp) (ps:List Addr) (es:DL) (R:List Cell) (D':Int) (K':Nat),Same H H'->H' r=some (.tup [.ref pl,.ref ph])->(H pl=none/\H ph=none/\pl≠ph)->H' pl=some (.lst (ps.map V.ref))->Runs H' ps es->ps.length<=110->H' ph=some (.lst (R.map Cell.v))->(∀ c∈R,c.At H')->tbs (R.map Cell.b)=tbs (C.map Cell.b)->(R.length:Int)=rkT (tbs (C.map Cell.b))->Sz D' K' M->K'<=1900->(R.map Cell.b=C.map Cell.b\/∀ c∈R,WnB d N0 Et kr (kN+(kr+kt+1)) c.b)->Way d D' M (C.map Cell.b) (R.map Cell.b) es->Q (.ref r) H')):P73 K cs vs H Q E
abbrev GE:=@P73.mk
inductive P74(K:iJ)(cs:Cs)(vs:List V)(H:Hp)(Q:VK)(E:XK):Prop
  | mk {d N0 Et f:Int} {p:Addr} {c:Int} {C:List Cell} {kx kN kE kh kt ke kf M:Nat} (_:vs=[.int d,.ref p,.int c]) (_:H p=some (.lst (C.map Cell.v))) (_:(∀ c∈C,c.At H)) (_:(1<=C.length/\C.length<=20)) (_:Rt d) (_:FwC kx kN kE kh kt ke (kx+1) M) (_:LkB (kx+11) (kN+10) (kx+11+(kN+10)) (kE+10) (kh+11) M) (_:(kN+(kx+1+kt+1)+kf<=kh/\kx+11<=500/\kN+10<=500/\M<=1900)) (_:(1<=N0/\Bd kN N0)) (_:(1<=f/\Bd kf f/\Bd kE (Et*f))) (_:(∀ c∈C,WnB d N0 (Et*f) kx kh c.b)) (_:(1<=Et/\Bd ke Et/\TbD Et kt (tbs (C.map Cell.b)))) (_:(∀ (r:Addr) (H':Hp) (R:List Cell) (N' f':Int),Same H H'->H' r=some (.lst (R.map Cell.v))->(∀ x∈R,x.At H')->tbs (R.map Cell.b)=tbs (C.map Cell.b)->(1<=R.length/\R.length<=2)->(1<=N'/\1<=f')->(N0∣N'/\f∣f')->(Bd (kN+10) N'/\Bd (kf+10) f')->(∀ c∈R,WnB d N' (Et*f') (kx+11) (kh+11) c.b)->Q (.ref r) H')):P74 K cs vs H Q E
abbrev Dc:=@P74.mk
theorem C0:FnScope ["thing"] ["thing"] (defScope S0):=by walk_at "sc"
theorem C4:FnScope ["one","other","pair","rest"] ["one","other"] (defScope S1):=by walk_at "sc"
theorem C5:FnScope ["divisor","bottom"] ["divisor","bottom"] (defScope S2):=by walk_at "sc"
theorem C6:FnScope ["d","a","b"] ["d","a","b"] (defScope S10):=by walk_at "sc"
theorem C7:FnScope ["one","other"] ["one","other"] (defScope S14):=by walk_at "sc"
theorem C8:FnScope ["pieces","unused","deeds","place","piece","fresh"] ["pieces","unused"] (defScope S22):=by walk_at "sc"
theorem C9:FnScope ["deed"] ["deed"] (defScope S25):=by walk_at "sc"
theorem C10:FnScope ["deed"] ["deed"] (defScope S26):=by walk_at "sc"
theorem C11:FnScope ["one"] ["one"] (defScope S27):=by walk_at "sc"
theorem C12:FnScope ["names","places","place","name"] ["names"] (defScope S34):=by walk_at "sc"
theorem C13:FnScope ["deed","names"] ["deed","names"] (defScope S37):=by walk_at "sc"
theorem C14:FnScope ["one","straight","across"] ["one"] (defScope S45):=by walk_at "sc"
theorem C15:FnScope ["one","other","row","column"] ["one","other"] (defScope S46):=by walk_at "sc"
theorem C16:FnScope ["_law_cell","_law_k","_law_number"] ["_law_cell","_law_k"] (defScope S53):=by walk_at "sc"
theorem C17:FnScope ["_law_a","_law_b","_law_n","_law_one","_law_other"] ["_law_a","_law_b","_law_n"] (defScope S54):=by walk_at "sc"
theorem C18:FnScope ["_law_top","_law_bottom","_law_one","_law_other"] ["_law_top","_law_bottom"] (defScope S55):=by walk_at "sc"
theorem C19:FnScope ["_law_d","_law_a","_law_b"] ["_law_d","_law_a","_law_b"] (defScope S56):=by walk_at "sc"
theorem C20:FnScope ["_law_cell","_law_some"] ["_law_cell"] (defScope S57):=by walk_at "sc"
theorem C21:FnScope ["_law_found","_law_one","_law_other"] ["_law_found"] (defScope S61):=by walk_at "sc"
theorem C22:FnScope ["self","d","heap","turning"] ["self","d","heap","turning"] (defScope S68):=by walk_at "sc"
theorem C23:FnScope ["self","name"] ["self","name"] (defScope S72):=by walk_at "sc"
theorem C24:FnScope ["self"] ["self"] (defScope S73):=by walk_at "sc"
theorem C25:FnScope ["self"] ["self"] (defScope S74):=by walk_at "sc"
theorem C26:FnScope ["a","b","n","divisor"] ["a","b","n"] (defScope S3):=by walk_at "sc"
theorem C27:FnScope ["top","bottom","divisor"] ["top","bottom"] (defScope S4):=by walk_at "sc"
theorem C28:FnScope ["f","g","shared"] ["f","g"] (defScope S6):=by walk_at "sc"
theorem C29:FnScope ["one","other","shared","ahead","behind","a","b","left"] ["one","other"] (defScope S7):=by walk_at "sc"
theorem C30:FnScope ["d","one","other"] ["d","one","other"] (defScope S11):=by walk_at "sc"
theorem C31:FnScope ["d","base","one","p","q","bottom"] ["d","base","one"] (defScope S15):=by walk_at "sc"
theorem C32:FnScope ["lengths","bottom","one"] ["lengths"] (defScope S16):=by walk_at "sc"
theorem C33:FnScope ["yard","deed","names","word"] ["yard","deed","names"] (defScope S33):=by walk_at "sc"
theorem C34:FnScope ["many","plan","lying","unused","deed","name"] ["many","plan"] (defScope S36):=by walk_at "sc"
theorem C35:FnScope ["one","other","shared","top","left"] ["one","other"] (defScope S39):=by walk_at "sc"
theorem C36:FnScope ["one","other","first","second"] ["one","other"] (defScope S40):=by walk_at "sc"
theorem C37:FnScope ["_law_cell","_law_k","_law_d","_law_n","_law_b","_law_way","_law_a"] ["_law_cell","_law_k","_law_d"] (defScope S58):=by walk_at "sc"
theorem C38:FnScope ["_law_one","_law_other"] ["_law_one","_law_other"] (defScope S59):=by walk_at "sc"
theorem C39:FnScope ["_law_one","_law_many","_law_behind"] ["_law_one","_law_many","_law_behind"] (defScope S62):=by walk_at "sc"
theorem C40:FnScope ["_law_one","_law_other","_law_bottom"] ["_law_one","_law_other"] (defScope S63):=by walk_at "sc"
theorem C41:FnScope ["self","names","name"] ["self","names"] (defScope S70):=by walk_at "sc"
theorem C42:FnScope ["one"] ["one"] (defScope S5):=by walk_at "sc"
theorem C43:FnScope ["one","other"] ["one","other"] (defScope S8):=by walk_at "sc"
theorem C44:FnScope ["d","one","other"] ["d","one","other"] (defScope S9):=by walk_at "sc"
theorem C45:FnScope ["d","n"] ["d","n"] (defScope S12):=by walk_at "sc"
theorem C46:FnScope ["thing"] ["thing"] (defScope S23):=by walk_at "sc"
theorem C47:FnScope ["one","other"] ["one","other"] (defScope S29):=by walk_at "sc"
theorem C48:FnScope ["one","many","width","height"] ["one","many"] (defScope S30):=by walk_at "sc"
theorem C49:FnScope ["many","plan","more","names","unused","deeds","deed","name"] ["many","plan","more"] (defScope S38):=by walk_at "sc"
theorem C50:FnScope ["one","other"] ["one","other"] (defScope S41):=by walk_at "sc"
theorem C51:FnScope ["one","other"] ["one","other"] (defScope S44):=by walk_at "sc"
theorem C52:FnScope ["d","whole","column","width","many"] ["d","whole"] (defScope S50):=by walk_at "sc"
theorem C53:FnScope ["_law_heap","_law_found","_law_width","_law_height","_law_i","_law_j"] ["_law_heap"] (defScope S60):=by walk_at "sc"
theorem C54:FnScope ["_law_some","_law_cell","_law_d","_law_at","_law_side_here","_law_behind","_law_first","_law_drawn","_law_more","_law_new","_law_one","_law_both"] ["_law_some","_law_cell","_law_d"] (defScope S64):=by walk_at "sc"
theorem C55:FnScope ["d","base","p","q"] ["d","base"] (defScope S13):=by walk_at "sc"
theorem C56:FnScope ["d","many","one"] ["d","many","one"] (defScope S18):=by walk_at "sc"
theorem C57:FnScope ["thing"] ["thing"] (defScope S24):=by walk_at "sc"
theorem C58:FnScope ["d","one","at"] ["d","one","at"] (defScope S28):=by walk_at "sc"
theorem C59:FnScope ["one","widths","heights"] ["one"] (defScope S43):=by walk_at "sc"
theorem C60:FnScope ["whole","width","many","row"] ["whole","width"] (defScope S51):=by walk_at "sc"
theorem C61:FnScope ["_law_script","_law_most","_law_d","_law_cells","_law_many","_law_some","_law_cell"] ["_law_script","_law_most","_law_d"] (defScope S65):=by walk_at "sc"
theorem C62:FnScope ["d","lengths","base","one","tops","bottom"] ["d","lengths"] (defScope S17):=by walk_at "sc"
theorem C63:FnScope ["d","heap","base","told","place","height","one","many"] ["d","heap","base"] (defScope S20):=by walk_at "sc"
theorem C64:FnScope ["d","heap","base","deeds","firsts","others","unused","name","one","pair","stacking"] ["d","heap","base"] (defScope S21):=by walk_at "sc"
theorem C65:FnScope ["heap","whole","one"] ["heap"] (defScope S42):=by walk_at "sc"
theorem C66:FnScope ["self","deed","boards","word"] ["self","deed","boards"] (defScope S71):=by walk_at "sc"
theorem C67:FnScope ["heap"] ["heap"] (defScope S48):=by walk_at "sc"
theorem C68:FnScope ["self","deed","names","fresh","name","one"] ["self","deed"] (defScope S69):=by walk_at "sc"
theorem C69:FnScope ["d","heap","plan","turning","yard","deed"] ["d","heap","plan","turning"] (defScope S31):=by walk_at "sc"
theorem C70:FnScope ["d","heap","plan","turning"] ["d","heap","plan","turning"] (defScope S32):=by walk_at "sc"
theorem C71:FnScope ["d","heap","plan","yard","ends","renamed","place","named","unused","behind","deeds","deed","ahead","name"] ["d","heap","plan"] (defScope S35):=by walk_at "sc"
theorem C72:FnScope ["d","one","other","place","base","returning","plan"] ["d","one","other"] (defScope S47):=by walk_at "sc"
theorem C73:FnScope ["d","heap","width","made","told"] ["d","heap","width"] (defScope S52):=by walk_at "sc"
theorem C74:FnScope ["d","heap","least","made","base"] ["d","heap"] (defScope S49):=by walk_at "sc"
theorem C75:FnScope ["_law_d","_law_some","_law_cell","_law_plan","_law_found","_law_top","_law_bottom","_law_width","_law_told"] ["_law_d","_law_some","_law_cell"] (defScope S66):=by walk_at "sc"
theorem C76:FnScope ["_law_script","_law_d","_law_some","_law_first","_law_due","_law_cell"] ["_law_script"] (defScope S67):=by walk_at "sc"
section
variable (P:Program)(w:World)(K:iJ)(mg:Str->Option Value)(base:Heap)
abbrev O2x:=Own P w K mg base 1 "with_sign_of" ["divisor","bottom"] [] P2
abbrev O1x:=Own P w K mg base 1 "common_divisor" ["one","other"] [] P1
abbrev O0x:=Own P w K mg base 1 "is_whole" ["thing"] [] P0
abbrev O24x:=Own P w K mg base 1 "names_taken" ["deed"] [] P7
abbrev O25x:=Own P w K mg base 1 "count_put" ["deed"] [] P9
abbrev O53x:=Own P w K mg base 1 "_law_low" ["_law_a","_law_b","_law_n"] [] P16
abbrev O52x:=Own P w K mg base 1 "_law_mix" ["_law_cell","_law_k"] [] P15
abbrev O4x:=Own P w K mg base 2 "fraction" ["top","bottom"] [] P26
abbrev O7x:=Own P w K mg base 2 "added" ["one","other"] [] (P28 K)
abbrev O3x:=Own P w K mg base 2 "length" ["a","b","n"] [] P25
abbrev O39x:=Own P w K mg base 2 "times" ["one","other"] [] P35
abbrev O6x:=Own P w K mg base 2 "by_parts" ["f","g"] [] P27
abbrev O11x:=Own P w K mg base 2 "under" ["d","one","other"] [] (P29 K)
abbrev O61x:=Own P w K mg base 2 "_law_share" ["_law_one","_law_many","_law_behind"] [] P38
abbrev O57x:=Own P w K mg base 2 "_law_side" ["_law_cell","_law_k","_law_d"] [] P36
abbrev O8x:=Own P w K mg base 3 "taken" ["one","other"] [] P42
abbrev O5x:=Own P w K mg base 3 "parts" ["one"] [] P41
abbrev O63x:=Own P w K mg base 3 "_law_cut" ["_law_some","_law_cell","_law_d"] [] (P53 K)
abbrev O15x:=Own P w K mg base 2 "counts" ["d","base","one"] [] P30
abbrev O18x:=Own P w K mg base 4 "times_over" ["d","many","one"] [] P55
abbrev O41x:=Own P w K mg base 5 "table" ["heap"] [] (P64 K)
abbrev O30x (cs:Cs):=Own P w K mg base 7 "yard_behind" ["d","heap","plan","turning"] [] (P68 cs)
abbrev O17x:=Own P w K mg base 5 "serving" ["d","lengths"] [] (P61 K)
abbrev O20x:=Own P w K mg base 5 "normal_plan" ["d","heap","base"] [] P63
abbrev O46x (cs:Cs):=Own P w K mg base 9 "like" ["d","one","other"] [] (P71 cs)
abbrev O47x:=Own P w K mg base 6 "rank" ["heap"] [] (P66 K)
abbrev O51x (cs:Cs):=Own P w K mg base 10 "one_board" ["d","heap","width"] [] (P72 K cs)
end
variable {f pb:Addr}{fd:FuncData}{its:List Value}
section
variable {P:Program}{w:World}{K:iJ}{mg:Str->Option Value}{base:Heap}{cs:Cs}
theorem K1(F:Fun K "is_whole" "is_whole" S0 f fd)(B:Bl mg)  :FnOk P w K mg base CX0 1 f fd ["thing"] P0:=by
  refine F.okA C0 λcdv A outer s H vs Q E hr h=>?_;obtain ⟨i,rfl,q⟩:=h;refine ⟨_,(zd (zh (Hx (zp yM rfl B.isinstance yj (pa2 (pv 0) (vX (v:=.ty "int") rfl B.int B8 rfl))) (BU (LK (zp yM rfl B.isinstance yj (pa2 (pv 0) (vX (v:=.ty "bool") rfl B.bool Id rfl)))))))),?_⟩;walk_at "s";walk_at "r";exact q
theorem K2(F:Fun K "common_divisor" "common_divisor" S1 f fd)(B:Bl mg)(g_GREAT_BITS:TopI mg "GREAT_BITS" (8192)) :FnOk P w K mg base CX0 1 f fd ["one","other"] P1:=by
  obtain ⟨u_GREAT_BITS,m_GREAT_BITS,r_GREAT_BITS⟩:=g_GREAT_BITS;refine F.okA C4 λcdv A outer s H vs Q E hr h=>?_;obtain ⟨a,b,rfl,hb,q⟩:=h;refine ⟨_,(za (zw (zg xM (KI PySem.F.plainAttrs_int PySem.F.slot_int_bit_length PySem.F.type_int_bit_length Im (pv 1)) (yk (v:=.int (8192)) rfl m_GREAT_BITS r_GREAT_BITS) (zm _)) En zo) (za (wp PassesOwn.never (zg vZ (pv 1) zc (zm _)) (za (ps_s 3 C4.nd (zf IC (pv 0) (pv 1))) (za (ps_s 0 C4.nd (pv 1)) (zd (ps_s 1 C4.nd (pv 3)))))) (zd (zh (zp yN rfl B.abs vH (pa1 (pv 0))))))),?_⟩;walk_at "s";exists if_d (λc=>absurd c (Jv hb)) (λ_=>?_);exists GD (λσ' H'=>E3 λ(x y:Int) (r:Option V)=>A3 (σ'=[vI x,vI y,none,r]) (H'=H) (Int.gcd x y=Int.gcd a b)) (λσ' _=>match σ' with | [_,some (.int y),_,_]=>y.natAbs | _=>0) ⟨a,b,none,rfl,rfl,rfl⟩ ?_ ?_
  . rintro σ' H' ⟨x,y,r,rfl,rfl,hg⟩;exists ui (λc=>?_) (λc=>?_)
    . walk_at "r";exact ⟨⟨y,x.fmod y,_,rfl,rfl,(F8 x y).trans hg⟩,IS c⟩
    . walk_at "r";have e:(if x<0 then -x else x)=((Int.gcd a b:Nat):Int):=by
        rw [<-hg,c,gh];split <;> lia
      rw [e];exact q
  . intro σ H Q Q' hq h;obtain ⟨v,e,hs,k,e2,z⟩:=h;exact ⟨v,e,hs,k,e2,hq _ _ z⟩
theorem K3(F:Fun K "with_sign_of" "with_sign_of" S2 f fd)(B:Bl mg)  :FnOk P w K mg base CX0 1 f fd ["divisor","bottom"] P2:=by
  refine F.okA C5 λcdv A outer s H vs Q E hr h=>?_;obtain ⟨g,n,rfl,q⟩:=h;refine ⟨_,(zd (zh (xj (zg ue (pv 1) zc (zm _)) (Dt uF (pv 0)) (pv 0)))),?_⟩;walk_at "s";exists if_d (λc=>?_) (λc=>?_)
  . walk_at "r";rw [io c] at q;exact q
  . walk_at "r";rw [ip c] at q;exact q
theorem K4(F:Fun K "is_above_nought" "is_above_nought" S10 f fd)(B:Bl mg)  :FnOk P w K mg base CX0 1 f fd ["d","a","b"] P3:=by
  refine F.okA C6 λcdv A outer s H vs Q E hr h=>?_;obtain @⟨d,a,b,rfl,hd,ha,hb,q⟩:=h;refine ⟨_,(za (zw (PW.pt (yQ (zg DP (pv 1) zc (zm _)) (yw (zg DP (pv 2) zc (zm _))))) (zd (zh (Kg (yp xM (pv 1) zc (zm _)) (BU (yp xM (pv 2) zc (zm _)))))) zo) (za (zw (PW.pt (yQ (zg DB (pv 1) zc (zm _)) (yw (zg DB (pv 2) zc (zm _))))) (zd (zh wP)) zo) (za (zw (zg xM (pv 1) zc (zm _)) (zd (zh (yp xM (zf zk (pv 1) (pv 1)) (zf zk (zf zk (pv 0) (pv 2)) (pv 2)) (zm _)))) zo) (zd (zh (yp xM (zf zk (zf zk (pv 0) (pv 2)) (pv 2)) (zf zk (pv 1) (pv 1)) (zm _))))))),?_⟩;walk_at "s";exists if_d (λc1=>?_) (λc1=>?_)
  . exists if_d (λc2=>?_) (λc2=>?_)
    . exists if_d (λc3=>?_) (λc3=>?_)
      . exact bl_q (Eq.symm (iH (by unfold sgn; rw [io ⟨c1,c2⟩,io (!2)]; decide))) q
      . walk_at "r";exact bl_q (decide_eq_decide.mpr (by unfold sgn; rw [io ⟨c1,c2⟩]; split <;> lia)) q
    . exists if_d (λc3=>?_) (λc3=>?_)
      . exists if_d (λc4=>?_) (λc4=>?_)
        . walk_at "r";exact bl_q (Eq.symm (im (by unfold sgn; rw [ip (!2),io ⟨c3,c4⟩]; decide))) q
        . lia
      . exists if_d (λc4=>?_) (λc4=>?_)
        . walk_at "r";exact bl_q (decide_eq_decide.mpr (by unfold sgn; rw [ip (!2),ip (!2),io c4]; split <;> lia)) q
        . lia
  . exists if_d (λc3=>?_) (λc3=>?_)
    . exists if_d (λc4=>?_) (λc4=>?_)
      . walk_at "r";exact bl_q (Eq.symm (im (by unfold sgn; rw [ip (!2),io ⟨c3,c4⟩]; decide))) q
      . exists if_d (λc5=>?_) (λc5=>?_)
        . lia
        . walk_at "r";exact bl_q (decide_eq_decide.mpr (by unfold sgn; rw [ip (!2),ip (!2),ip c5]; split <;> lia)) q
    . lia
theorem K5(F:Fun K "crossed" "crossed" S14 f fd)(B:Bl mg)  :FnOk P w K mg base CX0 1 f fd ["one","other"] P4:=by
  refine F.okA C7 λcdv A outer s H vs Q E hr h=>?_;obtain ⟨p,p',x,y,z,x',y',z',rfl,h1,h2,⟨b1,b2,b3,b4⟩,q⟩:=h;refine ⟨_,(zd (zh (zf yX (zf zk (pit 0) (pit 1)) (zf zk (pit 0) (pit 1))))),?_⟩;walk_at "s";walk_at "r";exact q
theorem K6(F:Fun K "gathering" "gathering" S22 f fd)(B:Bl mg)  :FnOk P w K mg base CX0 1 f fd ["pieces","unused"] P6:=by
  refine F.okA C8 λcdv A outer s H vs Q E hr h=>?_;obtain @⟨a,us,pc,u,rfl,ha,hp,hl,hu,q⟩:=h;refine ⟨_,(za (ps_s 2 C8.nd (zI yU)) (za (zH PassesOwn.never rfl (tM rfl B.enumerate (pa1 (pv 0))) (uN (n:=2) rfl (ya (pg_n 3 C8.nd) (ya (pg_n 4 C8.nd) wF))) (za (zU (wo a8 aZ a6 zF (pv 2) (pa1 (zq (pa3 zP (pit 4) (pit 4)))))) (zd (zw (zg xM (pv 3) zc (zm _)) (za (ps_s 5 C8.nd (zf yX (zf zv (pv 1) (zp zx rfl B.len bI (pa1 (pv 2)))) zc)) (zd (zU (wo a8 aZ a6 zF (pv 2) (pa1 (zq (pa3 zP (pv 5) (zf yX (pv 5) zc)))))))) zo)))) (zd (zh (pv 2))))),?_⟩;walk_at "s";exists zB (!1) λD H1 nD s1 e1=>?_;have ha1:=s1 _ _ ha;have aD:a≠D:=zb ha nD;exists Cj ?_;exists ⟨a,_,rfl,SqL.of ha1,vj (K:=K) (a:=a) (xs:=us.map V.ref) (λi σ H'=>E4 λv1 v2 v3 ps=>A4 (σ=[vR a,vI (u:Int),vR D,v1,v2,v3]) (H' D=some (.lst (ps.map V.ref))) (Runs H' ps (gth u pc i)) (∀ b o,H1 b=some o->b≠D->H' b=some o)) ⟨_,_,_,[],rfl,e1,⟨rfl,λi p x h=>by simp at h⟩,λb o e _=>e⟩ (λi σ H' _ z'=>by obtain ⟨_,_,_,_,_,_,_,z⟩:=z'; exact SqL.of (z _ _ ha1 aD)) ?_ ?_⟩
  . rintro i x T σ H' hi hT ⟨v1,v2,v3,ps,rfl,eD,hrun,fr⟩;have hi':=(af.mp hi).1;rw [aa,hp.1] at hi';rw [aj] at hi;obtain ⟨qa,hq,rfl⟩:=av.mp hi;obtain ⟨p,hpi⟩:∃ p,pc[i]?=some p:=⟨_,ae hi'⟩
    have hqt:=s1 _ _ (hp.2 i qa p hq hpi);have hqt3:=fr _ _ hqt (zX hqt e1 (λz=>nomatch z));have hgl:=wQ (u:=u) (pc:=pc) (t:=i) (bO hi');have hpl:ps.length=2*i - 1:=hrun.1.trans hgl;have eg:gth u pc (i+1)=gth u pc i++gd1 u i p:=by
      show gth u pc i++_=_;rw [hpi]
    rw [eg];have tkT:TupK H' (upd H' T (.tup [.int (i:Int),.ref qa])):=λb xs e=>by rw [zn (zb e hT)]; exact e
    have eD':(upd H' T (.tup [.int (i:Int),.ref qa])) D=some (.lst (ps.map V.ref)):=by rw [zn (zb eD hT)]; exact eD
    have eT:(upd H' T (.tup [.int (i:Int),.ref qa])) T=some (.tup [.int (i:Int),.ref qa]):=zj;have hqt4:=tkT _ _ hqt3;have frT:∀ b o,H1 b=some o->b≠D->(upd H' T (.tup [.int (i:Int),.ref qa])) b=some o:=λb o e n=>by rw [zn (zb (fr b o e n) hT)]; exact fr b o e n
    have hrunT:=hrun.tk tkT;generalize upd H' T (.tup [.int (i:Int),.ref qa])=G at eT eD' frT hqt4 hrunT ⊢;exists zK (!1) λt1 G1 n1 g1 f1=>?_;have eD1:=g1 _ _ eD';exists zr eD1 (by rw [aa]; lia) λG2 x2 e2=>?_;have f2:=x2.tup f1 eD1;have hrun2:Runs G2 (ps++[t1]) (gth u pc i++[(Dd.shift false p.n p.m,p.n,p.n)]):=xC ((hrunT.same g1).sameX x2 eD1) f2;have fr2:∀ b o,H1 b=some o->b≠D->G2 b=some o:=λb o e n=>x2 _ _ (g1 _ _ (frT b o e n)) n;have e2:G2 D=some (.lst ((ps++[t1]).map V.ref)):=by rw [ah]; exact e2
    walk_at "r";by_cases c0:i=0
    . refine if_d (λc=>absurd c (!2)) (λ_=>?_);exists ⟨_,_,_,ps++[t1],rfl,e2,?_,fr2⟩;unfold gd1;rw [io c0];exact hrun2
    . refine if_d (λ_=>?_) (λc=>absurd (!2) c);have hlen:((((ps++[t1]).map V.ref).length:Nat):Int)=((2*i:Nat):Int):=by
        rw [aa,ai,hpl];simp only [ax,aK]
        lia
      walk_at "r";rw [hlen];exists zK (!1) λt2 G3 n3 g3 f3=>?_;have e23:=g3 _ _ e2;exists zr e23 (by rw [aa,ai]; simp only [ax,aK]; lia) λG4 x4 e4=>?_;have f4:=x4.tup f3 e23;exists ⟨_,_,_,ps++[t1]++[t2],rfl,by rw [ah]; exact e4,?_,λb o e n=>x4 _ _ (g3 _ _ (fr2 b o e n)) n⟩;have:gth u pc i++gd1 u i p=gth u pc i++[(Dd.shift false p.n p.m,p.n,p.n)]++[(Dd.glue true ((u+2*i - 1:Nat):Int) ((u+2*i - 2:Nat):Int),u+2*i - 1,u+2*i - 2)]:=by
        unfold gd1;rw [ip c0,bQ];rfl
      rw [this];refine xC ((hrun2.same g3).sameX x4 e23) ?_;rw [show (u:Int)+((2*i:Nat):Int) - 1=((u+2*i - 1:Nat):Int) by lia,show ((u+2*i - 1:Nat):Int) - 1=((u+2*i - 2:Nat):Int) by lia] at f4;exact f4
  rintro σ H5 ⟨v1,v2,v3,ps,rfl,eD,hrun,fr⟩;rw [aa,hp.1] at hrun;walk_at "r";exact q D ps H5 (λb o e=>fr _ _ (s1 _ _ e) (zb e nD)) nD eD hrun
theorem K7(F:Fun K "names_taken" "names_taken" S25 f fd)(B:Bl mg)(g_GLUINGS:TopT K mg "GLUINGS" [.str "beside",.str "atop"]) :FnOk P w K mg base CX0 1 f fd ["deed"] P7:=by
  obtain ⟨a_GLUINGS,m_GLUINGS,q_GLUINGS⟩:=g_GLUINGS;refine F.okA C9 λcdv A outer s H vs Q E hr h=>?_;obtain @⟨p,e,rfl,he,q⟩:=h;refine ⟨_,(zd (zh (xj (zg xb (pit 0) (yk (v:=.ref a_GLUINGS) rfl m_GLUINGS rfl) (by with_unfolding_all rfl)) (zI (pa2 (pit 0) (pit 0))) (zI (pa1 (pit 0)))))),?_⟩;walk_at "s";cases e with
  | cut al n s =>
    obtain ⟨pq,h0,hs⟩:=he;cases al
    all_goals
      simp [DdAt,Dd.wd] at h0;exists ⟨_,_,rfl,.inr (q_GLUINGS H),rfl,rfl,?_⟩;rw [show (if false=true then !inV _ _ else inV _ _)=false from by decide +kernel];exists zB (!1) λr H1 hr s1 e1=>?_;exact q r H1 s1 hr e1
  | glue al n m =>
    have h0:=he;cases al
    all_goals
      simp [DdAt,Dd.wd] at h0;exists ⟨_,_,rfl,.inr (q_GLUINGS H),rfl,rfl,?_⟩;rw [show (if false=true then !inV _ _ else inV _ _)=true from by decide +kernel];exists zB (!1) λr H1 hr s1 e1=>?_;exact q r H1 s1 hr e1
  | shift al n k =>
    have h0:=he;cases al
    all_goals
      simp [DdAt,Dd.wd] at h0;exists ⟨_,_,rfl,.inr (q_GLUINGS H),rfl,rfl,?_⟩;rw [show (if false=true then !inV _ _ else inV _ _)=false from by decide +kernel];exists zB (!1) λr H1 hr s1 e1=>?_;exact q r H1 s1 hr e1
  | turn n =>
    have h0:=he;have h0:H p=some (.tup [.str (Str.ofString "turn"),.int n]):=h0;exists ⟨_,_,rfl,.inr (q_GLUINGS H),rfl,rfl,?_⟩;rw [show (if false=true then !inV _ _ else inV _ _)=false from by decide +kernel];exists zB (!1) λr H1 hr s1 e1=>?_;exact q r H1 s1 hr e1
theorem K8(F:Fun K "count_put" "count_put" S26 f fd)(B:Bl mg)(g_CUTS:TopT K mg "CUTS" [.str "across",.str "along"]) :FnOk P w K mg base CX0 1 f fd ["deed"] P9:=by
  obtain ⟨a_CUTS,m_CUTS,q_CUTS⟩:=g_CUTS;refine F.okA C10 λcdv A outer s H vs Q E hr h=>?_;obtain @⟨p,e,rfl,he,q⟩:=h;refine ⟨_,(zd (zh (xj (zg xb (pit 0) (yk (v:=.ref a_CUTS) rfl m_CUTS rfl) (by with_unfolding_all rfl)) zc zc))),?_⟩;walk_at "s";cases e with
  | cut al n s =>
    obtain ⟨pq,h0,hs⟩:=he;cases al
    all_goals
      simp [DdAt,Dd.wd] at h0;exists ⟨_,_,rfl,.inr (q_CUTS H),rfl,rfl,?_⟩;rw [show (if false=true then !inV _ _ else inV _ _)=true from by decide +kernel];walk_at "r";exact q
  | glue al n m =>
    have h0:=he;cases al
    all_goals
      simp [DdAt,Dd.wd] at h0;exists ⟨_,_,rfl,.inr (q_CUTS H),rfl,rfl,?_⟩;rw [show (if false=true then !inV _ _ else inV _ _)=false from by decide +kernel];walk_at "r";exact q
  | shift al n k =>
    have h0:=he;cases al
    all_goals
      simp [DdAt,Dd.wd] at h0;exists ⟨_,_,rfl,.inr (q_CUTS H),rfl,rfl,?_⟩;rw [show (if false=true then !inV _ _ else inV _ _)=false from by decide +kernel];walk_at "r";exact q
  | turn n =>
    have h0:=he;have h0:H p=some (.tup [.str (Str.ofString "turn"),.int n]):=h0;exists ⟨_,_,rfl,.inr (q_CUTS H),rfl,rfl,?_⟩;rw [show (if false=true then !inV _ _ else inV _ _)=false from by decide +kernel];walk_at "r";exact q
theorem K9(F:Fun K "turned" "turned" S27 f fd)(B:Bl mg)  :FnOk P w K mg base CX0 1 f fd ["one"] P10:=by
  refine F.okA C11 λcdv A outer s H vs Q E hr h=>?_;obtain @⟨c,rfl,hc,q⟩:=h;refine ⟨_,(zd (zh (zq (pa2 (pit 0) (pit 0))))),?_⟩;walk_at "s";have ct:=hc.t;exists zK (!1) λr H1 hr s1 e1=>?_;exact q r H1 s1 hr ⟨e1,s1 _ _ hc.h,s1 _ _ hc.w⟩
theorem K10(F:Fun K "places_of" "places_of" S34 f fd)(B:Bl mg)  :FnOk P w K mg base CX0 1 f fd ["names"] P11:=by
  refine F.okA C12 λcdv A outer s H vs Q E hr h=>?_;obtain @⟨a,ms,ts,rfl,ha,hp,up,hl,q⟩:=h;refine ⟨_,(za (ps_s 1 C12.nd CG) (za (zH PassesOwn.never rfl (tM rfl B.enumerate (pa1 (zp Dj rfl B.sorted DV (pa1 (pv 0))))) (uN (n:=2) rfl (ya (pg_n 2 C12.nd) (ya (pg_n 3 C12.nd) wF))) (zd (vO (uR hr) (pv 1) (pv 3) (pv 2) rfl))) (zd (zh (yr ["name"] [1] rfl (zA (pv 0)) (λ_ _ _ _ _=>(pg_n 0 (show List.Nodup (α:=Str) ["name","places"] by decide +kernel))) (λ_ _ _ _ _=>zL) (λ_ _ _ _ _=>(Bw (uR hr) (pv 1) (pv 0) (λ_ _=>rfl)))))))),?_⟩;walk_at "s";have hml:=hp.length_eq;have hnd:=xI up;exists FA λD H1 nD s1 e1=>?_;exists Cj ?_;exists Ja (s1 _ _ ha) (ES hp) (Iq up) (by rw [aa]; lia) λb H2 nb s2 e2=>?_;have e12:=s2 _ _ e1;have bD:b≠D:=ck (zb e1 nb);exists ⟨b,_,rfl,SqL.of e2,vj (K:=K) (a:=b) (xs:=(ts.map λn:Nat=>(n:Int)).map V.int) (λi σ H'=>E3 λv1 v2 kvs=>A5 (σ=[vR a,vR D,v1,v2]) (H' D=some (.dK kvs)) (kvs.length<=i) (Rn kvs (ts.take i) (rk ts)) (∀ b o,H2 b=some o->b≠D->H' b=some o)) ⟨_,_,[],rfl,e12,ag _,λn hn=>by simp at hn,λb o e _=>e⟩ (λi σ H' _ z'=>by obtain ⟨_,_,_,_,_,_,_,z⟩:=z'; exact SqL.of (z _ _ e2 bD)) ?_ ?_⟩
  . rintro i x T σ H' hi hT ⟨v1,v2,kvs,rfl,eD,hkl,hR,fr⟩;have hi':=(af.mp hi).1;rw [aj,aj] at hi;obtain ⟨z,hz,rfl⟩:=av.mp hi;obtain ⟨n,hn,rfl⟩:=av.mp hz;have eD':(upd H' T (.tup [.int (i:Int),.int (n:Int)])) D=some (.dK kvs):=by rw [zn (zb eD hT)]; exact eD
    have eT:(upd H' T (.tup [.int (i:Int),.int (n:Int)])) T=some (.tup [.int (i:Int),.int (n:Int)]):=zj;have frT:∀ b o,H2 b=some o->b≠D->(upd H' T (.tup [.int (i:Int),.int (n:Int)])) b=some o:=λb o e n=>by rw [zn (zb (fr b o e n) hT)]; exact fr b o e n
    generalize upd H' T (.tup [.int (i:Int),.int (n:Int)])=G at eT eD' frT ⊢;exists ⟨D,_,rfl,DPut.k (k:=.inl (n:Int)) eD' (aN (show _<1000 by simp only [aa] at hi'; lia) (!3)),?_⟩;refine ⟨_,_,_,rfl,zj,ce (yJ ..) (!2),λj hj=>?_,λb o e n=>by rw [zn n]; exact frT b o e n⟩;rw [wl];rw [br,hn] at hj;by_cases c:j=n
    . subst c;rw [io rfl,F3 hnd hn]
    . have cj:¬ ((.inl (j:Int):Key)=.inl (n:Int)):=λh=>c (eP (fI h));rw [ip cj];refine hR j ?_;rcases aE.mp hj with h|h
      . exact h
      . exact absurd (by simpa using h) c
  rintro σ H3 ⟨v1,v2,kvs,rfl,eD,hkl,hR,fr⟩;rw [aa,aa,au] at hR;have s3:Same H H3:=λb o e=>fr _ _ (s2 _ _ (s1 _ _ e)) (zb e nD);exists xv ?_;walk_at "r";have ha3:=s3 _ _ ha;refine ⟨a,rfl,⟨_,SqL.of ha3⟩,λO hO=>yE (K:=K) (a:=a) (ys:=(ms.map λn:Nat=>(n:Int)).map V.int) (λi xs σ' H'=>E1 λ(v:Option V)=>A4 (σ'=[v,vR D]) (xs=(((ms.take i).map (rk ts)).map λn:Nat=>(n:Int)).map V.int) (H' O=some (.lst xs)) (SameX O H3 H')) ⟨none,rfl,rfl,zj,λb o e n=>by rw [zn n]; exact e⟩ (λi xs σ' H' _ z=>by obtain ⟨v,_,_,_,z⟩:=z; exact SqL.of (z _ _ ha3 (zb ha3 hO))) ?_ ?_⟩
  . rintro i x xs σ' H' hi ⟨v,rfl,rfl,eO,sx⟩;have hi':=(af.mp hi).1;rw [aj,aj] at hi;obtain ⟨z,hz,rfl⟩:=av.mp hi;obtain ⟨n,hn,rfl⟩:=av.mp hz;have hD':=sx _ _ eD (zb eD hO);have hmt:=hp.mem_iff.mp (aw hn);exists ⟨D,_,rfl,DGet.k (k:=.inl (n:Int)) hD' |> (λz=>by rw [hR n hmt] at z; exact z),?_⟩;exists zr eO (by simp only [aa,az] at hi' ⊢; lia) λH5 x5 e5=>?_;refine xm hi' ⟨_,rfl,rfl,?_,sx.trans x5⟩;rw [br,hn,ah,ah,ah];exact e5
  rintro xs σ' H5 ⟨v,rfl,rfl,eO,sx⟩;rw [aa,aa,au] at eO;refine q O H5 (λb o e=>sx _ _ (s3 _ _ e) (zb (s3 _ _ e) hO)) ?_ eO;exact Same.nn s3 hO
theorem K11(F:Fun K "with_names" "with_names" S37 f fd)(B:Bl mg)(g_GLUINGS:TopT K mg "GLUINGS" [.str "beside",.str "atop"]) :FnOk P w K mg base CX0 1 f fd ["deed","names"] P12:=by
  obtain ⟨a_GLUINGS,m_GLUINGS,q_GLUINGS⟩:=g_GLUINGS;refine F.okA C13 λcdv A outer s H vs Q E hr h=>?_;obtain @⟨p,a,e,r,k,rfl,he,nT,ha,hn,q⟩:=h;refine ⟨_,(za (zw (zg xb (pit 0) (yk (v:=.ref a_GLUINGS) rfl m_GLUINGS rfl) (by with_unfolding_all rfl)) (zd (zh (zq (pa3 (pit 0) (pe_i ix_list (pv 1) (pit 0)) (pe_i ix_list (pv 1) (pit 0)))))) zo) (zd (zh (zf IW (zq (pa2 (pit 0) (pe_i ix_list (pv 1) (pit 0)))) (z5 Kw (pv 0) (yc zc) yL))))),?_⟩;walk_at "s";cases e with
  | glue al n m =>
    have h0:H p=some (.tup [.str (Dd.glue al n m).wd,.int n,.int m]):=he;obtain ⟨n',n1,rfl⟩:=hn n (by simp [Dd.names]);obtain ⟨m',m1,rfl⟩:=hn m (by simp [Dd.names]);exists ⟨_,_,rfl,.inr (q_GLUINGS H),rfl,rfl,?_⟩;rw [show (if false=true then !inV _ _ else inV _ _)=true from Fa (.glue al n' m')];exists xr ha (B1 n1) ?_;exists xr ha (B1 m1) ?_;exists zK (!1) λb H1 nb s1 e1=>?_;exact q b H1 s1 nb e1
  | cut al n s =>
    obtain ⟨pq,h0,hs⟩:=he;obtain ⟨n',n1,rfl⟩:=hn n (by simp [Dd.names,Dd.n]);exists ⟨_,_,rfl,.inr (q_GLUINGS H),rfl,rfl,?_⟩;rw [show (if false=true then !inV _ _ else inV _ _)=false from Fa (.cut al n' s)];exists xr ha (B1 n1) ?_;exists zt (!1) λt1 H1 s1 e1=>?_;have h1:=s1 _ _ h0;exists GY h1 λt2 H2 s2 e2=>?_;refine Ex (s2 _ _ e1) e2 (!1) (!1) (!1) λb H3 nb s3 e3=>?_;exact q b H3 ((s1.trans s2).trans s3) (Same.nn (s1.trans s2) nb) ⟨pq,e3,((s1.trans s2).trans s3) _ _ hs⟩
  | shift al n k' =>
    have h0:H p=some (.tup [.str (Dd.shift al n k').wd,.int n,.int k']):=he;obtain ⟨n',n1,rfl⟩:=hn n (by simp [Dd.names,Dd.n]);exists ⟨_,_,rfl,.inr (q_GLUINGS H),rfl,rfl,?_⟩;rw [show (if false=true then !inV _ _ else inV _ _)=false from Fa (.shift al n' k')];exists xr ha (B1 n1) ?_;exists zt (!1) λt1 H1 s1 e1=>?_;have h1:=s1 _ _ h0;exists GY h1 λt2 H2 s2 e2=>?_;refine Ex (s2 _ _ e1) e2 (!1) (!1) (!1) λb H3 nb s3 e3=>?_;exact q b H3 ((s1.trans s2).trans s3) (Same.nn (s1.trans s2) nb) e3
  | turn n=>exact nomatch nT
theorem K12(F:Fun K "slant" "slant" S45 f fd)(B:Bl mg)  :FnOk P w K mg base CX0 1 f fd ["one"] P13:=by
  refine F.okA C14 λcdv A outer s H vs Q E hr h=>?_;obtain @⟨p,t,rfl,⟨r0,r1,f0,f1,f2,f3,⟨hp,h0,h1,g0,g1,g2,g3'⟩⟩,bt,q⟩:=h;refine ⟨_,(za (ps_s 1 C14.nd (zf zk (zf zk (zf zk (pe_i ix_tup (pe_i ix_tup (pit 0) zc) zc) (pe_i ix_tup (pe_i ix_tup (pit 0) zc) zc)) (pe_i ix_tup (pe_i ix_tup (pit 0) zc) zc)) (pe_i ix_tup (pe_i ix_tup (pit 0) zc) zc))) (za (ps_s 2 C14.nd (zf zk (zf zk (zf zk (pe_i ix_tup (pe_i ix_tup (pit 0) zc) zc) (pe_i ix_tup (pe_i ix_tup (pit 0) zc) zc)) (pe_i ix_tup (pe_i ix_tup (pit 0) zc) zc)) (pe_i ix_tup (pe_i ix_tup (pit 0) zc) zc))) (zd (zh (zf yX (pv 1) (pv 2)))))),?_⟩;walk_at "s";have a1:Bd 3000 t.a.num:=bt.a.1;have a2:Bd 3000 (t.a.den:Int):=bt.a.2;have b1:Bd 3000 t.b.num:=bt.b.1;have b2:Bd 3000 (t.b.den:Int):=bt.b.2;have c1:Bd 3000 t.c.num:=bt.c.1;have c2:Bd 3000 (t.c.den:Int):=bt.c.2;have e1:Bd 3000 t.e.num:=bt.e.1;have e2:Bd 3000 (t.e.den:Int):=bt.e.2;walk_at "r";exact q
theorem K13(F:Fun K "first_unlike" "first_unlike" S46 f fd)(B:Bl mg)  :FnOk P w K mg base CX0 1 f fd ["one","other"] P14:=by
  refine F.okA C15 λcdv A outer s H vs Q E hr h=>?_;obtain @⟨p,p',s,t,rfl,h1,h2,qn,q⟩:=h;refine ⟨_,(za (zH PassesOwn.never rfl (yz rfl B.range (pa1 zc)) (pg_n 2 C15.nd) (zd (zH PassesOwn.never rfl (yz rfl B.range (pa1 zc)) (pg_n 3 C15.nd) (zd (zw (zg (Cb hr.units) (pe_i ix_tup (pe_i ix_tup (pv 0) (pv 2)) (pv 3)) (pe_i ix_tup (pe_i ix_tup (pv 1) (pv 2)) (pv 3)) (zm _)) (zd (zh (zq (pa2 (pv 2) (pv 3))))) zo))))) (zd (zh wW))),?_⟩;walk_at "s";exists wJ ?_;exists ⟨2,rfl,by decide,by decide,yB (lo:=0) (n:=2) (λi σ H'=>E2 λv v'=>A3 (σ=[vR p,vR p',v,v']) (H'=H) (∀ k,k<2*i->cmT k s=cmT k t)) ⟨_,_,rfl,rfl,λk hk=>absurd hk (!2)⟩ ?_ ?_⟩
  . rintro i σ H' hi ⟨v,v',rfl,rfl,eqs⟩;exists wJ ?_;exists ⟨2,rfl,by decide,by decide,yB (lo:=0) (n:=2) (λj σ H2=>E1 λv'=>A3 (σ=[vR p,vR p',vI (0+(i:Int)),v']) (H2=H') (∀ k,k<2*i+j->cmT k s=cmT k t)) ⟨_,rfl,rfl,eqs⟩ ?_ ?_⟩
    . rintro j σ H2 hj ⟨v',rfl,rfl,eqs⟩;obtain ⟨xs,ys,rr,ff,a1,a2,a3,a4,a5⟩:=KK h1 hi hj;obtain ⟨xs',ys',rr',ff',b1,b2,b3,b4,b5⟩:=KK h2 hi hj;exists vF a1 a2 ?_;exists vF a3 a4 ?_;exists vF b1 b2 ?_;exists vF b3 b4 ?_;exists MB a5 b5 ?_;exists ui (λc=>?_) (λc=>?_)
      . exists zt (!1) λr H3 s3 e3=>?_;rw [dc,dc] at e3;exact q r H3 i j s3 e3 ⟨hi,hj,eqs,λz=>c (by rw [z]; exact ⟨rfl,rfl⟩)⟩
      . exists ⟨_,rfl,rfl,λk hk=>?_⟩;by_cases z:k<2*i+j
        . exact eqs k z
        . rw [show k=2*i+j by lia];exact Rat.ext c.1 (eP c.2)
    . rintro σ H2 ⟨v',rfl,rfl,eqs⟩;walk_at "r";exact ⟨_,_,rfl,rfl,λk hk=>eqs k (!2)⟩
  rintro σ H' ⟨v,v',rfl,rfl,eqs⟩;walk_at "r";exact qn (Jt λk hk=>eqs k (!2))
theorem K14(F:Fun K "_law_mix" "_law_mix" S53 f fd)(B:Bl mg)  :FnOk P w K mg base CX0 1 f fd ["_law_cell","_law_k"] P15:=by
  refine F.okA C16 λcdv A outer s H vs Q E hr h=>?_;obtain @⟨c,k,rfl,k0,k1,q⟩:=h;refine ⟨_,(za (zw (PW.pt (yQ (zg zW (zf zO (pv 0) zc) zc (zm _)) (yw (zg xM (zf GX (pv 0) (zf zv (zf zk zc (pv 1)) zc)) zc (zm _))))) (zd (zh (zf zO (zf GX (pv 0) (zf zv (zf zk zc (pv 1)) zc)) zc))) zo) (za (ps_s 2 C16.nd (zf zO (zf zk (zf zv (zf zv (zf zv (zf zO (pv 0) zc) (zf zk (zf zk zc (pv 1)) (pv 1))) (pv 1)) zc) zc) zc)) (za (ps_s 2 C16.nd (zf zO (zf zv (zf zv (zf zk (pv 2) (pv 2)) (zf zk zc (pv 1))) zc) zc)) (zd (zh (zf zO (zf zk (pv 2) (pv 2)) zc)))))),?_⟩;walk_at "s";have kb:Bd 20 k:=tN 20 (!2) (!2) ⋯;have cb:Bd 40 (c % 2147483647):=zG (B:=2147483647) (!2) (!2) (!3);have hsh:0<=20*k+1:=by lia
  exists if_d (λc1=>?_) (λc1=>?_)
  . exists if_d (λc2=>?_) (λc2=>?_)
    . walk_at "r";exact q _ (bJ _ ⋯) (Int.lt_trans (bS _ ⋯) ⋯)
    walk_at "r";obtain ⟨n,hn,n0,n1⟩:∃ n:Int,(c % 2147483647+48271*k*k+k+1)*69621 % 2147483629=n/\0<=n/\n<2147483629:=⟨_,rfl,bJ _ ⋯,bS _ ⋯⟩
    rw [hn];have nb:Bd 40 n:=zG (B:=2147483629) n0 (!2) (!3);walk_at "r";obtain ⟨u,hu,u0,u1⟩:∃ u:Int,(n*n+7919*k+5) % 2147483587=u/\0<=u/\u<2147483587:=⟨_,rfl,bJ _ ⋯,bS _ ⋯⟩
    rw [hu];have ub:Bd 40 u:=zG (B:=2147483587) u0 (!2) (!3);walk_at "r";exact q _ (bJ _ ⋯) (bS _ ⋯)
  walk_at "r";obtain ⟨n,hn,n0,n1⟩:∃ n:Int,(c % 2147483647+48271*k*k+k+1)*69621 % 2147483629=n/\0<=n/\n<2147483629:=⟨_,rfl,bJ _ ⋯,bS _ ⋯⟩
  rw [hn];have nb:Bd 40 n:=zG (B:=2147483629) n0 (!2) (!3);walk_at "r";obtain ⟨u,hu,u0,u1⟩:∃ u:Int,(n*n+7919*k+5) % 2147483587=u/\0<=u/\u<2147483587:=⟨_,rfl,bJ _ ⋯,bS _ ⋯⟩
  rw [hu];have ub:Bd 40 u:=zG (B:=2147483587) u0 (!2) (!3);walk_at "r";exact q _ (bJ _ ⋯) (bS _ ⋯)
theorem JC(x:Int):(if x<0 then -x else x)=((x.natAbs:Nat):Int):=by split <;> lia
theorem K15(F:Fun K "_law_low" "_law_low" S54 f fd)(B:Bl mg)  :FnOk P w K mg base CX0 1 f fd ["_law_a","_law_b","_law_n"] P16:=by
  refine F.okA C17 λcdv A outer s H vs Q E hr h=>?_;obtain @⟨a,b,n,rfl,hn,hb,q⟩:=h;refine ⟨_,(za (ps_s 3 C17.nd (zp yN rfl B.abs vH (pa1 (pv 2)))) (za (zH PassesOwn.never rfl (zA (zI (pa2 (zp yN rfl B.abs vH (pa1 (pv 0))) (zp yN rfl B.abs vH (pa1 (pv 1)))))) (pg_n 4 C17.nd) (zd (wp PassesOwn.never (zg vZ (pv 4) zc (zm _)) (zd (Fd (i:=3) (j:=4) rfl C17.nd rfl rfl ⋯ rfl rfl (pa2 (pv 4) (zf zO (pv 3) (pv 4))) rfl))))) (za (xp (zw (zg ue (pv 2) zc (zm _)) (zd (ps_s 3 C17.nd (zf yX zc (pv 3)))) zo)) (zd (zh (zq (pa3 (zf zy (pv 0) (pv 3)) (zf zy (pv 1) (pv 3)) (zf zy (pv 2) (pv 3))))))))),?_⟩;walk_at "s";have hc:∀ x,CFd x (gd a b n):=λx=>⟨Ju hn,aX (Ir hn hb).log ⋯⟩
  exists yC ?_;exists wa (!1) λl H1 s1 e1=>?_;refine ⟨l,rfl,⟨_,SqL.of e1⟩,zJ (K:=K) (a:=l) (xs:=[.int (if a<0 then -a else a),.int (if b<0 then -b else b)]) (λi σ H'=>∃ (v:Option V),σ=[vI a,vI b,vI n,vI (if i=0 then (if n<0 then -n else n) else if i=1 then ((Int.gcd n a:Nat):Int) else ((g3 a b n:Nat):Int)),v]/\H'=H1) ⟨none,rfl,rfl⟩ (λi σ H' _ z'=>by obtain ⟨_,_,e⟩:=z'; exact by rw [e]; exact SqL.of e1) ?_ ?_⟩
  . rintro i t σ H' hi ⟨v,rfl,rfl⟩;have hi2:i<2:=(af.mp hi).1;obtain ⟨x0,y0,G,rfl,hone,hG,hx0,hy0⟩:∃ (x0 y0:Int) (G:Nat),t=.int y0/\(if i=0 then (if n<0 then -n else n) else if i=1 then ((Int.gcd n a:Nat):Int) else ((g3 a b n:Nat):Int))=x0/\(Int.gcd x0 y0=G/\(if i+1=0 then (if n<0 then -n else n) else if i+1=1 then ((Int.gcd n a:Nat):Int) else ((g3 a b n:Nat):Int))=(G:Int))/\0<=x0/\0<=y0:=by
      have:i=0\/i=1:=by lia
      rcases this with rfl|rfl
      . refine ⟨_,_,_,(aq hi).symm,rfl,⟨Ce n a,rfl⟩,?_,?_⟩
        . show (0:Int)<=if n<0 then -n else n
          split <;> lia
        . split <;> lia
      . refine ⟨_,_,_,(aq hi).symm,rfl,⟨?_,rfl⟩,?_,?_⟩
        . show Int.gcd ((Int.gcd n a:Nat):Int) (if b<0 then -b else b)=g3 a b n;rw [JC,aY,b8];unfold g3;rw [aY (Int.gcd n a:Int)];simp
        . show (0:Int)<=((Int.gcd n a:Nat):Int)
          lia
        . split <;> lia
    rw [hone];exists Ba (λσ' H2=>E2 λ(x y:Int)=>A5 (σ'=[vI a,vI b,vI n,vI x,vI y]) (H2=H') (0<=x) (0<=y) (Int.gcd x y=G)) (λσ' _=>match σ' with | [_,_,_,_,some (.int y)]=>y.natAbs | _=>0) ⟨x0,y0,rfl,rfl,hx0,hy0,hG.1⟩ ?_;rintro σ' H2 ⟨x,y,rfl,rfl,hx,hy,hg⟩;exists ui (λc=>?_) (λc=>?_)
    . have y0':0<y:=by lia
      refine wgo ?_;exists ⟨⟨y,x % y,rfl,rfl,hy,bJ _ (!2),(Cv x y).trans hg⟩,?_⟩;have h1:=bJ x (show y≠0 by lia);have h2:=bS x y0';show (x % y).natAbs<y.natAbs
      lia
    . walk_at "r";have e:x=(G:Int):=by
        rw [<-hg,c,gh]
        lia
      exact ⟨_,by rw [hG.2,e],rfl⟩
  . rintro σ H' ⟨v,rfl,rfl⟩;exists wS (T:=λσ' H2=>∃ v,σ'=[vI a,vI b,vI n,vI (gd a b n),v]/\H2=H') ?_ ?_
    . exists if_d (λc=>?_) (λc=>?_)
      . exists ⟨v,?_,rfl⟩;have e:(0:Int) - ((g3 a b n:Nat):Int)=gd a b n:=by
          unfold gd;rw [io c]
          lia
        rw [<-e];rfl
      . exists ⟨v,?_,rfl⟩;have e:((g3 a b n:Nat):Int)=gd a b n:=by
          unfold gd;rw [ip c]
        rw [<-e];rfl
    rintro σ' H2 ⟨v,rfl,rfl⟩;walk_at "r"
    . exact zt (!1) λp H' s e=>q p H' (s1.trans s) e
    all_goals exact hc _
theorem K16(F:Fun K "_law_fraction" "_law_fraction" S55 f fd)(B:Bl mg)  :FnOk P w K mg base CX0 1 f fd ["_law_top","_law_bottom"] P17:=by
  refine F.okA C18 λcdv A outer s H vs Q E hr h=>?_;obtain @⟨t,b,rfl,hn,hb,q⟩:=h;refine ⟨_,(za (Fd (i:=2) (j:=3) rfl C18.nd rfl rfl ⋯ rfl rfl (pa2 (zp yN rfl B.abs vH (pa1 (pv 1))) (zp yN rfl B.abs vH (pa1 (pv 0)))) rfl) (za (wp PassesOwn.never (zg vZ (pv 3) zc (zm _)) (zd (Fd (i:=2) (j:=3) rfl C18.nd rfl rfl ⋯ rfl rfl (pa2 (pv 3) (zf zO (pv 2) (pv 3))) rfl))) (za (xp (zw (zg ue (pv 1) zc (zm _)) (zd (ps_s 2 C18.nd (zf yX zc (pv 2)))) zo)) (zd (zh (zq (pa2 (zf zy (pv 0) (pv 2)) (zf zy (pv 1) (pv 2))))))))),?_⟩;walk_at "s";have hc:∀ x,CFd x (fg t b):=λx=>⟨Kc hn,aX (LF hn hb).log ⋯⟩
  exists Ba (λσ' H'=>E2 λ(x y:Int)=>A5 (σ'=[vI t,vI b,vI x,vI y]) (H'=H) (0<=x) (0<=y) (Int.gcd x y=Int.gcd b t)) (λσ' _=>match σ' with | [_,_,_,some (.int y)]=>y.natAbs | _=>0) ⟨_,_,rfl,rfl,?_,?_,Ce b t⟩ ?_
  . split <;> lia
  . split <;> lia
  rintro σ' H' ⟨x,y,rfl,rfl,hx,hy,hg⟩;exists ui (λc=>?_) (λc=>?_)
  . have y0':0<y:=by lia
    refine wgo ?_;exists ⟨⟨y,x % y,rfl,rfl,hy,bJ _ (!2),(Cv x y).trans hg⟩,?_⟩;have h1:=bJ x (show y≠0 by lia);have h2:=bS x y0';show (x % y).natAbs<y.natAbs
    lia
  . obtain rfl:x=((Int.gcd t b:Nat):Int):=by
      rw [c9,<-hg,c,gh]
      lia
    exists wS (T:=λσ' H2=>∃ v,σ'=[vI t,vI b,vI (fg t b),v]/\H2=H') ?_ ?_
    . exists if_d (λc1=>?_) (λc1=>?_)
      . walk_at "r";have e:(0:Int) - ((Int.gcd t b:Nat):Int)=fg t b:=by
          unfold fg;rw [io c1]
          lia
        rw [e];exact ⟨_,rfl,rfl⟩
      . walk_at "r";have e:((Int.gcd t b:Nat):Int)=fg t b:=by
          unfold fg;rw [ip c1]
        rw [e];exact ⟨_,rfl,rfl⟩
    rintro σ' H2 ⟨v,rfl,rfl⟩;walk_at "r"
    . exact zt (!1) λp H' s e=>q p H' s (AJ hn e)
    all_goals exact hc _
theorem KP{k:Bool}:atI [V.int (-1),V.int 1] (if k=true then 1 else 0)=some (.int (if k=true then 1 else -1)):=by cases k <;> rfl
theorem CP{b:Int}(hR:Rt d)(n1:¬ (0<=a/\0<=b))(n2:¬ (a<=0/\b<=0)):(if decide (decide (d*b*b<a*a)=decide (0<a))=true then (1:Int) else -1)=sgn d a b:=by
  by_cases ha0:0<a
  . rw [AE ha0 (!2),iH ha0];by_cases z:d*b*b<a*a
    . rw [iH z,io z]; rfl
    . rw [im z,ip z]; rfl
  . rw [Ct (!2) (!2),im ha0];have ne:a*a≠d*b*b:=λe=>by
      have:=irr hR e
      lia
    by_cases z:d*b*b<a*a
    . rw [iH z,ip (show ¬ a*a<d*b*b by lia)]; rfl
    . rw [im z,io (show a*a<d*b*b by lia)]; rfl
theorem K17(F:Fun K "_law_sign" "_law_sign" S56 f fd)(B:Bl mg)  :FnOk P w K mg base CX0 1 f fd ["_law_d","_law_a","_law_b"] P18:=by
  refine F.okA C19 λcdv A outer s H vs Q E hr h=>?_;obtain @⟨d,a,b,rfl,hR,ha,hb,q⟩:=h;refine ⟨_,(za (zw (PW.pt (yQ (zg DP (pv 1) zc (zm _)) (yw (zg DP (pv 2) zc (zm _))))) (zd (zh (zR uc rfl B.int B8 (pa1 (Kg (yp xM (pv 1) zc (zm _)) (BU (yp xM (pv 2) zc (zm _)))))))) zo) (za (zw (PW.pt (yQ (zg DB (pv 1) zc (zm _)) (yw (zg DB (pv 2) zc (zm _))))) (zd (zh (Dt uF zc))) zo) (zd (zh (pe_i ix_list (zI (pa2 (Dt uF zc) zc)) (zR uc rfl B.int B8 (pa1 (yp zW (yp xM (zf zk (pv 1) (pv 1)) (zf zk (zf zk (pv 0) (pv 2)) (pv 2)) (zm _)) (yp xM (pv 1) zc (zm _)) (zm _))))))))),?_⟩;walk_at "s";have dlo:=hR.lo;have dhi:=hR.hi;have hd:Bd 64 d:=zG (B:=99) (!2) hR.hi (!3);exists if_d (λc1=>?_) (λc1=>?_)
  . exists if_d (λc2=>?_) (λc2=>?_)
    . exists if_d (λc3=>?_) (λc3=>?_)
      . walk_at "r";exact uP (by rw [w8 c1 c2,io (show 0<a+b by lia)]; rfl) (q H (Same.refl H))
      . exists uP ?_ (q H (Same.refl H));rw [w8 c1 c2];by_cases z:0<b
        . rw [iH z,io (show 0<a+b by lia)]; rfl
        . rw [im z,ip (show ¬ 0<a+b by lia)]; rfl
    . exists if_d (λc3=>?_) (λc3=>?_)
      . exists if_d (λc4=>?_) (λc4=>?_)
        . walk_at "r";exact uP (by rw [Ae (!2) c3 c4]) (q H (Same.refl H))
        . lia
      . exists wa (!1) λp H2 s2 e2=>?_;exists xr e2 KP ?_;exact uP (CP hR (!2) (!2)) (q H2 s2)
  . exists if_d (λc3=>?_) (λc3=>?_)
    . exists if_d (λc4=>?_) (λc4=>?_)
      . walk_at "r";exact uP (by rw [Ae (!2) c3 c4]) (q H (Same.refl H))
      . exists wa (!1) λp H2 s2 e2=>?_;exists xr e2 KP ?_;exact uP (CP hR (!2) (!2)) (q H2 s2)
    . lia
theorem K18(F:Fun K "_law_root" "_law_root" S57 f fd)(B:Bl mg)  :FnOk P w K mg base CX0 1 f fd ["_law_cell"] P19:=by
  refine F.okA C20 λcdv A outer s H vs Q E hr h=>?_;obtain @⟨c,rfl,q⟩:=h;refine ⟨_,(za (FE (i:=1) C20.nd rfl rfl ["_law_d"] [] rfl (wt rfl B.range (pa2 zc zc)) (λ_ _ _ _ _=>(pg_n 0 (show List.Nodup (α:=Str) ["_law_d"] by decide +kernel))) (λ_ _ _ _ _=>(GR (zg (r:=rIn K true) Af (pv 0) (zI (zM zc (zM zc (zM zc (zM zc (zM zc (zM zc (zM zc (zM zc yU))))))))) (by with_unfolding_all rfl)))) (λ_ _ _ _ _=>(pv 0))) (zd (zh (pe_i ix_list (pv 1) (zf zO (pv 0) zc))))),?_⟩;walk_at "s";exists Cz ?_;exists ⟨2,100,rfl,by decide,λD hD=>xc (λi xs σ' H'=>(∃ v,σ'=[v])/\xs=(y8 i).map V.int/\H' D=some (.lst xs)/\SameX D H H') ⟨⟨none,rfl⟩,rfl,zj,λb o e n=>by rw [zn n]; exact e⟩ ?_ ?_⟩
  . rintro i xs σ' H' hi ⟨⟨v,rfl⟩,rfl,eD,sx⟩;have hi:i<98:=hi;exists wa (!1) λp H2 s2 e2=>?_;refine Gv e2 rfl rfl ?_;rw [Ij];walk_at "r";have hlen:(y8 i).length<=i:=ce (g5 ..) (!1);by_cases hs:sqs.contains ((2:Int)+(i:Int))=true
    . rw [hs];exists xm hi ⟨⟨_,rfl⟩,rfl,?_,sx.trans (s2.sameX D)⟩;rw [vb,io hs,dL];exact s2 _ _ eD
    . rw [Bool.not_eq_true _ |>.mp hs];exists zr (s2 _ _ eD) (by rw [aa]; lia) λH3 sx3 e3=>?_;refine xm hi ⟨⟨_,rfl⟩,rfl,?_,(sx.trans (s2.sameX D)).trans sx3⟩;rw [vb,ip hs,ah];exact e3
  . rintro xs σ' H' ⟨_,rfl,eD,sx⟩;have eD:H' D=some (.lst ((y8 98).map V.int)):=eD;have s':Same H H':=λb o e=>sx b o e (zb e hD);walk_at "r";obtain ⟨d,hd,e⟩:=LJ (xs:=y8 98) (i:=c % 90) (!2) (by rw [DZ]; lia);exact xr eD e (q d H' (CS (ag _) hd) s')
theorem K19(F:Fun K "_law_rank" "_law_rank" S61 f fd)(B:Bl mg)  :FnOk P w K mg base CX0 1 f fd ["_law_found"] P20:=by
  refine F.okA C21 λcdv A outer s H vs Q E hr h=>?_;obtain @⟨p,t,rfl,⟨r0,r1,f0,f1,f2,f3,⟨hp,h0,h1,g0,g1,g2,g3'⟩⟩,bt,q⟩:=h;refine ⟨_,(za (ps_s 1 C21.nd (zf zk (zf zk (zf zk (pe_i ix_tup (pe_i yH (pe_i yH (pv 0) zc) zc) zc) (pe_i ix_tup (pe_i yH (pe_i yH (pv 0) zc) zc) zc)) (pe_i ix_tup (pe_i yH (pe_i yH (pv 0) zc) zc) zc)) (pe_i ix_tup (pe_i yH (pe_i yH (pv 0) zc) zc) zc))) (za (ps_s 2 C21.nd (zf zk (zf zk (zf zk (pe_i ix_tup (pe_i yH (pe_i yH (pv 0) zc) zc) zc) (pe_i ix_tup (pe_i yH (pe_i yH (pv 0) zc) zc) zc)) (pe_i ix_tup (pe_i yH (pe_i yH (pv 0) zc) zc) zc)) (pe_i ix_tup (pe_i yH (pe_i yH (pv 0) zc) zc) zc))) (zd (zh (pe_i ix_list (zI (pa2 zc zc)) (zR uc rfl B.int B8 (pa1 (yp zW (pv 1) (pv 2) (zm _))))))))),?_⟩;walk_at "s";have a1:Bd 3000 t.a.num:=bt.a.1;have a2:Bd 3000 (t.a.den:Int):=bt.a.2;have b1:Bd 3000 t.b.num:=bt.b.1;have b2:Bd 3000 (t.b.den:Int):=bt.b.2;have c1:Bd 3000 t.c.num:=bt.c.1;have c2:Bd 3000 (t.c.den:Int):=bt.c.2;have e1:Bd 3000 t.e.num:=bt.e.1;have e2:Bd 3000 (t.e.den:Int):=bt.e.2;exists xL hp rfl ?_;exists xL h0 rfl ?_;exists xL hp rfl ?_;exists xL h1 rfl ?_;exists xL hp rfl ?_;exists xL h0 rfl ?_;exists xL hp rfl ?_;exists xL h1 rfl ?_;exists xL hp rfl ?_;exists xL h0 rfl ?_;exists xL hp rfl ?_;exists xL h1 rfl ?_;exists xL hp rfl ?_;exists xL h0 rfl ?_;exists xL hp rfl ?_;exists xL h1 rfl ?_;exists wa (!1) λl H2 s2 e2=>?_;exists xr e2 JY ?_;refine uP ?_ (q H2 s2);unfold rkT xP;by_cases c:t.a.num*t.e.num*(t.b.den:Int)*(t.c.den:Int)=t.b.num*t.c.num*(t.a.den:Int)*(t.e.den:Int)
  . rw [iH c,io rfl,io (!2)]
  . rw [im c,ip aP,ip (!2)]
theorem K20(F:FunD K "__init__" "Yard.__init__" S68 f fd its)(B:Bl mg)(X:Xs K mg cs) :FnOk P w K mg base CX0 1 f fd ["self","d","heap","turning"] (P21 cs):=by
  refine F.okA C22 λcdv A outer s H vs Q E hr h=>?_;obtain ⟨p,dx,hp,d,tn,cl,rfl,h0,hh,hat,hlen,q⟩:=h;refine ⟨_,(za (An (pv 0) (pv 1) rfl) (za (An (pv 0) (pv 3) rfl) (za (An (pv 0) (zR wB rfl B.list vq (pa1 (pv 2))) rfl) (za (An (pv 0) (zR (uz rfl) rfl B.dict Dz (pa1 (yr ["name"] [] rfl (yz rfl B.range (pa1 (zp zx rfl B.len bI (pa1 (pv 2))))) (λ_ _ _ _ _=>(pg_n 0 (show List.Nodup (α:=Str) ["name"] by decide +kernel))) (λ_ _ _ _ _=>zL) (λ_ _ _ _ _=>(zq (pa2 (pv 0) wP)))))) rfl) (zd (An (pv 0) (zI yU) rfl)))))),?_⟩;walk_at "s";exists AF h0 X.c_Yard X.n_Yard_root (!1) λH1 x1 e1=>?_;exists AF e1 X.c_Yard X.n_Yard_turning (yZ (!1)) λH2 x2 e2=>?_;have np:hp≠p:=zX hh h0 (λz=>nomatch z);have hh2:=x2 _ _ (x1 _ _ hh np) np;exists tt hh2 λk H3 nk s3 ek=>?_;have e3:=s3 _ _ e2;have kp:k≠p:=zX ek e3 (λz=>nomatch z);exists AF e3 X.c_Yard X.n_Yard_known (yZ (yZ (!1))) λH4 x4 e4=>?_;have ek4:=x4 _ _ ek kp;have hh4:=x4 _ _ (s3 _ _ hh2) np;exists tV ?_;exists ⟨_,rfl,by simp only [aa]; lia,by simp only [aa]; lia,λD hD=>xc (lo:=0) (n:=((cl.map Cell.v).length:Int).toNat) (λi xs σ' H'=>E2 λ(v:Option V) (ps:List Addr)=>A6 (σ'=[v]) (xs=ps.map V.ref) (ps.length=i) (H' D=some (.lst xs)) (SameX D H4 H') (∀ (j:Nat) (p':Addr),ps[j]?=some p'->H' p'=some (.tup [.int (j:Int),.bl true]))) ⟨none,[],rfl,rfl,rfl,zj,λb o e n=>by rw [zn n]; exact e,by simp⟩ ?_ ?_⟩
  . rintro i xs σ' H' hi ⟨v,ps,rfl,rfl,hl,eD,sx,hps⟩;exists zK (!1) λr H5 hr s5 e5=>?_;walk_at "r";have hi':i<61:=by simp only [aa] at hi; lia
    refine zr (s5 _ _ eD) (by rw [aa]; lia) λH6 x6 e6=>?_;have rD:r≠D:=zX e5 (s5 _ _ eD) (λz=>nomatch z);refine xm hi ⟨_,ps++[r],rfl,rfl,by rw [ai,hl]; rfl,by rw [ah]; exact e6,sx.trans ((SameX.of s5).trans x6),?_⟩;intro j p' hj;by_cases c:j<ps.length
    . rw [aT c] at hj;have:=hps j p' hj;exact x6.tup (s5 _ _ this) (s5 _ _ eD)
    . rw [aM (!2)] at hj;have hj1:=(af.mp hj).1;have j0:j - ps.length=0:=by simpa using hj1
      rw [j0] at hj;injection hj with hj;subst hj;have:j=i:=by lia
      subst this;have:=x6.tup e5 (s5 _ _ eD);simpa using this
  . rintro xs σ' H' ⟨v,ps,rfl,rfl,hl,eD,sx,hps⟩;have s5:Same H4 H':=λb o e=>sx b o e (zb e hD);have hl:ps.length=cl.length:=by rw [hl]; simp
    exists Fx (kvs:=nmK (List.range cl.length)) eD (by simp [nmK,hl]) (λi p' kv h1 h2=>?_) (Aj cM) (by simp [nmK]; lia) λl H6 nl s6 el=>?_
    . have h3:=hps i p' h1;have hi:=(af.mp h1).1;rw [nmK,aj,dn (!2)] at h2;injection h2 with h2;rw [<-h2];exact h3
    have e6:=s6 _ _ (s5 _ _ e4);have lp:l≠p:=zX el e6 (λz=>nomatch z);exists AF e6 X.c_Yard X.n_Yard_lying (yZ (yZ (yZ (!1)))) λH7 x7 e7=>?_;exists zB (!1) λt H8 nt s8 et=>?_;have e8:=s8 _ _ e7;have tp:t≠p:=zX et e8 (λz=>nomatch z);exists AF e8 X.c_Yard X.n_Yard_done (yZ (yZ (yZ (yZ (!1))))) λH9 x9 e9=>?_;have ek7:=x7 _ _ (s6 _ _ (s5 _ _ ek4)) kp;have xx:SameX p H H9:=x1.trans (x2.trans ((SameX.of s3).trans (x4.trans ((SameX.of (s5.trans s6)).trans (x7.trans ((SameX.of s8).trans x9))))));have pn:∀ {b:Addr} {G:Hp},SameX p H G->b≠p->G b=none->H b=none:=λ{b G} x n g=>by
      cases e:H b with
      | none=>rfl
      | some o=>rw [x _ _ e n] at g; cases g
    refine q ⟨p,dx,k,l,t⟩ H9 rfl rfl xx ⟨e9,x9 _ _ (s8 _ _ ek7) kp,x9 _ _ (s8 _ _ (x7 _ _ el lp)) lp,x9 _ _ et tp,zb ek7 nt,λc hc=>?_,cM,λn hn=>b9.mp hn,by lia,by simp⟩ (pn (x1.trans x2) kp nk) (pn (x1.trans (x2.trans ((SameX.of s3).trans (x4.trans (SameX.of s5))))) lp nl) (pn (x1.trans (x2.trans ((SameX.of s3).trans (x4.trans ((SameX.of (s5.trans s6)).trans x7))))) tp nt);have hc:=hat c hc;exact ⟨xx _ _ hc.t (zX hc.t h0 (λz=>nomatch z)),xx _ _ hc.w (zX hc.w h0 (λz=>nomatch z)),xx _ _ hc.h (zX hc.h h0 (λz=>nomatch z))⟩
theorem K21(F:Fun K "board_ever" "Yard.board_ever" S72 f fd)(B:Bl mg)(X:Xs K mg cs) :FnOk P w K mg base CX0 1 f fd ["self","name"] (P22 cs):=by
  refine F.okA C23 λcdv A outer s H vs Q E hr h=>?_;obtain @⟨y,d,tn,cl,ns,lg,n,c,rfl,hy,hc,q⟩:=h;refine ⟨_,(zd (zh (pe_i ix_list (ye (K:=K) rfl (pv 0) rfl) (pv 1)))),?_⟩;walk_at "s";exists ⟨_,_,_,_,_,rfl,hy.o,X.c_Yard,X.n_Yard_known,rfl,?_⟩;exists xr hy.k (v:=c.v) (xt (by rw [aj,hc]; rfl)) ?_;walk_at "r";exact q
theorem K22(F:Fun K "boards" "Yard.boards" S73 f fd)(B:Bl mg)(X:Xs K mg cs) :FnOk P w K mg base CX0 1 f fd ["self"] (P23 cs):=by
  refine F.okA C24 λcdv A outer s H vs Q E hr h=>?_;obtain @⟨y,d,tn,cl,ns,lg,rfl,hy,q⟩:=h;refine ⟨_,(zd (zh (BY ["name"] [0] rfl (Eo (ye (K:=K) rfl (pv 0) rfl)) (λ_ _ _ _ _=>(pg_n 0 (show List.Nodup (α:=Str) ["name","self"] by decide +kernel))) (λ_ _ _ _ _=>zL) (λ_ _ _ _ _=>(zq (pa2 (pv 0) (pe_i (r:=rIxL K) ix_list (ye (K:=K) rfl (pv 1) rfl) (pv 0)))))))),?_⟩;walk_at "s";refine i_ret ?_;refine FQ ?_;exists ⟨_,_,_,_,_,rfl,hy.o,X.c_Yard,X.n_Yard_lying,rfl,?_⟩;refine ⟨y.l,nmK ns,rfl,hy.l,λob nf D hD=>AK (d:=y.l) (ob:=ob) (kvs:=nmK ns) (λi xs σ' H'=>E1 λ(v:Option V)=>A5 (σ'=[v,vR y.p]) ((∃ ps:List Addr,xs=ps.map V.ref/\ps.length=i/\∀ (j:Nat) (p:Addr),ps[j]?=some p->∃ n c,ns[j]?=some n/\cl[n]?=some c/\H' p=some (.tup [.int (n:Int),.ref c.p]))) (H' D=some (.lst xs)) (H' y.l=some (.frz ob (.dK (nmK ns)))) (∀ b o,H b=some o->b≠y.l->H' b=some o)) ?_ (λi xs σ' H' _ z=>by obtain ⟨_,_,_,_,z,_⟩:=z; exact z) ?_ ?_⟩
  . have nl:D≠y.l:=λc=>by rw [c,zj] at hD; cases hD
    have hD':H D=none:=by rw [zn nl] at hD; exact hD
    exact ⟨none,rfl,⟨[],rfl,rfl,by simp⟩,zj,by rw [zn (ck nl),zj],λb o e n=>by rw [zn (zb e hD'),zn n]; exact e⟩
  . rintro i kv xs σ' H' hi ⟨v,rfl,⟨ps,rfl,hl,hps⟩,eD,el,sx⟩;have nl0:D≠y.l:=λc=>by rw [c,zj] at hD; cases hD
    have hD':H D=none:=by rw [zn nl0] at hD; exact hD
    rw [nmK,aj] at hi;obtain ⟨n,hn,rfl⟩:=av.mp hi;have hlt:=hy.lt n (aw hn);obtain ⟨c,hc⟩:∃ c,cl[n]?=some c:=⟨_,ae hlt⟩
    have nl:∀ {b:Addr} {o:HO},H b=some o->(∀ k,o≠.dK k)->b≠y.l:=λe h z=>by rw [z,hy.l] at e; injection e with e; exact h _ e.symm
    have eo:=sx _ _ hy.o (nl hy.o (λ_ z=>nomatch z));have ek:=sx _ _ hy.k (nl hy.k (λ_ z=>nomatch z));exists ⟨_,_,_,_,_,rfl,eo,X.c_Yard,X.n_Yard_known,rfl,?_⟩;exists xr ek (v:=c.v) (xt (by rw [aj,hc]; rfl)) ?_;have hi3:=(af.mp hn).1;have l1:=CC hy.up hy.lt;have l2:=hy.lc;exists zK (!1) λr H5 hr s5 e5=>?_;walk_at "r";have eD5:=s5 _ _ eD;refine zr eD5 (by rw [aa]; lia) λH3 x3 e3=>?_;refine xm (by simp only [nmK,aa]; exact hi3) ⟨_,rfl,⟨ps++[r],rfl,by rw [ai,hl]; rfl,?_⟩,by rw [ah]; exact e3,x3 _ _ (s5 _ _ el) (zX (s5 _ _ el) eD5 (λz=>nomatch z)),λb o e n=>x3 _ _ (s5 _ _ (sx b o e n)) (zb e hD')⟩;intro j p' hj;by_cases cj:j<ps.length
    . rw [aT cj] at hj;obtain ⟨n',c',h1,h2,h3⟩:=hps j p' hj;exact ⟨n',c',h1,h2,x3.tup (s5 _ _ h3) eD5⟩
    . rw [aM (!2)] at hj;have hj1:=(af.mp hj).1;have j0:j - ps.length=0:=by simpa using hj1
      rw [j0] at hj;injection hj with hj;subst hj;have:j=i:=by lia
      subst this;exact ⟨n,c,hn,hc,x3.tup e5 eD5⟩
  . rintro xs σ' H' ⟨v,rfl,⟨ps,rfl,hl,hps⟩,eD,el,sx⟩;have nl0:D≠y.l:=λc=>by rw [c,zj] at hD; cases hD
    have hD':H D=none:=by rw [zn nl0] at hD; exact hD
    refine ⟨y.l,ob,nmK ns,nf,el,?_⟩;refine q D _ ps (λb o e=>?_) hD' (by rw [zn nl0]; exact eD) ⟨by rw [hl,nmK,aa],λj p' hj=>?_⟩;rotate_left
    . obtain ⟨n',c',h1,h2,h3⟩:=hps j p' hj;exact ⟨n',c',h1,h2,by rw [zn (zX h3 el (λz=>nomatch z))]; exact h3⟩
    by_cases c:b=y.l
    . rw [c,zj]; rw [c,hy.l] at e; exact e
    . rw [zn c]; exact sx b o e c
theorem K23(F:Fun K "heap" "Yard.heap" S74 f fd)(B:Bl mg)(X:Xs K mg cs) :FnOk P w K mg base CX0 1 f fd ["self"] (P24 cs):=by
  refine F.okA C25 λcdv A outer s H vs Q E hr h=>?_;obtain @⟨y,d,tn,cl,ns,lg,rfl,hy,q⟩:=h;refine ⟨_,(zd (zh (BY ["name"] [0] rfl (Eo (ye (K:=K) rfl (pv 0) rfl)) (λ_ _ _ _ _=>(pg_n 0 (show List.Nodup (α:=Str) ["name","self"] by decide +kernel))) (λ_ _ _ _ _=>zL) (λ_ _ _ _ _=>(pe_i (r:=rIxL K) ix_list (ye (K:=K) rfl (pv 1) rfl) (pv 0)))))),?_⟩;walk_at "s";refine i_ret ?_;refine FQ ?_;exists ⟨_,_,_,_,_,rfl,hy.o,X.c_Yard,X.n_Yard_lying,rfl,?_⟩;refine ⟨y.l,nmK ns,rfl,hy.l,λob nf D hD=>AK (d:=y.l) (ob:=ob) (kvs:=nmK ns) (λi xs σ' H'=>E1 λ(v:Option V)=>A5 (σ'=[v,vR y.p]) (xs=(pick cl (ns.take i)).map Cell.v) (H' D=some (.lst xs)) (H' y.l=some (.frz ob (.dK (nmK ns)))) (∀ b o,H b=some o->b≠y.l->H' b=some o)) ?_ (λi xs σ' H' _ z=>by obtain ⟨_,_,_,_,z,_⟩:=z; exact z) ?_ ?_⟩
  . have nl:D≠y.l:=λc=>by rw [c,zj] at hD; cases hD
    have hD':H D=none:=by rw [zn nl] at hD; exact hD
    exact ⟨none,rfl,rfl,zj,by rw [zn (ck nl),zj],λb o e n=>by rw [zn (zb e hD'),zn n]; exact e⟩
  . rintro i kv xs σ' H' hi ⟨v,rfl,rfl,eD,el,sx⟩;have nl0:D≠y.l:=λc=>by rw [c,zj] at hD; cases hD
    have hD':H D=none:=by rw [zn nl0] at hD; exact hD
    rw [nmK,aj] at hi;obtain ⟨n,hn,rfl⟩:=av.mp hi;have hlt:=hy.lt n (aw hn);obtain ⟨c,hc⟩:∃ c,cl[n]?=some c:=⟨_,ae hlt⟩
    have nl:∀ {b:Addr} {o:HO},H b=some o->(∀ k,o≠.dK k)->b≠y.l:=λe h z=>by rw [z,hy.l] at e; injection e with e; exact h _ e.symm
    have eo:=sx _ _ hy.o (nl hy.o (λ_ z=>nomatch z));have ek:=sx _ _ hy.k (nl hy.k (λ_ z=>nomatch z));exists ⟨_,_,_,_,_,rfl,eo,X.c_Yard,X.n_Yard_known,rfl,?_⟩;exists xr ek (v:=c.v) (xt (by rw [aj,hc]; rfl)) ?_;have hi3:=(af.mp hn).1;have l1:=CC hy.up hy.lt;have l2:=hy.lc;have l3:=CH (cl:=cl) (ns:=ns.take i);rw [az] at l3;exists zr eD (by rw [aa]; lia) λH3 x3 e3=>?_;refine xm (by simp only [nmK,aa]; exact hi3) ⟨_,rfl,rfl,by rw [DM hn hc,ah]; exact e3,x3 _ _ el (zX el eD (λz=>nomatch z)),λb o e n=>x3 _ _ (sx b o e n) (zb e hD')⟩
  . rintro xs σ' H' ⟨v,rfl,rfl,eD,el,sx⟩;have nl0:D≠y.l:=λc=>by rw [c,zj] at hD; cases hD
    have hD':H D=none:=by rw [zn nl0] at hD; exact hD
    refine ⟨y.l,ob,nmK ns,nf,el,?_⟩;rw [show ns.take (nmK ns).length=ns by rw [nmK,aa,au]] at eD;refine q D _ (λb o e=>?_) hD' (by rw [zn nl0]; exact eD);by_cases c:b=y.l
    . rw [c,zj]; rw [c,hy.l] at e; exact e
    . rw [zn c]; exact sx b o e c
theorem K24(F:FunD K "length" "length" S3 f fd its)(B:Bl mg)(o2x:O2x P w K mg base)(o1x:O1x P w K mg base)(o0x:O0x P w K mg base):FnOk P w K mg base CX0 2 f fd ["a","b","n"] P25:=by
  refine F.okA C26 λcdv A outer s H vs Q E hr h=>?_;obtain ⟨a,b,n,rfl,hn,hb,⟨ha8,hb8⟩,q⟩:=h;refine ⟨_,(za (zw (xZ (PW.pt (yQ (yY (ze o0x hr rfl (pa1 (pv 0)))) (yQ (yY (ze o0x hr rfl (pa1 (pv 1)))) (yw (yY (ze o0x hr rfl (pa1 (pv 2))))))))) (zd yV) zo) (za (zw (zg zW (pv 2) zc (zm _)) (zd yV) zo) (za (ps_s 3 C26.nd (ze o2x hr rfl (pa2 (ze o1x hr rfl (pa2 (ze o1x hr rfl (pa2 (pv 2) (pv 0))) (pv 1))) (pv 2)))) (zd (zh (zq (pa3 (zf zy (pv 0) (pv 3)) (zf zy (pv 1) (pv 3)) (zf zy (pv 2) (pv 3))))))))),?_⟩;walk_at "s";have hc:∀ x,CFd x (gd a b n):=λx=>⟨Ju hn,aX (Ir hn hb).log ⋯⟩
  exists if_d (λc=>absurd c hn) (λ_=>?_);walk_at "r"
  . exact zt (!1) λp H' s e=>q p H' s e
  all_goals exact hc _
theorem K25(F:FunD K "fraction" "fraction" S4 f fd its)(B:Bl mg)(o2x:O2x P w K mg base)(o1x:O1x P w K mg base):FnOk P w K mg base CX0 2 f fd ["top","bottom"] P26:=by
  refine F.okA C27 λcdv A outer s H vs Q E hr h=>?_;obtain ⟨t,b,rfl,hn,hb,q⟩:=h;refine ⟨_,(za (ps_s 2 C27.nd (ze o2x hr rfl (pa2 (ze o1x hr rfl (pa2 (pv 0) (pv 1))) (pv 1)))) (zd (zh (zq (pa2 (zf zy (pv 0) (pv 2)) (zf zy (pv 1) (pv 2))))))),?_⟩;walk_at "s";have hc:∀ x,CFd x (fg t b):=λx=>⟨Kc hn,aX (LF hn hb).log ⋯⟩
  walk_at "r"
  . exact zt (!1) λp H' s e=>q p H' s e
  all_goals exact hc _
theorem K26(F:Fun K "by_parts" "by_parts" S6 f fd)(B:Bl mg)(o1x:O1x P w K mg base):FnOk P w K mg base CX0 2 f fd ["f","g"] P27:=by
  refine F.okA C28 λcdv A outer s H vs Q E hr h=>?_;obtain ⟨p,p',t,b,t',b',rfl,h1,h2,n1,n2,k1,k2,⟨b1,b2,b3,b4⟩,q⟩:=h;refine ⟨_,(za (ps_s 2 C28.nd (ze o1x hr rfl (pa2 (pit 0) (pit 1)))) (zd (zh (zq (pa3 (zf zk (pit 0) (zf zy (pit 1) (pv 2))) (zf zk (pit 1) (zf zy (pit 0) (pv 2))) (zf zk (zf zy (pit 0) (pv 2)) (pit 1))))))),?_⟩;walk_at "s";obtain ⟨as1,ea,eb,en⟩:=AL n1 n2 k1 k2;have gb:Bd 3900 (aS b b'):=vE (!2) b2;have hs:∀ t,CFd t (aS b b'):=λt=>⟨by lia,aX gb.log ⋯⟩
  rw [<-ea,<-eb,<-en] at q;walk_at "r"
  . exact zt (!1) λr H' s e=>q r H' s e
  all_goals exact hs _
theorem K27(F:Fun K "added" "added" S7 f fd)(B:Bl mg)(o1x:O1x P w K mg base):FnOk P w K mg base CX0 2 f fd ["one","other"] (P28 K):=by
  refine F.okA C29 λcdv A outer s H vs Q E hr h=>?_;obtain ⟨p,p',x,y,z,x',y',z',rfl,h1,h2,n1,n2,k1,k2,⟨b1,b2,b3,b4,b5,b6⟩,q⟩:=h;refine ⟨_,(za (ps_s 2 C29.nd (ze o1x hr rfl (pa2 (pit 0) (pit 1)))) (za (ps_s 3 C29.nd (zf zy (pit 1) (pv 2))) (za (ps_s 4 C29.nd (zf zy (pit 0) (pv 2))) (za (ps_s 5 C29.nd (zf zv (zf zk (pit 0) (pv 3)) (zf zk (pit 1) (pv 4)))) (za (ps_s 6 C29.nd (zf zv (zf zk (pit 0) (pv 3)) (zf zk (pit 1) (pv 4)))) (za (ps_s 7 C29.nd (ze o1x hr rfl (pa2 (ze o1x hr rfl (pa2 (pv 2) (pv 5))) (pv 6)))) (zd (zh (zq (pa3 (zf zy (pv 5) (pv 7)) (zf zy (pv 6) (pv 7)) (zf zk (pv 4) (zf zy (pit 1) (pv 7))))))))))))),?_⟩;walk_at "s";obtain ⟨as1,al1,ea,eb,en⟩:=Jz n1 n2 k1 k2;have gb:Bd 3900 (aS z z'):=vE (!2) b3;have lb:Bd 3900 (aL x y z x' y' z'):=vE (by have:=cX (aA x z x' z') (show aS z z'≠0 by lia); lia) (vE (!2) gb);have ba8:Bd 8192 (aA x z x' z'):=Bd.mono (Bd.add (k:=7800) (b1.mul (b6.fdiv _)) (b4.mul (b3.fdiv _))) ⋯;have bb8:Bd 8192 (aA y z y' z'):=Bd.mono (Bd.add (k:=7800) (b2.mul (b6.fdiv _)) (b5.mul (b3.fdiv _))) ⋯;have hs:∀ t,CFd t (aS z z'):=λt=>⟨by lia,aX gb.log ⋯⟩
  have hl:∀ t,CFd t (aL x y z x' y' z'):=λt=>⟨by lia,aX lb.log ⋯⟩
  rw [<-ea,<-eb,<-en] at q;walk_at "r"
  . exact zt (!1) λr H' s e=>q r H' s e
  all_goals first | exact hs _ | exact hl _
theorem K28(F:Fun K "under" "under" S11 f fd)(B:Bl mg)(o10x:Own P w K mg base 1 "is_above_nought" ["d","a","b"] [] P3):FnOk P w K mg base CX0 2 f fd ["d","one","other"] (P29 K):=by
  refine F.okA C30 λcdv A outer s H vs Q E hr h=>?_;obtain ⟨d,p,p',x,y,z,x',y',z',rfl,h1,h2,hd,⟨b1,b2,b3,b4,b5,b6⟩,q⟩:=h;refine ⟨_,(zd (zh (ze o10x hr rfl (pa3 (pv 0) (zf yX (zf zk (pit 2) (pit 1)) (zf zk (pit 1) (pit 2))) (zf yX (zf zk (pit 2) (pit 1)) (zf zk (pit 1) (pit 2))))))),?_⟩;walk_at "s";walk_at "r";exact wN rfl hd ((Bd.sub (b4.mul b3) (b1.mul b6)).mono ⋯) ((Bd.sub (b5.mul b3) (b2.mul b6)).mono ⋯) q
theorem K29(F:Fun K "counts" "counts" S15 f fd)(B:Bl mg)(o14x:Own P w K mg base 1 "crossed" ["one","other"] [] P4):FnOk P w K mg base CX0 2 f fd ["d","base","one"] P30:=by
  refine F.okA C31 λcdv A outer s H vs Q E hr h=>?_;obtain ⟨d,d',p,r1,r2,o,s,N,x,y,rfl,⟨h0,h1,h2⟩,ho,hN,hb,g,⟨bx,by'⟩,q⟩:=h;refine ⟨_,(za (ps_s 3 C31.nd (pit 1)) (za (ps_s 4 C31.nd (pit 1)) (za (ps_s 5 C31.nd (zf zk (pit 2) (ze o14x hr rfl (pa2 (pv 3) (pv 4))))) (zd (zh (zq (pa2 (zf zy (zf zk (ze o14x hr rfl (pa2 (pv 2) (pv 4))) (pit 3)) (pv 5)) (zf zy (zf zk (ze o14x hr rfl (pa2 (pv 3) (pv 2))) (pit 4)) (pv 5))))))))),?_⟩;walk_at "s";obtain ⟨b0,ci,cj⟩:=Ml (x:=x) (y:=y) g hN;have k1:Bd 900 (lA s.a s.b N):=g.ba.fdiv _;have k2:Bd 900 (lB s.a s.b N):=g.bb.fdiv _;have k3:Bd 900 (lN s.a s.b N):=hb.fdiv _;have k4:Bd 900 (lA s.c s.e N):=g.bc.fdiv _;have k5:Bd 900 (lB s.c s.e N):=g.be.fdiv _;have k6:Bd 900 (lN s.c s.e N):=hb.fdiv _;have k7:Bd 900 (lA x y N):=bx.fdiv _;have k8:Bd 900 (lB x y N):=by'.fdiv _;have k9:Bd 900 (lN x y N):=hb.fdiv _;have bb:Bd 4000 (lN x y N*(lA s.a s.b N*lB s.c s.e N - lB s.a s.b N*lA s.c s.e N)):=Bd.mono (k9.mul ((k1.mul k5).sub (k2.mul k4))) ⋯;have hc:∀ t,CFd t (lN x y N*(lA s.a s.b N*lB s.c s.e N - lB s.a s.b N*lA s.c s.e N)):=λt=>⟨b0,aX bb.log ⋯⟩
  rw [<-ci,<-cj] at q;exists vP h1 h2 k1 k2 k4 k5 ?_;exists vP ho h2 k7 k8 k4 k5 ?_;walk_at "r"
  . refine vP h1 ho k1 k2 k7 k8 ?_;walk_at "r"
    . exact zt (!1) λr H' s' e=>q r H' s' e
    exact hc _
  all_goals exact hc _
theorem K30(F:Fun K "common_bottom" "common_bottom" S16 f fd)(B:Bl mg)(o1x:O1x P w K mg base):FnOk P w K mg base CX0 2 f fd ["lengths"] (P31 K):=by
  refine F.okA C32 λcdv A outer s H vs Q E hr h=>?_;obtain @⟨d,k,p,L,rfl,hL,hlen,hNb,q⟩:=h;refine ⟨_,(za (ps_s 1 C32.nd zc) (za (zH PassesOwn.never rfl (zA (pv 0)) (pg_n 2 C32.nd) (zd (ps_s 1 C32.nd (zf zk (zf zy (pv 1) (ze o1x hr rfl (pa2 (pv 1) (pit 2)))) (pit 2))))) (zd (zh (pv 1))))),?_⟩;walk_at "s";exists yC ?_;exists ⟨p,rfl,⟨_,SqL.of hL.l⟩,zJ (K:=K) (a:=p) (xs:=L.map Ln.v) (λi σ H'=>∃ (v:Option V),σ=[vR p,vI (cbs ((L.take i).map λc=>c.s.z)),v]/\H'=H) ⟨none,rfl,rfl⟩ (λi σ H' _ z'=>by obtain ⟨_,_,e⟩:=z'; exact by rw [e]; exact SqL.of hL.l) ?_ ?_⟩
  . rintro i y σ H' hi ⟨v,rfl,rfl⟩;obtain ⟨c,rfl,hc,hic⟩:=JO hi;have e0:=hL.at' c hc;have ok:=hL.ok c hc;have bz:=ok.bz;have z1:=ok.z1;obtain ⟨f1,fb⟩:=FZ hL.ok hNb i;have hn:0<Int.gcd (cbs ((L.take i).map λc=>c.s.z)) c.s.z:=cX _ (!2);have gb:Bd 890 ((Int.gcd (cbs ((L.take i).map λc=>c.s.z)) c.s.z:Nat):Int):=vE (!2) fb;have hcf:∀ t,CFd t ((Int.gcd (cbs ((L.take i).map λc=>c.s.z)) c.s.z:Nat):Int):=λt=>⟨by lia,aX gb.log ⋯⟩
    walk_at "r"
    . exact ⟨some (.ref c.p),by rw [BL hic,FR]; rfl,rfl⟩
    all_goals exact hcf _
  . rintro σ H' ⟨v,rfl,rfl⟩;rw [aa,au];walk_at "r";exact q
theorem K31(F:Fun K "undoing" "undoing" S33 f fd)(B:Bl mg)(o71x:OwnM P w K mg base CX0 cs.Yard 1 "board_ever" ["self","name"] [] (P22 cs)):FnOk P w K mg base CX0 2 f fd ["yard","deed","names"] (P32 cs):=by
  refine F.okA C33 λcdv A outer s H vs Q E hr h=>?_;obtain @⟨y,d,tn,cl,ns,lg,p,a,e,n,c,m,m',rfl,hy,he,ha,hn,hc,q⟩:=h;refine ⟨_,(za (ps_s 3 C33.nd (pit 1)) (za (zw (zg zW (pv 3) zP (zm _)) (zd (zh (zq (pa3 zP (pil 2) (pil 2))))) zo) (za (zw (zg zW (pv 3) zP (zm _)) (zd (zh (zq (pa3 zP (pil 2) (pil 2))))) zo) (za (zw (zg zW (pv 3) zP (zm _)) (zd (zh (zq (pa3 zP (pil 2) (pe_i ix_tup (vN o71x t8 hr (pv 0) (pa1 (pit 1))) zc))))) zo) (za (zw (zg zW (pv 3) zP (zm _)) (zd (zh (zq (pa3 zP (pil 2) (pe_i ix_tup (vN o71x t8 hr (pv 0) (pa1 (pit 1))) zc))))) zo) (za (zw (zg zW (pv 3) zP (zm _)) (zd (zh (zq (pa3 zP (pil 2) (pit 1))))) zo) (za (zw (zg zW (pv 3) zP (zm _)) (zd (zh (zq (pa3 zP (pil 2) (pit 1))))) zo) (zd (zh (zq (pa2 zP (pil 2)))))))))))),?_⟩;walk_at "s";cases e with
  | cut al n1 s' =>
    obtain ⟨pq,h0,hs⟩:=he;have ga:al=al:=rfl;cases al
    all_goals
      simp [DdAt,Dd.wd] at h0;have ha:H a=some (.lst [.int m,.int m']):=ha;first
       | have:false=false:=ga
       | (walk_at "r"
          refine ifn ?_)
      exists if_d (λ_=>?_) (λc=>absurd rfl c);exists zK (!1) λr H1 nr s1 e1=>?_;exact q r H1 s1 nr e1
  | glue al n1 m1 =>
    have h0:=he;have ga:al=al:=rfl;cases al
    all_goals
      simp [DdAt,Dd.wd] at h0;have ha:H a=some (.lst [.int m]):=ha;first
       | have:false=false:=ga
       | (walk_at "r"
          refine ifn ?_)
      exists ifn ?_;exists ifn ?_;exists if_d (λ_=>?_) (λc=>absurd rfl c);walk_at "r";have hn:n1=(n:Int):=hn;subst hn;refine ⟨_,_,_,rfl,hy.o,rfl,?_⟩;exists wG rfl hy hc ?_;have hc':=hy.at' c (aw hc);have ht:=hc'.t;exists zK (!1) λr H1 nr s1 e1=>?_;first
       | (have:false=false:=ga
          exact q r H1 s1 nr ⟨c.pw,e1,s1 _ _ hc'.w⟩)
       | exact q r H1 s1 nr ⟨c.ph,e1,s1 _ _ hc'.h⟩
  | shift al n1 k =>
    have h0:=he;have ga:al=al:=rfl;cases al
    all_goals
      simp [DdAt,Dd.wd] at h0;have ha:H a=some (.lst [.int m]):=ha;first
       | have:false=false:=ga
       | (walk_at "r"
          refine ifn ?_)
      exists ifn ?_;exists ifn ?_;exists ifn ?_;exists ifn ?_;exists if_d (λ_=>?_) (λc=>absurd rfl c);exists zK (!1) λr H1 nr s1 e1=>?_;exact q r H1 s1 nr e1
  | turn n1 =>
    have h0:=he;have h0:H p=some (.tup [.str (Str.ofString "turn"),.int n1]):=h0;have ha:H a=some (.lst [.int m]):=ha;exists ifn ?_;exists ifn ?_;exists ifn ?_;exists ifn ?_;exists ifn ?_;exists ifn ?_;exists zK (!1) λr H1 nr s1 e1=>?_;exact q r H1 s1 nr e1
theorem K32(F:Fun K "names_behind" "names_behind" S36 f fd)(B:Bl mg)(o24x:O24x P w K mg base)(o25x:O25x P w K mg base):FnOk P w K mg base CX0 2 f fd ["many","plan"] P33:=by
  refine F.okA C34 λcdv A outer s H vs Q E hr h=>?_;obtain @⟨pl,ps,bs,es,d,tn,rfl,b1,b30,hpl,plen,hr',hw,q⟩:=h;refine ⟨_,(za (ps_s 2 C34.nd (zR (uz rfl) rfl B.dict Dz (pa1 (yr ["name"] [] rfl (yz rfl B.range (pa1 (pv 0))) (λ_ _ _ _ _=>(pg_n 0 (show List.Nodup (α:=Str) ["name"] by decide +kernel))) (λ_ _ _ _ _=>zL) (λ_ _ _ _ _=>(zq (pa2 (pv 0) wP))))))) (za (ps_s 3 C34.nd (pv 0)) (za (zH PassesOwn.never rfl (zA (pv 1)) (pg_n 4 C34.nd) (za (zH PassesOwn.never rfl (zA (ze o24x hr rfl (pa1 (pv 4)))) (pg_n 5 C34.nd) (zd (zU (CO (pv 2) (pv 5) ⟨rfl,rfl,rfl,rfl⟩)))) (za (zH PassesOwn.never rfl (wt rfl B.range (pa2 (pv 3) (zf zv (pv 3) (ze o25x hr rfl (pa1 (pv 4)))))) (pg_n 5 C34.nd) (zd (vO (uR hr) (pv 2) (pv 5) wP rfl))) (zd (ps_s 3 C34.nd (zf zv (pv 3) (ze o25x hr rfl (pa1 (pv 4))))))))) (zd (zh (zR (EA rfl) rfl B.list vq (pa1 (pv 2)))))))),?_⟩;walk_at "s";exists tV ?_;exists ⟨_,rfl,by lia,by lia,λD hD=>xc (lo:=0) (n:=((bs.length:Nat):Int).toNat) (λi xs σ' H'=>E2 λ(v:Option V) (zs:List Addr)=>A6 (σ'=[v]) (xs=zs.map V.ref) (zs.length=i) (H' D=some (.lst xs)) (SameX D H H') (∀ (j:Nat) (p':Addr),zs[j]?=some p'->H' p'=some (.tup [.int (j:Int),.bl true]))) ⟨none,[],rfl,rfl,rfl,zj,λb o e n=>by rw [zn n]; exact e,by simp⟩ ?_ ?_⟩
  . rintro i xs σ' H' hi ⟨v,zs,rfl,rfl,hl,eD,sx,hzs⟩;exists zK (!1) λr H5 hr s5 e5=>?_;walk_at "r";have hi':i<61:=by lia
    refine zr (s5 _ _ eD) (by rw [aa]; lia) λH6 x6 e6=>?_;have rD:r≠D:=zX e5 (s5 _ _ eD) (λz=>nomatch z);refine xm hi ⟨_,zs++[r],rfl,rfl,by rw [ai,hl]; rfl,by rw [ah]; exact e6,sx.trans ((SameX.of s5).trans x6),?_⟩;intro j p' hj;by_cases c:j<zs.length
    . rw [aT c] at hj;have:=hzs j p' hj;exact x6.tup (s5 _ _ this) (s5 _ _ eD)
    . rw [aM (!2)] at hj;have hj1:=(af.mp hj).1;have j0:j - zs.length=0:=by simpa using hj1
      rw [j0] at hj;injection hj with hj;subst hj;have:j=i:=by lia
      subst this;have:=x6.tup e5 (s5 _ _ eD);simpa using this
  . rintro xs σ' H' ⟨v,zs,rfl,rfl,hl,eD,sx,hzs⟩;have s5:Same H H':=λb o e=>sx b o e (zb e hD);have hl:zs.length=bs.length:=by rw [hl]; lia
    exists Fx (kvs:=nmK (List.range bs.length)) eD (by simp [nmK,hl]) (λi p' kv h1 h2=>?_) (Aj cM) (by simp [nmK]; lia) λl H6 nl s6 el=>?_
    . have h3:=hzs i p' h1;have hi:=(af.mp h1).1;rw [nmK,aj,dn (!2)] at h2;injection h2 with h2;rw [<-h2];exact h3
    have hpl6:=(s5.trans s6) _ _ hpl;have npl:pl≠l:=zb (s5 _ _ hpl) nl;have hn0:H l=none:=Same.nn s5 nl;have oks:=zY (ul b1 b30) hw;have hel:es.length<=150:=by rw [<-hr'.1]; exact plen
    exists yC ?_;exists ⟨pl,rfl,⟨_,SqL.of hpl6⟩,zJ (K:=K) (a:=pl) (xs:=ps.map V.ref) (λi σ G=>E2 λv4 v5=>A3 (σ=[vI ((bs.length:Nat):Int),vR pl,vR l,vI ((ends (As.sb bs) (es.take i)).k:Nat),v4,v5]) (G l=some (.dK (nmK (ends (As.sb bs) (es.take i)).ns))) (∀ b o,H6 b=some o->b≠l->G b=some o)) ⟨_,_,rfl,el,λb o e _=>e⟩ (λi σ G _ z'=>by obtain ⟨_,_,_,_,z⟩:=z'; exact SqL.of (z _ _ hpl6 npl)) ?_ ?_⟩
    . rintro i x σ G hi ⟨v4,v5,rfl,elG,fr⟩;rw [aj] at hi;obtain ⟨p,hp',rfl⟩:=av.mp hi;have hie:i<es.length:=by rw [<-hr'.1]; exact (af.mp hp').1
      obtain ⟨e,n,m,hx⟩:∃ e n m,es[i]?=some (e,n,m):=⟨_,_,_,ae hie⟩
      have st:=hw i _ hx;have sG:Same H G:=λb o z=>fr _ _ ((s5.trans s6) _ _ z) (zb z hn0);have he:=(hr'.2 i p _ hp' hx).same sG;have oki:=oks i (bO hie);have klb:=oki.kl;have nk:=xo (ends (As.sb bs) (es.take i)) (e,n,m);rw [ym hx];have hsn:(ends (As.sb bs) (es.take i)).next (e,n,m)=⟨(ends (As.sb bs) (es.take i)).k+e.puts,yq (ends (As.sb bs) (es.take i)).ns e.names++List.range' (ends (As.sb bs) (es.take i)).k e.puts,((ends (As.sb bs) (es.take i)).next (e,n,m)).g⟩:=by
        show (⟨_,_,_⟩:As)=_;rw [Dd.puts_new];rfl
      rw [hsn];generalize ((ends (As.sb bs) (es.take i)).next (e,n,m)).g=gg at *
      generalize ends (As.sb bs) (es.take i)=s at *
      have pu:=puts_le e;have he:DdAt G p e:=he;exists yC ?_;exists xk rfl he λa H2 s2 na ea=>?_;have el2:=s2 _ _ elG;have al:a≠l:=ck (zb elG na);exists ⟨a,rfl,⟨_,SqL.of ea⟩,zJ (K:=K) (a:=a) (xs:=e.names.map V.int) (λj σ G2=>E1 λv5=>A3 (σ=[vI ((bs.length:Nat):Int),vR pl,vR l,vI (s.k:Nat),vR p,v5]) (G2 l=some (.dK (nmK (yq s.ns (e.names.take j))))) (SameX l H2 G2)) ⟨_,rfl,el2,λb o e _=>e⟩ (λj σ G2 _ z'=>by obtain ⟨_,_,_,z⟩:=z'; exact SqL.of (z _ _ ea al)) ?_ ?_⟩
      . rintro j y σ G2 hj ⟨w5,rfl,elj,sxj⟩;rw [aj] at hj;obtain ⟨nm,hm',rfl⟩:=av.mp hj;obtain ⟨n',hn',rfl⟩:=st.nms.names_in nm (aw hm');have hn':n'∈s.ns:=hn';have hnd:e.names.Nodup:=st.nms.nodup;have hni:(n':Int)∉e.names.take j:=by
          intro hh;obtain ⟨k,hk⟩:=d5 hh;have hk1:=(af.mp hk).1;rw [az] at hk1;rw [em (!2)] at hk;have:=(fk (i:=k) (!2) hnd).mp (hk.trans hm'.symm)
          lia
        exists ⟨l,rfl,.inl ⟨_,.inl elj⟩,?_⟩;exists ⟨_,.inl (n':Int),_,elj,rfl,vk (mem_ndrop.mpr ⟨hn',hni⟩),?_⟩;refine ⟨_,rfl,?_,λb o e n=>by rw [zn n]; exact sxj b o e n⟩;rw [zj,vJ,br,hm',show ((some (n':Int)).toList)=[(n':Int)] from rfl,wH]
      rintro σ H3 ⟨w5,rfl,el3,sx3⟩;rw [aa,au] at el3;have fr3:∀ b o,G b=some o->b≠l->H3 b=some o:=λb o z n=>sx3 _ _ (s2 _ _ z) n;have he3:DdAt H3 p e:=he.tk λb xs z=>fr3 _ _ z (zX z elG (λq=>nomatch q));have dl:=CC (xK (ms:=e.names) oki.up) (λn h=>oki.lt n (mem_ndrop.mp h).1);exists EY ?_;exists yd rfl he3 ?_;exists ⟨(s.k:Int),(s.k:Int)+(e.puts:Nat),rfl,⟨by lia,by lia,by lia,by lia⟩,yB (lo:=(s.k:Int)) (n:=((s.k:Int)+(e.puts:Nat) - (s.k:Int)).toNat) (λj σ G2=>E1 λv5=>A3 (σ=[vI ((bs.length:Nat):Int),vR pl,vR l,vI (s.k:Nat),vR p,v5]) (G2 l=some (.dK (nmK (yq s.ns e.names++List.range' s.k j)))) (SameX l H3 G2)) ⟨_,rfl,by simpa using el3,λb o e _=>e⟩ ?_ ?_⟩
      . rintro j σ G2 hj ⟨w6,rfl,elj,sxj⟩;walk_at "r";rw [show (s.k:Int)+(j:Int)=((s.k+j:Nat):Int) by lia];refine ⟨l,_,rfl,DPut.k (k:=.inl ((s.k+j:Nat):Int)) elj (by simp only [nmK,aa,ai,eZ]; exact aN (show _<1000 by lia) (!3)),?_⟩;refine ⟨_,rfl,?_,λb o e n=>by rw [zn n]; exact sxj b o e n⟩;rw [zj,CA _ (wM (λn hn=>?_))]
        . rw [List.range'_concat,<-bQ];simp [nmK]
        . rcases aE.mp hn with hn | hn
          . have:=oki.lt n (mem_ndrop.mp hn).1
            lia
          . have:=dj.mp hn
            lia
      rintro σ H4 ⟨w6,rfl,el4,sx4⟩;rw [show ((s.k:Int)+(e.puts:Nat) - (s.k:Int)).toNat=e.puts by lia] at el4;have he4:DdAt H4 p e:=he3.tk λb xs z=>sx4 _ _ z (zX z el3 (λq=>nomatch q));exists yd rfl he4 ?_;walk_at "r";exact ⟨_,_,by rw [show (s.k:Int)+(e.puts:Nat)=((s.k+e.puts:Nat):Int) by lia],el4,λb o z n=>sx4 _ _ (fr3 _ _ (fr _ _ z n) n) n⟩
    rintro σ G ⟨v4,v5,rfl,elG,fr⟩;rw [aa,hr'.1,au] at elG;have okN:=oks es.length (ag _);rw [au] at okN;have nlN:=okN.nl;exists KM (ns:=(ends (As.sb bs) es).ns.map λn:Nat=>(n:Int)) elG (by simp [nmK]) (by simp only [nmK,aa]; lia) λr H7 nr s7 e7=>?_;exact q r H7 (λb o z=>s7 _ _ (fr _ _ ((s5.trans s6) _ _ z) (zb z hn0))) (by
      cases z:H r with
      | none=>rfl
      | some o=>rw [fr _ _ ((s5.trans s6) _ _ z) (zb z hn0)] at nr; cases nr) e7
theorem K33(F:Fun K "plus" "plus" S39 f fd)(B:Bl mg)(o1x:O1x P w K mg base):FnOk P w K mg base CX0 2 f fd ["one","other"] (P34 K):=by
  refine F.okA C35 λcdv A outer s H vs Q E hr h=>?_;obtain ⟨p,p',x,y,rfl,h1,h2,⟨⟨b1,b2⟩,⟨b3,b4⟩⟩,q⟩:=h;refine ⟨_,(za (ps_s 2 C35.nd (ze o1x hr rfl (pa2 (pit 0) (pit 1)))) (za (ps_s 3 C35.nd (zf zv (zf zk (pit 0) (zf yI (pit 1) (pv 2))) (zf zk (pit 1) (zf yI (pit 0) (pv 2))))) (za (ps_s 4 C35.nd (ze o1x hr rfl (pa2 (pv 3) (pv 2)))) (zd (zh (zq (pa2 (zf yI (pv 3) (pv 4)) (zf zk (zf yI (pit 0) (pv 2)) (zf yI (pit 1) (pv 4)))))))))),?_⟩;walk_at "s";have hs:(0:Int)<(Int.gcd x.den y.den:Nat):=yn (a:=(x.den:Int)) (den_pos y);have hl:(0:Int)<(Int.gcd (plT x.num x.den y.num y.den) (Int.gcd x.den y.den:Nat):Nat):=yn (!2);have ks:Bd 8000 ((Int.gcd x.den y.den:Nat):Int):=Cc (yK y) b4;have kl:Bd 8000 ((Int.gcd (plT x.num x.den y.num y.den) (Int.gcd x.den y.den:Nat):Nat):Int):=Cc (!2) ks;have hcs:∀ z,CFp z ((Int.gcd x.den y.den:Nat):Int):=λz=>⟨hs,aX ks.log ⋯⟩
  have hcl:∀ z,CFp z ((Int.gcd (plT x.num x.den y.num y.den) (Int.gcd x.den y.den:Nat):Nat):Int):=λz=>⟨hl,aX kl.log ⋯⟩
  unfold plT at hcl;have c1:=hcs y.den;have c2:=hcl y.den;walk_at "r";exact zt (!1) λr H' s e=>q r H' s (Ii e)
theorem K34(F:Fun K "times" "times" S40 f fd)(B:Bl mg)(o1x:O1x P w K mg base):FnOk P w K mg base CX0 2 f fd ["one","other"] P35:=by
  refine F.okA C36 λcdv A outer s H vs Q E hr h=>?_;obtain ⟨p,p',x,y,rfl,h1,h2,⟨⟨b1,b2⟩,⟨b3,b4⟩⟩,q⟩:=h;refine ⟨_,(za (ps_s 2 C36.nd (ze o1x hr rfl (pa2 (pit 0) (pit 1)))) (za (ps_s 3 C36.nd (ze o1x hr rfl (pa2 (pit 1) (pit 0)))) (zd (zh (zq (pa2 (zf zk (zf yI (pit 0) (pv 2)) (zf yI (pit 1) (pv 3))) (zf zk (zf yI (pit 0) (pv 3)) (zf yI (pit 1) (pv 2))))))))),?_⟩;walk_at "s";have hs:(0:Int)<(Int.gcd x.num y.den:Nat):=yn (den_pos y);have hl:(0:Int)<(Int.gcd y.num x.den:Nat):=yn (den_pos x);have ks:Bd 8000 ((Int.gcd x.num y.den:Nat):Int):=Cc (yK y) b4;have kl:Bd 8000 ((Int.gcd y.num x.den:Nat):Int):=Cc (yK x) b2;have hcs:∀ z,CFp z ((Int.gcd x.num y.den:Nat):Int):=λz=>⟨hs,aX ks.log ⋯⟩
  have hcl:∀ z,CFp z ((Int.gcd y.num x.den:Nat):Int):=λz=>⟨hl,aX kl.log ⋯⟩
  have c1:=hcs y.den;have c2:=hcl y.den;walk_at "r";exact zt (!1) λr H' s e=>q r H' s (GQ e)
theorem Gh{b:Int}(hR:Rt d)(hb:b<0)(h:10*-b<=a):sgn d a b=1:=by
  rw [AE (!2) hb,io];have h1:(10*-b)*(10*-b)<=a*a:=dI h h (!2) (!2);have h2:d*(b*b)<=99*(b*b):=cK hR.hi (uO b);have h3:=Ac (show b≠0 by lia);rw [am];have e:(10*-b)*(10*-b)=100*(b*b):=by grind
  lia
theorem Dx{b:Int}(hR:Rt d)(hb:b<0)(ha:1<=a)(h:¬ a*a<d*b*b):sgn d a b=1:=by
  rw [AE (!2) hb,io];rcases Int.lt_or_eq_of_le (fj.mp h) with z|z
  . exact z
  . exact absurd (irr hR z.symm) (!2)
theorem Dq{b:Int}(hR:Rt d)(hb:0<b):sgn d (0 - b) b=1:=by
  rw [Ct (!2) hb,io];have e:(0 - b)*(0 - b)=b*b:=by grind
  have h3:=Ac (show b≠0 by lia);have h4:=cK hR.lo (uO b);rw [e,am]
  lia
theorem Ib{b:Int}(ha:0<=a)(h:b<0->sgn d a b=1):sgn d a b=1\/(a=0/\b=0):=by
  by_cases hb:b<0
  . exact .inl (h hb)
  . rw [w8 ha (!2)];split
    . exact .inl rfl
    . exact .inr (!2)
theorem ED{b:Int}(hb:b<=0)(h:sgn d 0 b=1):False:=by
  by_cases z:b=0
  . subst z;rw [zQ] at h;exact absurd h ⋯
  . rw [Ae (!2) (!2) hb] at h;exact absurd h ⋯
theorem GK(d:Int):sgn d 1 0=1:=by
  rw [w8 ⋯ ⋯];rfl
theorem bmul{b t:Int}(h1:-9<=b)(h2:b<=9)(t0:1<=t)(t1:t<=1048576):-9437184<=b*t/\b*t<=9437184:=by
  have a1:b*t<=9*t:=cK h2 (!2);have a2:-9*t<=b*t:=cK h1 (!2)
  lia
theorem K35(F:Fun K "_law_side" "_law_side" S58 f fd)(B:Bl mg)(o53x:O53x P w K mg base)(o52x:O52x P w K mg base):FnOk P w K mg base CX0 2 f fd ["_law_cell","_law_k","_law_d"] P36:=by
  refine F.okA C37 λcdv A outer s H vs Q E hr h=>?_;obtain @⟨c,k,d,rfl,⟨k0,k1⟩,hR,q⟩:=h;refine ⟨_,(za (ps_s 3 C37.nd (zf zv zc (zf zO (ze o52x hr rfl (pa2 (pv 0) (pv 1))) zc))) (za (ps_s 4 C37.nd (zf yX (zf zO (ze o52x hr rfl (pa2 (pv 0) (zf zv (pv 1) zc))) zc) zc)) (za (ps_s 5 C37.nd (zf zO (ze o52x hr rfl (pa2 (pv 0) (zf zv (pv 1) zc))) zc)) (za (xp (zw (zg zW (pv 5) zc (zm _)) (zd (ps_s 4 C37.nd zc)) zo)) (za (xp (zw (zg zW (pv 5) zc (zm _)) (za (ps_s 4 C37.nd (zf zk (pv 4) (zf zv zc (zf zO (ze o52x hr rfl (pa2 (pv 0) (zf zv (pv 1) zc))) zc)))) (zd (ps_s 3 C37.nd (zf zv zc (zf zO (ze o52x hr rfl (pa2 (pv 0) (zf zv (pv 1) zc))) zc))))) zo)) (za (ps_s 6 C37.nd (zf zO (ze o52x hr rfl (pa2 (pv 0) (zf zv (pv 1) zc))) zc)) (za (xp (zw (zg ue (pv 4) zc (zm _)) (zd (ps_s 6 C37.nd (zf zv (pv 6) (zf zk zc (zp yN rfl B.abs vH (pa1 (pv 4))))))) zo)) (za (xp (zw (PW.pt (yQ (zg zW (pv 5) zc (zm _)) (yw (zg ue (pv 4) zc (zm _))))) (za (ps_s 6 C37.nd zc) (zd (wp PassesOwn.never (zg ue (zf zk (pv 6) (pv 6)) (zf zk (zf zk (pv 2) (pv 4)) (pv 4)) (zm _)) (zd (ps_s 6 C37.nd (zf zv (pv 6) zc)))))) zo)) (za (xp (zw (PW.pt (yQ (zg zW (pv 5) zc (zm _)) (yw (zg xM (pv 4) zc (zm _))))) (zd (ps_s 6 C37.nd (zf yX zc (pv 4)))) zo)) (za (xp (zw (PW.pt (yQ (zg zW (pv 6) zc (zm _)) (yw (zg DB (pv 4) zc (zm _))))) (zd (ps_s 6 C37.nd zc)) zo)) (zd (zh (ze o53x hr rfl (pa3 (pv 6) (pv 4) (pv 3))))))))))))))),?_⟩;walk_at "s";have d0:2<=d:=hR.lo;have d1:d<=99:=hR.hi;have hd:Bd 7 d:=zG (!2) d1 ⋯;exists zu rfl (!2) (!2) λm0 m00 m01=>?_;exists zu rfl (!2) (!2) λm1 m10 m11=>?_;exists zu rfl (!2) (!2) λm2 m20 m21=>?_;exists wS (T:=λσ' H'=>E3 λ(n b:Int) (v:Option V)=>A6 (σ'=[vI c,vI k,vI d,vI n,vI b,vI (m2 % 6),v]) (H'=H) (1<=n) (n<=12) (-9<=b) (b<=9)) ?_ ?_
  . exists if_d (λc=>?_) (λc=>?_)
    . walk_at "r";exact ⟨_,_,_,rfl,rfl,by lia,by lia,by lia,by lia⟩
    . walk_at "r";exact ⟨_,_,_,rfl,rfl,by lia,by lia,by lia,by lia⟩
  rintro σ' H' ⟨n,b,v,rfl,rfl,n0,n1,b0,b1⟩;have bb:Bd 20 b:=tN 20 (!2) (!2) ⋯;exists wS (T:=λσ' H2=>E3 λ(n b:Int) (v:Option V)=>A6 (σ'=[vI c,vI k,vI d,vI n,vI b,vI (m2 % 6),v]) (H2=H') (1<=n) (n<=1000) ((-9437184<=b/\b<=9437184)) ((m2 % 6≠1->-9<=b/\b<=9))) ?_ ?_
  . exists if_d (λc=>?_) (λc=>?_)
    . exists zu rfl (!2) (!2) λm3 m30 m31=>?_;have x3:Bd 32 (1+m3 % 1048576):=zG (B:=1048576) (!2) (!2) (!3);have x4:=bmul b0 b1 (t:=1+m3 % 1048576) (!2) (!2);exists zu rfl (!2) (!2) λm5 m50 m51=>?_;walk_at "r";exact ⟨_,_,_,rfl,rfl,by lia,by lia,x4,λz=>absurd c z⟩
    . walk_at "r";exact ⟨_,_,_,rfl,rfl,by lia,by lia,by lia,λ_=>⟨b0,b1⟩⟩
  rintro σ' H2 ⟨n,b,v,rfl,rfl,n0,n1,⟨b0,b1⟩,bs⟩;have bb:Bd 30 b:=by
    unfold Bd;have:(2:Nat) ^ 30=1073741824:=by decide
    lia
  exists zu rfl (!2) (!2) λm6 m60 m61=>?_;exists wS (T:=λσ' H3=>E1 λ(a:Int)=>A4 (σ'=[vI c,vI k,vI d,vI n,vI b,vI (m2 % 6),vI a]) (H3=H2) ((0<=a/\a<=94371849)) ((b<0->10*-b<=a))) ?_ ?_
  . exists if_d (λc=>?_) (λc=>?_)
    . walk_at "r";rw [show (if b<0 then -b else b)=-b from io c];exact ⟨_,rfl,rfl,by lia,λ_=>by lia⟩
    . walk_at "r";exact ⟨_,rfl,rfl,by lia,λz=>absurd z c⟩
  rintro σ' H3 ⟨a,rfl,rfl,⟨a0,a9⟩,an⟩;exists wS (T:=λσ' H4=>E1 λ(a:Int)=>A4 (σ'=[vI c,vI k,vI d,vI n,vI b,vI (m2 % 6),vI a]) (H4=H3) ((0<=a/\a<=94371849)) ((b<0->sgn d a b=1))) ?_ ?_
  . have same:∃ (a':Int),([vI c,vI k,vI d,vI n,vI b,vI (m2 % 6),vI a]:L2.St)=[vI c,vI k,vI d,vI n,vI b,vI (m2 % 6),vI a']/\H3=H3/\(0<=a'/\a'<=94371849)/\(b<0->sgn d a' b=1):=⟨a,rfl,rfl,⟨a0,a9⟩,λz=>Gh hR z (an z)⟩
    exists if_d (λc1=>?_) (λc1=>?_)
    . exists if_d (λc2=>?_) (λc2=>?_)
      . have hbs:=bs (!2);have hdb:d*b*b<=99*81:=by
          have h1:b*b<=81:=by
            have:(-b)*(-b)<=9*9:=dI (!2) (!2) (!2) (!2);rw [cq] at this
            lia
          have h2:d*(b*b)<=99*81:=dI d1 h1 (uO b) (!2);rw [am];exact h2
        exists Ba (λσ' H5=>E1 λ(a:Int)=>A4 (σ'=[vI c,vI k,vI d,vI n,vI b,vI (m2 % 6),vI a]) (H5=H3) (1<=a) (a<=9000)) (λσ' _=>match σ' with | [_,_,_,_,_,_,some (.int a)]=>(10000 - a).toNat | _=>0) ⟨1,rfl,rfl,by lia,by lia⟩ ?_;rintro σ' H5 ⟨a,rfl,rfl,a0,a1⟩;have ba:Bd 20 a:=tN 20 (!2) (!2) ⋯;have haa:a<=a*a:=by
          have:=dH a0 (show 0<=a by lia)
          lia
        exists if_d (λc3=>?_) (λc3=>?_)
        . refine wgo ?_;exists ⟨⟨a+1,rfl,rfl,by lia,by lia⟩,?_⟩;show (10000 - (a+1)).toNat<(10000 - a).toNat
          lia
        . walk_at "r";exact ⟨a,rfl,rfl,by lia,λz=>Dx hR z a0 c3⟩
      . walk_at "r";obtain ⟨_,w1,w2,w3,w4⟩:=same;exact ⟨_,w1,w2,w3,w4⟩
    . walk_at "r";obtain ⟨_,w1,w2,w3,w4⟩:=same;exact ⟨_,w1,w2,w3,w4⟩
  rintro σ' H4 ⟨a,rfl,rfl,⟨a0,a9⟩,an⟩;exists wS (T:=λσ' H5=>E1 λ(a:Int)=>A4 (σ'=[vI c,vI k,vI d,vI n,vI b,vI (m2 % 6),vI a]) (H5=H4) ((-100000000<=a/\a<=100000000)) ((sgn d a b=1\/(a=0/\b=0)))) ?_ ?_
  . exists if_d (λc1=>?_) (λc1=>?_)
    . exists if_d (λc2=>?_) (λc2=>?_)
      . walk_at "r";exact ⟨_,rfl,rfl,by lia,.inl (Dq hR c2)⟩
      . walk_at "r";exact ⟨a,rfl,rfl,by lia,Ib a0 an⟩
    . walk_at "r";exact ⟨a,rfl,rfl,by lia,Ib a0 an⟩
  rintro σ' H5 ⟨a,rfl,rfl,ba,an⟩;exists wS (T:=λσ' H6=>E1 λ(a:Int)=>A4 (σ'=[vI c,vI k,vI d,vI n,vI b,vI (m2 % 6),vI a]) (H6=H5) ((-100000000<=a/\a<=100000000)) (sgn d a b=1)) ?_ ?_
  . exists if_d (λc1=>?_) (λc1=>?_)
    . exists if_d (λc2=>?_) (λc2=>?_)
      . exists ⟨_,rfl,rfl,by lia,?_⟩;rcases an with z|z
        . rw [c1] at z;exact (ED c2 z).elim
        . rw [z.2];exact GK d
      . walk_at "r";exact ⟨a,rfl,rfl,ba,an.resolve_right λz=>c2 (!2)⟩
    . walk_at "r";exact ⟨a,rfl,rfl,ba,an.resolve_right λz=>c1 z.1⟩
  rintro σ' H6 ⟨a,rfl,rfl,ba,up⟩;have bn:Bd 10 n:=zG (B:=1000) (!2) n1 (!3);have ba':Bd 30 a:=by
    unfold Bd;have:(2:Nat) ^ 30=1073741824:=by decide
    lia
  exists wI rfl (!2) (bn.mono ⋯) λr H7 s7 e7=>?_;have z1:=l_n (a:=a) (b:=b) (n:=n) (!2);have le:=Bg.natAbs_fdiv_le a (gd a b n);exact q r H7 ⟨lA a b n,lB a b n,lN a b n⟩ s7 e7 ⟨z1,xq (!2),(yv hR n0).trans up,ba'.fdiv _,bb.fdiv _,(bn.mono ⋯).fdiv _⟩ (ce le (!2)) (bn.fdiv _)
theorem K36(F:Fun K "_law_add" "_law_add" S59 f fd)(B:Bl mg)(o54x:Own P w K mg base 1 "_law_fraction" ["_law_top","_law_bottom"] [] P17):FnOk P w K mg base CX0 2 f fd ["_law_one","_law_other"] P37:=by
  refine F.okA C38 λcdv A outer s H vs Q E hr h=>?_;obtain ⟨p,p',t,b,t',b',rfl,h1,h2,⟨hb,hb'⟩,⟨b1,b2,b3,b4⟩,q⟩:=h;refine ⟨_,(zd (zh (ze o54x hr rfl (pa2 (zf zv (zf zk (pit 0) (pit 1)) (zf zk (pit 1) (pit 0))) (zf zk (pit 0) (pit 1)))))),?_⟩;walk_at "s";walk_at "r";exact vB rfl (ar hb hb') (Bd.mono (b2.mul b4) ⋯) λr H' s e=>q r H' s (Iw e (uZ hb hb'))
theorem K37(F:Fun K "_law_share" "_law_share" S62 f fd)(B:Bl mg)(o53x:O53x P w K mg base):FnOk P w K mg base CX0 2 f fd ["_law_one","_law_many","_law_behind"] P38:=by
  refine F.okA C39 λcdv A outer s H vs Q E hr h=>?_;obtain @⟨p,s,m,k,rfl,h1,o1,bm,k1,bk,q⟩:=h;refine ⟨_,(zd (zh (ze o53x hr rfl (pa3 (zf zk (pit 0) (pv 1)) (zf zk (pit 0) (pv 1)) (zf zk (pit 0) (pv 2)))))),?_⟩;walk_at "s";have h1':H p=some (.tup [.int s.x,.int s.y,.int s.z]):=h1;have b1:=o1.bx;have b2:=o1.by';have b3:=o1.bz;have z1:=o1.z1;exists wI rfl (ar (!2) (!2)) (Bd.mono (b3.mul bk) ⋯) λr H' s' e=>q r H' s' e
theorem K38(F:Fun K "_law_rest" "_law_rest" S63 f fd)(B:Bl mg)(o53x:O53x P w K mg base):FnOk P w K mg base CX0 2 f fd ["_law_one","_law_other"] P39:=by
  refine F.okA C40 λcdv A outer s H vs Q E hr h=>?_;obtain @⟨p,p',s,t,rfl,h1,h2,o1,o2,q⟩:=h;refine ⟨_,(za (ps_s 2 C40.nd (zf zk (pit 0) (pit 1))) (zd (zh (ze o53x hr rfl (pa3 (zf yX (zf zk (pit 0) (pit 1)) (zf zk (pit 1) (pit 0))) (zf yX (zf zk (pit 0) (pit 1)) (zf zk (pit 1) (pit 0))) (pv 2)))))),?_⟩;walk_at "s";have h1':H p=some (.tup [.int s.x,.int s.y,.int s.z]):=h1;have h2':H p'=some (.tup [.int t.x,.int t.y,.int t.z]):=h2;have b1:=o1.bx;have b2:=o1.by';have b3:=o1.bz;have z1:=o1.z1;have z2:=o2.z1;have c1:=o2.bx;have c2:=o2.by';have c3:=o2.bz;exists wI rfl (ar (!2) (!2)) (Bd.mono (b3.mul c3) ⋯) λr H' s' e=>q r H' s' ?_;unfold tkS;rw [dD,dD,<-Int.sub_eq_add_neg,<-Int.sub_eq_add_neg];exact e
theorem K39(F:Fun K "check_names" "Yard.check_names" S70 f fd)(B:Bl mg)(X:Xs K mg cs)(o0x:O0x P w K mg base):FnOk P w K mg base CX0 2 f fd ["self","names"] (P40 cs):=by
  refine F.okA C41 λcdv A outer s H vs Q E hr h=>?_;obtain @⟨y,d,tn,cl,ns,lg,a,ms,rfl,hy,ha,hm,hn,hl,q⟩:=h;refine ⟨_,(za (zH PassesOwn.never rfl (zA (pv 1)) (pg_n 2 C41.nd) (zd (zw (PW.pt (vx (xZ (yY (ze o0x hr rfl (pa1 (pv 2))))) (xN (Lu (EQ (uR hr) (pv 2) (ye (K:=K) rfl (pv 0) rfl)))))) (zd yV) zo))) (zd (zw (PW.pt (yQ (zg zW (zp zx rfl B.len bI (pa1 (pv 1))) zc (zm _)) (yw (zg zW (pil 1) (pil 1) (zm _))))) (zd yV) zo))),?_⟩;walk_at "s";refine L8 ?_;refine yC ?_;exists ⟨a,rfl,⟨_,SqL.of ha⟩,zJ (K:=K) (a:=a) (xs:=ms.map V.int) (λi σ H'=>∃ v,σ=[vR y.p,vR a,v]/\H'=H) ⟨none,rfl,rfl⟩ (λi σ H' _ z'=>by obtain ⟨_,_,e⟩:=z'; exact by rw [e]; exact SqL.of ha) ?_ ?_⟩
  . rintro i x σ H' hi ⟨v,rfl,rfl⟩;obtain ⟨m,hm',rfl⟩:=aV.mp (aw hi);obtain ⟨n,hn',rfl⟩:=hm m hm';exists ⟨_,_,_,_,_,rfl,hy.o,X.c_Yard,X.n_Yard_lying,rfl,?_⟩;refine ⟨y.l,_,rfl,DGet.k (k:=.inl (n:Int)) hy.l,?_⟩;rw [vk hn',show (!(some (V.bl true)).isSome)=false from rfl];walk_at "r";exact ⟨_,rfl,rfl⟩
  . rintro σ H' ⟨v,rfl,rfl⟩;walk_at "r";rcases ms with _|⟨m1,_|⟨m2,_|⟨m3,ms⟩⟩⟩
    . refine if_d (λc=>absurd c (!1)) (λ_=>?_);walk_at "r";exact q
    . refine if_d (λc=>absurd c (!1)) (λ_=>?_);walk_at "r";exact q
    . have ha:H' a=some (.lst [.int m1,.int m2]):=ha;refine if_d (λ_=>?_) (λc=>absurd (!1) c);walk_at "r";have ne:m1≠m2:=by simpa using hn
      refine if_d (λc=>absurd c ne) (λ_=>?_);walk_at "r";exact q
    . simp at hl
theorem K40(F:Fun K "parts" "parts" S5 f fd)(B:Bl mg)(o4x:O4x P w K mg base):FnOk P w K mg base CX0 3 f fd ["one"] P41:=by
  refine F.okA C42 λcdv A outer s H vs Q E hr h=>?_;obtain @⟨p,a,b,n,rfl,h1,hn,hb,q⟩:=h;refine ⟨_,(zd (zh (zq (pa2 (ze o4x hr rfl (pa2 (pit 0) (pit 0))) (ze o4x hr rfl (pa2 (pit 0) (pit 0))))))),?_⟩;walk_at "s";exists wV rfl hn hb λr1 H1 s1 e1=>?_;have h1':=s1 _ _ h1;exists wV rfl hn hb λr2 H2 s2 e2=>?_;walk_at "r";exact zt (!1) λr H' s e=>q r r1 r2 H' ((s1.trans s2).trans s) e (s _ _ (s2 _ _ e1)) (s _ _ e2)
theorem K41(F:Fun K "taken" "taken" S8 f fd)(B:Bl mg)(o7x:O7x P w K mg base):FnOk P w K mg base CX0 3 f fd ["one","other"] P42:=by
  refine F.okA C43 λcdv A outer s H vs Q E hr h=>?_;obtain ⟨p,p',x,y,z,x',y',z',rfl,h1,h2,n1,n2,k1,k2,⟨b1,b2,b3,b4,b5,b6⟩,q⟩:=h;refine ⟨_,(zd (zh (ze o7x hr rfl (pa2 (pv 0) (zq (pa3 (Dt uF (pit 1)) (Dt uF (pit 1)) (pit 1))))))),?_⟩;walk_at "s";exists zt (!1) λt H2 s2 e2=>?_;walk_at "r";exact Bh (K:=K) (SqT.of (s2 _ _ h1)) e2 n1 n2 k1 (by rw [Lj]; exact k2) b1 b2 b3 b4.neg b5.neg b6 λr H' s' e'=>q r H' (s2.trans s') e'
theorem K42(F:Fun K "timed" "timed" S9 f fd)(B:Bl mg)(o3x:O3x P w K mg base):FnOk P w K mg base CX0 3 f fd ["d","one","other"] P43:=by
  refine F.okA C44 λcdv A outer s H vs Q E hr h=>?_;obtain ⟨d,p,p',x,y,z,x',y',z',rfl,h1,h2,hd,⟨b1,b2,b3,b4,b5,b6⟩,n1,n2,q⟩:=h;refine ⟨_,(zd (zh (ze o3x hr rfl (pa3 (zf zv (zf zk (pit 1) (pit 2)) (zf zk (zf zk (pv 0) (pit 1)) (pit 2))) (zf zv (zf zk (pit 1) (pit 2)) (zf zk (pit 1) (pit 2))) (zf zk (pit 1) (pit 2)))))),?_⟩;walk_at "s";walk_at "r";exact yS rfl (ar n1 n2) (Bd.mono (b3.mul b6) ⋯) q (MI hd b1 b2 b4 b5 ⋯) (L7 b1 b2 b4 b5 ⋯)
theorem K43(F:Fun K "first_base" "first_base" S12 f fd)(B:Bl mg)(o3x:O3x P w K mg base):FnOk P w K mg base CX0 3 f fd ["d","n"] P44:=by
  refine F.okA C45 λcdv A outer s H vs Q E hr h=>?_;obtain @⟨d,N,rfl,hN,hb,q⟩:=h;refine ⟨_,(zd (zh (zq (pa2 (ze o3x hr rfl (pa3 zc zc (pv 1))) (ze o3x hr rfl (pa3 zc zc (pv 1))))))),?_⟩;walk_at "s";exists yS rfl (!2) (hb.mono ⋯) λr1 H1 s1 e1=>?_;exists yS rfl (!2) (hb.mono ⋯) λr2 H2 s2 e2=>?_;walk_at "r";exact zt (!1) λp H' s e=>q p r1 r2 H' ((s1.trans s2).trans s) ⟨e,s _ _ (s2 _ _ e1),s _ _ e2⟩
theorem K44(F:Fun K "is_length" "is_length" S23 f fd)(B:Bl mg)(o3x:O3x P w K mg base)(o0x:O0x P w K mg base):FnOk P w K mg base CX0 3 f fd ["thing"] P45:=by
  refine F.okA C46 λcdv A outer s H vs Q E hr h=>?_;obtain @⟨p,s,rfl,h1,ok,q⟩:=h;refine ⟨_,(za (zw (PW.pt (vx (xZ (yY (zp yM rfl B.isinstance yj (pa2 (pv 0) (vX (v:=.ty "tuple") rfl B.tuple vf rfl))))) (xN (zg vZ (zp zx rfl B.len bI (pa1 (pv 0))) zc (zm _))))) (zd (zh wP)) zo) (za (zw (PW.pt (vx (xZ (yY (zp (Fo rfl) rfl B.all JP (pa1 (yr ["number"] [] rfl (HE (pv 0)) (λ_ _ _ _ _=>(pg_n 0 (show List.Nodup (α:=Str) ["number"] by decide +kernel))) (λ_ _ _ _ _=>zL) (λ_ _ _ _ _=>(ze o0x hr rfl (pa1 (pv 0))))))))) (xN (zg ue (pit 0) zc (zm _))))) (zd (zh wP)) zo) (zd (zh (yp (J8 hr.units) (ze o3x hr rfl (pa3 (pit 0) (pit 0) (pit 0))) (pv 0) (zm _)))))),?_⟩;walk_at "s";have z1:=ok.z1;exists Dg (by rfl) ?_;exists Ez ?_;exists ⟨p,rfl,⟨_,SqT.of h1⟩,λD hD=>Cm (ys:=[V.int s.x,V.int s.y,V.int s.z]) (λi ys σ' H'=>(∃ v,σ'=[v])/\ys=([V.int s.x,V.int s.y,V.int s.z].take i).map (λ_=>V.bl true)/\H' D=some (.lst ys)/\SameX D H H') ⟨⟨none,rfl⟩,rfl,zj,λb o e n=>by rw [zn n]; exact e⟩ (λi ys σ' H' _ p=>SqT.of (p.2.2.2 _ _ h1 (zb h1 hD))) ?_ ?_⟩
  . rintro i x ys σ' H' hi ⟨⟨v,rfl⟩,rfl,eD,sx⟩;obtain ⟨n,rfl⟩:∃ n:Int,x=.int n:=by
      have:=aw hi;simp only [a7,List.not_mem_nil,or_false] at this;rcases this with rfl|rfl|rfl <;> exact ⟨_,rfl⟩
    have hi3:=(af.mp hi).1;exists zr eD (by rw [aa,az]; simp only [ax,aK] at hi3 ⊢; lia) λH3 sx3 e3=>?_;refine xm hi3 ⟨⟨_,rfl⟩,rfl,?_,sx.trans sx3⟩;rw [br,hi,ah];exact e3
  . rintro ys σ' H' ⟨_,rfl,eD,sx⟩;have s':Same H H':=λb o e=>sx b o e (zb e hD);have h1':=s' _ _ h1;have eD':H' D=some (.lst ([true,true,true].map V.bl)):=eD;exists Ka (SqL.of eD') ?_;rw [show ([true,true,true]:List Bool).all id=true from rfl];exists if_d (λc=>absurd c (!2)) (λ_=>?_);exists yS rfl ok.ne (ok.bz.mono ⋯) (λr H2 s2 e2=>?_) (ok.bx.mono ⋯) (ok.by'.mono ⋯);exists L1 e2 (s2 _ _ h1') ?_;exact bl_q (iH (Gf ok.z1 ok.g)) (q H2 (s'.trans s2))
theorem K45(F:Fun K "glued_beside" "glued_beside" S29 f fd)(B:Bl mg)(o7x:O7x P w K mg base):FnOk P w K mg base CX0 3 f fd ["one","other"] P46:=by
  refine F.okA C47 λcdv A outer s H vs Q E hr h=>?_;obtain @⟨c,c',rfl,hc,hc',eh,okw,oks,q⟩:=h;refine ⟨_,(za (zw (zg (Cb hr.units) (pit 0) (pit 1) (zm _)) (zd yV) zo) (zd (zh (zq (pa2 (ze o7x hr rfl (pa2 (pit 0) (pit 1))) (pit 0)))))),?_⟩;walk_at "s";have ct:=hc.t;have ct':=hc'.t;have cw:H c.pw=some (.tup [.int c.b.w.x,.int c.b.w.y,.int c.b.w.z]):=hc.w;have cw':H c'.pw=some (.tup [.int c'.b.w.x,.int c'.b.w.y,.int c'.b.w.z]):=hc'.w;have ch:H c.ph=some (.tup [.int c.b.h.x,.int c.b.h.y,.int c.b.h.z]):=hc.h;have ch':H c'.ph=some (.tup [.int c'.b.h.x,.int c'.b.h.y,.int c'.b.h.z]):=hc'.h;exists MJ ch ch' ?_;rw [eh];exists ui (λc=>absurd ⟨rfl,rfl,rfl⟩ c) (λ_=>?_);exists Bh (K:=K) (SqT.of cw) cw' okw.z1 oks.z1 okw.g oks.g (okw.bx.mono ⋯) (okw.by'.mono ⋯) (okw.bz.mono ⋯) (oks.bx.mono ⋯) (oks.by'.mono ⋯) (oks.bz.mono ⋯) λr2 H2 s2 e2=>?_;have ct2:=s2 _ _ ct;exists zK (!1) λr3 H3 hr3 s3 e3=>?_;exact q ⟨r3,r2,c.ph,⟨adS c.b.w c'.b.w,c.b.h⟩⟩ H3 (s2.trans s3) (Same.nn s2 hr3) ⟨e3,s3 _ _ e2,s3 _ _ (s2 _ _ hc.h)⟩ rfl
theorem K46(F:Fun K "stacked" "stacked" S30 f fd)(B:Bl mg)(o3x:O3x P w K mg base):FnOk P w K mg base CX0 3 f fd ["one","many"] P47:=by
  refine F.okA C48 λcdv A outer s H vs Q E hr h=>?_;obtain @⟨c,k,rfl,hc,k1,bk,okw,okh,q⟩:=h;refine ⟨_,(za (ps_s 2 C48.nd (pit 0)) (za (ps_s 3 C48.nd (pit 0)) (zd (zh (zq (pa2 (ze o3x hr rfl (pa3 (pit 2) (pit 2) (zf zk (pit 2) (pv 1)))) (ze o3x hr rfl (pa3 (zf zk (pit 3) (pv 1)) (zf zk (pit 3) (pv 1)) (pit 3))))))))),?_⟩;walk_at "s";have ct:=hc.t;have cw:H c.pw=some (.tup [.int c.b.w.x,.int c.b.w.y,.int c.b.w.z]):=hc.w;have ch:H c.ph=some (.tup [.int c.b.h.x,.int c.b.h.y,.int c.b.h.z]):=hc.h;have m1:IntMulOk c.b.w.z k:=Bd.ok okw.bz bk (!3);have m2:IntMulOk c.b.h.x k:=Bd.ok okh.bx bk (!3);have m3:IntMulOk c.b.h.y k:=Bd.ok okh.by' bk (!3);have bz:Bd 3124 (c.b.w.z*k):=okw.bz.mul bk;have bx:Bd 3424 (c.b.h.x*k):=okh.bx.mul bk;have by2:Bd 3424 (c.b.h.y*k):=okh.by'.mul bk;exists yS rfl (ar okw.ne (!2)) (bz.mono ⋯) (λr1 H1 s1 e1=>?_) (okw.bx.mono ⋯) (okw.by'.mono ⋯);have ch1:=s1 _ _ ch;exists yS rfl okh.ne (okh.bz.mono ⋯) (λr2 H2 s2 e2=>?_) (bx.mono ⋯) (by2.mono ⋯);exists zK (!1) λr3 H3 hr3 s3 e3=>?_;refine q ⟨r3,r1,r2,⟨shS c.b.w 1 k,shS c.b.h k 1⟩⟩ H3 ((s1.trans s2).trans s3) (Same.nn (s1.trans s2) hr3) ⟨e3,?_,?_⟩ rfl
  . have:=s3 _ _ (s2 _ _ e1);simpa only [SdAt,shS,cH] using this
  . have:=s3 _ _ e2;simpa only [SdAt,shS,cH] using this
theorem K47(F:Fun K "followed" "followed" S38 f fd)(B:Bl mg)(o35x:Own P w K mg base 2 "names_behind" ["many","plan"] [] P33)(o36x:Own P w K mg base 1 "with_names" ["deed","names"] [] P12)(o25x:O25x P w K mg base):FnOk P w K mg base CX0 3 f fd ["many","plan","more"] P48:=by
  refine F.okA C49 λcdv A outer s H vs Q E hr h=>?_;obtain @⟨pl,ml,ps,ms,bs,F,es,fs,d,tn,rfl,b1,b30,hpl,plen,hr',hw,hml,mlen,hm,eF,hwF,q⟩:=h;refine ⟨_,(za (ps_s 3 C49.nd (ze o35x hr rfl (pa2 (pv 0) (pv 1)))) (za (ps_s 4 C49.nd (zf zv (pv 0) (zp (xf rfl) rfl B.sum uI (pa1 (yr ["deed"] [] rfl (zA (pv 1)) (λ_ _ _ _ _=>(pg_n 0 (show List.Nodup (α:=Str) ["deed"] by decide +kernel))) (λ_ _ _ _ _=>zL) (λ_ _ _ _ _=>(ze o25x hr rfl (pa1 (pv 0))))))))) (za (ps_s 5 C49.nd (zR wB rfl B.list vq (pa1 (pv 1)))) (za (zH PassesOwn.never rfl (zA (pv 2)) (pg_n 6 C49.nd) (za (zU (wo a8 aZ a6 zF (pv 5) (pa1 (ze o36x hr rfl (pa2 (pv 6) (pv 3)))))) (za (zH PassesOwn.never rfl (wt rfl B.range (pa2 (pv 4) (zf zv (pv 4) (ze o25x hr rfl (pa1 (pv 6)))))) (pg_n 7 C49.nd) (zd (zU (wo a8 aZ a6 zF (pv 3) (pa1 (pv 7)))))) (zd (ps_s 4 C49.nd (zf zv (pv 4) (ze o25x hr rfl (pa1 (pv 6))))))))) (zd (zh (pv 5))))))),?_⟩;walk_at "s";have okN:=zY (ul b1 b30) hw es.length (ag _);rw [au] at okN;have klN:=okN.kl;have hel:es.length<=150:=by rw [<-hr'.1]; exact plen
  have hfl:fs.length<=150:=by rw [<-hm.1]; exact mlen
  have l0:=led0 okN.up okN.lt eF;have F1:1<=F.length:=by
    rw [<-eF,aa];exact cG.mpr okN.ne
  have okF:=zY (ul F1 (ag _)) hwF;have lF:F.length<=180:=by
    rw [<-eF,aa];have:=okN.nl
    lia
  exists ug rfl b1 b30 hpl plen hr' hw λa H1 s1 na ea=>?_;have e0:((ends (As.sb bs) es).ns.map λn:Nat=>(n:Int)).map V.int=nmI (nmr (ends (As.sb bs) es)) F.length:=by
    unfold nmI;congr 1;rw [l0.ns,List.map_map];rfl
  rw [e0] at ea;have hpl1:=s1 _ _ hpl;exists xv ?_;exists ⟨pl,rfl,⟨_,SqL.of hpl1⟩,λO hO=>yE (K:=K) (a:=pl) (ys:=ps.map V.ref) (λi xs σ' H'=>E1 λ(v:Option V)=>A4 (σ'=[v]) (xs=((es.take i).map λx=>((x.1.puts:Nat):Int)).map V.int) (H' O=some (.lst xs)) (SameX O H1 H')) ⟨none,rfl,rfl,zj,λb o e n=>by rw [zn n]; exact e⟩ (λi xs σ' H' _ z=>by obtain ⟨v,_,_,_,z⟩:=z; exact SqL.of (z _ _ hpl1 (zb hpl1 hO))) ?_ ?_⟩
  . rintro i x xs σ' H' hi ⟨v,rfl,rfl,eO,sx⟩;have hi':=(af.mp hi).1;rw [aj] at hi;obtain ⟨p,hp',rfl⟩:=av.mp hi;have hie:i<es.length:=by rw [<-hr'.1]; exact (af.mp hp').1
    have hx:=ae hie;have he:=((hr'.2 i p _ hp' hx).same s1).same (λb o e=>sx b o e (zb e hO));exists yd rfl he ?_;exists zr eO (by simp only [aa,az]; lia) λH5 x5 e5=>?_;refine xm hi' ⟨_,rfl,rfl,?_,sx.trans x5⟩;rw [br,hx,ah,ah];exact e5
  rintro xs σ' H2 ⟨v,rfl,rfl,eO2,sx2⟩;have s2:Same H1 H2:=λb o e=>sx2 b o e (zb e hO);rw [aa,hr'.1,au] at eO2;exists CV (SqL.of eO2) ?_;have hsum:((bs.length:Nat):Int)+(es.map λx=>((x.1.puts:Nat):Int)).sum=((ends (As.sb bs) es).k:Nat):=by
    rw [Cr,xz];show _=((bs.length+_:Nat):Int)
    lia
  walk_at "r";rw [hsum];have s12:=s1.trans s2;refine tt (s12 _ _ hpl) λD H3 nD s3 eD=>?_;have ea3:=s3 _ _ (s2 _ _ ea);have aD:a≠D:=zb (s2 _ _ ea) nD;have hml3:=(s12.trans s3) _ _ hml;have mlD:ml≠D:=zb (s12 _ _ hml) nD;have mla:ml≠a:=zb hml na;have hD0:H D=none:=Same.nn s12 nD;exists yC ?_;exists ⟨ml,rfl,⟨_,SqL.of hml3⟩,zJ (K:=K) (a:=ml) (xs:=ms.map V.ref) (λi σ H'=>E3 λ(v6 v7:Option V) (qs:List Addr)=>A4 (σ=[vI ((bs.length:Nat):Int),vR pl,vR ml,vR a,vI (((ends (As.sb bs) es).k+((ends (As.sb F) (fs.take i)).k - F.length):Nat):Int),vR D,v6,v7]) ((H' D=some (.lst ((ps++qs).map V.ref))/\Runs H' (ps++qs) (es++(fs.take i).map (rnx (nmr (ends (As.sb bs) es))))/\qs.length=i)) (H' a=some (.lst (nmI (nmr (ends (As.sb bs) es)) (ends (As.sb F) (fs.take i)).k))) (∀ b o,H3 b=some o->b≠D->b≠a->H' b=some o)) ⟨none,none,[],?_,⟨by rw [dL]; exact eD,by rw [dL]; show Runs H3 ps (es++[]); rw [dL]; exact hr'.same (s12.trans s3),rfl⟩,ea3,λb o e _ _=>e⟩ (λi σ H' _ z'=>by obtain ⟨_,_,_,_,_,_,z⟩:=z'; exact SqL.of (z _ _ hml3 mlD mla)) ?_ ?_⟩
  . rw [show (ends (As.sb F) (fs.take 0)).k=F.length from rfl,eC,h7]
  . rintro i x σ H' hi ⟨v6,v7,qs,rfl,⟨eD',hrun,hql⟩,ea',fr⟩;rw [aj] at hi;obtain ⟨p,hp',rfl⟩:=av.mp hi;have hie:i<fs.length:=by rw [<-hm.1]; exact (af.mp hp').1
    obtain ⟨e,n,m,hx⟩:∃ e n m,fs[i]?=some (e,n,m):=⟨_,_,_,ae hie⟩
    have st:=hwF i _ hx;have s0':Same H H':=λb o z=>fr _ _ ((s12.trans s3) _ _ z) (zb z hD0) (zb z na);have he:DdAt H' p e:=(hm.2 i p _ hp' hx).same s0';have oki:=okF i (bO hie);have kli:=oki.kl;have kge:F.length<=(ends (As.sb F) (fs.take i)).k:=by
      rw [xz];show F.length<=F.length+_
      lia
    have nk:=xo (ends (As.sb F) (fs.take i)) (e,n,m);have nk:((ends (As.sb F) (fs.take i)).next (e,n,m)).k=(ends (As.sb F) (fs.take i)).k+e.puts:=nk;have tk':(fs.take (i+1)).map (rnx (nmr (ends (As.sb bs) es)))=(fs.take i).map (rnx (nmr (ends (As.sb bs) es)))++[rnx (nmr (ends (As.sb bs) es)) (e,n,m)]:=by rw [br,hx,ah]; rfl
    rw [ym hx,nk,tk'];have lk:∀ j,nmr (ends (As.sb bs) es) (F.length+j)=(ends (As.sb bs) es).k+j:=l0.k;generalize ends (As.sb F) (fs.take i)=s at *
    have pu:=puts_le e;have nT:e.isT=false:=by
      cases z:e.isT with
      | false=>rfl
      | true=>exact nomatch st.tn z
    exists AD rfl he nT ea' (λm' hm'=>?_) λb H4 s4 nb eb=>?_
    . obtain ⟨j,hj,rfl⟩:=st.nms.names_in m' hm';exact ⟨j,oki.lt j hj,rfl⟩
    have eD4:=s4 _ _ eD';have ea4:=s4 _ _ ea';exists zr eD4 (by rw [aa,ai]; lia) λH5 x5 e5=>?_;have ea5:=x5 _ _ ea4 aD;have eb5:=eb.sameX x5 eD4;have he5:DdAt H5 p e:=(he.same s4).sameX x5 eD4;have hr5:Runs H5 (ps++qs) (es++(fs.take i).map (rnx (nmr (ends (As.sb bs) es)))):=(hrun.same s4).sameX x5 eD4;have hr6:=xC (x:=rnx (nmr (ends (As.sb bs) es)) (e,n,m)) hr5 eb5;exists EY ?_;exists yd rfl he5 ?_;exists ⟨_,_,rfl,⟨by lia,by lia,by lia,by lia⟩,yB (lo:=(((ends (As.sb bs) es).k+(s.k - F.length):Nat):Int)) (n:=((((ends (As.sb bs) es).k+(s.k - F.length):Nat):Int)+(e.puts:Nat) - (((ends (As.sb bs) es).k+(s.k - F.length):Nat):Int)).toNat) (λj σ G=>E1 λ(v7:Option V)=>A3 (σ=[vI ((bs.length:Nat):Int),vR pl,vR ml,vR a,vI (((ends (As.sb bs) es).k+(s.k - F.length):Nat):Int),vR D,vR p,v7]) (G a=some (.lst (nmI (nmr (ends (As.sb bs) es)) (s.k+j)))) (SameX a H5 G)) ⟨_,rfl,ea5,λb o e _=>e⟩ ?_ ?_⟩
    . rintro j σ G hj ⟨w7,rfl,eaj,sxj⟩;exists zr eaj (by unfold nmI; simp only [aa,cz]; lia) λG2 x2 e2=>?_;exists ⟨_,rfl,?_,sxj.trans x2⟩;rw [show (((ends (As.sb bs) es).k+(s.k - F.length):Nat):Int)+(j:Int)=(((ends (As.sb bs) es).k+(s.k - F.length+j):Nat):Int) by lia,<-lk,show F.length+(s.k - F.length+j)=s.k+j by lia] at e2;rw [show s.k+(j+1)=(s.k+j)+1 by lia,Gd,e2]
    rintro σ H6 ⟨w7,rfl,ea6,sx6⟩;rw [show ((((ends (As.sb bs) es).k+(s.k - F.length):Nat):Int)+(e.puts:Nat) - (((ends (As.sb bs) es).k+(s.k - F.length):Nat):Int)).toNat=e.puts by lia] at ea6;have he6:DdAt H6 p e:=he5.sameX sx6 ea5;exists yd rfl he6 ?_;exists ⟨some (.ref p),w7,qs++[b],?_,⟨?_,?_,by rw [ai,hql]; rfl⟩,ea6,λb' o z n1 n2=>sx6 _ _ (x5 _ _ (s4 _ _ (fr _ _ z n1 n2)) n1) n2⟩
    . rw [show (((ends (As.sb bs) es).k+(s.k - F.length):Nat):Int)+(e.puts:Nat)=(((ends (As.sb bs) es).k+(s.k+e.puts - F.length):Nat):Int) by lia]
    . rw [<-bQ,ah];exact sx6 _ _ e5 (ck aD)
    . rw [<-bQ,<-bQ];exact hr6.sameX sx6 ea5
  rintro σ H4 ⟨v6,v7,qs,rfl,⟨eD',hrun,hql⟩,ea',fr⟩;rw [aa,hm.1,au] at hrun;walk_at "r";exact q D qs H4 (λb o z=>fr _ _ ((s12.trans s3) _ _ z) (zb z hD0) (zb z na)) hD0 eD' hrun
theorem K48(F:Fun K "by" "by" S41 f fd)(B:Bl mg)(o39x:O39x P w K mg base)(o4x:O4x P w K mg base):FnOk P w K mg base CX0 3 f fd ["one","other"] P49:=by
  refine F.okA C50 λcdv A outer s H vs Q E hr h=>?_;obtain ⟨p,p',x,y,rfl,h1,h2,hy,⟨⟨b1,b2⟩,⟨b3,b4⟩⟩,q⟩:=h;refine ⟨_,(zd (zh (ze o39x hr rfl (pa2 (pv 0) (ze o4x hr rfl (pa2 (pit 1) (pit 1))))))),?_⟩;walk_at "s";exists wV rfl hy b3 λr1 H1 s1 e1=>?_;walk_at "r";exact vt (s1 _ _ h1) (Iw (AJ hy e1) (Ly hy)) ⟨b1,b2⟩ (Bq.inv ⟨b3,b4⟩ hy) λr H' s e=>q r H' (s1.trans s) e
theorem K49(F:Fun K "together" "together" S44 f fd)(B:Bl mg)(o38x:Own P w K mg base 2 "plus" ["one","other"] [] (P34 K)):FnOk P w K mg base CX0 3 f fd ["one","other"] (P50 K):=by
  refine F.okA C51 λcdv A outer s H vs Q E hr h=>?_;obtain @⟨p,p',s,t,rfl,⟨r0',r1',f0,f1,f2,f3,⟨hp,h0,h1,g0,g1,g2,g3'⟩⟩,⟨u0,u1,i0,i1,i2,i3,⟨kp,k0,k1,l0,l1,l2,l3⟩⟩,bs,bt,q⟩:=h;refine ⟨_,(zd (zh (zq (pa2 (zq (pa2 (ze o38x hr rfl (pa2 (pe_i ix_tup (pit 0) zc) (pe_i ix_tup (pit 1) zc))) (ze o38x hr rfl (pa2 (pe_i ix_tup (pit 0) zc) (pe_i ix_tup (pit 1) zc))))) (zq (pa2 (ze o38x hr rfl (pa2 (pe_i ix_tup (pit 0) zc) (pe_i ix_tup (pit 1) zc))) (ze o38x hr rfl (pa2 (pe_i ix_tup (pit 0) zc) (pe_i ix_tup (pit 1) zc))))))))),?_⟩;walk_at "s";exists uT g0 l0 (bs.a.bq ⋯ ⋯) (bt.a.bq ⋯ ⋯) λt0 H3 s3 et0=>?_;have hp:=s3.sqT hp;have h0:=s3.sqT h0;have h1:=s3.sqT h1;have g0:=s3.sqT g0;have g1:=s3.sqT g1;have g2:=s3.sqT g2;have g3':=s3.sqT g3';have kp:=s3 _ _ kp;have k0:=s3 _ _ k0;have k1:=s3 _ _ k1;have l0:=s3 _ _ l0;have l1:=s3 _ _ l1;have l2:=s3 _ _ l2;have l3:=s3 _ _ l3;exists uT g1 l1 (bs.b.bq ⋯ ⋯) (bt.b.bq ⋯ ⋯) λt1 H4 s4 et1=>?_;have hp:=s4.sqT hp;have h0:=s4.sqT h0;have h1:=s4.sqT h1;have g0:=s4.sqT g0;have g1:=s4.sqT g1;have g2:=s4.sqT g2;have g3':=s4.sqT g3';have kp:=s4 _ _ kp;have k0:=s4 _ _ k0;have k1:=s4 _ _ k1;have l0:=s4 _ _ l0;have l1:=s4 _ _ l1;have l2:=s4 _ _ l2;have l3:=s4 _ _ l3;have et0:=s4 _ _ et0;exists zt (!1) λr0 G0 z0 er0=>?_;have hp:=z0.sqT hp;have h0:=z0.sqT h0;have h1:=z0.sqT h1;have g0:=z0.sqT g0;have g1:=z0.sqT g1;have g2:=z0.sqT g2;have g3':=z0.sqT g3';have kp:=z0 _ _ kp;have k0:=z0 _ _ k0;have k1:=z0 _ _ k1;have l0:=z0 _ _ l0;have l1:=z0 _ _ l1;have l2:=z0 _ _ l2;have l3:=z0 _ _ l3;have et0:=z0 _ _ et0;have et1:=z0 _ _ et1;exists uT g2 l2 (bs.c.bq ⋯ ⋯) (bt.c.bq ⋯ ⋯) λt2 H5 s5 et2=>?_;have hp:=s5.sqT hp;have h0:=s5.sqT h0;have h1:=s5.sqT h1;have g0:=s5.sqT g0;have g1:=s5.sqT g1;have g2:=s5.sqT g2;have g3':=s5.sqT g3';have kp:=s5 _ _ kp;have k0:=s5 _ _ k0;have k1:=s5 _ _ k1;have l0:=s5 _ _ l0;have l1:=s5 _ _ l1;have l2:=s5 _ _ l2;have l3:=s5 _ _ l3;have et0:=s5 _ _ et0;have et1:=s5 _ _ et1;have er0:=s5 _ _ er0;exists uT g3' l3 (bs.e.bq ⋯ ⋯) (bt.e.bq ⋯ ⋯) λt3 H6 s6 et3=>?_;have hp:=s6.sqT hp;have h0:=s6.sqT h0;have h1:=s6.sqT h1;have g0:=s6.sqT g0;have g1:=s6.sqT g1;have g2:=s6.sqT g2;have g3':=s6.sqT g3';have kp:=s6 _ _ kp;have k0:=s6 _ _ k0;have k1:=s6 _ _ k1;have l0:=s6 _ _ l0;have l1:=s6 _ _ l1;have l2:=s6 _ _ l2;have l3:=s6 _ _ l3;have et0:=s6 _ _ et0;have et1:=s6 _ _ et1;have et2:=s6 _ _ et2;have er0:=s6 _ _ er0;exists zt (!1) λr1 G1 z1 er1=>?_;have hp:=z1.sqT hp;have h0:=z1.sqT h0;have h1:=z1.sqT h1;have g0:=z1.sqT g0;have g1:=z1.sqT g1;have g2:=z1.sqT g2;have g3':=z1.sqT g3';have kp:=z1 _ _ kp;have k0:=z1 _ _ k0;have k1:=z1 _ _ k1;have l0:=z1 _ _ l0;have l1:=z1 _ _ l1;have l2:=z1 _ _ l2;have l3:=z1 _ _ l3;have et0:=z1 _ _ et0;have et1:=z1 _ _ et1;have et2:=z1 _ _ et2;have et3:=z1 _ _ et3;have er0:=z1 _ _ er0;exists zt (!1) λr G z er=>?_;exact q r G ((((((s3.trans s4).trans z0).trans s5).trans s6).trans z1).trans z) ⟨r0,r1,t0,t1,t2,t3,er,z _ _ er0,z _ _ er1,z _ _ et0,z _ _ et1,z _ _ et2,z _ _ et3⟩
theorem K50(F:Fun K "plain_width" "plain_width" S50 f fd)(B:Bl mg)(g_NOUGHT:TopT K mg "NOUGHT" [.int 0,.int 0,.int 1])(o6x:O6x P w K mg base)(o1x:O1x P w K mg base)(o11x:O11x P w K mg base):FnOk P w K mg base CX0 3 f fd ["d","whole"] (P51 K):=by
  obtain ⟨a_NOUGHT,m_NOUGHT,q_NOUGHT⟩:=g_NOUGHT;refine F.okA C52 λcdv A outer s H vs Q E hr h=>?_;obtain @⟨d,pt,t,rfl,ht,bt,hd,nz,hR,q⟩:=h;refine ⟨_,(za (ps_s 2 C52.nd (xj (PW.pt (vx (zg vZ (pe_i ix_tup (pe_i ix_tup (pit 1) zc) zc) zc (zm _)) (xN (zg vZ (pe_i ix_tup (pe_i ix_tup (pit 1) zc) zc) zc (zm _))))) zc zc)) (za (ps_s 3 C52.nd (ze o6x hr rfl (pa2 (pe_i ix_tup (pit 1) (pv 2)) (pe_i ix_tup (pit 1) (pv 2))))) (za (ps_s 4 C52.nd (ze o1x hr rfl (pa2 (pit 3) (pit 3)))) (za (xp (zw (yY (ze o11x hr rfl (pa3 (pv 0) (pv 3) (yk (v:=.ref a_NOUGHT) rfl m_NOUGHT rfl)))) (zd (ps_s 4 C52.nd (Dt uF (pv 4)))) zo)) (zd (zh (zq (pa3 (zf zy (pit 3) (pv 4)) (zf zy (pit 3) (pv 4)) zc)))))))),?_⟩;walk_at "s";obtain ⟨r0,r1,f0,f1,f2,f3,⟨hp,h0,h1,g0,g1,g2,g3'⟩⟩:=ht;have k0:H f0=some (.tup [.int t.a.num,.int (t.a.den:Int)]):=g0;have k2:H f2=some (.tup [.int t.c.num,.int (t.c.den:Int)]):=g2;have mm:=(CQ hR nz).1;walk_at "r";apply ET (colS t=pqS t.a t.c)
  . intro same;refine ui (λc=>same (io (.inl c))) (λc=>?_);exists ui (λc2=>same (io (.inr c2))) (λc2=>?_);have ec:colS t=pqS t.b t.e:=ip (λz=>z.elim (λz=>z c) (λz=>z c2));rw [ec] at nz mm;have eq:pwS d t=⟨(pqS t.b t.e).x.fdiv (mnO d (pqS t.b t.e)),(pqS t.b t.e).y.fdiv (mnO d (pqS t.b t.e)),1⟩:=by unfold pwS; rw [ec]
    rw [eq] at q;have b1:Bq 450 t.b:=bt.b.bq (ag _) (ag _);have b2:Bq 450 t.e:=bt.e.bq (ag _) (ag _);have ss:=tF (b1.mono ⋯) (b2.mono ⋯);exists xE g1 g3' (den1 t.b) (den1 t.e) (xB t.b) (xB t.e) (b1.1.mono ⋯) (b1.2.mono ⋯) (b2.1.mono ⋯) (b2.2.mono ⋯) λr3 J3 u3 l3=>?_;have l3:J3 r3=some (.tup [.int (pqS t.b t.e).x,.int (pqS t.b t.e).y,.int (pqS t.b t.e).z]):=l3;generalize pqS t.b t.e=s at *
    have b3:=ss.bx;have b4:=ss.by';exists wS (T:=λσ' Hc=>Hc=J3/\∃ v:Option V,σ'=[vI d,vR pt,v,vR r3,vI (mnO d s)]) ?_ ?_
    . exists Ca (SqT.of l3) (q_NOUGHT J3) hd (b3.mono ⋯) (b4.mono ⋯) (ss.bz.mono ⋯) (!3) (!3) (!3) ?_;exists if_d (λk=>?_) (λk=>?_)
      . walk_at "r";exact ⟨rfl,_,by unfold mnO; rw [io k]⟩
      . walk_at "r";exact ⟨rfl,_,by unfold mnO; rw [ip k]⟩
    rintro σ' Hc ⟨rfl,v,rfl⟩;have bm:Bd 1900 (mnO d s):=Hm nz b3 b4;have cf:∀ z:Int,CFd z (mnO d s):=λz=>⟨mm,aX bm.log ⋯⟩
    generalize mnO d s=m at *
    have cf1:=cf s.x;have cf2:=cf s.y;exists zt (!1) λr4 H4 s4 e4=>?_;exact q r4 H4 (u3.trans s4) e4
  intro ec;rw [ec] at nz mm;have eq:pwS d t=⟨(pqS t.a t.c).x.fdiv (mnO d (pqS t.a t.c)),(pqS t.a t.c).y.fdiv (mnO d (pqS t.a t.c)),1⟩:=by unfold pwS; rw [ec]
  rw [eq] at q;have b1:Bq 450 t.a:=bt.a.bq (ag _) (ag _);have b2:Bq 450 t.c:=bt.c.bq (ag _) (ag _);have ss:=tF (b1.mono ⋯) (b2.mono ⋯);exists xE g0 g2 (den1 t.a) (den1 t.c) (xB t.a) (xB t.c) (b1.1.mono ⋯) (b1.2.mono ⋯) (b2.1.mono ⋯) (b2.2.mono ⋯) λr3 J3 u3 l3=>?_;have l3:J3 r3=some (.tup [.int (pqS t.a t.c).x,.int (pqS t.a t.c).y,.int (pqS t.a t.c).z]):=l3;generalize pqS t.a t.c=s at *
  have b3:=ss.bx;have b4:=ss.by';exists wS (T:=λσ' Hc=>Hc=J3/\∃ v:Option V,σ'=[vI d,vR pt,v,vR r3,vI (mnO d s)]) ?_ ?_
  . exists Ca (SqT.of l3) (q_NOUGHT J3) hd (b3.mono ⋯) (b4.mono ⋯) (ss.bz.mono ⋯) (!3) (!3) (!3) ?_;exists if_d (λk=>?_) (λk=>?_)
    . walk_at "r";exact ⟨rfl,_,by unfold mnO; rw [io k]⟩
    . walk_at "r";exact ⟨rfl,_,by unfold mnO; rw [ip k]⟩
  rintro σ' Hc ⟨rfl,v,rfl⟩;have bm:Bd 1900 (mnO d s):=Hm nz b3 b4;have cf:∀ z:Int,CFd z (mnO d s):=λz=>⟨mm,aX bm.log ⋯⟩
  generalize mnO d s=m at *
  have cf1:=cf s.x;have cf2:=cf s.y;exists zt (!1) λr4 H4 s4 e4=>?_;exact q r4 H4 (u3.trans s4) e4
theorem K51(F:Fun K "_law_places" "_law_places" S60 f fd)(B:Bl mg)(o58x:Own P w K mg base 2 "_law_add" ["_law_one","_law_other"] [] P37):FnOk P w K mg base CX0 3 f fd ["_law_heap"] P52:=by
  refine F.okA C53 λcdv A outer s H vs Q E hr h=>?_;obtain @⟨p,L,rfl,h1,hA,ok0,hbt,q⟩:=h;refine ex_w ⟨_,(BR (JK (i:=1) C53.nd rfl (Or.inl rfl) (EV (yo (EV (yo (Cu (yo (uk zc) (yo (uk zc) vU))) (yo (Cu (yo (uk zc) (yo (uk zc) vU))) vU))) (yo (EV (yo (Cu (yo (uk zc) (yo (uk zc) vU))) (yo (Cu (yo (uk zc) (yo (uk zc) vU))) vU))) vU)))) (BR (KB (zH PassesOwn.never rfl (zA (pv 0)) (uN (n:=2) rfl (ya (pg_n 2 C53.nd) (ya (pg_n 3 C53.nd) wF))) (zd (zH PassesOwn.never rfl (yz rfl B.range (pa1 zc)) (pg_n 4 C53.nd) (zd (zH PassesOwn.never rfl (yz rfl B.range (pa1 zc)) (pg_n 5 C53.nd) (zd (Jo (uk (ze o58x hr rfl (pa2 (pe_i ix_list (pe_i ix_list (pv 1) (pv 4)) (pv 5)) (zq (pa2 (zf zk (pe_i ix_tup (pv 2) (pv 4)) (pe_i ix_tup (pv 3) (pv 5))) (zf zk (pit 2) (pit 3))))))) (Ll (uk (pe_i ix_list (pv 1) (pv 4))) (pv 5) BS))))))))) (IF (KB (zh (pv 1)))))),?_⟩;walk_at "s";have d2:∀ {i:Nat},i<2->i=0\/i=1:=λh=>by lia
  exists zt (!1) λu0 H1 s1 e0=>?_;exists zt (!1) λu1 H2 s2 e1=>?_;exists zB (!1) λl0 H3 f0 s3 m0=>?_;exists zt (!1) λu2 H4 s4 e2=>?_;exists zt (!1) λu3 H5 s5 e3=>?_;exists zB (!1) λl1 H6 f1 s6 m1=>?_;exists zB (!1) λl H7 f2 s7 m2=>?_;have s25:=(s3.trans s4).trans s5;have s15:=(s1.trans s2).trans s25;have m05:=s5 _ _ (s4 _ _ m0);have n01:l0≠l1:=zb m05 f1;have n0:l0≠l:=zb (s6 _ _ m05) f2;have n1:l1≠l:=zb m1 f2;have f0:H l0=none:=(s1.trans s2).free f0;have f1:H l1=none:=s15.free f1;have f2:H l=none:=(s15.trans s6).free f2;have s67:=s6.trans s7;have s17:=s15.trans s67;exists yC ?_;exists ⟨p,rfl,⟨_,SqL.of (s17 _ _ h1)⟩,zJ (K:=K) (a:=p) (xs:=L.map Cell.v) (λi σ H'=>E4 λ(v2 v3 v4 v5:Option V)=>A3 (σ=[vR p,vR l,v2,v3,v4,v5]) (Same H H') (∃ q0 q1 q2 q3:Addr,LsH H' l l0 l1 q0 q1 q2 q3 (tbs ((L.take i).map Cell.b)))) ⟨_,_,_,_,rfl,s17,u0,u1,u2,u3,⟨m2,s67 _ _ m05,s7 _ _ m1,s67 _ _ (s25 _ _ (s2 _ _ e0)),s67 _ _ (s25 _ _ e1),s67 _ _ (s5 _ _ e2),s67 _ _ e3⟩⟩ (λi σ H' _ z'=>by obtain ⟨_,_,_,_,_,s,_⟩:=z'; exact SqL.of (s _ _ h1)) ?_ ?_⟩
  . rintro i t σ H' hi ⟨v2,v3,v4,v5,rfl,s,hLs⟩;have hi':=(af.mp hi).1;rw [aa] at hi';obtain ⟨c,rfl,hc,hci⟩:=xD hi;have ok:=ok0 c hc;obtain ⟨ht,hw,hh⟩:=(hA c hc).same s;have bt:=hbt i hi';rw [uH hci,CF];generalize tbs ((L.take i).map Cell.b)=T at hLs bt ⊢;have w1:=ok.1.bx;have w2:=ok.1.by';have w3:=ok.1.bz;have w4:=ok.2.bx;have w5:=ok.2.by';have w6:=ok.2.bz;have hz:c.b.w.z*c.b.h.z≠0:=ar ok.1.nz ok.2.nz;have bz:Bd 4000 (c.b.w.z*c.b.h.z):=(w3.mul w6).mono ⋯;exists wJ ?_;exists ⟨2,rfl,by decide,by decide,yB (lo:=0) (n:=2) (λk σ H2=>E2 λv4 v5=>A3 (σ=[vR p,vR l,vR c.pw,vR c.ph,v4,v5]) (Same H H2) (∃ q0 q1 q2 q3:Addr,LsH H2 l l0 l1 q0 q1 q2 q3 (T.upto c.b.tb (2*k)))) ⟨_,_,rfl,s,hLs⟩ ?_ ?_⟩
    . rintro k σ H2 hk ⟨v4,v5,rfl,s2,hLs⟩;rcases d2 hk with rfl|rfl
      . exists wJ ?_;exists ⟨2,rfl,by decide,by decide,yB (lo:=0) (n:=2) (λj σ H2=>E1 λv5=>A3 (σ=[vR p,vR l,vR c.pw,vR c.ph,vI (0+((0:Nat):Int)),v5]) (Same H H2) (∃ q0 q1 q2 q3:Addr,LsH H2 l l0 l1 q0 q1 q2 q3 (T.upto c.b.tb (0+j)))) ⟨_,rfl,s2,hLs⟩ ?_ ?_⟩
        . rintro j σ H2 hj ⟨v5,rfl,s2,q0,q1,q2,q3,⟨el,el0,el1,g0,g1,g2,g3'⟩⟩;obtain ⟨ht,hw,hh⟩:=(hA c hc).same s2;rcases d2 hj with rfl|rfl
          . exists zt (!1) λr1 H3 s3 e3=>?_;exists xJ (s3 _ _ g0) e3 hz (bt.a.bq ⋯ ⋯) (Bd.mono (w1.mul w4) ⋯) bz λr2 H4 s4 e4=>?_;rw [yF] at e4;have st:=s3.trans s4;have z0:=st _ _ el0;have z1:=st _ _ el1;have zl:=st _ _ el;exists AN ?_;exists AG z0 ⋯ (!1) λH5 sx5 e5=>?_;have e5:H5 l0=some (.lst [.ref r2,.ref q1]):=e5;walk_at "r";exact ⟨_,rfl,λb o e=>sx5 b o (st b o (s2 b o e)) (zb e f0),r2,q1,q2,q3,⟨sx5 _ _ zl (ck n0),e5,sx5 _ _ (st _ _ el1) (ck n01),sx5.tup e4 z0,sx5.tup (st _ _ g1) z0,sx5.tup (st _ _ g2) z0,sx5.tup (st _ _ g3') z0⟩⟩
          . exists zt (!1) λr1 H3 s3 e3=>?_;exists xJ (s3 _ _ g1) e3 hz (bt.b.bq ⋯ ⋯) (Bd.mono (w1.mul w5) ⋯) bz λr2 H4 s4 e4=>?_;rw [yF] at e4;have st:=s3.trans s4;have z0:=st _ _ el0;have z1:=st _ _ el1;have zl:=st _ _ el;exists AN ?_;exists AG z0 ⋯ (!1) λH5 sx5 e5=>?_;have e5:H5 l0=some (.lst [.ref q0,.ref r2]):=e5;walk_at "r";exact ⟨_,rfl,λb o e=>sx5 b o (st b o (s2 b o e)) (zb e f0),q0,r2,q2,q3,⟨sx5 _ _ zl (ck n0),e5,sx5 _ _ (st _ _ el1) (ck n01),sx5.tup (st _ _ g0) z0,sx5.tup e4 z0,sx5.tup (st _ _ g2) z0,sx5.tup (st _ _ g3') z0⟩⟩
        . rintro σ H2 ⟨v5,rfl,s2,hLs⟩;walk_at "r";exact ⟨_,_,rfl,s2,hLs⟩
      . exists wJ ?_;exists ⟨2,rfl,by decide,by decide,yB (lo:=0) (n:=2) (λj σ H2=>E1 λv5=>A3 (σ=[vR p,vR l,vR c.pw,vR c.ph,vI (0+((1:Nat):Int)),v5]) (Same H H2) (∃ q0 q1 q2 q3:Addr,LsH H2 l l0 l1 q0 q1 q2 q3 (T.upto c.b.tb (2+j)))) ⟨_,rfl,s2,hLs⟩ ?_ ?_⟩
        . rintro j σ H2 hj ⟨v5,rfl,s2,q0,q1,q2,q3,⟨el,el0,el1,g0,g1,g2,g3'⟩⟩;obtain ⟨ht,hw,hh⟩:=(hA c hc).same s2;rcases d2 hj with rfl|rfl
          . exists zt (!1) λr1 H3 s3 e3=>?_;exists xJ (s3 _ _ g2) e3 hz (bt.c.bq ⋯ ⋯) (Bd.mono (w2.mul w4) ⋯) bz λr2 H4 s4 e4=>?_;rw [yF] at e4;have st:=s3.trans s4;have z0:=st _ _ el0;have z1:=st _ _ el1;have zl:=st _ _ el;exists AN ?_;exists AG z1 ⋯ (!1) λH5 sx5 e5=>?_;have e5:H5 l1=some (.lst [.ref r2,.ref q3]):=e5;walk_at "r";exact ⟨_,rfl,λb o e=>sx5 b o (st b o (s2 b o e)) (zb e f1),q0,q1,r2,q3,⟨sx5 _ _ zl (ck n1),sx5 _ _ (st _ _ el0) n01,e5,sx5.tup (st _ _ g0) z1,sx5.tup (st _ _ g1) z1,sx5.tup e4 z1,sx5.tup (st _ _ g3') z1⟩⟩
          . exists zt (!1) λr1 H3 s3 e3=>?_;exists xJ (s3 _ _ g3') e3 hz (bt.e.bq ⋯ ⋯) (Bd.mono (w2.mul w5) ⋯) bz λr2 H4 s4 e4=>?_;rw [yF] at e4;have st:=s3.trans s4;have z0:=st _ _ el0;have z1:=st _ _ el1;have zl:=st _ _ el;exists AN ?_;exists AG z1 ⋯ (!1) λH5 sx5 e5=>?_;have e5:H5 l1=some (.lst [.ref q2,.ref r2]):=e5;walk_at "r";exact ⟨_,rfl,λb o e=>sx5 b o (st b o (s2 b o e)) (zb e f1),q0,q1,q2,r2,⟨sx5 _ _ zl (ck n1),sx5 _ _ (st _ _ el0) n01,e5,sx5.tup (st _ _ g0) z1,sx5.tup (st _ _ g1) z1,sx5.tup (st _ _ g2) z1,sx5.tup e4 z1⟩⟩
        . rintro σ H2 ⟨v5,rfl,s2,hLs⟩;walk_at "r";exact ⟨_,_,rfl,s2,hLs⟩
    . rintro σ H2 ⟨v4,v5,rfl,s2,hLs⟩;walk_at "r";exact ⟨_,_,_,_,rfl,s2,hLs⟩
  . rintro σ H' ⟨v2,v3,v4,v5,rfl,s,q0,q1,q2,q3,hLs⟩;rw [aa,au] at hLs;walk_at "r";exact q l l0 l1 q0 q1 q2 q3 H' s hLs
theorem Cn{K:iJ}{Q:VK}{a:Addr}{xs:List V}{k:Nat}(h:H a=some (.lst xs))(q:∀ (p:Addr) (H2:Hp),Same H H2->H2 p=some (.lst (xs.take k))->Q (.ref p) H2):rSlL K (.ref a) none (some (k:Int)) H Q:=by
  refine ⟨a,_,rfl,SqL.of h,λp hp=>?_⟩;refine q p _ (zC hp _) ?_;rw [zj];unfold cutV;rw [HT.sIx_none,HT.sIx_nat,List.drop_zero,h8];congr 2;rcases hW k xs.length with z|z
  . rw [eV z]
  . rw [fE z,au,bT z]
theorem HN{K:iJ}{Q:VK}{a:Addr}{xs:List V}{i:Nat}(h:H a=some (.lst xs))(q:∀ (p:Addr) (H2:Hp),Same H H2->H2 p=some (.lst (xs.drop i))->Q (.ref p) H2):rSlL K (.ref a) (some (i:Int)) none H Q:=by
  refine ⟨a,_,rfl,SqL.of h,λp hp=>?_⟩;refine q p _ (zC hp _) ?_;rw [zj];unfold cutV;rw [HT.sIx_nat,HT.sIx_none];congr 2;rcases hW i xs.length with z|z
  . rw [eV z,bT (by rw [cQ]; lia)]
  . rw [fE z,dJ (ag _),dJ z,gI]
theorem K52(F:Fun K "_law_cut" "_law_cut" S64 f fd)(B:Bl mg)(o61x:O61x P w K mg base)(o52x:O52x P w K mg base)(o57x:O57x P w K mg base)(o62x:Own P w K mg base 2 "_law_rest" ["_law_one","_law_other"] [] P39)(o55x:Own P w K mg base 1 "_law_sign" ["_law_d","_law_a","_law_b"] [] P18):FnOk P w K mg base CX0 3 f fd ["_law_some","_law_cell","_law_d"] (P53 K):=by
  refine F.okA C54 λcdv A outer s H vs Q E hr h=>?_;obtain @⟨p,c,d,Nw,Eh,L,kx,kh,K',rfl,hl,hA,ob,D1,bD,hK,hn,hR,q⟩:=h;refine ⟨_,(za (ps_s 3 C54.nd (zf zO (ze o52x hr rfl (pa2 (pv 1) zc)) (zp zx rfl B.len bI (pa1 (pv 0))))) (za (ps_s 4 C54.nd (zf zO (ze o52x hr rfl (pa2 (pv 1) zc)) zc)) (za (ps_s 5 C54.nd (zf zv zc (zf zO (ze o52x hr rfl (pa2 (pv 1) zc)) zc))) (za (ps_s 6 C54.nd (ze o61x hr rfl (pa3 (pe_i ix_tup (pe_i ix_list (pv 0) (pv 3)) (pv 4)) (zf zv zc (zf zO (ze o52x hr rfl (pa2 (pv 1) zc)) (zf yX (pv 5) zc))) (pv 5)))) (za (xp (zw (zg zW (zf zO (ze o52x hr rfl (pa2 (pv 1) zc)) zc) zc (zm _)) (za (ps_s 7 C54.nd (ze o57x hr rfl (pa3 (pv 1) zc (pv 2)))) (za (ps_s 8 C54.nd (ze o62x hr rfl (pa2 (pe_i ix_tup (pe_i ix_list (pv 0) (pv 3)) (pv 4)) (pv 7)))) (zd (zw (zg xM (ze o55x hr rfl (pa3 (pv 2) (pit 8) (pit 8))) zc (zm _)) (zd (ps_s 6 C54.nd (pv 7))) zo)))) zo)) (za (ps_s 9 C54.nd (zI yU)) (za (zH PassesOwn.never rfl (zA (zI (pa2 (pv 6) (ze o62x hr rfl (pa2 (pe_i ix_tup (pe_i ix_list (pv 0) (pv 3)) (pv 4)) (pv 6)))))) (pg_n 10 C54.nd) (za (ps_s 11 C54.nd (zI (pa2 (pe_i ix_tup (pe_i ix_list (pv 0) (pv 3)) zc) (pe_i ix_tup (pe_i ix_list (pv 0) (pv 3)) zc)))) (za (Fn (pv 10) (Hw (pv 11) (pv 4) BS)) (zd (zU (wo a8 aZ a6 zF (pv 9) (pa1 (zR AI rfl B.tuple vf (pa1 (pv 11)))))))))) (zd (zh (zf vz (zf vz (z5 yG (pv 0) yL (yc (pv 3))) (z5 yG (pv 0) (yc (zf zv (pv 3) zc)) yL)) (pv 9))))))))))),?_⟩;walk_at "s";obtain ⟨hK1,hK2,hM1,hM2⟩:=hK;obtain ⟨N1,E1'⟩:=D1;obtain ⟨bN,bE⟩:=bD;obtain ⟨n1,n20⟩:=hn;have hpos:0<L.length:=by lia
  have hpz:(0:Int)<(L.length:Int):=by lia
  have hpv:(0:Int)<((L.map Cell.v).length:Int):=by rw [aa]; exact hpz
  exists zu rfl (!2) (!2) λm1 m10 m11=>?_;walk_at "r";rw [aa];refine zu rfl (!2) (!2) λm2 m20 m21=>?_;obtain ⟨j,ej⟩:∃ j:Nat,m1 % (L.length:Int)=(j:Int):=⟨(m1 % (L.length:Int)).toNat,by have:=bJ m1 (show (L.length:Int)≠0 by lia); lia⟩
  have hj:j<L.length:=by have:=bS m1 hpz; lia
  rw [ej];clear ej;exists zu rfl (!2) (!2) λm3 m30 m31=>?_;obtain ⟨cc,hjc,hcc⟩:∃ cc,L[j]?=some cc/\cc∈L:=⟨_,ae hj,cR hj⟩
  have g:atI (L.map Cell.v) (j:Int)=some (.ref cc.p):=xt (by rw [aj,hjc]; rfl);have At0:=hA cc hcc;have ob0:=ob cc hcc;have h2:m2 % 2=0\/m2 % 2=1:=by lia
  obtain ⟨D,ww,Kk,D1,bD,hDc,⟨hK,hM⟩,ps,ss,gs,es,bs,hnb⟩:∃ (D:Int) (ww:Bool) (Kk:Nat),1<=D/\Bd K' D/\((m2 % 2=0/\D=Nw/\ww=true/\Kk=kx)\/(m2 % 2=1/\D=Eh/\ww=false/\Kk=kh))/\(K'+20<=Kk/\Kk<=900)/\∃ (ps:Addr) (ss:Sd),atI [V.ref cc.pw,.ref cc.ph] (m2 % 2)=some (.ref ps)/\SdAt H ps ss/\PcS ww d D Kk ss/\nbB ww cc.b ss=cc.b:=by
    rcases h2 with h2|h2
    . exact ⟨Nw,true,kx,N1,bN,.inl ⟨h2,rfl,rfl,rfl⟩,⟨hK1,hM1⟩,cc.pw,cc.b.w,by rw [h2]; rfl,At0.w,ob0.1,rfl⟩
    . exact ⟨Eh,false,kh,E1',bE,.inr ⟨h2,rfl,rfl,rfl⟩,⟨hK2,hM2⟩,cc.ph,cc.b.h,by rw [h2]; rfl,At0.h,ob0.2,rfl⟩
  have sys:SY ss:=(bs.sk D1 bD).mono (!2) (!2);exists xr hl g ?_;exists vF At0.t gs ?_;exists zu rfl (!2) (!2) λm4 m40 m41=>?_;have h4:=bJ m4 (show 2+m3 % 3 - 1≠0 by lia);have h5:=bS m4 (show 0<2+m3 % 3 - 1 by lia);have bk0:Bd 10 (2+m3 % 3):=zG (B:=9) (!2) (!2) ⋯;walk_at "r";have bm0:Bd 10 (1+m4 % (2+m3 % 3 - 1)):=zG (B:=9) (!2) (!2) ⋯;refine xu rfl es sys bm0 (!2) bk0 λr1 H1 s1 e1=>?_;have o1:PcS ww d (D*(2+m3 % 3)) (Kk+11) (shS ss (1+m4 % (2+m3 % 3 - 1)) (2+m3 % 3)):=bs.sh hR (!2) (!2) bm0;have up1:PcS ww d (D*(2+m3 % 3)) (Kk+11) (tkS ss (shS ss (1+m4 % (2+m3 % 3 - 1)) (2+m3 % 3))):=bs.tksh hR D1 bD (!2) (!2) bk0;generalize shS ss (1+m4 % (2+m3 % 3 - 1)) (2+m3 % 3)=w1 at *
  exists wS (T:=λσ' H'=>E5 λ(r:Addr) (w:Sd) (k:Int) (v7 v8:Option V)=>A7 (σ'=[vR p,vI c,vI d,vI (j:Int),vI (m2 % 2),vI (2+m3 % 3),vR r,v7,v8,none,none,none]) (Same H H') (SdAt H' r w) (1<=k) (Bd 10 k) (PcS ww d (D*k) (Kk+11) w) (PcS ww d (D*k) (Kk+11) (tkS ss w))) ?_ ?_
  . exists zu rfl (!2) (!2) λm5 m50 m51=>?_;exists if_d (λc1=>?_) (λc1=>?_)
    . exists xY rfl ⋯ hR λr2 H2 w2 s2 e2 o2 x2 z2=>?_;have so2:So d w2.z 30 w2:=⟨o2.z1,o2.g,o2.up,w2.x,w2.y,o2.bx,o2.by',rfl,rfl⟩
      have sy2:SY w2:=(so2.sk o2.z1 z2).mono ⋯ ⋯;have t2:=s1.trans s2;exists xr (t2 _ _ hl) g ?_;exists vF (t2 _ _ At0.t) gs ?_;exists ua rfl (t2 _ _ es) e2 sys sy2 λr3 H3 s3 e3=>?_;have e3':H3 r3=some (.tup [.int (tkS ss w2).x,.int (tkS ss w2).y,.int (tkS ss w2).z]):=e3;exists BF rfl hR (Bd.mono (Bd.fdiv (Bd.add (Bd.mul sys.bx sy2.bz) (Bd.mul sy2.bx.neg sys.bz)) _) ⋯) (Bd.mono (Bd.fdiv (Bd.add (Bd.mul sys.by' sy2.bz) (Bd.mul sy2.by'.neg sys.bz)) _) ⋯) λH4 s4=>?_;exists if_d (λc2=>?_) (λc2=>?_)
      . have up2:sgn d (tkS ss w2).x (tkS ss w2).y=1:=by
          rcases sgn_tri hR (tkS ss w2).x (tkS ss w2).y with h|h|⟨h1,h2⟩
          . exact h
          . rw [h] at c2; exact absurd c2 ⋯
          . rw [h1,h2,zQ] at c2; exact absurd c2 ⋯
        have hp:=bs.dr hR D1 bD hK so2 z2 up2;walk_at "r";exact ⟨r2,w2,w2.z,_,_,rfl,(t2.trans s3).trans s4,s4 _ _ (s3 _ _ e2),o2.z1,z2,hp.1,hp.2⟩
      . walk_at "r";exact ⟨r1,w1,_,_,_,rfl,(t2.trans s3).trans s4,s4 _ _ (s3 _ _ (s2 _ _ e1)),by lia,bk0,o1,up1⟩
    . walk_at "r";exact ⟨r1,w1,_,_,_,rfl,s1,e1,by lia,bk0,o1,up1⟩
  clear o1 up1 e1 s1;rintro σ' H2 ⟨r1,w1,k,v7,v8,rfl,s2,e1,k1,bk,o1,up1⟩;have Dk1:1<=D*k:=aI (!2) (!2);have bDk:Bd (K'+10) (D*k):=bD.mul bk;have sy1:SY w1:=(o1.sk Dk1 bDk).mono (!2) (!2);have hp2:=s2 _ _ hl;exists zB (!1) λnl H3 fn s3 en=>?_;have np:p≠nl:=zb hp2 fn;have s23:=s2.trans s3;exists yC ?_;exists xr (s3 _ _ hp2) g ?_;exists vF (s23 _ _ At0.t) gs ?_;exists ua rfl (s23 _ _ es) (s3 _ _ e1) sys sy1 λr4 H4 s4 e4=>?_;have o4:=up1;have sz1:=(bs.sk D1 bD).ne;have wz1:=(o1.sk Dk1 bDk).ne;have htb:=L3 (b:=cc.b) (z:=ww) (s:=ss) (t:=w1) hnb sz1 wz1;generalize tkS ss w1=w4 at *
  exists zB (!1) λl5 H5 f5 s5 e5=>?_;have en4:=s4 _ _ en;have en5:=s5 _ _ en4;have nl5:nl≠l5:=zb en4 f5;have s35:=(s3.trans s4).trans s5;have s25:=s2.trans s35;have hp5:=s35 _ _ hp2;have A5:=At0.same s25;obtain ⟨N',E',nn1,ndv,nb1,oall,hcase⟩:∃ N' E':Int,(1<=N'/\1<=E')/\(∃ ka kb:Int,N'=Nw*ka/\E'=Eh*kb/\1<=ka/\1<=kb/\Bd 10 ka/\Bd 10 kb/\Bd 10 (ka*kb))/\(Bd (K'+10) N'/\Bd (K'+10) E')/\(∀ b,WnB d Nw Eh kx kh b->WnB d N' E' (kx+11) (kh+11) b)/\((m2 % 2=0/\D*k=N'/\ww=true/\Kk=kx)\/(m2 % 2=1/\D*k=E'/\ww=false/\Kk=kh)):=by
    rcases hDc with ⟨z,rfl,y1,y2⟩|⟨z,rfl,y1,y2⟩
    . exact ⟨D*k,Eh,⟨Dk1,E1'⟩,⟨k,1,rfl,(cH _).symm,k1,by decide,bk,HF,by rw [cH]; exact bk⟩,⟨bDk,bE.mono (!2)⟩,λb hb=>⟨(hb.1.scale k).mono (!2),hb.2.mono (!2)⟩,.inl ⟨z,rfl,y1,y2⟩⟩
    . exact ⟨Nw,D*k,⟨N1,Dk1⟩,⟨1,k,(cH _).symm,rfl,by decide,k1,HF,bk,by rw [cY]; exact bk⟩,⟨bN.mono (!2),bDk⟩,λb hb=>⟨hb.1.mono (!2),(hb.2.scale bk).mono (!2)⟩,.inr ⟨z,rfl,y1,y2⟩⟩
  have obk:=oall cc.b ob0;refine ⟨l5,rfl,⟨_,SqL.of e5⟩,zJ (K:=K) (a:=l5) (xs:=[.ref r1,.ref r4]) (λi σ H'=>E3 λ(v10 v11:Option V) (N:List Cell)=>A7 (σ=[vR p,vI c,vI d,vI (j:Int),vI (m2 % 2),vI (2+m3 % 3),vR r1,v7,v8,vR nl,v10,v11]) (SameX nl H5 H') (H' nl=some (.lst (N.map Cell.v))) (N.map Cell.b=([w1,w4].take i).map (nbB ww cc.b)) (N.length=i) ((∀ x∈N,x.At H')) (∀ x∈N,WnB d N' E' (kx+11) (kh+11) x.b)) ⟨_,_,[],rfl,λb o e _=>e,en5,rfl,rfl,λx hx=>absurd hx (!1),λx hx=>absurd hx (!1)⟩ (λi σ H' _ z=>by obtain ⟨_,_,_,_,sx,_⟩:=z; exact SqL.of (sx _ _ e5 (ck nl5))) ?_ ?_⟩
  . rintro i x σ H' hi ⟨v10,v11,N,rfl,sx,enl,hNb,hN,hAt,hSb⟩;have hi2:i<2:=(af.mp hi).1;obtain ⟨rx,wx,rfl,hwx,ex,ox⟩:∃ (rx:Addr) (wx:Sd),x=.ref rx/\[w1,w4][i]?=some wx/\SdAt H' rx wx/\PcS ww d (D*k) (Kk+11) wx:=by
      match i,hi with
      | 0,hi=>exact ⟨r1,w1,(aq hi).symm,rfl,sx.tup (s35 _ _ e1) en5,o1⟩
      | 1,hi=>exact ⟨r4,w4,(aq hi).symm,rfl,sx.tup (s5 _ _ e4) en5,o4⟩
      | j+2,hi=>simp at hi
    have hpl:=sx _ _ hp5 np;obtain ⟨ht,hw,hh⟩:=A5.sameX sx en5;exists xr hpl g ?_;exists xr hpl g ?_;exists zB (!1) λbl H6 f6 s6 e6=>?_;exists AN ?_;exists AG e6 (!2) (by simp only [ax,aK]; lia) λH7 sx7 e7=>?_;obtain ⟨pw,ph,bo,ebl,ew,eh,ebo,ow⟩:∃ (pw ph:Addr) (bo:Bo),H7 bl=some (.lst [.ref pw,.ref ph])/\SdAt H6 pw bo.w/\SdAt H6 ph bo.h/\bo=nbB ww cc.b wx/\WnB d N' E' (kx+11) (kh+11) bo:=by
      rcases hcase with ⟨h2,hk,y1,y2⟩|⟨h2,hk,y1,y2⟩
      . rw [h2] at e7;exact ⟨rx,cc.ph,⟨wx,cc.b.h⟩,e7,s6 _ _ ex,s6 _ _ hh,by subst y1; rfl,by subst y1 y2 hk; exact ox,obk.2⟩
      . rw [h2] at e7;exact ⟨cc.pw,rx,⟨cc.b.w,wx⟩,e7,s6 _ _ hw,s6 _ _ ex,by subst y1; rfl,obk.1,by subst y1 y2 hk; exact ox⟩
    have enl7:=sx7 _ _ (s6 _ _ enl) (zb enl f6);exists HA ebl λtp H8 s8 e8=>?_;have enl8:=s8 _ _ enl7;exists zr enl8 (by rw [aa]; lia) λH9 sx9 e9=>?_;exists ⟨_,_,N++[⟨tp,pw,ph,bo⟩],rfl,λy o e ny=>sx9 _ _ (s8 _ _ (sx7 _ _ (s6 _ _ (sx _ _ e ny)) (zb (sx _ _ e ny) f6))) ny,by rw [ah]; exact e9,by rw [ah,hNb,dW,hwx,ah]; show _++[bo]=_; rw [ebo]; rfl,by rw [ai,hN]; rfl,λy hy=>?_,λy hy=>?_⟩
    . rcases aE.mp hy with hy | hy
      . exact ((((hAt y hy).same s6).sameX sx7 e6).same s8).sameX sx9 enl8
      . have hy:y=⟨tp,pw,ph,bo⟩:=by simpa using hy
        subst hy;exact Cell.At.sameX ⟨e8,s8 _ _ (sx7.tup ew e6),s8 _ _ (sx7.tup eh e6)⟩ sx9 enl8
    . rcases aE.mp hy with hy | hy
      . exact hSb y hy
      . have hy:y=⟨tp,pw,ph,bo⟩:=by simpa using hy
        subst hy;exact ow
  . rintro σ H' ⟨v10,v11,N,rfl,sx,enl,hNb,hN,hAt,hSb⟩;have hN2:N.length=2:=hN;have hNb:N.map Cell.b=[nbB ww cc.b w1,nbB ww cc.b w4]:=hNb;have hpl:=sx _ _ hp5 np;have sH':Same H H':=λy o e=>sx _ _ (s25 _ _ e) (zb (s2 _ _ e) fn);clear sx hN;exists Cn (k:=j) hpl λq1 G1 z1 y1=>?_;rw [<-dS] at y1;walk_at "r";rw [show (j:Int)+1=((j+1:Nat):Int) from rfl];refine HN (i:=j+1) (z1 _ _ hpl) λq2 G2 z2 y2=>?_;rw [<-fG] at y2;exists Ep (z2 _ _ y1) y2 (by simp only [aa,az,cQ]; lia) λq3 G3 z3 y3=>?_;have z13:=(z1.trans z2).trans z3;exists HH y3 (z13 _ _ enl) (by simp only [ai,aa,az,cQ]; lia) λq4 G4 n4 z4 y4=>?_;have z14:=z13.trans z4;walk_at "r";have hsub:∀ x∈L.take j++L.drop (j+1),x∈L:=λx hx=>(aE.mp hx).elim aW fF;refine q q4 G4 (L.take j++L.drop (j+1)++N) N' E' (sH'.trans z14) (Same.nn (sH'.trans z13) n4) (by rw [ah,ah]; exact y4) (λy hy=>?_) nn1 ndv nb1 (λy hy=>?_) ?_ (by rw [ah,ah,hNb]; exact Ix hjc htb)
    . rcases aE.mp hy with hy | hy
      . exact ((hA y (hsub y hy)).same sH').same z14
      . exact (hAt y hy).same z14
    . rcases aE.mp hy with hy | hy
      . exact oall _ (ob y (hsub y hy))
      . exact hSb y hy
    . simp only [ai,az,cQ]
      lia
theorem K53(F:Fun K "next_base" "next_base" S13 f fd)(B:Bl mg)(o11x:O11x P w K mg base)(o8x:O8x P w K mg base):FnOk P w K mg base CX0 4 f fd ["d","base"] P54:=by
  refine F.okA C55 λcdv A outer s H vs Q E hr h=>?_;obtain @⟨d,p,r1,r2,s,N,rfl,⟨h0,h1,h2⟩,hR,hN,hb,g,q⟩:=h;refine ⟨_,(za (ps_s 2 C55.nd (pit 1)) (za (ps_s 3 C55.nd (pit 1)) (za (zw (yY (ze o11x hr rfl (pa3 (pv 0) (pv 3) (pv 2)))) (zd (zh (zq (pa2 (ze o8x hr rfl (pa2 (pv 2) (pv 3))) (pv 3))))) zo) (zd (zh (zq (pa2 (pv 2) (ze o8x hr rfl (pa2 (pv 3) (pv 2)))))))))),?_⟩;walk_at "s";have n0:N≠0:=by lia
  have dlo:=hR.lo;have dhi:=hR.hi;have hd:Bd 64 d:=zG (B:=99) (!2) hR.hi (!3);have k1:Bd 900 (lA s.a s.b N):=g.ba.fdiv _;have k2:Bd 900 (lB s.a s.b N):=g.bb.fdiv _;have k3:Bd 900 (lN s.a s.b N):=hb.fdiv _;have k4:Bd 900 (lA s.c s.e N):=g.bc.fdiv _;have k5:Bd 900 (lB s.c s.e N):=g.be.fdiv _;have k6:Bd 900 (lN s.c s.e N):=hb.fdiv _;exists BB (K:=K) (SqT.of h2) h1 hd (k4.mono ⋯) (k5.mono ⋯) (k6.mono ⋯) (k1.mono ⋯) (k2.mono ⋯) (k3.mono ⋯) ?_;rw [F9 hR hN];exists if_d (λc=>?_) (λc=>?_)
  . have e:s.nx d=⟨s.a - s.c,s.b - s.e,s.c,s.e⟩:=io c;rw [e] at q;exists A2 h1 h2 (l_n n0) (l_n n0) (xq n0) (xq n0) (k1.mono ⋯) (k2.mono ⋯) (k3.mono ⋯) (k4.mono ⋯) (k5.mono ⋯) (k6.mono ⋯) λr H1 s1 e1=>?_;obtain ⟨t1,t2,t3⟩:=Cd (a:=s.a) (b:=s.b) (c:=s.c) (e:=s.e) hN;rw [vo,vo,t1,t2,t3] at e1;walk_at "r";exact zt (!1) λp' H' s' e'=>q p' r r2 H' (s1.trans s') ⟨e',s' _ _ e1,s' _ _ (s1 _ _ h2)⟩
  . have e:s.nx d=⟨s.a,s.b,s.c - s.a,s.e - s.b⟩:=ip c;rw [e] at q;exists A2 h2 h1 (l_n n0) (l_n n0) (xq n0) (xq n0) (k4.mono ⋯) (k5.mono ⋯) (k6.mono ⋯) (k1.mono ⋯) (k2.mono ⋯) (k3.mono ⋯) λr H1 s1 e1=>?_;obtain ⟨t1,t2,t3⟩:=Cd (a:=s.c) (b:=s.e) (c:=s.a) (e:=s.b) hN;rw [vo,vo,t1,t2,t3] at e1;walk_at "r";exact zt (!1) λp' H' s' e'=>q p' r1 r H' (s1.trans s') ⟨e',s' _ _ (s1 _ _ h1),s' _ _ e1⟩
theorem K54(F:Fun K "times_over" "times_over" S18 f fd)(B:Bl mg)(o9x:Own P w K mg base 3 "timed" ["d","one","other"] [] P43):FnOk P w K mg base CX0 4 f fd ["d","many","one"] P55:=by
  refine F.okA C56 λcdv A outer s H vs Q E hr h=>?_;obtain @⟨d,m,p,s,rfl,h1,hd,hm,ok,q⟩:=h;refine ⟨_,(zd (zh (ze o9x hr rfl (pa3 (pv 0) (zq (pa3 (pv 1) zc zc)) (pv 2))))),?_⟩;walk_at "s";have z1:=ok.z1;exists zt (!1) λp1 H1 s1 e1=>?_;exists IL e1 (s1 _ _ h1) hd (hm.mono ⋯) (!3) (!3) (ok.bx.mono ⋯) (ok.by'.mono ⋯) (ok.bz.mono ⋯) ⋯ (!2) λr H2 s2 e2=>?_;rw [show m*s.x+d*0*s.y=m*s.x by rw [bU,bL,cg],show m*s.y+0*s.x=m*s.y by rw [bL,cg],cY] at e2;exact q r H2 (s1.trans s2) e2
theorem K55(F:Fun K "is_deed" "is_deed" S24 f fd)(B:Bl mg)(g_CUTS:TopT K mg "CUTS" [.str "across",.str "along"])(g_SHIFTS:TopT K mg "SHIFTS" [.str "stack",.str "spread"])(g_GLUINGS:TopT K mg "GLUINGS" [.str "beside",.str "atop"])(g_TURN:TopS mg "TURN" (Str.ofString "turn"))(o22x:Own P w K mg base 3 "is_length" ["thing"] [] P45)(o0x:O0x P w K mg base):FnOk P w K mg base CX0 4 f fd ["thing"] P56:=by
  obtain ⟨a_CUTS,m_CUTS,q_CUTS⟩:=g_CUTS;obtain ⟨a_SHIFTS,m_SHIFTS,q_SHIFTS⟩:=g_SHIFTS;obtain ⟨a_GLUINGS,m_GLUINGS,q_GLUINGS⟩:=g_GLUINGS;obtain ⟨u_TURN,m_TURN,r_TURN⟩:=g_TURN;refine F.okA C57 λcdv A outer s H vs Q E hr h=>?_;obtain @⟨p,e,rfl,he,ok,q⟩:=h;refine ⟨_,(za (zw (PW.pt (vx (xZ (yY (zp yM rfl B.isinstance yj (pa2 (pv 0) (vX (v:=.ty "tuple") rfl B.tuple vf rfl))))) (vx (zg ue (zp zx rfl B.len bI (pa1 (pv 0))) zc (zm _)) (xN (xZ (yY (zp yM rfl B.isinstance yj (pa2 (pit 0) (vX (v:=.ty "str") rfl B.str Ks rfl))))))))) (zd (zh wP)) zo) (za (zw (zg zW (zp zx rfl B.len bI (pa1 (pv 0))) zc (zm _)) (zd (zh (yp zW (pit 0) (yk (v:=.str (Str.ofString "turn")) rfl m_TURN r_TURN) (zm _)))) zo) (za (zw (zg vZ (zp zx rfl B.len bI (pa1 (pv 0))) zc (zm _)) (zd (zh wP)) zo) (za (zw (zg xb (pit 0) (yk (v:=.ref a_CUTS) rfl m_CUTS rfl) (by with_unfolding_all rfl)) (zd (zh (ze o22x hr rfl (pa1 (pit 0))))) zo) (za (zw (zg xb (pit 0) (yk (v:=.ref a_SHIFTS) rfl m_SHIFTS rfl) (by with_unfolding_all rfl)) (zd (zh (Hx (ze o0x hr rfl (pa1 (pit 0))) (BU (yp DP (pit 0) zc (zm _)))))) zo) (zd (zh (yp xb (pit 0) (yk (v:=.ref a_GLUINGS) rfl m_GLUINGS rfl) (by with_unfolding_all rfl))))))))),?_⟩;walk_at "s";cases e with
  | cut al n s =>
    obtain ⟨pq,h0,hs⟩:=he;cases al
    all_goals
      simp [DdAt,Dd.wd] at h0;exists if_d (λc=>absurd c (!1)) (λ_=>?_);exists if_d (λc=>absurd c (!1)) (λ_=>?_);exists Dg (!1) ?_;exists ⟨_,_,rfl,.inr (q_CUTS H),rfl,rfl,?_⟩;rw [show (if false=true then !inV _ _ else inV _ _)=true from by decide +kernel];walk_at "r";exact BJ rfl hs ok λH' s1=>q H' s1
  | glue al n m =>
    have h0:=he;cases al
    all_goals
      simp [DdAt,Dd.wd] at h0;exists if_d (λc=>absurd c (!1)) (λ_=>?_);exists if_d (λc=>absurd c (!1)) (λ_=>?_);exists Dg (!1) ?_;exists ⟨_,_,rfl,.inr (q_CUTS H),rfl,rfl,?_⟩;rw [show (if false=true then !inV _ _ else inV _ _)=false from by decide +kernel];exists ⟨_,_,rfl,.inr (q_SHIFTS H),rfl,rfl,?_⟩;rw [show (if false=true then !inV _ _ else inV _ _)=false from by decide +kernel];exists ⟨_,_,rfl,.inr (q_GLUINGS H),rfl,rfl,?_⟩;rw [show (if false=true then !inV _ _ else inV _ _)=true from by decide +kernel];walk_at "r";exact q H (Same.refl H)
  | shift al n k =>
    have h0:=he;cases al
    all_goals
      simp [DdAt,Dd.wd] at h0;exists if_d (λc=>absurd c (!1)) (λ_=>?_);exists if_d (λc=>absurd c (!1)) (λ_=>?_);exists Dg (!1) ?_;exists ⟨_,_,rfl,.inr (q_CUTS H),rfl,rfl,?_⟩;rw [show (if false=true then !inV _ _ else inV _ _)=false from by decide +kernel];exists ⟨_,_,rfl,.inr (q_SHIFTS H),rfl,rfl,?_⟩;rw [show (if false=true then !inV _ _ else inV _ _)=true from by decide +kernel];walk_at "r";exact bl_q (iH ok.1) (q H (Same.refl H))
  | turn n =>
    have h0:=he;have h0:H p=some (.tup [.str (Str.ofString "turn"),.int n]):=h0;exists if_d (λc=>absurd c (!1)) (λ_=>?_);exists if_d (λ_=>?_) (λc=>absurd (!1) c);walk_at "r";exact bl_q (!3) (q H (Same.refl H))
theorem K56(F:Fun K "cut_across" "cut_across" S28 f fd)(B:Bl mg)(g_NOUGHT:TopT K mg "NOUGHT" [.int 0,.int 0,.int 1])(o11x:O11x P w K mg base)(o8x:O8x P w K mg base):FnOk P w K mg base CX0 4 f fd ["d","one","at"] P57:=by
  obtain ⟨a_NOUGHT,m_NOUGHT,q_NOUGHT⟩:=g_NOUGHT;refine F.okA C58 λcdv A outer s H vs Q E hr h=>?_;obtain @⟨d,c,p,s,rfl,hc,hs,hd,okw,oks,up,un,q⟩:=h;refine ⟨_,(za (zw (xZ (PW.pt (yQ (yY (ze o11x hr rfl (pa3 (pv 0) (yk (v:=.ref a_NOUGHT) rfl m_NOUGHT rfl) (pv 2)))) (yw (yY (ze o11x hr rfl (pa3 (pv 0) (pv 2) (pit 1)))))))) (zd yV) zo) (zd (zh (zI (pa2 (zq (pa2 (pv 2) (pit 1))) (zq (pa2 (ze o8x hr rfl (pa2 (pit 1) (pv 2))) (pit 1)))))))),?_⟩;walk_at "s";have ct:=hc.t;have cw:=hc.w;have hs':H p=some (.tup [.int s.x,.int s.y,.int s.z]):=hs;have cw':H c.pw=some (.tup [.int c.b.w.x,.int c.b.w.y,.int c.b.w.z]):=cw;exists BB (q_NOUGHT H) hs' hd (!3) (!3) (!3) (oks.bx.mono ⋯) (oks.by'.mono ⋯) (oks.bz.mono ⋯) ?_;rw [show decide (0<sgn d (s.x*1 - 0*s.z) (s.y*1 - 0*s.z))=true from iH (by simpa only [cH,bL,Int.sub_zero] using up)];exists BB (SqT.of hs') cw' hd (oks.bx.mono ⋯) (oks.by'.mono ⋯) (oks.bz.mono ⋯) (okw.bx.mono ⋯) (okw.by'.mono ⋯) (okw.bz.mono ⋯) ?_;rw [show decide (0<sgn d (c.b.w.x*s.z - s.x*c.b.w.z) (c.b.w.y*s.z - s.y*c.b.w.z))=true from iH un];exists zK (!1) λr1 H1 hr1 s1 e1=>?_;have ct1:=s1 _ _ ct;exists A2 (s1 _ _ cw') (s1 _ _ hs') okw.z1 oks.z1 okw.g oks.g (okw.bx.mono ⋯) (okw.by'.mono ⋯) (okw.bz.mono ⋯) (oks.bx.mono ⋯) (oks.by'.mono ⋯) (oks.bz.mono ⋯) λr2 H2 s2 e2=>?_;have ct2:=s2 _ _ ct1;exists zK (!1) λr3 H3 hr3 s3 e3=>?_;exists zB (!1) λr H4 hr s4 e4=>?_;have t4:=((s1.trans s2).trans s3).trans s4;exact q r ⟨r1,p,c.ph,⟨s,c.b.h⟩⟩ ⟨r3,r2,c.ph,⟨tkS c.b.w s,c.b.h⟩⟩ H4 t4 (Same.nn ((s1.trans s2).trans s3) hr) e4 ⟨s4 _ _ (s3 _ _ (s2 _ _ e1)),t4 _ _ hs,t4 _ _ hc.h⟩ ⟨s4 _ _ e3,s4 _ _ (s3 _ _ e2),t4 _ _ hc.h⟩ rfl rfl
theorem K57(F:Fun K "board_table" "board_table" S43 f fd)(B:Bl mg)(o5x:O5x P w K mg base)(o39x:O39x P w K mg base):FnOk P w K mg base CX0 4 f fd ["one"] P58:=by
  refine F.okA C59 λcdv A outer s H vs Q E hr h=>?_;obtain @⟨c,rfl,⟨ht,hw,hh⟩,⟨ow,oh⟩,q⟩:=h;refine ⟨_,(za (ps_s 1 C59.nd (ze o5x hr rfl (pa1 (pit 0)))) (za (ps_s 2 C59.nd (ze o5x hr rfl (pa1 (pit 0)))) (zd (zh (zq (pa2 (zq (pa2 (ze o39x hr rfl (pa2 (pit 1) (pit 2))) (ze o39x hr rfl (pa2 (pit 1) (pit 2))))) (zq (pa2 (ze o39x hr rfl (pa2 (pit 1) (pit 2))) (ze o39x hr rfl (pa2 (pit 1) (pit 2))))))))))),?_⟩;walk_at "s";exists A9 rfl hw ow.nz (ow.bz.mono ⋯) λa0 a1 a2 H1 s1 ea ea1 ea2=>?_;have ea1:=AJ ow.nz ea1;have ea2:=AJ ow.nz ea2;have ht:=s1 _ _ ht;have hh:=s1 _ _ hh;exists A9 rfl hh oh.nz (oh.bz.mono ⋯) λb0 b1 b2 H2 s2 eb eb1 eb2=>?_;have eb1:=AJ oh.nz eb1;have eb2:=AJ oh.nz eb2;have ea:=s2 _ _ ea;have ea1:=s2 _ _ ea1;have ea2:=s2 _ _ ea2;exists vt ea1 eb1 ow.p8 oh.p8 λt0 H3 s3 et0=>?_;have ea:=s3 _ _ ea;have eb:=s3 _ _ eb;have ea1:=s3 _ _ ea1;have ea2:=s3 _ _ ea2;have eb1:=s3 _ _ eb1;have eb2:=s3 _ _ eb2;exists vt ea1 eb2 ow.p8 oh.q8 λt1 H4 s4 et1=>?_;have ea:=s4 _ _ ea;have eb:=s4 _ _ eb;have ea1:=s4 _ _ ea1;have ea2:=s4 _ _ ea2;have eb1:=s4 _ _ eb1;have eb2:=s4 _ _ eb2;have et0:=s4 _ _ et0;exists zt (!1) λr0 G0 z0 er0=>?_;have ea:=z0 _ _ ea;have eb:=z0 _ _ eb;have ea1:=z0 _ _ ea1;have ea2:=z0 _ _ ea2;have eb1:=z0 _ _ eb1;have eb2:=z0 _ _ eb2;have et0:=z0 _ _ et0;have et1:=z0 _ _ et1;exists vt ea2 eb1 ow.q8 oh.p8 λt2 H5 s5 et2=>?_;have ea:=s5 _ _ ea;have eb:=s5 _ _ eb;have ea1:=s5 _ _ ea1;have ea2:=s5 _ _ ea2;have eb1:=s5 _ _ eb1;have eb2:=s5 _ _ eb2;have et0:=s5 _ _ et0;have et1:=s5 _ _ et1;have er0:=s5 _ _ er0;exists vt ea2 eb2 ow.q8 oh.q8 λt3 H6 s6 et3=>?_;have ea:=s6 _ _ ea;have eb:=s6 _ _ eb;have ea1:=s6 _ _ ea1;have ea2:=s6 _ _ ea2;have eb1:=s6 _ _ eb1;have eb2:=s6 _ _ eb2;have et0:=s6 _ _ et0;have et1:=s6 _ _ et1;have et2:=s6 _ _ et2;have er0:=s6 _ _ er0;exists zt (!1) λr1 G1 z1 er1=>?_;have ea:=z1 _ _ ea;have eb:=z1 _ _ eb;have ea1:=z1 _ _ ea1;have ea2:=z1 _ _ ea2;have eb1:=z1 _ _ eb1;have eb2:=z1 _ _ eb2;have et0:=z1 _ _ et0;have et1:=z1 _ _ et1;have et2:=z1 _ _ et2;have et3:=z1 _ _ et3;have er0:=z1 _ _ er0;exists zt (!1) λr G z er=>?_;exact q r G ((((((((s1.trans s2).trans s3).trans s4).trans z0).trans s5).trans s6).trans z1).trans z) ⟨r0,r1,t0,t1,t2,t3,er,z _ _ er0,z _ _ er1,z _ _ et0,z _ _ et1,z _ _ et2,z _ _ et3⟩
theorem K58(F:Fun K "height_by" "height_by" S51 f fd)(B:Bl mg)(o5x:O5x P w K mg base)(o6x:O6x P w K mg base)(o40x:Own P w K mg base 3 "by" ["one","other"] [] P49):FnOk P w K mg base CX0 4 f fd ["whole","width"] P59:=by
  refine F.okA C60 λcdv A outer s H vs Q E hr h=>?_;obtain @⟨pt,pw,t,w,rfl,ht,hw,wz,bw,bt,nz,q⟩:=h;refine ⟨_,(za (ps_s 2 C60.nd (ze o5x hr rfl (pa1 (pv 1)))) (za (ps_s 3 C60.nd (xj (zg vZ (pe_i ix_tup (pit 2) zc) zc (zm _)) zc zc)) (zd (zh (ze o6x hr rfl (pa2 (ze o40x hr rfl (pa2 (pe_i ix_tup (pe_i ix_tup (pv 0) (pv 3)) zc) (pe_i ix_tup (pv 2) (pv 3)))) (ze o40x hr rfl (pa2 (pe_i ix_tup (pe_i ix_tup (pv 0) (pv 3)) zc) (pe_i ix_tup (pv 2) (pv 3)))))))))),?_⟩;walk_at "s";obtain ⟨r0,r1,f0,f1,f2,f3,⟨hp,h0,h1,g0,g1,g2,g3'⟩⟩:=ht;have hw':H pw=some (.tup [.int w.x,.int w.y,.int w.z]):=hw;obtain ⟨bx,bY,bz⟩:=bw;exists A9 rfl hw' wz (bz.mono ⋯) λm m1 m2 H1 s1 e1 k1 k2=>?_;have k1:Fq H1 m1 w.p:=AJ wz k1;have k2:Fq H1 m2 w.q:=AJ wz k2;have bp:Bq 1900 w.p:=va wz bx bz;have bq:Bq 1900 w.q:=va wz bY bz;have k1':H1 m1=some (.tup [.int w.p.num,.int (w.p.den:Int)]):=k1;have hp:=s1 _ _ hp;have h0:=s1 _ _ h0;have h1:=s1 _ _ h1;have g0:Fq H1 f0 t.a:=s1 _ _ g0;have g1:Fq H1 f1 t.b:=s1 _ _ g1;have g2:Fq H1 f2 t.c:=s1 _ _ g2;have g3':Fq H1 f3 t.e:=s1 _ _ g3';exists ui (λc=>?_) (λc=>?_)
  . exists c_by g0 k1 (bt.a.bq ⋯ ⋯) (bp.mono ⋯) c λy1 J1 u1 l1=>?_;have g1:Fq J1 f1 t.b:=u1 _ _ g1;have k1:Fq J1 m1 w.p:=u1 _ _ k1;have hp:=u1 _ _ hp;have h0:=u1 _ _ h0;have e1:=u1 _ _ e1;exists c_by g1 k1 (bt.b.bq ⋯ ⋯) (bp.mono ⋯) c λy2 J2 u2 l2=>?_;have l1:Fq J2 y1 (t.a*w.p⁻¹):=u2 _ _ l1;have b1:Bq 3800 (t.a*w.p⁻¹):=Bq.mul (bt.a.bq (ag _) (ag _)) (bp.inv c);have b2:Bq 3800 (t.b*w.p⁻¹):=Bq.mul (bt.b.bq (ag _) (ag _)) (bp.inv c);have eh:hbS t w=pqS (t.a*w.p⁻¹) (t.b*w.p⁻¹):=io c;rw [eh] at q;generalize t.a*w.p⁻¹=X at *
    generalize t.b*w.p⁻¹=Y at *
    exists xE l1 l2 (den1 X) (den1 Y) (xB X) (xB Y) (b1.1.mono ⋯) (b1.2.mono ⋯) (b2.1.mono ⋯) (b2.2.mono ⋯) λr3 J3 u3 l3=>?_;exact q r3 J3 (((s1.trans u1).trans u2).trans u3) l3
  . have c2:w.q.num≠0:=nz.resolve_left (λz=>z c);exists c_by g2 k2 (bt.c.bq ⋯ ⋯) (bq.mono ⋯) c2 λy1 J1 u1 l1=>?_;have g1:Fq J1 f3 t.e:=u1 _ _ g3';have k1:Fq J1 m2 w.q:=u1 _ _ k2;have hp:=u1 _ _ hp;have h1:=u1 _ _ h1;have e1:=u1 _ _ e1;exists c_by g1 k1 (bt.e.bq ⋯ ⋯) (bq.mono ⋯) c2 λy2 J2 u2 l2=>?_;have l1:Fq J2 y1 (t.c*w.q⁻¹):=u2 _ _ l1;have b1:Bq 3800 (t.c*w.q⁻¹):=Bq.mul (bt.c.bq (ag _) (ag _)) (bq.inv c2);have b2:Bq 3800 (t.e*w.q⁻¹):=Bq.mul (bt.e.bq (ag _) (ag _)) (bq.inv c2);have eh:hbS t w=pqS (t.c*w.q⁻¹) (t.e*w.q⁻¹):=ip (λz=>z c);rw [eh] at q;generalize t.c*w.q⁻¹=X at *
    generalize t.e*w.q⁻¹=Y at *
    exists xE l1 l2 (den1 X) (den1 Y) (xB X) (xB Y) (b1.1.mono ⋯) (b1.2.mono ⋯) (b2.1.mono ⋯) (b2.2.mono ⋯) λr3 J3 u3 l3=>?_;exact q r3 J3 (((s1.trans u1).trans u2).trans u3) l3
theorem K59(F:Fun K "_law_heap_of" "_law_heap_of" S65 f fd)(B:Bl mg)(o63x:O63x P w K mg base)(o52x:O52x P w K mg base)(o57x:O57x P w K mg base):FnOk P w K mg base CX0 4 f fd ["_law_script","_law_most","_law_d"] (P60 K):=by
  refine F.okA C61 λcdv A outer s H vs Q E hr h=>?_;obtain @⟨a,ns,mo,d,rfl,hS,hn,hm,hR,q⟩:=h;refine ⟨_,(za (ps_s 3 C61.nd (z5 yG (zf vz (z5 yG (pv 0) (yc zc) (yc (zf zv zc (pv 1)))) (zI (pa1 zc))) yL (yc (pv 1)))) (za (ps_s 4 C61.nd (zf zv zc (zf zO (ze o52x hr rfl (pa2 (zp (xf rfl) rfl B.sum uI (pa1 (z5 yG (pv 0) yL (yc zc)))) zc)) (zp zx rfl B.len bI (pa1 (pv 3)))))) (za (FE (i:=5) C61.nd rfl rfl ["_law_cell"] [2] rfl (zA (z5 yG (pv 3) yL (yc (pv 4)))) (λ_ _ _ _ _=>(pg_n 0 (show List.Nodup (α:=Str) ["_law_cell","_law_d"] by decide +kernel))) (λ_ _ _ _ _=>zL) (λ_ _ _ _ _=>(zq (pa2 (ze o57x hr rfl (pa3 (pv 0) zc (pv 1))) (ze o57x hr rfl (pa3 (pv 0) zc (pv 1))))))) (za (xp (zw (zg xM (zf zO (ze o52x hr rfl (pa2 (zp (xf rfl) rfl B.sum uI (pa1 (z5 yG (pv 0) yL (yc zc)))) zc)) zc) zc (zm _)) (zd (ps_s 5 C61.nd (z5 yG (pv 5) yL (yc (zf zv zc (zf zO (ze o52x hr rfl (pa2 (zp (xf rfl) rfl B.sum uI (pa1 (z5 yG (pv 0) yL (yc zc)))) zc)) zc)))))) zo)) (za (zH PassesOwn.never rfl (zA (z5 yG (pv 3) (yc (pv 4)) yL)) (pg_n 6 C61.nd) (zd (ps_s 5 C61.nd (ze o63x hr rfl (pa3 (pv 5) (pv 6) (pv 2)))))) (zd (zh (pv 5)))))))),?_⟩;walk_at "s";obtain ⟨mo1,mo16⟩:=hm;exists DQ hS λp1 H1 ms _ hl1 s1 e1=>?_;exists wa (!1) λp2 H2 s2 e2=>?_;refine Ep (s2 _ _ e1) e2 (by simp only [aa,ax,aK]; lia) λp3 H3 s3 e3=>?_;exists Cn (k:=mo) e3 λp4 H4 s4 e4=>?_;obtain ⟨cs,ecs,cs1,csm⟩:∃ cs:List Int,H4 p4=some (.lst (cs.map V.int))/\1<=cs.length/\cs.length<=mo:=⟨(ms++[5]).take mo,by rw [e4,dS,ah]; rfl,by rw [az,ai]; simp only [ax,aK]; lia,by rw [az]; lia⟩
  have s04:=(s1.trans s2).trans (s3.trans s4);have hS4:=s04.seq hS;clear e1 e2 e3 e4 s1 s2 s3 s4;exists DQ hS4 λp5 H5 ms5 _ _ s5 e5=>?_;exists CV (SqL.of e5) ?_;exists zu rfl (!2) (!2) λm9 m90 m91=>?_;have ecs5:=s5 _ _ ecs;have hS5:=s5.seq hS4;have s05:=s04.trans s5;clear e5 ecs hS4 s04 s5;have hpv:(0:Int)<((cs.map V.int).length:Int):=by rw [aa]; lia
  walk_at "r";rw [aa];obtain ⟨j,ej⟩:∃ j:Nat,1+m9 % (cs.length:Int)=(j:Int):=⟨(1+m9 % (cs.length:Int)).toNat,by have:=bJ m9 (show (cs.length:Int)≠0 by lia); lia⟩
  have hj:1<=j/\j<=cs.length:=by
    have h1:=bJ m9 (show (cs.length:Int)≠0 by lia);have h2:=bS m9 (show 0<(cs.length:Int) by lia)
    lia
  rw [ej];clear ej;exists xv ?_;exists Cn (k:=j) ecs5 λp6 H6 s6 e6=>?_;rw [<-dS] at e6;have tl:(cs.take j).length=j:=by rw [az]; lia
  refine ⟨p6,rfl,⟨_,SqL.of e6⟩,λO hO=>yE (K:=K) (a:=p6) (ys:=(cs.take j).map V.int) (λi xs σ' H'=>E4 λ(v:Option V) (L:List Cell) (Nw Eh:Int)=>A10 (σ'=[v,vI d]) (xs=L.map Cell.v) (L.length=i) (H' O=some (.lst xs)) (SameX O H6 H') ((∀ x∈L,x.At H')) ((1<=Nw/\1<=Eh)) ((Bd (10*i+1) Nw/\Bd (10*i+1) Eh)) ((∀ x∈L,BoE d Nw Eh (11*i+20) x.b)) (∀ x∈L,Wn d Nw (11*i+20) x.b.w)) ⟨none,[],1,1,rfl,rfl,rfl,zj,λb o e n=>by rw [zn n]; exact e,λx hx=>absurd hx (!1),by decide,by decide,λx hx=>absurd hx (!1),λx hx=>absurd hx (!1)⟩ (λi xs σ' H' _ z=>by obtain ⟨_,_,_,_,_,_,_,_,z,_⟩:=z; exact SqL.of (z _ _ e6 (zb e6 hO))) ?_ ?_⟩
  . rintro i x xs σ' H' hi ⟨v,L,Nw,Eh,rfl,rfl,hLi,eO,sx,hAL,⟨N1,E1'⟩,⟨bN,bE⟩,oL,wL⟩;have hi':=(af.mp hi).1;rw [aj] at hi;obtain ⟨c,hc,rfl⟩:=av.mp hi;exists xY rfl ⋯ hR λr2 H2 w2 s2 e2 o2 x2 z2=>?_;exists xY rfl ⋯ hR λr3 H3 w3 s3 e3 o3 x3 z3=>?_;exists zt (!1) λt4 H4 s4 e4=>?_;have so2:So d w2.z 30 w2:=⟨o2.z1,o2.g,o2.up,w2.x,w2.y,o2.bx,o2.by',rfl,rfl⟩
    have so3:So d w3.z 30 w3:=⟨o3.z1,o3.g,o3.up,w3.x,w3.y,o3.bx,o3.by',rfl,rfl⟩
    have st:=(s2.trans s3).trans s4;have eO4:=st _ _ eO;have lj:L.length<16:=by rw [aa,tl] at hi'; lia
    exists zr eO4 (by rw [aa]; lia) λH5 sx5 e5=>?_;have k2:1<=w2.z:=o2.z1;have k3:1<=w3.z:=o3.z1;refine xm hi' ⟨_,L++[⟨t4,r2,r3,⟨w2,w3⟩⟩],Nw*w2.z,Eh*w3.z,rfl,by rw [ah]; rfl,by rw [ai,hLi]; rfl,e5,(sx.trans (st.sameX O)).trans sx5,λy hy=>?_,⟨aI (!2) (!2),aI (!2) (!2)⟩,⟨(bN.mul z2).mono (!2),(bE.mul z3).mono (!2)⟩,λy hy=>?_,λy hy=>?_⟩
    . rcases aE.mp hy with hy | hy
      . exact ((hAL y hy).same st).sameX sx5 eO4
      . rw [ao.mp hy];exact Cell.At.sameX ⟨e4,(s3.trans s4) _ _ e2,s4 _ _ e3⟩ sx5 eO4
    . rcases aE.mp hy with hy | hy
      . exact ⟨((oL y hy).1.scale z2).mono (!2),((oL y hy).2.scale z3).mono (!2)⟩
      . rw [ao.mp hy];have a1:=so2.scale bN;have a2:=so3.scale bE;rw [ak] at a1 a2;exact ⟨a1.mono (!2),a2.mono (!2)⟩
    . rcases aE.mp hy with hy | hy
      . exact ((wL y hy).scale w2.z).mono (!2)
      . rw [ao.mp hy];have q2:=so2.sk so2.z1 z2;exact ⟨so2.z1,so2.g,so2.up,q2.bx.mono (!2),q2.by'.mono (!2),b7 _ _⟩
  rintro xs σ' H7 ⟨v,L,Nw,Eh,rfl,rfl,hLi,eO,sx,hAL,⟨N1,E1'⟩,⟨bN,bE⟩,oL,wL⟩;have s7:Same H6 H7:=λb o e=>sx b o e (zb e hO);rw [aa,tl] at hLi bN bE oL wL;have s67:=s6.trans s7;have ecs7:=s67 _ _ ecs5;have hS7:=s67.seq hS5;have s07:=s05.trans s67;clear sx hO e6 s6 s7 ecs5 hS5 s05 s67;have hTb:∀ M:List Cell,(∀ x∈M,x∈L)->M.length<=j->TbD (Eh*Nw) (23*j+40) (tbs (M.map Cell.b)):=λM hM lM=>(Hn N1 E1' (λb hb=>by obtain ⟨c,hc,rfl⟩:=aV.mp hb; exact (oL c (hM c hc)).wh N1 bN)).mono (by rw [aa]; lia);exists wS (T:=λσ' H'=>E2 λ(A:Addr) (L:List Cell)=>A8 (σ'=[vR a,vI (mo:Int),vI d,vR p4,vI (j:Int),vR A,none]) (Same H7 H') (H' A=some (.lst (L.map Cell.v))) ((∀ x∈L,x.At H')) ((∀ x∈L,WnB d Nw Eh (11*j+20) (11*j+20) x.b)) (TbD (Eh*Nw) (23*j+40) (tbs (L.map Cell.b))) (1<=L.length) (L.length<=j)) ?_ ?_
  . exists DQ hS7 λp8 H8 ms8 _ _ z8 f8=>?_;exists CV (SqL.of f8) ?_;exists zu rfl (!2) (!2) λm10 _ _=>?_;exists if_d (λc1=>?_) (λc1=>?_)
    . exists DQ (z8.seq hS7) λp9 H9' ms9 _ _ z9 f9=>?_;exists CV (SqL.of f9) ?_;exists zu rfl (!2) (!2) λm11 a0 a1=>?_;obtain ⟨k,ek⟩:∃ k:Nat,1+m11 % 2=(k:Int):=⟨(1+m11 % 2).toNat,by lia⟩
      walk_at "r";rw [ek];refine Cn (k:=k) ((z8.trans z9) _ _ eO) λpA H9 s9 e9=>?_;rw [<-dS] at e9;walk_at "r";exact ⟨pA,L.take k,rfl,(z8.trans z9).trans s9,e9,λx hx=>(hAL x (aW hx)).same ((z8.trans z9).trans s9),λx hx=>⟨wL x (aW hx),(oL x (aW hx)).2⟩,hTb _ (λx hx=>aW hx) (by rw [az]; lia),by rw [az]; lia,by rw [az]; lia⟩
    . walk_at "r";exact ⟨O,L,rfl,z8,z8 _ _ eO,λx hx=>(hAL x hx).same z8,λx hx=>⟨wL x hx,(oL x hx).2⟩,hTb L (λx hx=>hx) (!2),by lia,by lia⟩
  clear eO hAL oL wL hTb hLi;rintro σ' H8 ⟨A,L,rfl,s8,eA,hAL,oL,tL,l1,lj⟩;have ecs8:=s8 _ _ ecs7;have s08:=s07.trans s8;clear ecs7 hS7 s07 s8;exists yC ?_;exists HN (i:=j) ecs8 λpd H9 s9 e9=>?_;rw [<-fG] at e9;have dl:(cs.drop j).length+j=cs.length:=by rw [cQ]; lia
  refine ⟨pd,rfl,⟨_,SqL.of e9⟩,zJ (K:=K) (a:=pd) (xs:=(cs.drop j).map V.int) (λi σ H'=>E5 λ(v:Option V) (A:Addr) (L':List Cell) (N' E':Int)=>A10 (σ=[vR a,vI (mo:Int),vI d,vR p4,vI (j:Int),vR A,v]) (Same H9 H') (H' A=some (.lst (L'.map Cell.v))) ((∀ x∈L',x.At H')) ((1<=N'/\1<=E')) ((Bd (10*(j+i)+1) N'/\Bd (10*(j+i)+1) E')) ((∀ x∈L',WnB d N' E' (11*(j+i)+20) (11*(j+i)+20) x.b)) (TbD (E'*N') (23*j+40+10*i) (tbs (L'.map Cell.b))) (1<=L'.length) (L'.length<=j+i)) ⟨_,A,L,Nw,Eh,rfl,Same.refl _,s9 _ _ eA,λx hx=>(hAL x hx).same s9,⟨N1,E1'⟩,⟨bN,bE⟩,oL,tL,l1,lj⟩ (λi σ H' _ z=>by obtain ⟨_,_,_,_,_,_,z,_⟩:=z; exact SqL.of (z _ _ e9)) ?_ ?_⟩
  . rintro i x σ H' hi ⟨v,A,L',N',E',rfl,s',eA',hA',D1',bD',oL',tL',l1',lj'⟩;have hi':=(af.mp hi).1;rw [aa] at hi';rw [aj] at hi;obtain ⟨c,hc,rfl⟩:=av.mp hi;exists uA rfl eA' hA' oL' D1' bD' ⟨by lia,by lia,by lia,by lia⟩ ⟨l1',by lia⟩ hR λr2 H2 L2 N2 E2 s2 _ e2 hA2 D12 kd bD2 o2 l2 t2=>?_;obtain ⟨ka,kb,ha,hb,ka1,kb1,_,_,bab⟩:=kd;have t3:=tL'.scale (m:=ka*kb) (ar (!2) (!2)) bab;rw [show E'*N'*(ka*kb)=E2*N2 by rw [ha,hb]; grind,<-t2] at t3;walk_at "r";exact ⟨_,r2,L2,N2,E2,rfl,s'.trans s2,e2,hA2,D12,⟨bD2.1.mono (!2),bD2.2.mono (!2)⟩,λx hx=>(o2 x hx).mono (!2) (!2),t3.mono (!2),by lia,by lia⟩
  rintro σ H' ⟨v,A,L',N',E',rfl,s',eA',hA',D1',bD',oL',tL',l1',lj'⟩;rw [aa] at bD' oL' tL' lj';walk_at "r";exact q A H' L' N' E' ((s08.trans s9).trans s') eA' hA' D1' ⟨bD'.1.mono (!2),bD'.2.mono (!2)⟩ (λx hx=>(oL' x hx).mono (!2) (!2)) (tL'.mono (!2)) ⟨l1',by lia⟩
theorem K60(F:Fun K "serving" "serving" S17 f fd)(B:Bl mg)(o12x:Own P w K mg base 3 "first_base" ["d","n"] [] P44)(o16x:Own P w K mg base 2 "common_bottom" ["lengths"] [] (P31 K))(o13x:Own P w K mg base 4 "next_base" ["d","base"] [] P54)(o3x:O3x P w K mg base)(o15x:O15x P w K mg base):FnOk P w K mg base CX0 5 f fd ["d","lengths"] (P61 K):=by
  refine F.okA C62 λcdv A outer s H vs Q E hr h=>?_;obtain @⟨d,p,L,k,rfl,hL,hR,hlen,hF,hNb,q⟩:=h;refine ⟨_,(za (ps_s 2 C62.nd (ze o12x hr rfl (pa2 (pv 0) zc))) (za (zH PassesOwn.never rfl (zA (pv 1)) (pg_n 3 C62.nd) (za (ps_s 4 C62.nd (zq (pa3 (pit 3) (pit 3) zc))) (zd (wp PassesOwn.never (zg ue (zp (EW rfl) rfl B.min JM (pa1 (ze o15x hr rfl (pa3 (pv 0) (pv 2) (pv 4))))) zc (zm _)) (zd (ps_s 2 C62.nd (ze o13x hr rfl (pa2 (pv 0) (pv 2))))))))) (za (ps_s 5 C62.nd (ze o16x hr rfl (pa1 (pv 1)))) (zd (zh (zR AI rfl B.tuple vf (pa1 (yr ["side"] [5] rfl (HE (pv 2)) (λ_ _ _ _ _=>(pg_n 0 (show List.Nodup (α:=Str) ["side","bottom"] by decide +kernel))) (λ_ _ _ _ _=>zL) (λ_ _ _ _ _=>(ze o3x hr rfl (pa3 (pe_i (r:=rIxT K) ix_tup (pv 0) zc) (pe_i (r:=rIxT K) ix_tup (pv 0) zc) (pv 1)))))))))))),?_⟩;walk_at "s";obtain ⟨N1,_,_⟩:=Eb (J7 hL.ok);obtain ⟨ups,bds⟩:=FU hL.ok;have gK:=Fst.gb hR ⋯ hF ups bds;exists Ah rfl ⋯ (!3) λp0 a1 a2 H1 s1 f1=>?_;exists yC ?_;exists ⟨p,rfl,⟨_,SqL.of (hL.same s1).l⟩,zJ (K:=K) (a:=p) (xs:=L.map Ln.v) (λi σ H'=>E7 λ(pb r1 r2:Addr) (n:Nat) (v3 v4 v5:Option V)=>A4 (σ=[vI d,vR p,vR pb,v3,v4,v5]) (Same H1 H') (BsAt H' pb r1 r2 (st d n) 1) (Fst d ((L.take i).map Ln.u) n)) ⟨p0,a1,a2,0,_,_,_,rfl,Same.refl _,f1,λu hu=>absurd hu (!1),λn hn=>absurd hn (!2)⟩ (λi σ H' _ z'=>by obtain ⟨_,_,_,_,_,_,_,_,s,_⟩:=z'; exact SqL.of ((hL.same s1).same s).l) ?_ ?_⟩
  . rintro i y σ H' hi ⟨pb,r1,r2,n,v3,v4,v5,rfl,si,fb,hn⟩;obtain ⟨c,rfl,hc,hic⟩:=JO hi;have e0:H' c.p=some (.tup [.int c.s.x,.int c.s.y,.int c.s.z]):=si _ _ (s1 _ _ (hL.at' c hc));have ok:=hL.ok c hc;obtain ⟨ups',bds'⟩:=FU (Jc hL.ok (i+1));obtain ⟨M,hM⟩:=Er hR ups';rw [BL hic] at hM ups' bds';have ucM:c.u∈(L.take i).map Ln.u++[c.u]:=by simp
    have hnM:n<=M:=by
      refine Nat.not_lt.mp λz=>?_;obtain ⟨u,hu,nu⟩:=hn.2 M z;exact nu (hM.1 u (cZ _ hu))
    exists zt (!1) λt H2 s2 e2=>?_;obtain ⟨o1,o2,o3⟩:=Bs c.s.x c.s.y;have e2':H2 t=some (.tup [.int (lA c.s.x c.s.y 1),.int (lB c.s.x c.s.y 1),.int (lN c.s.x c.s.y 1)]):=by rw [o1,o2,o3]; exact e2
    exists IQ (λm σ H'=>E4 λ(pb r1 r2:Addr) (n:Nat)=>A5 (σ=[vI d,vR p,vR pb,vR c.p,vR t,v5]) (Same H2 H') (BsAt H' pb r1 r2 (st d n) 1) (n+m=M) (∀ u∈(L.take i).map Ln.u,(st d n).srv u.1 u.2)) ⟨M - n,pb,r1,r2,n,rfl,Same.refl _,fb.same s2,by lia,hn.1⟩ ?_;rintro m σ H3 ⟨pb,r1,r2,n,rfl,s3,fb,hm,hs⟩;have g:GB d 900 (st d n):=(Fst.gb_le hR (k:=700) ⋯ hM (show n<=M by lia) ups' bds').mono ⋯;exists uQ fb (s3 _ _ e2') ⋯ (!3) g (ok.bx.mono ⋯) (ok.by'.mono ⋯) λr H4 s4 e4=>?_;exists J0 e4 λw hw w1 w2=>?_;have hw0:=Ip hw w1 w2;exists if_d (λcc=>?_) (λcc=>?_)
    . have ns:¬ (st d n).srv c.u.1 c.u.2:=hw0.mp cc;have lt:n<M:=by
        refine Nat.not_le.mp λz=>?_;exact ns (FP (hM.1 c.u ucM) z)
      refine wgn ?_;exists BI rfl (fb.same s4) hR ⋯ (!3) g λpb' r1' r2' H5 s5 f5=>?_;walk_at "r";exact ⟨m - 1,by lia,pb',r1',r2',n+1,rfl,(s3.trans s4).trans s5,f5,by lia,λu hu=>HZ d (hs u hu)⟩
    . have sv:(st d n).srv c.u.1 c.u.2:=gr λz=>cc (hw0.mpr z);have all:∀ u∈(L.take i).map Ln.u++[c.u],(st d n).srv u.1 u.2:=λu hu=>by
        rcases aE.mp hu with z|z
        . exact hs u z
        . have:u=c.u:=by simpa using z
          subst this;exact sv
      have eq:n=M:=by
        refine Nat.le_antisymm (!2) (Nat.not_lt.mp λz=>?_);obtain ⟨u,hu,nu⟩:=hM.2 n z;exact nu (all u hu)
      exists ⟨pb,r1,r2,n,_,_,_,rfl,((si.trans s2).trans s3).trans s4,fb.same s4,?_⟩;rw [BL hic,eq];exact hM
  . rintro σ H' ⟨pb,r1,r2,n,v3,v4,v5,rfl,si,fb,hn⟩;rw [aa,au] at hn;have en:=hn.unique (λ_=>Iff.rfl) hF;subst en;have q1:=gK.ba;have q2:=gK.bb;have q3:=gK.bc;have q4:=gK.be;have hL':=(hL.same s1).same si;exists vy rfl hL' hlen hNb ?_;have hNb8:Bd 8000 (cbs (L.map λc=>c.s.z)):=hNb.mono ⋯;generalize cbs (L.map λc=>c.s.z)=N at *
    obtain ⟨o1,o2,o3⟩:=Bs (st d n).a (st d n).b;obtain ⟨o4,o5,o6⟩:=Bs (st d n).c (st d n).e;obtain ⟨f0,f1,f2⟩:=fb;rw [o1,o2,o3] at f1;rw [o4,o5,o6] at f2;exists Ez ?_;exists ⟨pb,rfl,⟨_,SqT.of f0⟩,λD hD=>Cm (K:=K) (a:=pb) (ys:=[.ref r1,.ref r2]) (λi xs σ' H2=>E1 λ(v:Option V)=>A4 (σ'=[v,vI N]) (H2 D=some (.lst xs)) (SameX D H' H2) (((i=0/\xs=[])\/(i=1/\∃ q1,xs=[.ref q1]/\H2 q1=some (.tup [.int (lA (st d n).a (st d n).b N),.int (lB (st d n).a (st d n).b N),.int (lN (st d n).a (st d n).b N)]))\/(i=2/\∃ q1 q2,xs=[.ref q1,.ref q2]/\H2 q1=some (.tup [.int (lA (st d n).a (st d n).b N),.int (lB (st d n).a (st d n).b N),.int (lN (st d n).a (st d n).b N)])/\H2 q2=some (.tup [.int (lA (st d n).c (st d n).e N),.int (lB (st d n).c (st d n).e N),.int (lN (st d n).c (st d n).e N)]))))) ⟨none,rfl,zj,λb o e n=>by rw [zn n]; exact e,.inl ⟨rfl,rfl⟩⟩ (λi xs σ' H2 _ z=>by obtain ⟨v,_,_,z,_⟩:=z; exact SqT.of (z _ _ f0 (zb f0 hD))) ?_ ?_⟩
    . rintro i x xs σ' H2 hi ⟨v,rfl,eD,sx,hx⟩;have k1:H2 r1=some (.tup [.int (st d n).a,.int (st d n).b,.int 1]):=sx _ _ f1 (zb f1 hD);have k2:H2 r2=some (.tup [.int (st d n).c,.int (st d n).e,.int 1]):=sx _ _ f2 (zb f2 hD);have hi':=(af.mp hi).1;rcases hx with ⟨rfl,rfl⟩|⟨rfl,q1,rfl,hq1⟩|⟨rfl,_⟩
      . obtain rfl:V.ref r1=x:=aq hi;exists yS rfl (!2) hNb8 λt H3 s3 e3=>?_;have eD3:=s3 _ _ eD;refine zr eD3 (!1) λH4 sx4 e4=>?_;exact xm hi' ⟨_,rfl,e4,(sx.trans (s3.sameX D)).trans sx4,.inr (.inl ⟨rfl,t,rfl,sx4.tup e3 eD3⟩)⟩
      . obtain rfl:V.ref r2=x:=aq hi;exists yS rfl (!2) hNb8 λt H3 s3 e3=>?_;have eD3:=s3 _ _ eD;refine zr eD3 (!1) λH4 sx4 e4=>?_;exact xm hi' ⟨_,rfl,e4,(sx.trans (s3.sameX D)).trans sx4,.inr (.inr ⟨rfl,q1,t,rfl,sx4.tup (s3 _ _ hq1) eD3,sx4.tup e3 eD3⟩)⟩
      . exact absurd hi' (!1)
    . rintro xs σ' H2 ⟨v,rfl,eD,sx,hx⟩;rcases hx with ⟨h0,_⟩|⟨h0,_⟩|⟨_,q1,q2,rfl,hq1,hq2⟩
      . exact absurd h0 (!1)
      . exact absurd h0 (!1)
      have sD:Same H' H2:=λb o e=>sx b o e (zb e hD);exists HA eD λt H3 s3 e3=>?_;exact q t q1 q2 H3 (((s1.trans si).trans sD).trans s3) ⟨e3,s3 _ _ hq1,s3 _ _ hq2⟩
theorem K61(F:Fun K "normal_heap" "normal_heap" S20 f fd)(B:Bl mg)(g_NOUGHT:TopT K mg "NOUGHT" [.int 0,.int 0,.int 1])(o7x:O7x P w K mg base)(o15x:O15x P w K mg base)(o18x:O18x P w K mg base):FnOk P w K mg base CX0 5 f fd ["d","heap","base"] P62:=by
  obtain ⟨a_NOUGHT,m_NOUGHT,q_NOUGHT⟩:=g_NOUGHT;refine F.okA C63 λcdv A outer s H vs Q E hr h=>?_;obtain @⟨d,d',p,pb,r1,r2,s',N,D,C,hb,rfl,hl,hA,fb,hN,hNb,gb,hlen,h1,h60,hd,hD,bD,hc,hb',q⟩:=h;refine ⟨_,(za (ps_s 3 C63.nd (zI yU)) (za (zH PassesOwn.never rfl (yz rfl B.range (pa1 zc)) (pg_n 4 C63.nd) (za (ps_s 5 C63.nd (yk (v:=.ref a_NOUGHT) rfl m_NOUGHT rfl)) (za (zH PassesOwn.never rfl (zA (pv 1)) (pg_n 6 C63.nd) (za (ps_s 7 C63.nd (pe_i ix_tup (ze o15x hr rfl (pa3 (pv 0) (pv 2) (pit 6))) (pv 4))) (zd (ps_s 5 C63.nd (ze o7x hr rfl (pa2 (pv 5) (ze o18x hr rfl (pa3 (pv 0) (pv 7) (pit 6))))))))) (zd (zw (zg (Cb hr.units) (pv 5) (yk (v:=.ref a_NOUGHT) rfl m_NOUGHT rfl) (zm _)) (zd (zU (wo a8 aZ a6 zF (pv 3) (pa1 (zq (pa2 (pe_i ix_tup (pv 2) (pv 4)) (pv 5))))))) zo))))) (zd (zh (pv 3))))),?_⟩;walk_at "s";have bcn:∀ i,∀ b∈hb,Bd 1024 (cn i b):=λi b h=>by
    unfold cn;split
    . exact (hb' b h).1
    . exact (hb' b h).2.1
  have bX:∀ i j,Bd 1984 (hX i (hb.take j)):=λi j=>(FN (M0:=1924) λb h=>(bcn i b (aW h)).mul (hb' b (aW h)).2.2.1).mono (by rw [az]; lia);have bY:∀ i j,Bd 1984 (hY i (hb.take j)):=λi j=>(FN (M0:=1924) λb h=>(bcn i b (aW h)).mul (hb' b (aW h)).2.2.2).mono (by rw [az]; lia);exists zB (!1) λl H1 hl0 s1 e1=>?_;have npl:p≠l:=zb hl hl0;exists wJ ?_;exists ⟨2,rfl,by decide,by decide,yB (lo:=0) (n:=2) (λi σ H'=>E5 λ(v4 v5 v6 v7:Option V) (R:List Cell)=>A5 (σ=[vI d,vR p,vR pb,vR l,v4,v5,v6,v7]) (SameX l H1 H') (H' l=some (.lst (R.map Cell.v))) ((∀ c∈R,c.At H')) (R.map Cell.b=nrx s' N D hb i)) ⟨_,_,_,_,[],rfl,λb o e _=>e,e1,λc hc=>absurd hc (!1),rfl⟩ ?_ ?_⟩
  . rintro i σ H2 hi ⟨v4,v5,v6,v7,R,rfl,sx,el,hAR,hR⟩;have hp2:H2 p=some (.lst (C.map Cell.v)):=sx _ _ (s1 _ _ hl) npl;have at2:∀ c∈C,c.At H2:=λc hc=>(((hA c hc).same s1).sameX sx e1)
    have fb1:=fb.same s1;have fb2:BsAt H2 pb r1 r2 s' N:=⟨sx.tup fb1.t e1,sx.tup fb1.f e1,sx.tup fb1.g e1⟩
    have hRl:R.length<=2:=by
      have e:=congrArg List.length hR;rw [aa] at e;have:=BA s' N D hb i
      lia
    exists yC ?_;exists ⟨p,rfl,⟨_,SqL.of hp2⟩,zJ (K:=K) (a:=p) (xs:=C.map Cell.v) (λj σ H3=>E3 λ(r:Addr) (v6 v7:Option V)=>A4 (σ=[vI d,vR p,vR pb,vR l,vI (0+(i:Int)),vR r,v6,v7]) (Same H2 H3) (SqT K H3 r [.int (sdO D (hX i (hb.take j)) (hY i (hb.take j))).x,.int (sdO D (hX i (hb.take j)) (hY i (hb.take j))).y,.int (sdO D (hX i (hb.take j)) (hY i (hb.take j))).z]) ((j=0\/SdAt H3 r (sdO D (hX i (hb.take j)) (hY i (hb.take j)))))) ⟨_,_,_,rfl,Same.refl _,by show SqT K H2 _ [.int (sdO D 0 0).x,.int (sdO D 0 0).y,.int (sdO D 0 0).z]; rw [tY hD]; exact q_NOUGHT H2,.inl rfl⟩ (λj σ H3 _ z'=>by obtain ⟨_,_,_,_,s,_⟩:=z'; exact SqL.of (s _ _ hp2)) ?_ ?_⟩
    . rintro j y σ H3 hj ⟨r,v6,v7,rfl,s3,sq3,_⟩;obtain ⟨c,rfl,hcm,hjc⟩:=xD hj;have hj':j<hb.length:=by rw [<-hlen]; exact (af.mp hjc).1
      obtain ⟨b,hbj⟩:∃ b,hb[j]?=some b:=⟨_,ae hj'⟩
      have hbm:=aw hbj;obtain ⟨⟨X,Y,hw,bX',bY',hbi,hbj'⟩,hh⟩:=hc j c b hjc hbj;have ct:=s3 _ _ (at2 c hcm).t;have cw:H3 c.pw=some (.tup [.int (lA X Y N),.int (lB X Y N),.int (lN X Y N)]):=s3 _ _ (by have:=(at2 c hcm).w; rw [hw] at this; exact this);have ch:SdAt H3 c.ph (sdO D b.x b.y):=s3 _ _ (by have:=(at2 c hcm).h; rw [hh] at this; exact this);have ok0:=B9 hD (bX i j) (bY i j) bD;have okt:=B9 hD (Bd.mul (hb' b hbm).2.2.1 (bcn i b hbm)) (Bd.mul (hb' b hbm).2.2.2 (bcn i b hbm)) bD;have snoc:adS (sdO D (hX i (hb.take j)) (hY i (hb.take j))) (sdO D (b.x*cn i b) (b.y*cn i b))=sdO D (hX i (hb.take (j+1))) (hY i (hb.take (j+1))):=by
        rw [G9 hD];have e:hb.take (j+1)=hb.take j++[b]:=by rw [br,hbj]; rfl
        unfold hX hY;rw [e,yf,yf,ak b.x,ak b.y]
      rw [<-snoc];exists uQ (fb2.same s3) cw hN hNb gb bX' bY' λr4 H4 s4 e4=>?_;rw [<-hbi,<-hbj'] at e4;exists vF e4 (LW hi) ?_;have ct:=s4 _ _ ct;have ch:=s4 _ _ ch;exists wX rfl ch hd (bcn i b hbm) (B9 hD (hb' b hbm).2.2.1 (hb' b hbm).2.2.2 bD) λr5 H5' s5 e5=>?_;rw [HD hD] at e5;exists Bh ((s4.trans s5).sqT sq3) e5 ok0.z1 okt.z1 ok0.g okt.g (ok0.bx.mono ⋯) (ok0.by'.mono ⋯) (ok0.bz.mono ⋯) (okt.bx.mono ⋯) (okt.by'.mono ⋯) (okt.bz.mono ⋯) λr6 H6 s6 e6=>?_;walk_at "r";exact ⟨r6,_,_,rfl,((s3.trans s4).trans s5).trans s6,SqT.of e6,.inr e6⟩
    rintro σ H3 ⟨r,v6,v7,rfl,s3,sq3,hr⟩;rw [aa,hlen,au] at sq3 hr;have er:SdAt H3 r (sdO D (hX i hb) (hY i hb)):=hr.resolve_left (!2);have zi:=IJ (X:=hX i hb) (Y:=hY i hb) hD;have fb3:=fb2.same s3;have bt3:=fb3.t;have el3:=s3 _ _ el;exists LT sq3 (q_NOUGHT H3) ?_;exists ui (λcc=>?_) (λcc=>?_)
    . have nz:¬ (hX i hb=0/\hY i hb=0):=λz=>cc (zi.mpr z);exists vF bt3 (Kp hi) ?_;exists zt (!1) λr7 H7 s7 e7=>?_;have el7:=s7 _ _ (s3 _ _ el);exists zr el7 (by rw [aa]; lia) λH8 sx8 e8=>?_;exists ⟨_,_,_,_,R++[⟨r7,if i=0 then r1 else r2,r,⟨bwq s' N i,sdO D (hX i hb) (hY i hb)⟩⟩],rfl,(sx.trans ((s3.trans s7).sameX l)).trans sx8,by rw [ah]; exact e8,λc hc=>?_,?_⟩
      . rcases aE.mp hc with hc | hc
        . exact ((hAR c hc).same (s3.trans s7)).sameX sx8 el7
        . have hc:c=⟨r7,if i=0 then r1 else r2,r,⟨bwq s' N i,sdO D (hX i hb) (hY i hb)⟩⟩:=by simpa using hc
          subst hc;exact Cell.At.sameX ⟨e7,s7 _ _ (JN fb3 i),s7 _ _ er⟩ sx8 el7
      . rw [ah,hR];show _=nrx s' N D hb i++_;rw [ip nz];rfl
    . exists ⟨_,_,_,_,R,rfl,sx.trans (s3.sameX l),s3 _ _ el,λc hc=>(hAR c hc).same s3,?_⟩;rw [hR];show _=nrx s' N D hb i++_;rw [io (zi.mp cc),dL]
  . rintro σ H2 ⟨v4,v5,v6,v7,R,rfl,sx,el,hAR,hR⟩;walk_at "r";exact q l H2 R hl0 (λb o e=>sx b o (s1 b o e) (zb e hl0)) el hAR hR
theorem K62(F:Fun K "normal_plan" "normal_plan" S21 f fd)(B:Bl mg)(o21x:Own P w K mg base 1 "gathering" ["pieces","unused"] [] P6)(o15x:O15x P w K mg base)(o18x:O18x P w K mg base):FnOk P w K mg base CX0 5 f fd ["d","heap","base"] P63:=by
  refine F.okA C64 λcdv A outer s H vs Q E hr h=>?_;obtain @⟨d,d',p,pb,r1,r2,s',N,D,px,py,C,hb,rfl,hl,hA,fb,hN,hNb,gb,hlen,h60,hd,hD,hP,okP,hc,q⟩:=h;refine ⟨_,(za (ps_s 3 C64.nd (zI yU)) (za (ps_s 4 C64.nd (zI yU)) (za (ps_s 5 C64.nd (zI yU)) (za (ps_s 6 C64.nd (zp zx rfl B.len bI (pa1 (pv 1)))) (za (zH PassesOwn.never rfl (tM rfl B.enumerate (pa1 (pv 1))) (uN (n:=2) rfl (ya (pg_n 7 C64.nd) (ya (pg_n 8 C64.nd) wF))) (za (ps_s 9 C64.nd (ze o15x hr rfl (pa3 (pv 0) (pv 2) (pit 8)))) (zd (zw (zg zW (pit 9) zc (zm _)) (zd (zU (wo a8 aZ a6 zF (pv 4) (pa1 (zq (pa2 (pv 7) (pit 9))))))) (zd (zw (zg zW (pit 9) zc (zm _)) (zd (zU (wo a8 aZ a6 zF (pv 5) (pa1 (zq (pa2 (pv 7) (pit 9))))))) (za (zU (wo a8 aZ a6 zF (pv 3) (pa1 (zq (pa3 zP (pv 7) (ze o18x hr rfl (pa3 (pv 0) (pit 9) (pit 2)))))))) (za (zU (wo a8 aZ a6 zF (pv 4) (pa1 (zq (pa2 (pv 6) (pit 9)))))) (za (zU (wo a8 aZ a6 zF (pv 5) (pa1 (zq (pa2 (zf zv (pv 6) zc) (pit 9)))))) (zd (ps_s 6 C64.nd (zf zv (pv 6) zc)))))))))))) (za (ps_s 10 C64.nd (ze o21x hr rfl (pa2 (pv 4) (pv 6)))) (zd (zh (zf vz (zf vz (pv 3) (pv 10)) (ze o21x hr rfl (pa2 (pv 5) (zf zv (pv 6) (zp zx rfl B.len bI (pa1 (pv 10))))))))))))))),?_⟩;walk_at "s";exists zB (!1) λDD H1 nD s1 e1=>?_;exists zB (!1) λFF H2 nF s2 e2=>?_;exists zB (!1) λOO H3 nO s3 e3=>?_;have z3:=(s1.trans s2).trans s3;have hl3:=z3 _ _ hl;have DF:DD≠FF:=zb e1 nF;have DO:DD≠OO:=zb (s2 _ _ e1) nO;have FO:FF≠OO:=zb e2 nO;have pD:p≠DD:=zb hl nD;have pF:p≠FF:=zb (s1 _ _ hl) nF;have pO:p≠OO:=zb ((s1.trans s2) _ _ hl) nO;exists Cj ?_;walk_at "r";rw [aa,hlen];refine ⟨p,_,rfl,SqL.of hl3,vj (K:=K) (a:=p) (xs:=C.map Cell.v) (λt σ H'=>E6 λ(v1 v2 v3:Option V) (ps fs os:List Addr)=>A6 (σ=[vI d,vR p,vR pb,vR DD,vR FF,vR OO,vI ((np1 D px py hb.length hb t).u:Int),v1,v2,v3,none]) ((H' DD=some (.lst (ps.map V.ref))/\Runs H' ps (np1 D px py hb.length hb t).ds/\ps.length<=t)) ((H' FF=some (.lst (fs.map V.ref))/\PcAt H' fs (np1 D px py hb.length hb t).F/\fs.length<=t)) ((H' OO=some (.lst (os.map V.ref))/\PcAt H' os (np1 D px py hb.length hb t).O/\os.length<=t)) ((np1 D px py hb.length hb t).u<=hb.length+2*t) (∀ b o,H3 b=some o->b≠DD->b≠FF->b≠OO->H' b=some o)) ⟨_,_,_,[],[],[],rfl,⟨s3 _ _ (s2 _ _ e1),⟨rfl,λi p x h=>by simp at h⟩,ag _⟩,⟨s3 _ _ e2,⟨rfl,λi p x h=>by simp at h⟩,ag _⟩,⟨e3,⟨rfl,λi p x h=>by simp at h⟩,ag _⟩,ag _,λb o e _ _ _=>e⟩ (λt σ H' _ z=>by obtain ⟨_,_,_,_,_,_,_,_,_,_,_,z⟩:=z; exact SqL.of (z _ _ hl3 pD pF pO)) ?_ ?_⟩
  . rintro t x T σ H' ht hT ⟨v1,v2,v3,ps,fs,os,rfl,⟨eD,hrun,pl⟩,⟨eF,hF,fl⟩,⟨eO,hO,ol⟩,hu,fr⟩;obtain ⟨c,rfl,hcm,htc⟩:=xD ht;have ht':t<hb.length:=by rw [<-hlen]; exact (af.mp htc).1
    obtain ⟨b,hbt⟩:∃ b,hb[t]?=some b:=⟨_,ae ht'⟩
    obtain ⟨X,Y,hw,bX,bY,hi,hj,bi⟩:=hc t c b htc hbt;have tk3:TupK H3 H':=λb xs e=>fr _ _ e (zX e (s3 _ _ (s2 _ _ e1)) (λz=>nomatch z)) (zX e (s3 _ _ e2) (λz=>nomatch z)) (zX e e3 (λz=>nomatch z));have eq:np1 D px py hb.length hb (t+1)=if b.j=0 then ⟨(np1 D px py hb.length hb t).ds,(np1 D px py hb.length hb t).F++[⟨t,b.i,b.x,b.y⟩],(np1 D px py hb.length hb t).O,(np1 D px py hb.length hb t).u⟩
      else if b.i=0 then ⟨(np1 D px py hb.length hb t).ds,(np1 D px py hb.length hb t).F,(np1 D px py hb.length hb t).O++[⟨t,b.j,b.x,b.y⟩],(np1 D px py hb.length hb t).u⟩
      else ⟨(np1 D px py hb.length hb t).ds++[(.cut false t (sdO D (px*b.i) (py*b.i)),t,t)],(np1 D px py hb.length hb t).F++[⟨(np1 D px py hb.length hb t).u,b.i,b.x,b.y⟩],(np1 D px py hb.length hb t).O++[⟨(np1 D px py hb.length hb t).u+1,b.j,b.x,b.y⟩],(np1 D px py hb.length hb t).u+2⟩:=by
      show (match hb[t]? with | none=>_ | some b=>_)=_;rw [hbt]
    rw [eq];generalize np1 D px py hb.length hb t=r at *
    have tkT:TupK H' (upd H' T (.tup [.int (t:Int),.ref c.p])):=λb xs e=>by rw [zn (zb e hT)]; exact e
    have sT:Same H' (upd H' T (.tup [.int (t:Int),.ref c.p])):=zC hT _;have eT:(upd H' T (.tup [.int (t:Int),.ref c.p])) T=some (.tup [.int (t:Int),.ref c.p]):=zj;generalize upd H' T (.tup [.int (t:Int),.ref c.p])=G at eT sT tkT ⊢;have tkG:TupK H3 G:=λb xs e=>tkT _ _ (tk3 _ _ e);have cA:=(hA c hcm).same z3;have ct:=tkG _ _ cA.t;have cw:G c.pw=some (.tup [.int (lA X Y N),.int (lB X Y N),.int (lN X Y N)]):=tkG _ _ (by have:=cA.w; rw [hw] at this; exact this);have fbG:BsAt G pb r1 r2 s' N:=⟨tkG _ _ (fb.same z3).t,tkG _ _ (fb.same z3).f,tkG _ _ (fb.same z3).g⟩
    exists uQ fbG cw hN hNb gb bX bY λr4 G1 t1 e4=>?_;rw [<-hi,<-hj] at e4;have sG1:=sT.trans t1;have eD1:=sG1 _ _ eD;have eF1:=sG1 _ _ eF;have eO1:=sG1 _ _ eO;exists if_d (λcj=>?_) (λcj=>?_)
    . rw [io cj];exists zK (!1) λk1 G2 nk tk2 ek=>?_;have eF2:=tk2 _ _ (sG1 _ _ eF);exists zr eF2 (by rw [aa]; lia) λG3 x3 e5=>?_;have s02:=sG1.trans tk2;have tkA:TupK H' G3:=λb xs e=>x3.tup (s02 _ _ e) eF2;exists ⟨_,_,_,ps,fs++[k1],os,rfl,⟨x3 _ _ (s02 _ _ eD) DF,hrun.tk tkA,by lia⟩,⟨by rw [ah]; exact e5,(hF.tk tkA).snoc (x3.tup ek eF2),by rw [ai]; simp only [ax,aK]; lia⟩,⟨x3 _ _ (s02 _ _ eO) (ck FO),hO.tk tkA,by lia⟩,by show r.u<=_; lia,λb o e n1 n2 n3=>x3 _ _ (s02 _ _ (fr _ _ e n1 n2 n3)) n2⟩
    . rw [ip cj];exists if_d (λci=>?_) (λci=>?_)
      . rw [io ci];exists zK (!1) λk1 G2 nk tk2 ek=>?_;have eO2:=tk2 _ _ (sG1 _ _ eO);exists zr eO2 (by rw [aa]; lia) λG3 x3 e5=>?_;have s02:=sG1.trans tk2;have tkA:TupK H' G3:=λb xs e=>x3.tup (s02 _ _ e) eO2;exists ⟨_,_,_,ps,fs,os++[k1],rfl,⟨x3 _ _ (s02 _ _ eD) DO,hrun.tk tkA,by lia⟩,⟨x3 _ _ (s02 _ _ eF) FO,hF.tk tkA,by lia⟩,⟨by rw [ah]; exact e5,(hO.tk tkA).snoc (x3.tup ek eO2),by rw [ai]; simp only [ax,aK]; lia⟩,by show r.u<=_; lia,λb o e n1 n2 n3=>x3 _ _ (s02 _ _ (fr _ _ e n1 n2 n3)) n3⟩
      . rw [ip ci];have bt1:=t1 _ _ fbG.t;have bf1:SdAt G1 r1 (bw1 s' N):=t1 _ _ fbG.f;exists wX rfl bf1 hd bi okP λra G2 t2 ea=>?_;rw [hP,HD hD] at ea;have e42:=t2 _ _ e4;exists zK (!1) λk1 G3 nk t3 ek=>?_;have s03:=(sG1.trans t2).trans t3;have eD3:=s03 _ _ eD;have e43:=t3 _ _ e42;exists zr eD3 (by rw [aa]; lia) λG4 x4 e5=>?_;have e44:=x4.tup e43 eD3;have ek4:DdAt G4 k1 (.cut false t (sdO D (px*b.i) (py*b.i))):=⟨ra,x4.tup ek eD3,x4.tup (t3 _ _ ea) eD3⟩
        have eF4:=x4 _ _ (s03 _ _ eF) (ck DF);exists zK (!1) λk2 G5 nk2 t5 ek2=>?_;have eF5:=t5 _ _ (x4 _ _ (s03 _ _ eF) (ck DF));have e45:=t5 _ _ e44;exists zr eF5 (by rw [aa]; lia) λG6 x6 e7=>?_;have e46:=x6.tup e45 eF5;have eO6:=x6 _ _ (t5 _ _ (x4 _ _ (s03 _ _ eO) (ck DO))) (ck FO);exists zK (!1) λk3 G7 nk3 t7 ek3=>?_;have eO7:=t7 _ _ (x6 _ _ (t5 _ _ (x4 _ _ (s03 _ _ eO) (ck DO))) (ck FO));exists zr eO7 (by rw [aa]; lia) λG8 x8 e9=>?_;have tkA:TupK H' G8:=λb xs e=>x8.tup (t7 _ _ (x6.tup (t5 _ _ (x4.tup (s03 _ _ e) eD3)) eF5)) eO7;have tkB:TupK G4 G8:=λb xs e=>x8.tup (t7 _ _ (x6.tup (t5 _ _ e) eF5)) eO7;have tkC:TupK G5 G8:=λb xs e=>x8.tup (t7 _ _ (x6.tup e eF5)) eO7;exists ⟨_,_,_,ps++[k1],fs++[k2],os++[k3],by rw [show ((r.u:Nat):Int)+2=((r.u+2:Nat):Int) by lia],⟨by rw [ah]; exact x8 _ _ (t7 _ _ (x6 _ _ (t5 _ _ e5) DF)) DO,xC (hrun.tk tkA) (ek4.tk tkB),by rw [ai]; simp only [ax,aK]; lia⟩,⟨by rw [ah]; exact x8 _ _ (t7 _ _ e7) FO,(hF.tk tkA).snoc (tkC _ _ ek2),by rw [ai]; simp only [ax,aK]; lia⟩,⟨by rw [ah]; exact e9,(hO.tk tkA).snoc (x8.tup (by rw [show ((r.u:Nat):Int)+1=((r.u+1:Nat):Int) by lia] at ek3; exact ek3) eO7),by rw [ai]; simp only [ax,aK]; lia⟩,by show r.u+2<=_; lia,λb o e n1 n2 n3=>x8 _ _ (t7 _ _ (x6 _ _ (t5 _ _ (x4 _ _ (s03 _ _ (fr _ _ e n1 n2 n3)) n1)) n2)) n3⟩
  rintro σ H5 ⟨v1,v2,v3,ps,fs,os,rfl,⟨eD,hrun,pl⟩,⟨eF,hF,fl⟩,⟨eO,hO,ol⟩,hu,fr⟩;rw [aa,hlen] at hrun hF hO hu pl fl ol;rw [aa,hlen];have s05:Same H H5:=λb o e=>fr _ _ (z3 _ _ e) (zb e nD) (zb (s1 _ _ e) nF) (zb ((s1.trans s2) _ _ e) nO);have q':∀ (r:Addr) (ps:List Addr) (H':Hp),Same H H'->H r=none->H' r=some (.lst (ps.map V.ref))->Runs H' ps (npl D px py hb)->Q (.ref r) H':=q;unfold npl at q';generalize np1 D px py hb.length hb hb.length=r at *
  have lF:=hF.1;have lO:=hO.1;have glF:=wQ (u:=r.u) (pc:=r.F) (ag _);have glO:=wQ (u:=r.u+(2*r.F.length - 1)) (pc:=r.O) (ag _);exists v9 rfl eF hF (!2) (!2) λra pa G1 t1 na ea hra=>?_;have lpa:pa.length=2*r.F.length - 1:=hra.1.trans glF;exists Ep (t1 _ _ eD) ea (by simp only [aa]; lia) λo2 G2 t2 e2'=>?_;have eO2:=(t1.trans t2) _ _ eO;have ea2:=t2 _ _ ea;walk_at "r";have hlen2:((r.u:Nat):Int)+(((pa.map V.ref).length:Nat):Int)=((r.u+(2*r.F.length - 1):Nat):Int):=by rw [aa,lpa]; lia
  rw [hlen2];refine v9 rfl eO2 (hO.tk λb xs e=>(t1.trans t2) _ _ e) (!2) (!2) λrb pb' G3 t3 nb eb hrb=>?_;have lpb:pb'.length=2*r.O.length - 1:=hrb.1.trans glO;exists HH (t3 _ _ e2') eb (by simp only [ai,aa]; lia) λo4 G4 n4 t4 e4=>?_;refine q' o4 (ps++(pa++pb')) G4 (((s05.trans t1).trans t2).trans (t3.trans t4)) (Same.nn (((s05.trans t1).trans t2).trans t3) n4) (by rw [e4]; simp only [ah,bQ]) ?_;exact Cq ((((hrun.same t1).same t2).same t3).same t4) (Cq (((hra.same t2).same t3).same t4) (hrb.same t4))
theorem K63(F:Fun K "table" "table" S42 f fd)(B:Bl mg)(g_EMPTY:TopE K mg "EMPTY")(o43x:Own P w K mg base 3 "together" ["one","other"] [] (P50 K))(o42x:Own P w K mg base 4 "board_table" ["one"] [] P58):FnOk P w K mg base CX0 5 f fd ["heap"] (P64 K):=by
  obtain ⟨a_EMPTY,m_EMPTY,q_EMPTY⟩:=g_EMPTY;refine F.okA C65 λcdv A outer s H vs Q E hr h=>?_;obtain @⟨p,L,rfl,h1,hA,ok0,hbt,ln,q⟩:=h;refine ⟨_,(za (ps_s 1 C65.nd (yk (v:=.ref a_EMPTY) rfl m_EMPTY rfl)) (za (zH PassesOwn.never rfl (zA (pv 0)) (pg_n 2 C65.nd) (zd (ps_s 1 C65.nd (ze o43x hr rfl (pa2 (pv 1) (ze o42x hr rfl (pa1 (pv 2)))))))) (zd (zh (pv 1))))),?_⟩;walk_at "s";exists yC ?_;exists ⟨p,rfl,⟨_,SqL.of h1⟩,zJ (K:=K) (a:=p) (xs:=L.map Cell.v) (λi σ H'=>E2 λ(r:Addr) (v:Option V)=>A4 (σ=[vR p,vR r,v]) (Same H H') ((∃ r0 r1 f0 f1 f2 f3:Addr,TbS K H' r r0 r1 f0 f1 f2 f3 (tbs ((L.take i).map Cell.b)))) ((0<i->TbAt H' r (tbs ((L.take i).map Cell.b))))) ⟨a_EMPTY,_,rfl,Same.refl _,q_EMPTY H,λz=>absurd z ⋯⟩ (λi σ H' _ z'=>by obtain ⟨_,_,_,s,_⟩:=z'; exact SqL.of (s _ _ h1)) ?_ ?_⟩
  . rintro i t σ H' hi ⟨r,v,rfl,s,⟨r0,r1,f0,f1,f2,f3,hT⟩,_⟩;obtain ⟨c,rfl,hc,hci⟩:=xD hi;have hi':=(af.mp hi).1;rw [aa] at hi';have bt:=hbt i hi';have sk:=ok0 c hc;have bc:=S19.tb sk;exists tP rfl ((hA c hc).same s) sk λr2 H2 s2 e2=>?_;exists Dr rfl ⟨r0,r1,f0,f1,f2,f3,hT.same s2⟩ e2 bt bc λr3 H3 s3 e3=>?_;have e3:=e3.eq (u:=tbs ((L.take (i+1)).map Cell.b)) (by rw [uH hci,CF]);exists ⟨r3,_,rfl,(s.trans s2).trans s3,?_,λ_=>e3⟩;obtain ⟨r0,r1,f0,f1,f2,f3,e3⟩:=e3;exact ⟨r0,r1,f0,f1,f2,f3,e3.s⟩
  . rintro σ H' ⟨r,v,rfl,s,_,hT⟩;rw [aa] at hT;have hpos:0<L.length:=by lia
    have hT:=hT hpos;rw [au] at hT;walk_at "r";exact q r H' s hT
theorem K64(F:Fun K "put_by" "Yard.put_by" S71 f fd)(B:Bl mg)(X:Xs K mg cs)(o27x:Own P w K mg base 4 "cut_across" ["d","one","at"] [] P57)(o26x:Own P w K mg base 1 "turned" ["one"] [] P10)(o28x:Own P w K mg base 3 "glued_beside" ["one","other"] [] P46)(o29x:Own P w K mg base 3 "stacked" ["one","many"] [] P47):FnOk P w K mg base CX0 5 f fd ["self","deed","boards"] (P65 cs):=by
  refine F.okA C66 λcdv A outer s H vs Q E hr h=>?_;obtain @⟨y,d,tn,cl,ns,lg,p,a,e,c,c',rfl,hy,he,ha,hc,hc',hd,hf,q⟩:=h;refine ⟨_,(za (ps_s 3 C66.nd (pit 1)) (za (zw (zg zW (pv 3) zP (zm _)) (zd (zh (ze o27x hr rfl (pa3 (ye (K:=K) rfl (pv 0) rfl) (pil 2) (pit 1))))) zo) (za (zw (zg zW (pv 3) zP (zm _)) (zd (zh (yr ["one"] [] rfl (zA (ze o27x hr rfl (pa3 (ye (K:=K) rfl (pv 0) rfl) (ze o26x hr rfl (pa1 (pil 2))) (pit 1)))) (λ_ _ _ _ _=>(pg_n 0 (show List.Nodup (α:=Str) ["one"] by decide +kernel))) (λ_ _ _ _ _=>zL) (λ_ _ _ _ _=>(ze o26x hr rfl (pa1 (pv 0))))))) zo) (za (zw (zg zW (pv 3) zP (zm _)) (zd (zh (zI (pa1 (ze o28x hr rfl (pa2 (pil 2) (pil 2))))))) zo) (za (zw (zg zW (pv 3) zP (zm _)) (zd (zh (zI (pa1 (ze o26x hr rfl (pa1 (ze o28x hr rfl (pa2 (ze o26x hr rfl (pa1 (pil 2))) (ze o26x hr rfl (pa1 (pil 2))))))))))) zo) (za (zw (zg zW (pv 3) zP (zm _)) (zd (zh (zI (pa1 (ze o29x hr rfl (pa2 (pil 2) (pit 1))))))) zo) (za (zw (zg zW (pv 3) zP (zm _)) (zd (zh (zI (pa1 (ze o26x hr rfl (pa1 (ze o29x hr rfl (pa2 (ze o26x hr rfl (pa1 (pil 2))) (pit 1))))))))) zo) (zd (zh (zI (pa1 (ze o26x hr rfl (pa1 (pil 2)))))))))))))),?_⟩;walk_at "s";cases e with
  | cut al n s =>
    obtain ⟨pq,h0,hs⟩:=he;cases al with
    | false =>
      have h0:H p=some (.tup [.str (Str.ofString "across"),.int n,.ref pq]):=h0;have ha:H a=some (.lst [.ref c.p]):=ha;exists if_d (λ_=>?_) (λc=>absurd rfl c);walk_at "r";obtain ⟨f1,f2,f3,f4⟩:=hf;refine ⟨_,_,_,_,_,rfl,hy.o,X.c_Yard,X.n_Yard_root,rfl,?_⟩;exists wZ rfl hc hs hd f1 f2 f3 f4 λr c1 c2 H1 s1 hr e1 a1 a2 b1 b2=>?_;refine q r [c1,c2] H1 s1 hr e1 (λx hx=>?_) ?_
      . rcases a7.mp hx with rfl | hx
        . exact a1
        . rw [ao.mp hx]; exact a2
      . show [c1.b,c2.b]=_;rw [b1,b2];rfl
    | true =>
      have h0:H p=some (.tup [.str (Str.ofString "along"),.int n,.ref pq]):=h0;have ha:H a=some (.lst [.ref c.p]):=ha;exists ifn ?_;exists if_d (λ_=>?_) (λc=>absurd rfl c);walk_at "r";obtain ⟨f1,f2,f3,f4⟩:=hf;refine xv ?_;exists ⟨_,_,_,_,_,rfl,hy.o,X.c_Yard,X.n_Yard_root,rfl,?_⟩;exists yT rfl hc λr1 H1 s1 nr1 a1=>?_;have h01:=s1 _ _ h0;exists wZ rfl a1 (s1 _ _ hs) hd f1 f2 f3 f4 λr c1 c2 H2 s2 hr e2 a2 a3 b1 b2=>?_;have t2:=s1.trans s2;have hat:∀ x∈[c1,c2],x.At H2:=λx hx=>by
        rcases a7.mp hx with rfl|hx
        . exact a2
        . rw [ao.mp hx]; exact a3
      refine ⟨r,rfl,⟨_,SqL.of e2⟩,λD hD=>yE (K:=K) (a:=r) (ys:=[c1,c2].map Cell.v) (λi xs σ' H'=>E2 λ(v:Option V) (N:List Cell)=>A7 (σ'=[v]) (xs=N.map Cell.v) (H' D=some (.lst xs)) (SameX D H2 H') ((∀ x∈N,x.At H')) (N.length=i) (N.map Cell.b=([c1,c2].take i).map (λx=>⟨x.b.h,x.b.w⟩))) ⟨none,[],rfl,rfl,zj,λb o e n=>by rw [zn n]; exact e,λx hx=>absurd hx (!1),rfl,rfl⟩ (λi xs σ' H' _ z=>by obtain ⟨v,N,_,_,_,z,_⟩:=z; exact SqL.of (z _ _ e2 (zb e2 hD))) ?_ ?_⟩
      . rintro i x xs σ' H' hi ⟨v,N,rfl,rfl,eD,sx,hN,hl,hb⟩;rw [aj] at hi;obtain ⟨cx,hcx,rfl⟩:=av.mp hi;have hi3:=(af.mp hcx).1;have s':Same H2 H':=λb o e=>sx b o e (zb e hD);exists yT rfl ((hat cx (aw hcx)).same s') λr3 H3 s3 nr3 a3=>?_;exists zr (s3 _ _ eD) (by rw [aa,hl]; simp only [ax,aK] at hi3; lia) λH4 x4 e4=>?_;refine xm hi3 ⟨_,N++[⟨r3,cx.ph,cx.pw,⟨cx.b.h,cx.b.w⟩⟩],rfl,rfl,by rw [ah]; exact e4,sx.trans ((SameX.of s3).trans x4),λx hx=>?_,by rw [ai,hl]; rfl,?_⟩
        . rcases aE.mp hx with hx | hx
          . exact ((hN x hx).same s3).sameX x4 (s3 _ _ eD)
          . rw [ao.mp hx]; exact a3.sameX x4 (s3 _ _ eD)
        . rw [br,hcx,ah,ah,hb];rfl
      . rintro xs σ' H' ⟨v,N,rfl,rfl,eD,sx,hN,hl,hb⟩;have s':Same H2 H':=λb o e=>sx b o e (zb e hD);exists q D N H' (t2.trans s') (Same.nn t2 hD) eD hN ?_;rw [hb];show [(⟨c1.b.h,c1.b.w⟩:Bo),⟨c2.b.h,c2.b.w⟩]=_;rw [b1,b2];rfl
  | glue al n m =>
    have h0:=he;cases al with
    | false =>
      have h0:H p=some (.tup [.str (Str.ofString "beside"),.int n,.int m]):=h0;have ha:H a=some (.lst [.ref c.p,.ref c'.p]):=ha;exists ifn ?_;exists ifn ?_;exists if_d (λ_=>?_) (λc=>absurd rfl c);exists xQ rfl hc hc' hf.1 hf.2.1 hf.2.2 λc1 H1 s1 n1 a1 hb=>?_;exists zB (!1) λr HL nr sL eL=>?_;refine q r [c1] HL (Same.trans s1 sL) (Same.nn s1 nr) eL (λx hx=>?_) ?_
      . rw [ao.mp hx];exact a1.same sL
      . exact congrArg (λz=>[z]) hb
    | true =>
      have h0:H p=some (.tup [.str (Str.ofString "atop"),.int n,.int m]):=h0;have ha:H a=some (.lst [.ref c.p,.ref c'.p]):=ha;exists ifn ?_;exists ifn ?_;exists ifn ?_;exists if_d (λ_=>?_) (λc=>absurd rfl c);exists yT rfl hc λr1 H1 s1 nr1 a1=>?_;have ha1:=s1 _ _ ha;exists yT rfl (hc'.same s1) λr2 H2 s2 nr2 a2=>?_;exists xQ rfl (a1.same s2) a2 hf.1 hf.2.1 hf.2.2 λc1 H3 s3 n3 a3 hb=>?_;exists yT rfl a3 λr4 H4 s4 nr4 a4=>?_;replace hb:(⟨c1.b.h,c1.b.w⟩:Bo)=⟨c.b.w,adS c.b.h c'.b.h⟩:=by rw [hb]
      exists zB (!1) λr HL nr sL eL=>?_;refine q r [⟨r4,c1.ph,c1.pw,⟨c1.b.h,c1.b.w⟩⟩] HL (Same.trans (((s1.trans s2).trans s3).trans s4) sL) (Same.nn (((s1.trans s2).trans s3).trans s4) nr) eL (λx hx=>?_) ?_
      . rw [ao.mp hx];exact a4.same sL
      . exact congrArg (λz=>[z]) hb
  | shift al n k =>
    have h0:=he;cases al with
    | false =>
      have h0:H p=some (.tup [.str (Str.ofString "stack"),.int n,.int k]):=h0;have ha:H a=some (.lst [.ref c.p]):=ha;exists ifn ?_;exists ifn ?_;exists ifn ?_;exists ifn ?_;exists if_d (λ_=>?_) (λc=>absurd rfl c);exists Am rfl hc hf.1 hf.2.1 hf.2.2.1 hf.2.2.2 λc1 H1 s1 n1 a1 hb=>?_;exists zB (!1) λr HL nr sL eL=>?_;refine q r [c1] HL (Same.trans s1 sL) (Same.nn s1 nr) eL (λx hx=>?_) ?_
      . rw [ao.mp hx];exact a1.same sL
      . exact congrArg (λz=>[z]) hb
    | true =>
      have h0:H p=some (.tup [.str (Str.ofString "spread"),.int n,.int k]):=h0;have ha:H a=some (.lst [.ref c.p]):=ha;exists ifn ?_;exists ifn ?_;exists ifn ?_;exists ifn ?_;exists ifn ?_;exists if_d (λ_=>?_) (λc=>absurd rfl c);exists yT rfl hc λr1 H1 s1 nr1 a1=>?_;have h01:=s1 _ _ h0;exists Am rfl a1 hf.1 hf.2.1 hf.2.2.2 hf.2.2.1 λc1 H3 s3 n3 a3 hb=>?_;exists yT rfl a3 λr4 H4 s4 nr4 a4=>?_;replace hb:(⟨c1.b.h,c1.b.w⟩:Bo)=⟨shS c.b.w k 1,shS c.b.h 1 k⟩:=by rw [hb]
      exists zB (!1) λr HL nr sL eL=>?_;refine q r [⟨r4,c1.ph,c1.pw,⟨c1.b.h,c1.b.w⟩⟩] HL (Same.trans ((s1.trans s3).trans s4) sL) (Same.nn ((s1.trans s3).trans s4) nr) eL (λx hx=>?_) ?_
      . rw [ao.mp hx];exact a4.same sL
      . exact congrArg (λz=>[z]) hb
  | turn n =>
    have h0:=he;have h0:H p=some (.tup [.str (Str.ofString "turn"),.int n]):=h0;have ha:H a=some (.lst [.ref c.p]):=ha;exists ifn ?_;exists ifn ?_;exists ifn ?_;exists ifn ?_;exists ifn ?_;exists ifn ?_;exists yT rfl hc λr1 H1 s1 nr1 a1=>?_;have hb:(⟨c.b.h,c.b.w⟩:Bo)=⟨c.b.h,c.b.w⟩:=rfl;exists zB (!1) λr HL nr sL eL=>?_;refine q r [⟨r1,c.ph,c.pw,⟨c.b.h,c.b.w⟩⟩] HL (Same.trans s1 sL) (Same.nn s1 nr) eL (λx hx=>?_) ?_
    . rw [ao.mp hx];exact a1.same sL
    . exact congrArg (λz=>[z]) hb
theorem K65(F:Fun K "rank" "rank" S48 f fd)(B:Bl mg)(o44x:Own P w K mg base 1 "slant" ["one"] [] P13)(o41x:O41x P w K mg base):FnOk P w K mg base CX0 6 f fd ["heap"] (P66 K):=by
  refine F.okA C67 λcdv A outer s H vs Q E hr h=>?_;obtain @⟨p,L,rfl,h1,hA,ok0,hbt,ln,bt,q⟩:=h;refine ⟨_,(zd (zh (xj (zg zW (ze o44x hr rfl (pa1 (ze o41x hr rfl (pa1 (pv 0))))) zc (zm _)) zc zc))),?_⟩;walk_at "s";exists vY rfl h1 hA ok0 hbt ln λr H1 s1 e1=>?_;exists Ih rfl e1 bt ?_;exists if_d (λc=>?_) (λc=>?_)
  . walk_at "r";exact uP (by unfold rkT; rw [io c]) (q H1 s1)
  . walk_at "r";exact uP (by unfold rkT; rw [ip c]) (q H1 s1)
theorem K66(F:Fun K "do" "Yard.do" S69 f fd)(B:Bl mg)(X:Xs K mg cs)(g_TURN:TopS mg "TURN" (Str.ofString "turn"))(o24x:O24x P w K mg base)(o69x:OwnM P w K mg base CX0 cs.Yard 2 "check_names" ["self","names"] [] (P40 cs))(o70x:OwnM P w K mg base CX0 cs.Yard 5 "put_by" ["self","deed","boards"] [] (P65 cs))(o23x:Own P w K mg base 4 "is_deed" ["thing"] [] P56):FnOk P w K mg base CX0 6 f fd ["self","deed"] (P67 cs):=by
  obtain ⟨u_TURN,m_TURN,r_TURN⟩:=g_TURN;refine F.okA C68 λcdv A outer s H vs Q E hr h=>?_;obtain @⟨y,d,tn,cl,ns,lg,p,e,c,c',rfl,hy,he,ok,hm,hn,ht,hc,hf,hd,l1,l2,q⟩:=h;refine ⟨_,(za (zw (xZ (yY (ze o23x hr rfl (pa1 (pv 1))))) (zd yV) zo) (za (ps_s 2 C68.nd (ze o24x hr rfl (pa1 (pv 1)))) (za (zU (vN o69x t8 hr (pv 0) (pa1 (pv 2)))) (za (zw (PW.pt (yQ (zg zW (pit 1) (yk (v:=.str (Str.ofString "turn")) rfl m_TURN r_TURN) (zm _)) (yw (xZ (yY (ye (K:=K) rfl (pv 0) rfl)))))) (zd yV) zo) (za (ps_s 3 C68.nd (vN o70x t8 hr (pv 0) (pa2 (pv 1) (yr ["name"] [0] rfl (zA (pv 2)) (λ_ _ _ _ _=>(pg_n 0 (show List.Nodup (α:=Str) ["name","self"] by decide +kernel))) (λ_ _ _ _ _=>zL) (λ_ _ _ _ _=>(pe_i (r:=rIxL K) ix_list (ye (K:=K) rfl (pv 1) rfl) (pv 0))))))) (za (zH PassesOwn.never rfl (zA (pv 2)) (pg_n 4 C68.nd) (zd (zU (CO (ye (K:=K) rfl (pv 0) rfl) (pv 4) ⟨rfl,rfl,rfl,rfl⟩)))) (za (zH PassesOwn.never rfl (zA (pv 3)) (pg_n 5 C68.nd) (za (vO (uR hr) (ye (K:=K) rfl (pv 0) rfl) (zp zx rfl B.len bI (pa1 (ye (K:=K) rfl (pv 0) rfl))) wP rfl) (zd (zU (wo a8 aZ a6 zF (ye (K:=K) rfl (pv 0) rfl) (pa1 (pv 5))))))) (zd (zU (wo a8 aZ a6 zF (ye (K:=K) rfl (pv 0) rfl) (pa1 (pv 1)))))))))))),?_⟩;walk_at "s";exists Ec rfl he ok λH1 s1=>?_;exists xk rfl (he.same s1) λa H2 s2 na ea=>?_;have t2:=s1.trans s2;walk_at "r";have hy2:=hy.same t2;have he2:=he.same t2;refine ⟨_,_,_,rfl,hy2.o,rfl,?_⟩;exists wA rfl hy2 ea hm hn e.names_len ?_;walk_at "r";obtain ⟨rs,hp⟩:=he2.tup;refine vF hp (xt (j:=0) rfl) ?_;exists MA ?_ (λct hB=>?_);rotate_left
  . exists ⟨_,_,_,_,_,rfl,hy2.o,X.c_Yard,X.n_Yard_turning,rfl,?_⟩;rw [ht (Jn ct)];walk_at "rd";exact JQ hB
  exists ⟨_,_,_,rfl,hy2.o,rfl,?_⟩;exists xv ?_;exists ⟨a,rfl,⟨_,SqL.of ea⟩,λD hD=>yE (K:=K) (a:=a) (ys:=e.names.map V.int) (λi xs σ' H'=>E1 λ(v:Option V)=>A4 (σ'=[v,vR y.p]) (xs=((e.cells c c').take i).map Cell.v) (H' D=some (.lst xs)) (SameX D H2 H')) ⟨none,rfl,rfl,zj,λb o e n=>by rw [zn n]; exact e⟩ (λi xs σ' H' _ z=>by obtain ⟨v,_,_,_,z⟩:=z; exact SqL.of (z _ _ ea (zb ea hD))) ?_ ?_⟩
  . rintro i x xs σ' H' hi ⟨v,rfl,rfl,eD,sx⟩;rw [aj] at hi;obtain ⟨m,hm',rfl⟩:=av.mp hi;obtain ⟨n,x,rfl,hx,hcx⟩:=A1 hc hm';have hi3:=(af.mp hm').1;have hn2:=e.names_len;have s':Same H2 H':=λb o e=>sx b o e (zb e hD);have hy':=hy2.same s';exists ⟨_,_,_,_,_,rfl,hy'.o,X.c_Yard,X.n_Yard_known,rfl,?_⟩;exists xr hy'.k (v:=x.v) (xt (by rw [aj,hx]; rfl)) ?_;exists zr eD (by rw [aa,az]; lia) λH3 x3 e3=>?_;refine xm (by rw [aa]; exact hi3) ⟨_,rfl,rfl,?_,sx.trans x3⟩;rw [br,hcx,ah];exact e3
  rintro xs σ' H3 ⟨v,rfl,rfl,eD,sx⟩;have s3:Same H2 H3:=λb o e=>sx b o e (zb e hD);have t3:=t2.trans s3;have hy3:=hy.same t3;rw [aa,<-e.cells_len c c',au] at eD;exists tw rfl hy3 (he.same t3) (by rw [eD]; unfold Dd.cells; cases e.two <;> rfl) (hy3.at' c hc.mem.1) (hy3.at' c' hc.mem.2) hd hf λr N H4 s4 nr er hN hNb=>?_;have t4:=t3.trans s4;have hy4:=hy.same t4;have ea4:=s4 _ _ (s3 _ _ ea);have kl:y.k≠y.l:=zX hy4.k hy4.l (λz=>nomatch z);have tl:y.t≠y.l:=zX hy4.t hy4.l (λz=>nomatch z);have ol:y.p≠y.l:=zX hy4.o hy4.l (λz=>nomatch z);have ok':y.p≠y.k:=zX hy4.o hy4.k (λz=>nomatch z);have ot:y.p≠y.t:=zX hy4.o hy4.t (λz=>nomatch z);have al:a≠y.l:=zX ea4 hy4.l (λz=>nomatch z);have rl:r≠y.l:=zX er hy4.l (λz=>nomatch z);have rk:r≠y.k:=ck (zb hy3.k nr);exists yC ?_;exists ⟨a,rfl,⟨_,SqL.of ea4⟩,zJ (K:=K) (a:=a) (xs:=e.names.map V.int) (λi σ H'=>E1 λv=>A3 (σ=[vR y.p,vR p,vR a,vR r,v,none]) (H' y.l=some (.dK (nmK (yq ns (e.names.take i))))) (SameX y.l H4 H')) ⟨_,rfl,hy4.l,λb o e _=>e⟩ (λi σ H' _ z'=>by obtain ⟨_,_,_,x⟩:=z'; exact SqL.of (x _ _ ea4 al)) ?_ ?_⟩
  . rintro i x σ H' hi ⟨v,rfl,el,sx5⟩;rw [aj] at hi;obtain ⟨m,hm',rfl⟩:=av.mp hi;obtain ⟨n,hn',rfl⟩:=hm m (aw hm');have hni:(n:Int)∉e.names.take i:=by
      intro hh;obtain ⟨j,hj⟩:=d5 hh;have hj1:=(af.mp hj).1;rw [az] at hj1;rw [em (!2)] at hj;have:=(fk (i:=j) (!2) hn).mp (hj.trans hm'.symm)
      lia
    have eo:=sx5 _ _ hy4.o ol;exists ⟨_,_,_,_,_,rfl,eo,X.c_Yard,X.n_Yard_lying,rfl,?_⟩;refine ⟨y.l,rfl,.inl ⟨_,.inl el⟩,?_⟩;exists ⟨_,.inl (n:Int),_,el,rfl,vk (mem_ndrop.mpr ⟨hn',hni⟩),?_⟩;refine ⟨_,rfl,?_,λb o e n=>by rw [zn n]; exact sx5 b o e n⟩;rw [zj,vJ,br,hm',show ((some (n:Int)).toList)=[(n:Int)] from rfl,wH]
  rintro σ H5 ⟨v,rfl,el5,sx5⟩;rw [aa,au] at el5;have er5:=sx5 _ _ er rl;have ek5:=sx5 _ _ hy4.k kl;have hN2:N.length<=2:=by rw [<-aa (f:=Cell.b),hNb]; exact BG e _ _
  have dl:=CC (xK (ms:=e.names) hy.up) (λn h=>hy.lt n (mem_ndrop.mp h).1);exists yC ?_;exists ⟨r,rfl,⟨_,SqL.of er5⟩,zJ (K:=K) (a:=r) (xs:=N.map Cell.v) (λi σ H'=>E2 λv v'=>A4 (σ=[vR y.p,vR p,vR a,vR r,v,v']) (H' y.l=some (.dK (nmK (yq ns e.names++List.range' cl.length i)))) (H' y.k=some (.lst ((cl++N.take i).map Cell.v))) (∀ b o,H5 b=some o->b≠y.k->b≠y.l->H' b=some o)) ⟨_,_,rfl,by simpa using el5,by simpa using ek5,λb o e _ _=>e⟩ (λi σ H' _ z'=>by obtain ⟨_,_,_,_,_,x⟩:=z'; exact SqL.of (x _ _ er5 rk rl)) ?_ ?_⟩
  . rintro i x σ H' hi ⟨v1,v2,rfl,el,ek,sx6⟩;rw [aj] at hi;obtain ⟨cx,hcx,rfl⟩:=av.mp hi;have hi3:=(af.mp hcx).1;have eo:=sx6 _ _ (sx5 _ _ hy4.o ol) ok' ol;have lk:((cl++N.take i).map Cell.v).length=cl.length+i:=by rw [aa,ai,az]; lia
    exists ⟨_,_,_,_,_,rfl,eo,X.c_Yard,X.n_Yard_lying,rfl,?_⟩;exists ⟨_,_,_,_,_,rfl,eo,X.c_Yard,X.n_Yard_known,rfl,?_⟩;walk_at "r";rw [lk];refine ⟨y.l,_,rfl,DPut.k (k:=.inl ((cl.length+i:Nat):Int)) el (by simp only [nmK,aa,ai,eZ]; exact aN (show _<1000 by lia) (!3)),?_⟩;have ek':upd H' y.l (.dK (putK (nmK (yq ns e.names++List.range' cl.length i)) (.inl ((cl.length+i:Nat):Int)) (.bl true))) y.k=some (.lst ((cl++N.take i).map Cell.v)):=by rw [zn kl]; exact ek
    exists ⟨_,_,_,_,_,rfl,by rw [zn ol]; exact eo,X.c_Yard,X.n_Yard_known,rfl,?_⟩;exists zr ek' (by rw [lk]; lia) λH7 x7 e7=>?_;refine ⟨_,_,rfl,?_,?_,λb o e n1 n2=>x7 _ _ (by rw [zn n2]; exact sx6 b o e n1 n2) n1⟩
    . rw [x7 _ _ zj (ck kl)];rw [CA _ (wM (λn hn=>?_))]
      . rw [List.range'_concat,<-bQ];simp [nmK]
      . rcases aE.mp hn with hn | hn
        . have:=hy.lt n (mem_ndrop.mp hn).1
          lia
        . have:=dj.mp hn
          lia
    . rw [br,hcx,<-bQ,ah];exact e7
  rintro σ H6 ⟨v1,v2,rfl,el6,ek6,sx6⟩;rw [aa] at el6 ek6;rw [au] at ek6;have eo6:=sx6 _ _ (sx5 _ _ hy4.o ol) ok' ol;have et6:=sx6 _ _ (sx5 _ _ hy4.t tl) (ck hy.kt) tl;exists ⟨_,_,_,_,_,rfl,eo6,X.c_Yard,X.n_Yard_done,rfl,?_⟩;exists zr et6 (!2) λH7 x7 e7=>?_;walk_at "r";have keep:∀ x:Cell,x.At H4->x.At H7:=λx hx=>by
    have f:∀ {b:Addr} {ys:List V},H4 b=some (.tup ys)->H7 b=some (.tup ys):=λ{b ys} e=>x7 _ _ (sx6 _ _ (sx5 _ _ e (zX e hy4.l (λz=>nomatch z))) (zX e hy4.k (λz=>nomatch z)) (zX e hy4.l (λz=>nomatch z))) (zX e hy4.t (λz=>nomatch z));exact ⟨f hx.t,f hx.w,f hx.h⟩
  refine q N H7 ⟨x7 _ _ eo6 ot,x7 _ _ ek6 hy.kt,x7 _ _ el6 (ck tl),e7,hy.kt,λx hx=>?_,?_,λn hn=>?_,by rw [ai]; lia,by rw [ai]; simp only [ax,aK]; lia⟩ hNb (λb o e n1 n2 n3=>x7 _ _ (sx6 _ _ (sx5 _ _ (t4 _ _ e) n2) n1 n2) n3)
  . rcases aE.mp hx with hx | hx
    . exact keep x (hy4.at' x hx)
    . exact keep x (hN x hx)
  . refine List.pairwise_append.mpr ⟨xK hy.up,gJ ..,λn1 h1 n2 h2=>?_⟩;have:=hy.lt n1 (mem_ndrop.mp h1).1;have:=dj.mp h2
    lia
  . rw [ai];rcases aE.mp hn with hn|hn
    . have:=hy.lt n (mem_ndrop.mp hn).1
      lia
    . have:=dj.mp hn
      lia
theorem K67(F:Fun K "yard_behind" "yard_behind" S31 f fd)(B:Bl mg)(X:Xs K mg cs)(o67x:OwnI P w K mg base CX0 cs.Yard 1 "Yard" ["self","d","heap","turning"] [] (P21 cs))(o68x:OwnM P w K mg base CX0 cs.Yard 6 "do" ["self","deed"] [] (P67 cs)):FnOk P w K mg base CX0 7 f fd ["d","heap","plan","turning"] (P68 cs):=by
  refine F.okA C69 λcdv A outer s H vs Q E hr h=>?_;obtain @⟨hp,pl,d,tn,L,ps,es,rfl,hh,hA,l30,hpl,plen,hd,hr',hw,q⟩:=h;refine ⟨_,(za (ps_s 4 C69.nd (Jy o67x t8 hr rfl (pa3 (pv 0) (pv 1) (pv 3)))) (za (zH PassesOwn.never rfl (zA (pv 2)) (pg_n 5 C69.nd) (zd (zU (vN o68x t8 hr (pv 4) (pa1 (pv 5)))))) (zd (zh (pv 4))))),?_⟩;walk_at "s";exists J6 ?_;walk_at "r";intro x dx nx ndx ndxx;refine vT (tn:=tn) rfl nx ndx hh hA (!2) λy H1 ep s1 hy1 k1 l1 t1=>?_;subst ep;refine ⟨rfl,?_⟩;have hpl1:=s1 _ _ hpl;have plk:pl≠y.k:=zb hpl k1;have plt:pl≠y.t:=zb hpl t1;have hel:es.length<=150:=by rw [<-hr'.1]; exact plen
  have st0:YdS cs.Yard H1 y d tn (As.st L) []:=⟨L,hy1,rfl,λn hn=>by
    have hn:n<L.length:=hn;exact ⟨_,ae hn,by show _=(fL L n).b; rw [JI (ae hn)]⟩⟩
  exists yC ?_;exists ⟨pl,rfl,⟨_,SqL.of hpl1⟩,zJ (K:=K) (a:=pl) (xs:=ps.map V.ref) (λi σ H'=>E1 λv=>A3 (σ=[vI d,vR hp,vR pl,some (.bl tn),vR y.p,v]) (Same H H') (YdS cs.Yard H' y d tn (ends (As.st L) (es.take i)) ((ps.take i).map V.ref))) ⟨_,rfl,s1,st0⟩ (λi σ H' _ z'=>by obtain ⟨_,_,s,_⟩:=z'; exact SqL.of (s _ _ hpl)) ?_ ?_⟩
  . rintro i x σ H' hi ⟨v,rfl,s',⟨cl,hyc,hk,hrel⟩⟩;rw [aj] at hi;obtain ⟨p,hp',rfl⟩:=av.mp hi;have ci:=(af.mp hp').1;have hkk:=Lb (s:=As.st L) (es:=es.take i);have hk0:(As.st L).k=L.length:=rfl;rw [az] at hkk;have hlg:((ps.take i).map V.ref).length<=150:=by rw [aa,az]; lia
    have hie:i<es.length:=by rw [<-hr'.1]; exact ci
    obtain ⟨e,n,m,hx⟩:∃ e n m,es[i]?=some (e,n,m):=⟨_,_,_,ae hie⟩
    have st:=hw i _ hx;have he:=(hr'.2 i p _ hp' hx).same s';obtain ⟨cn,hcn,hbn⟩:=hrel n (hk ▸ hyc.lt n st.nms.hn);obtain ⟨cm,hcm,hbm⟩:=hrel m (hk ▸ hyc.lt m st.nms.hm);exists ⟨_,_,_,rfl,hyc.o,rfl,?_⟩;exists D6 rfl (c:=cn) (c':=cm) hyc he st.ok st.nms.names_in st.nms.nodup st.tn (st.nms.cells hcn hcm) (by rw [hbn,hbm]; exact st.fit) hd (!2) (!2) λN H2 hy2 hN fr2=>?_;rw [hbn,hbm] at hN;exists ⟨_,rfl,λb o e=>fr2 _ _ (s' _ _ e) (zb e k1) (zb e l1) (zb e t1),?_⟩;rw [ym hx,br,hp',ah];exact YdS.next hk hrel hy2 hN
  rintro σ H' ⟨v,rfl,s',st⟩;rw [aa,au,hr'.1,au] at st;walk_at "r";exact q y H' s' st
theorem GW{cl:List Cell}{g:Nat->Bo}:∀ {ns:List Nat},(∀ n∈ns,∃ c,cl[n]?=some c/\c.b=g n)->(pick cl ns).map Cell.b=ns.map g
  | [],_=>rfl
  | n::ns,h=>by
    obtain ⟨c,h1,h2⟩:=h n aG;have ih:=GW (ns:=ns) λm hm=>h m (aB _ hm);simp only [pick,dk,h1,aR,h2] at ih ⊢;rw [ih]
theorem K68(F:FunD K "walked" "walked" S32 f fd its)(B:Bl mg)(o73x:OwnM P w K mg base CX0 cs.Yard 1 "heap" ["self"] [] (P24 cs))(o30x:O30x P w K mg base cs):FnOk P w K mg base CX0 8 f fd ["d","heap","plan","turning"] (P69 cs):=by
  refine F.okA C70 λcdv A outer s H vs Q E hr h=>?_;obtain @⟨hp,pl,d,tn,L,ps,es,rfl,hh,hA,l30,hpl,plen,hd,hr',hw,q⟩:=h;refine ⟨_,(zd (zh (B0 o73x t8 hr (ze o30x hr rfl (zM (pv 0) (zM (pv 1) (zM (pv 2) (zM (pv 3) yU)))))))),?_⟩;walk_at "s";exists wm rfl hh hA l30 hpl plen hd hr' hw λy H1 s1 st=>?_;obtain ⟨cl,hyc,hk,hrel⟩:=st;refine ⟨_,_,_,rfl,hyc.o,rfl,?_⟩;exists Bp rfl hyc λr H2 s2 nr e2=>?_;exact q r _ H2 (s1.trans s2) (Same.nn s1 nr) e2 (λc hc=>(hyc.at' c (Gs hc)).same s2) (GW λn hn=>hrel n (hk ▸ hyc.lt n hn))
theorem K69(F:Fun K "back" "back" S35 f fd)(B:Bl mg)(o30x:O30x P w K mg base cs)(o72x:OwnM P w K mg base CX0 cs.Yard 1 "boards" ["self"] [] (P23 cs))(o24x:O24x P w K mg base)(o33x:Own P w K mg base 1 "places_of" ["names"] [] P11)(o25x:O25x P w K mg base)(o32x:Own P w K mg base 2 "undoing" ["yard","deed","names"] [] (P32 cs)):FnOk P w K mg base CX0 8 f fd ["d","heap","plan"] (P70 cs):=by
  refine F.okA C71 λcdv A outer s H vs Q E hr h=>?_;obtain @⟨hp,pl,d,tn,L,ps,es,D0,K',M,rfl,hh,hA,l1,l6,hpl,plen,hR,hr',hw,z,ev,q⟩:=h;refine ⟨_,(za (ps_s 3 C71.nd (ze o30x hr rfl (zM (pv 0) (zM (pv 1) (zM (pv 2) (zM wP yU)))))) (za (ps_s 4 C71.nd (B0 o72x t8 hr (pv 3))) (za (ps_s 5 C71.nd CG) (za (zH PassesOwn.never rfl (tM rfl B.enumerate (pa1 (pv 4))) (uN (n:=2) rfl (ya (pg_n 6 C71.nd) (ya (pg_n 7 C71.nd) wF))) (zd (vO (uR hr) (pv 5) (pit 7) (pv 6) rfl))) (za (ps_s 8 C71.nd (zp zx rfl B.len bI (pa1 (pv 4)))) (za (ps_s 9 C71.nd (zf zv (zp zx rfl B.len bI (pa1 (pv 1))) (zp (xf rfl) rfl B.sum uI (pa1 (yr ["deed"] [] rfl (zA (pv 2)) (λ_ _ _ _ _=>(pg_n 0 (show List.Nodup (α:=Str) ["deed"] by decide +kernel))) (λ_ _ _ _ _=>zL) (λ_ _ _ _ _=>(ze o25x hr rfl (pa1 (pv 0))))))))) (za (ps_s 10 C71.nd (zI yU)) (za (zH PassesOwn.never rfl (Iz rfl B.reversed (pa1 (pv 2))) (pg_n 11 C71.nd) (za (ps_s 12 C71.nd (zf yX (pv 9) (ze o25x hr rfl (pa1 (pv 11))))) (za (zU (wo a8 aZ a6 zF (pv 10) (pa1 (ze o32x hr rfl (pa3 (pv 3) (pv 11) (yr ["name"] [5] rfl (wt rfl B.range (pa2 (pv 12) (pv 9))) (λ_ _ _ _ _=>(pg_n 0 (show List.Nodup (α:=Str) ["name","renamed"] by decide +kernel))) (λ_ _ _ _ _=>zL) (λ_ _ _ _ _=>(Bw (uR hr) (pv 1) (pv 0) (λ_ _=>rfl))))))))) (za (zH PassesOwn.never rfl (zA (ze o24x hr rfl (pa1 (pv 11)))) (pg_n 13 C71.nd) (za (vO (uR hr) (pv 5) (pv 13) (pv 8) rfl) (zd (ps_s 8 C71.nd (zf zv (pv 8) zc))))) (zd (ps_s 9 C71.nd (pv 12))))))) (zd (zh (zq (pa2 (pv 10) (ze o33x hr rfl (pa1 (yr ["name"] [5] rfl (yz rfl B.range (pa1 (zp zx rfl B.len bI (pa1 (pv 1))))) (λ_ _ _ _ _=>(pg_n 0 (show List.Nodup (α:=Str) ["name","renamed"] by decide +kernel))) (λ_ _ _ _ _=>zL) (λ_ _ _ _ _=>(Bw (uR hr) (pv 1) (pv 0) (λ_ _=>rfl)))))))))))))))))),?_⟩;walk_at "s";have hel:es.length<=100:=by rw [<-hr'.1]; exact plen
  have dlo:=hR.lo;have hd64:Bd 64 d:=zG (B:=99) (!2) hR.hi (!3);have ok0:As.Ok 20 (As.st L) 0:=by rw [vM]; exact ul (by rw [aa]; exact l1) (by rw [aa]; exact l6)
  have oks:=zY ok0 hw;have okN:=oks es.length (ag _);rw [au] at okN;have nlN:=okN.nl;have klN:=okN.kl;have ndN:=xI okN.up;exists wm rfl hh hA (!2) hpl (!2) hd64 hr' (DC hw) λy H1 s1 st=>?_;obtain ⟨cl,hyc,hk,hrel⟩:=st;exists ⟨_,_,_,rfl,hyc.o,rfl,?_⟩;exists tD rfl hyc λr2 H2 prs s2 nr2 e2 hprs=>?_;exists FA λD H3 nD s3 e3=>?_;have e23:=s3 _ _ e2;have r2D:r2≠D:=zb e2 nD;exists Cj ?_;exists ⟨r2,_,rfl,SqL.of e23,vj (K:=K) (a:=r2) (xs:=prs.map V.ref) (λi σ H'=>E3 λv1 v2 kvs=>A5 (σ=[vI d,vR hp,vR pl,vR y.p,vR r2,vR D,v1,v2,none,none,none,none,none,none]) (H' D=some (.dK kvs)) (kvs.length<=i) (Rn kvs ((ends (As.st L) es).ns.take i) (rk (ends (As.st L) es).ns)) (∀ b o,H3 b=some o->b≠D->H' b=some o)) ⟨_,_,[],rfl,e3,ag _,λn hn=>by simp at hn,λb o e _=>e⟩ (λi σ H' _ z'=>by obtain ⟨_,_,_,_,_,_,_,z⟩:=z'; exact SqL.of (z _ _ e23 r2D)) ?_ ?_⟩
  . rintro i x T σ H' hi hT ⟨v1,v2,kvs,rfl,eD,hkl,hRn,fr⟩;have hi':=(af.mp hi).1;rw [aa,hprs.1] at hi';rw [aj] at hi;obtain ⟨p,hp',rfl⟩:=av.mp hi;obtain ⟨n,c,hn,hc,hpt⟩:=hprs.2 i p hp';have hpt3:=fr _ _ (s3 _ _ hpt) (zX (s3 _ _ hpt) e3 (λz=>nomatch z));have eD':(upd H' T (.tup [.int (i:Int),.ref p])) D=some (.dK kvs):=by rw [zn (zb eD hT)]; exact eD
    have eT:(upd H' T (.tup [.int (i:Int),.ref p])) T=some (.tup [.int (i:Int),.ref p]):=zj;have hpt4:(upd H' T (.tup [.int (i:Int),.ref p])) p=some (.tup [.int (n:Int),.ref c.p]):=by rw [zn (zb hpt3 hT)]; exact hpt3
    have frT:∀ b o,H3 b=some o->b≠D->(upd H' T (.tup [.int (i:Int),.ref p])) b=some o:=λb o e n=>by rw [zn (zb (fr b o e n) hT)]; exact fr b o e n
    generalize upd H' T (.tup [.int (i:Int),.ref p])=G at eT eD' frT hpt4 ⊢;exists ⟨D,_,rfl,DPut.k (k:=.inl (n:Int)) eD' (aN (show _<1000 by lia) (!3)),?_⟩;refine ⟨_,_,_,rfl,zj,ce (yJ ..) (!2),λj hj=>?_,λb o e n=>by rw [zn n]; exact frT b o e n⟩;rw [wl];rw [br,hn] at hj;by_cases c:j=n
    . subst c;rw [io rfl,F3 ndN hn]
    . rw [ip (CD c)];refine hRn j ?_;rcases aE.mp hj with h|h
      . exact h
      . exact absurd (by simpa using h) c
  rintro σ H4 ⟨w1,w2,kvs0,rfl,eD4,hkl4,hR4,fr4⟩;rw [aa,hprs.1] at hkl4 hR4;rw [au] at hR4;have s4:Same H2 H4:=λb o e=>fr4 _ _ (s3 _ _ e) (zb e nD);have s04:=(s1.trans s2).trans s4;have e24:=s4 _ _ e2;have hh4:=s04 _ _ hh;exists xv ?_;walk_at "r";have hpl4:=s04 _ _ hpl;refine ⟨pl,rfl,⟨_,SqL.of hpl4⟩,λO hO=>yE (K:=K) (a:=pl) (ys:=ps.map V.ref) (λi xs σ' H'=>E1 λ(v:Option V)=>A4 (σ'=[v]) (xs=((es.take i).map λx=>((x.1.puts:Nat):Int)).map V.int) (H' O=some (.lst xs)) (SameX O H4 H')) ⟨none,rfl,rfl,zj,λb o e n=>by rw [zn n]; exact e⟩ (λi xs σ' H' _ z=>by obtain ⟨v,_,_,_,z⟩:=z; exact SqL.of (z _ _ hpl4 (zb hpl4 hO))) ?_ ?_⟩
  . rintro i x xs σ' H' hi ⟨v,rfl,rfl,eO,sx⟩;have hi':=(af.mp hi).1;rw [aj] at hi;obtain ⟨p,hp',rfl⟩:=av.mp hi;have hie:i<es.length:=by rw [<-hr'.1]; exact (af.mp hp').1
    have hx:=ae hie;have he:=((hr'.2 i p _ hp' hx).same s04).same (λb o e=>sx b o e (zb e hO));exists yd rfl he ?_;exists zr eO (by simp only [aa,az]; lia) λH5 x5 e5=>?_;refine xm hi' ⟨_,rfl,rfl,?_,sx.trans x5⟩;rw [br,hx,ah,ah];exact e5
  rintro xs σ' H5 ⟨v,rfl,rfl,eO5,sx5⟩;have s5:Same H4 H5:=λb o e=>sx5 b o e (zb e hO);rw [aa,hr'.1,au] at eO5;exists CV (SqL.of eO5) ?_;have hsum:((L.map Cell.v).length:Int)+(es.map λx=>((x.1.puts:Nat):Int)).sum=((ends (As.st L) es).k:Nat):=by
    rw [Cr,xz,aa];show _=((L.length+_:Nat):Int)
    lia
  walk_at "r";rw [hsum];refine zB (!1) λa H6 na s6 e6=>?_;have s46:=s5.trans s6;have s06:=s04.trans s46;have eD6:=s46 _ _ eD4;have Da:D≠a:=zb (s5 _ _ eD4) na;have hy6:=((hyc.same s2).same s4).same s46;have hD0:H D=none:=Same.nn (s1.trans s2) nD;have ha0:H a=none:=Same.nn (s04.trans s5) na;have hpl6:=s06 _ _ hpl;have plD:pl≠D:=zb hpl hD0;have pla:pl≠a:=zb hpl ha0;exists Lc ?_;walk_at "r";have hplen2:(prs.map V.ref).length=(ends (As.st L) es).ns.length:=by rw [aa,hprs.1]
  rw [hplen2];refine ⟨pl,_,rfl,SqL.of hpl6,Gz (K:=K) (a:=pl) (xs:=ps.map V.ref) (λj σ H'=>E9 λ(v1 v2 v3 v4 v5:Option V) (kvs:List (Key×V)) (r:Nat->Nat) (ps':List Addr) (es':DL)=>A5 (σ=[vI d,vR hp,vR pl,vR y.p,vR r2,vR D,v1,v2,vI ((ends (As.sb ((ends (As.st L) es).ns.map (ends (As.st L) es).g)) es').k:Nat),vI ((ends (As.st L) (es.take (es.length - j))).k:Nat),vR a,v3,v4,v5]) ((H' D=some (.dK kvs)/\kvs.length<=130+2*j/\Rn kvs (ends (As.st L) (es.take (es.length - j))).ns r)) ((H' a=some (.lst (ps'.map V.ref))/\Runs H' ps' es'/\ps'.length=j)) ((Walk d tn (As.sb ((ends (As.st L) es).ns.map (ends (As.st L) es).g)) es'/\es'.length=j/\Sim r (ends (As.st L) (es.take (es.length - j))) (ends (As.sb ((ends (As.st L) es).ns.map (ends (As.st L) es).g)) es')/\∀ i,i<=j->∀ n∈(ends (As.sb ((ends (As.st L) es).ns.map (ends (As.st L) es).g)) (es'.take i)).ns,BoD d D0 M ((ends (As.sb ((ends (As.st L) es).ns.map (ends (As.st L) es).g)) (es'.take i)).g n))) (∀ b o,H6 b=some o->b≠D->b≠a->H' b=some o)) ⟨w1,w2,none,none,none,kvs0,rk (ends (As.st L) es).ns,[],[],?_,⟨eD6,by lia,?_⟩,⟨e6,⟨rfl,λi p x h=>by simp at h⟩,rfl⟩,⟨λi x h=>by simp at h,rfl,?_,λi hi n hn=>?_⟩,λb o e _ _=>e⟩ (λj σ H' _ z=>by obtain ⟨_,_,_,_,_,_,_,_,_,_,_,_,_,z⟩:=z; exact SqL.of (z _ _ hpl6 plD pla)) ?_ ?_⟩
  . rw [h8,au];show _=[vI d,vR hp,vR pl,vR y.p,vR r2,vR D,w1,w2,vI ((((ends (As.st L) es).ns.map (ends (As.st L) es).g).length:Nat):Int),vI ((ends (As.st L) es).k:Nat),vR a,none,none,none]
    rw [aa]
  . rw [h8,au];exact hR4
  . rw [h8,au];exact sim0 ndN
  . have hi:i=0:=by lia
    subst hi;obtain ⟨n0,h0,rfl⟩:=(sim0 ndN).on n hn;show BoD d D0 M ((As.sb ((ends (As.st L) es).ns.map (ends (As.st L) es).g)).g (rk (ends (As.st L) es).ns n0));rw [(sim0 ndN).g n0 h0];exact ev n0 (okN.lt n0 h0)
  . rintro j x σ H' hj hi ⟨v1,v2,v3,v4,v5,kvs,r,ps',es',rfl,⟨eD,hkl,hRn⟩,⟨ea,hrun,hpsl⟩,⟨hwk,hesl,sim,hbs⟩,fr⟩;rw [aa,hr'.1] at hj hi;rw [aj] at hi;obtain ⟨p,hp',rfl⟩:=av.mp hi;have hie:es.length - 1 - j<es.length:=by lia
    have hx:=ae hie;generalize es[es.length - 1 - j]=xd at hx;have st:=hw _ _ hx;have hen:=ym (s:=As.st L) hx;rw [Hk hj,hen] at hRn sim;rw [Hk hj,hen];have oki:=oks (es.length - 1 - j) (!2);have ev1:=Ap ev (es.length - 1 - j+1);rw [hen] at ev1;have ev0:=Ap ev (es.length - 1 - j);have gk:∀ n,n<(ends (As.st L) (es.take (es.length - 1 - j))).k->(ends (As.st L) es).g n=(ends (As.st L) (es.take (es.length - 1 - j))).g n:=λn hn=>by
      conv=>lhs; rw [vK (es:=es) (i:=es.length - 1 - j)]
      exact uJ hn
    have kN:(ends (As.st L) (es.take (es.length - 1 - j))).k<=(ends (As.st L) es).k:=AR;have e0:es.length - (j+1)=es.length - 1 - j:=by lia
    have t0ok:As.Ok 120 (As.sb ((ends (As.st L) es).ns.map (ends (As.st L) es).g)) 0:=ul (by
      rw [aa];have:=cG.mpr okN.ne
      lia) (by rw [aa]; lia)
    have okt:=zY t0ok hwk j (!2);rw [show es'.take j=es' by rw [<-hesl,au]] at okt;generalize hs:ends (As.st L) (es.take (es.length - 1 - j))=s at *
    generalize ht0:(As.sb ((ends (As.st L) es).ns.map (ends (As.st L) es).g))=t0 at *
    generalize ht:ends t0 es'=t at *
    have kls:=oki.kl;have so:∀ n∈s.ns,BoD d D0 M (s.g n):=λn hn=>ev0 n (oki.lt n hn);have sn:=GO ev1;have us:=GG hR z st so sn sim;have um:=GF z.d1 st so sn sim oki.lt okt.lt;have nk:=xo s xd;have pl2:=puts_le xd.1;have s0':Same H H':=λb o e=>fr _ _ (s06 _ _ e) (zb e hD0) (zb e ha0);have s6':∀ b o,H6 b=some o->(∀ kv,o≠.dK kv)->b≠a->H' b=some o:=λb o e h n=>fr _ _ e (λc=>by rw [c,eD6] at e; exact h _ (aq e).symm) n;have he:=(hr'.2 _ p _ hp' hx).same s0';have yka:y.k≠a:=zb ((s2.trans (s4.trans s5)) _ _ hyc.k) na;have yta:y.t≠a:=zb ((s2.trans (s4.trans s5)) _ _ hyc.t) na;have ypa:y.p≠a:=zb ((s2.trans (s4.trans s5)) _ _ hyc.o) na;have yla:y.l≠a:=zb ((s2.trans (s4.trans s5)) _ _ hyc.l) na;have ylD:y.l≠D:=zb (s2 _ _ hyc.l) nD;have hy':YdAt cs.Yard H' y d true cl (ends (As.st L) es).ns (ps.map V.ref):=hy6.mv λb o e h=>by
      rcases h with ⟨xs,rfl⟩|rfl|rfl|rfl|rfl
      . exact s6' _ _ e (λ_ z=>nomatch z) (zX e e6 (λz=>nomatch z))
      . rw [hy6.o] at e; exact s6' _ _ hy6.o (λ_ z=>nomatch z) ypa |>.trans e
      . rw [hy6.k] at e; exact s6' _ _ hy6.k (λ_ z=>nomatch z) yka |>.trans e
      . rw [hy6.l] at e; exact (fr _ _ hy6.l ylD yla).trans e
      . rw [hy6.t] at e; exact s6' _ _ hy6.t (λ_ z=>nomatch z) yta |>.trans e
    exists yd rfl he ?_;walk_at "r";rw [show (((s.next xd).k:Nat):Int) - (xd.1.puts:Nat)=(s.k:Int) by lia];rw [nk];exists Cz ?_;exists ⟨(s.k:Int),((s.k+xd.1.puts:Nat):Int),rfl,⟨by lia,by lia,by lia,by lia⟩,λO hO=>xc (lo:=(s.k:Int)) (n:=(((s.k+xd.1.puts:Nat):Int) - (s.k:Int)).toNat) (λi xs σ' Hc=>E1 λ(v:Option V)=>A4 (σ'=[v,vR D]) (xs=(((List.range i).map λq=>r (s.k+q)).map λn:Nat=>(n:Int)).map V.int) (Hc O=some (.lst xs)) (SameX O H' Hc)) ⟨none,rfl,rfl,zj,λb o e n=>by rw [zn n]; exact e⟩ ?_ ?_⟩
    . rintro i xs σ' H9 hi ⟨v,rfl,rfl,eO,sx⟩;have hi2:i<xd.1.puts:=by lia
      have hD9:=sx _ _ eD (zb eD hO);walk_at "r";rw [show (s.k:Int)+(i:Int)=((s.k+i:Nat):Int) by lia];refine ⟨D,_,rfl,DGet.k (k:=.inl ((s.k+i:Nat):Int)) hD9 |> (λz=>by rw [hRn (s.k+i) (mem_next.mpr (.inr ⟨by lia,by lia⟩))] at z; exact z),?_⟩;exists zr eO (by simp only [aa,cz]; lia) λG5 x5 e5=>?_;refine xm hi ⟨_,rfl,rfl,?_,sx.trans x5⟩;rw [eQ,ah,ah,ah];exact e5
    rintro xs σ' G2 ⟨v,rfl,rfl,eO,sx⟩;have sO:Same H' G2:=λb o e=>sx b o e (zb e hO);rw [show (((s.k+xd.1.puts:Nat):Int) - (s.k:Int)).toNat=xd.1.puts by lia] at eO;have eO':G2 O=some (.lst (if xd.1.puts=2 then [.int ((r s.k:Nat):Int),.int ((r (s.k+1):Nat):Int)] else [.int ((r s.k:Nat):Int)])):=by
      rcases pl2 with h|h
      . rw [h,ip ⋯]; rw [h] at eO; exact eO
      . rw [h,io rfl]; rw [h] at eO; exact eO
    obtain ⟨c,hc,hcb⟩:=hrel xd.2.1 (aN (oki.lt _ st.nms.hn) kN);rw [gk _ (oki.lt _ st.nms.hn)] at hcb;exists FM rfl (hy'.same sO) (he.same sO) eO' st.nms.en hc λpr G3 s3' npr epr=>?_;rw [hcb] at epr;have sG3:=sO.trans s3';have ea3:=sG3 _ _ ea;exists zr ea3 (by rw [aa]; lia) λG4 x4 e4=>?_;have eD4':=x4 _ _ (sG3 _ _ eD) Da;have he4:DdAt G4 p xd.1:=(he.same sG3).sameX x4 ea3;exists yC ?_;exists xk rfl he4 λnl G5 s5' nnl enl=>?_;have eD5:=s5' _ _ eD4';have nlD:nl≠D:=ck (zb eD4' nnl);have enn:((t.k:Nat):Int)=((t.k+0:Nat):Int):=rfl;have nml:=names_len st.nms;have hdl:=vh;refine ⟨nl,rfl,⟨_,SqL.of enl⟩,zJ (K:=K) (a:=nl) (xs:=xd.1.names.map V.int) (λi σ H'=>E1 λv=>A3 (σ=[vI d,vR hp,vR pl,vR y.p,vR r2,vR D,v1,v2,vI ((t.k+i:Nat):Int),vI ((s.k+xd.1.puts:Nat):Int),vR a,vR p,vI (s.k:Nat),v]) (H' D=some (.dK (deal kvs (xd.1.names.take i) t.k))) (∀ b o,G5 b=some o->b≠D->H' b=some o)) ⟨_,rfl,eD5,λb o e _=>e⟩ (λi σ H' _ z'=>by obtain ⟨_,_,_,z⟩:=z'; exact SqL.of (z _ _ enl nlD)) ?_ ?_⟩
    . rintro i x σ G6 hi6 ⟨v,rfl,eD6',fr6⟩;have hi7:=(af.mp hi6).1;rw [aa] at hi7;rw [aj] at hi6;obtain ⟨m,hm,rfl⟩:=av.mp hi6;have hn2:xd.1.names.length<=2:=xd.1.names_len;have hd1:=vh (xd.1.names.take i) kvs t.k;rw [az] at hd1;exists ⟨D,_,rfl,DPut.k (k:=.inl m) eD6' (aN (show _<1000 by lia) (!3)),?_⟩;exists ⟨_,by rw [show ((t.k+i:Nat):Int)+1=((t.k+(i+1):Nat):Int) by lia],?_,λb o e n=>by rw [zn n]; exact fr6 b o e n⟩;rw [zj,br,hm];show _=some (HO.dK (deal kvs (xd.1.names.take i++[m]) t.k));rw [AB,az,eV (!2)]
    rintro σ G7 ⟨v,rfl,eD7,fr7⟩;rw [aa,au] at eD7;have hd2:=vh xd.1.names kvs t.k;have tk7:TupK H' G7:=λb xs e=>fr7 _ _ (s5' _ _ (x4.tup (sG3 _ _ e) ea3)) (zX e eD (λz=>nomatch z));have tk3:TupK G3 G7:=λb xs e=>fr7 _ _ (s5' _ _ (x4.tup e ea3)) (zX e (sG3 _ _ eD) (λz=>nomatch z));walk_at "r";have eap:ends t0 (es'++[undo s xd r])=t.next (undo s xd r):=by rw [vi,ht]
    have kap:t.k+xd.1.names.length=(t.next (undo s xd r)).k:=by
      rw [xo,nml];congr 1;exact (Cg _ _ _ _).symm
    rw [e0,hs];refine ⟨v1,v2,vR p,vI (s.k:Nat),v,deal kvs xd.1.names t.k,ren r xd t.k,ps'++[pr],es'++[undo s xd r],?_,⟨eD7,?_,IX hRn st.nms⟩,⟨?_,xC (hrun.tk tk7) (epr.tk tk3),?_⟩,⟨?_,?_,?_,?_⟩,λb o e n1 n2=>?_⟩
    . rw [eap,<-kap];rw [aa]
    . have:xd.1.names.length<=2:=xd.1.names_len
      lia
    . rw [ah];exact fr7 _ _ (s5' _ _ e4) (ck Da)
    . rw [ai,hpsl]; rfl
    . exact Ff hwk (by rw [ht]; exact us)
    . rw [ai,hesl]; rfl
    . rw [eap]; exact um
    . intro i hi n hn;by_cases ci:i<=j
      . rw [cT (!2)] at hn ⊢;exact hbs i ci n hn
      . have:i=j+1:=by lia
        subst this;rw [show (es'++[undo s xd r]).take (j+1)=es'++[undo s xd r] by rw [bT]; rw [ai,hesl]; exact ag _,eap] at hn ⊢;obtain ⟨n0,h0,rfl⟩:=um.on n hn;rw [um.g n0 h0];exact so n0 h0
    . exact fr7 _ _ (s5' _ _ (x4 _ _ (sG3 _ _ (fr _ _ e n1 n2)) n2)) n1
  rintro σ H7 ⟨v1,v2,v3,v4,v5,kvs,r,ps',es',rfl,⟨eD,hkl,hRn⟩,⟨ea,hrun,hpsl⟩,⟨hwk,hesl,sim,hbs⟩,fr⟩;rw [aa,hr'.1] at hesl;rw [aa,hr'.1,eC] at hRn sim;have s07:Same H H7:=λb o e=>fr _ _ (s06 _ _ e) (zb e hD0) (zb e ha0);have hh7:=s07 _ _ hh;have t0ok:As.Ok 120 (As.sb ((ends (As.st L) es).ns.map (ends (As.st L) es).g)) 0:=ul (by
    rw [aa];have:=cG.mpr okN.ne
    lia) (by rw [aa]; lia)
  have okt:=zY t0ok hwk es'.length (ag _);rw [au] at okt;have tnl:=okt.nl;exists tV ?_;exists ⟨((L.length:Nat):Int),by rw [aa],by lia,by lia,λO hO=>xc (lo:=0) (n:=((L.length:Nat):Int).toNat) (λi xs σ' Hc=>E1 λ(v:Option V)=>A4 (σ'=[v,vR D]) (xs=(((List.range i).map λq=>r (0+q)).map λn:Nat=>(n:Int)).map V.int) (Hc O=some (.lst xs)) (SameX O H7 Hc)) ⟨none,rfl,rfl,zj,λb o e n=>by rw [zn n]; exact e⟩ ?_ ?_⟩
  . rintro i xs σ' H9 hi ⟨v,rfl,rfl,eO,sx⟩;have hi2:i<L.length:=by lia
    have hD9:=sx _ _ eD (zb eD hO);walk_at "r";rw [show (0:Int)+(i:Int)=((0+i:Nat):Int) by lia];refine ⟨D,_,rfl,DGet.k (k:=.inl ((0+i:Nat):Int)) hD9 |> (λz=>by rw [hRn (0+i) (b9.mpr (!2))] at z; exact z),?_⟩;exists zr eO (by simp only [aa,cz]; lia) λG5 x5 e5=>?_;refine xm hi ⟨_,rfl,rfl,?_,sx.trans x5⟩;rw [eQ,ah,ah,ah];exact e5
  rintro xs σ' G2 ⟨v,rfl,rfl,eO,sx⟩;have sO:Same H7 G2:=λb o e=>sx b o e (zb e hO);rw [show ((L.length:Nat):Int).toNat=L.length by lia,show (λq=>r (0+q))=r from funext λq=>by rw [Nat.zero_add]] at eO;have sim:Sim r (As.sb (L.map Cell.b)) (ends (As.sb ((ends (As.st L) es).ns.map (ends (As.st L) es).g)) es'):=by rw [<-vM]; exact sim
  have hpm:((List.range L.length).map r).Perm (ends (As.sb ((ends (As.st L) es).ns.map (ends (As.st L) es).g)) es').ns:=by
    have h:=Co sim (gO (n:=(L.map Cell.b).length)) (xI okt.up);have e:(As.sb (L.map Cell.b)).ns=List.range L.length:=by
      show List.range _=_;rw [aa]
    rwa [e] at h
  exists BH rfl eO hpm okt.up (by rw [<-hpm.length_eq,aa,cz]; lia) λqa G3 s3' nqa eqa=>?_;exists zK (!1) λr9 G4 nr9 s4' e4=>?_;have s79:=(sO.trans s3').trans s4';have tof:=EF hwk (λi hi n hn=>hbs i (by have:=hrun.1; lia) n hn) sim (xI okt.up);rw [aa] at tof;have naq:a≠qa:=zb ((sO) _ _ ea) nqa;exact q r9 a qa ps' es' _ G4 (s07.trans s79) e4 ha0 (Same.nn s07 (Same.nn sO nqa)) naq (s79 _ _ ea) (s4' _ _ eqa) (hrun.same s79) hesl tof
theorem BC{N:Int}{p:Addr}{s:B4}{Q:VK}{X:XK}(hl:H p=some (.lst (C.map Cell.v)))(hA:∀ c∈C,c.At H)(fb:BsAt H pb r1 r2 s N)(hN:1<=N)(hNb:Bd 900 N)(gb:GB d 900 s)(h60:C.length<=60)(hd:Bd 64 d)(hE:1<=E)(hC:∀ c∈C,BK d s N E M0 M c.b)(q:∀ (r:Addr) (ps:List Addr) (H':Hp),Same H H'->H r=none->H' r=some (.lst (ps.map V.ref))->Runs H' ps (npl (N*E) (s.a*E) (s.b*E) ((C.map Cell.b).map (bxD s N (N*E))))->Q (.ref r) H'):P63 ([.int d,.ref p,.ref pb]++[]) H Q X:=by
  have hl':((C.map Cell.b).map (bxD s N (N*E))).length=C.length:=by rw [aa,aa]
  refine t9 rfl (D:=N*E) (px:=s.a*E) (py:=s.b*E) (hb:=(C.map Cell.b).map (bxD s N (N*E))) hl hA fb hN hNb gb hl'.symm (!2) hd (aI (!2) (!2)) (Ie hN hE).1 (B9 hN gb.ba gb.bb hNb) (λk c b hc hb=>?_) q;rw [aj,aj,hc] at hb;have e:b=bxD s N (N*E) c.b:=(aq hb).symm;subst e;have bk:=hC c (aw hc);obtain ⟨X,Y,h1,h2,h3,h4,h5⟩:=bk.w;exact ⟨X,Y,h1,h2,h3,h4,h5,bk.ok.bi⟩
def lnOf(c:Cell):Ln:=⟨c.pw,c.b.w⟩
theorem tQ(h:∀ c∈C,BoD d D M c.b):Ever d D M (As.st C):=λn hn=>by
  have hn:n<C.length:=hn;show BoD d D M (fL C n).b;rw [JE (ae hn)];exact h _ (cR hn)
theorem K70(F:Fun K "like" "like" S47 f fd)(B:Bl mg)(o45x:Own P w K mg base 1 "first_unlike" ["one","other"] [] P14)(o17x:O17x P w K mg base)(o34x:Own P w K mg base 8 "back" ["d","heap","plan"] [] (P70 cs))(o37x:Own P w K mg base 3 "followed" ["many","plan","more"] [] P48)(o41x:O41x P w K mg base)(o20x:O20x P w K mg base):FnOk P w K mg base CX0 9 f fd ["d","one","other"] (P71 cs):=by
  refine F.okA C72 λcdv A outer s H vs Q E hr h=>?_;obtain @⟨d,N0,Eh,p1,p2,C1,C2,kx,kN,kw,kE,kh,M,rfl,h1,h2,hA1,hA2,o1,ok1,hbt1,o2e,ok2,hbt2,lk,hN,hE,n1,n2,hR,qp,qa⟩:=h;refine ⟨_,(za (ps_s 3 C72.nd (ze o45x hr rfl (pa2 (ze o41x hr rfl (pa1 (pv 1))) (ze o41x hr rfl (pa1 (pv 2)))))) (za (zw (zg GN (pv 3) wW (zm _)) (zd (zh (zq (pa3 zP (pit 3) (pit 3))))) zo) (za (ps_s 4 C72.nd (ze o17x hr rfl (pa2 (pv 0) (yr ["each"] [] rfl (zA (zf vz (pv 1) (pv 2))) (λ_ _ _ _ _=>(pg_n 0 (show List.Nodup (α:=Str) ["each"] by decide +kernel))) (λ_ _ _ _ _=>zL) (λ_ _ _ _ _=>(pe_i (r:=rIxT K) ix_tup (pv 0) zc)))))) (za (ps_s 5 C72.nd (ze o34x hr rfl (pa3 (pv 0) (pv 2) (ze o20x hr rfl (pa3 (pv 0) (pv 2) (pv 4)))))) (za (ps_s 6 C72.nd (ze o37x hr rfl (pa3 (zp zx rfl B.len bI (pa1 (pv 1))) (ze o20x hr rfl (pa3 (pv 0) (pv 1) (pv 4))) (pit 5)))) (zd (zh (zq (pa3 zP (pv 6) (pit 5)))))))))),?_⟩;walk_at "s";obtain ⟨a1,a20⟩:=n1;obtain ⟨b1,b20⟩:=n2;obtain ⟨N01,bN0⟩:=hN;obtain ⟨Eh1,bE⟩:=hE;obtain ⟨x1,c1,c2,c3,c4,c5,c6,c7,c8⟩:=lk;have hd:Bd 64 d:=zG (B:=99) (by have:=hR.lo; lia) hR.hi (!3);exists vY rfl h1 hA1 ok1 hbt1 a1 λt1 H1 s1 e1=>?_;exists vY rfl (s1 _ _ h2) (λc hc=>(hA2 c hc).same s1) ok2 hbt2 b1 λt2 H2 s2 e2=>?_;have s12:=s1.trans s2;exists uo rfl (e1.same s2) e2 (λeq=>?_) λr H3 i j s3 e3 fu=>?_;rotate_left
  . walk_at "r";rw [show decide (V.ref r=V.non)=false from im (λz=>nomatch z)];exists zt (!1) λr4 H4 s4 e4=>?_;exact qa r4 H4 i j ((s12.trans s3).trans s4) e4 fu
  have o2:=o2e eq;have h1':=s12 _ _ h1;have h2':=s12 _ _ h2;walk_at "r";rw [show decide (V.non=V.non)=true from iH rfl];exists xv ?_;exists Ep h1' h2' (by simp only [aa]; lia) λpc Ha sa ea=>?_;rw [<-ah] at ea;have hL:∀ c∈C1++C2,c.At Ha/\Wh d N0 Eh kx kw kh c.b:=λc hc=>by
    rcases aE.mp hc with h|h
    . exact ⟨((hA1 c h).same s12).same sa,o1 c h⟩
    . exact ⟨((hA2 c h).same s12).same sa,o2 c h⟩
  have lL:(C1++C2).length<=40:=by rw [ai]; lia
  have m1:∀ c∈C1,c∈C1++C2:=λc hc=>cZ _ hc;have m2:∀ c∈C2,c∈C1++C2:=λc hc=>bg _ hc;generalize C1++C2=L at *
  refine ⟨pc,rfl,⟨_,SqL.of ea⟩,λG hG=>yE (K:=K) (a:=pc) (ys:=L.map Cell.v) (λi xs σ' H'=>E1 λ(v:Option V)=>A4 (σ'=[v]) (xs=((L.take i).map lnOf).map Ln.v) (H' G=some (.lst xs)) (SameX G Ha H')) ⟨none,rfl,rfl,zj,λb o e n=>by rw [zn n]; exact e⟩ (λi xs σ' H' _ z=>by obtain ⟨v,_,_,_,z⟩:=z; exact SqL.of (z _ _ ea (zb ea hG))) ?_ ?_⟩
  . rintro i x xs σ' H' hi ⟨v,rfl,rfl,eG,sx⟩;have hi':=(af.mp hi).1;obtain ⟨c,rfl,hc,hic⟩:=xD hi;have ct:=sx _ _ (hL c hc).1.t (zb (hL c hc).1.t hG);exists zr eG (by rw [aa,aa,az]; rw [aa] at hi'; lia) λHb sxb eb=>?_;refine xm hi' ⟨_,rfl,?_,eb,sx.trans sxb⟩;rw [dW,hic,ah,ah];rfl
  rintro xs σ' Hb ⟨v,rfl,rfl,eG,sx⟩;rw [aa,au] at eG;have sb:Same Ha Hb:=λb o e=>sx b o e (zb e hG);have LS:LsB d 700 Hb G (L.map lnOf):=⟨eG,λc hc=>by
    obtain ⟨c',hc',rfl⟩:=aV.mp hc;exact sb _ _ (hL c' hc').1.w,λc hc=>by
    obtain ⟨c',hc',rfl⟩:=aV.mp hc;have o:=(hL c' hc').2.w;have k:=o.sk N01 bN0;have x:=(hL c' hc').2.x;exact ⟨o.z1,o.g,o.up,x.1.mono (!2),x.2.mono (!2),k.bz.mono (!2)⟩⟩
  have bds:∀ u∈(L.map lnOf).map Ln.u,Bd kx u.1/\Bd kx u.2:=λu hu=>by
    obtain ⟨c,hc,rfl⟩:=aV.mp hu;obtain ⟨c',hc',rfl⟩:=aV.mp hc;exact (hL c' hc').2.x
  have zs1:∀ z∈(L.map lnOf).map λc:Ln=>c.s.z,1<=z/\z∣N0:=λz hz=>by
    obtain ⟨c,hc,rfl⟩:=aV.mp hz;obtain ⟨c',hc',rfl⟩:=aV.mp hc;exact ⟨(hL c' hc').2.w.z1,(hL c' hc').2.w.dvd N01⟩
  obtain ⟨N1,_,Nd⟩:=vV ((L.map lnOf).map λc:Ln=>c.s.z) 1 ⋯ λz hz=>(zs1 z hz).1;have ND:=BE ((L.map lnOf).map λc:Ln=>c.s.z) 1 ⋯ ⟨N0,by lia⟩ zs1;obtain ⟨ups,_⟩:=FU LS.ok;obtain ⟨M',hM⟩:=Er hR ups;have gM:=Fst.gb hR x1 hM ups bds;have N1:1<=cbs ((L.map lnOf).map λc:Ln=>c.s.z):=N1;have ND:cbs ((L.map lnOf).map λc:Ln=>c.s.z)∣N0:=ND;have Nd:∀ z∈(L.map lnOf).map λc:Ln=>c.s.z,z∣cbs ((L.map lnOf).map λc:Ln=>c.s.z):=Nd;have Nb:Bd kN (cbs ((L.map lnOf).map λc:Ln=>c.s.z)):=Bd.dvd_le bN0 N01 ND;exists Ai rfl LS hR (by rw [aa]; exact lL) hM (Nb.mono (!2)) λpb r1 r2 Hc sc fc=>?_;have Ndv:∀ c∈L,c.b.w.z∣cbs ((L.map lnOf).map λc:Ln=>c.s.z):=λc hc=>Nd _ (aU (f:=λc:Ln=>c.s.z) (aU (f:=lnOf) hc));have hsrv:∀ c∈L,(st d M').srv c.b.w.x c.b.w.y:=λc hc=>hM.1 _ (aU (f:=Ln.u) (aU (f:=lnOf) hc));generalize cbs ((L.map lnOf).map λc:Ln=>c.s.z)=N at *
  generalize st d M'=sb' at *
  clear LS eG sx zs1 Nd hM ups bds;have bk:∀ c∈L,BK d sb' N Eh (kw+kx+3+(kN+kh)) M c.b:=λc hc=>BK.so (k:=kx+1) (Mw:=kw) (Mh:=kh) (kN:=kN) (kE:=kE) hR gM N1 Eh1 N01 (hL c hc).2.w (Ndv c hc) ND (hL c hc).2.h (hsrv c hc) Nb bE (!2) (!2) (!2) (!2) (!2);have bk1:∀ c∈C1,BK d sb' N Eh (kw+kx+3+(kN+kh)) M c.b:=λc hc=>bk c (m1 c hc);have bk2:∀ c∈C2,BK d sb' N Eh (kw+kx+3+(kN+kh)) M c.b:=λc hc=>bk c (m2 c hc);have ND1:1<=N*Eh:=aI (!2) (!2);have sz:Sz (N*Eh) (kN+kE) M:=⟨ND1,Nb.mul bE,by lia,by lia⟩
  have bas:Bas d M (sb'.a*Eh) (sb'.b*Eh) (sb'.c*Eh) (sb'.e*Eh):=EZ hR gM Eh1 bE (!2);have bN9:Bd 900 N:=Nb.mono (!2);have g9:GB d 900 sb':=gM.mono (!2);obtain ⟨w1,l1,en1,_⟩:=u9 (C:=C1) false hR sz N1 Eh1 bas bk1 (!2) a1;obtain ⟨w2,l2,en2,_⟩:=u9 (C:=C2) false hR sz N1 Eh1 bas bk2 (!2) b1;have same:nrmD sb' N Eh (C1.map Cell.b)=nrmD sb' N Eh (C2.map Cell.b):=Ds gM N1 Eh1 (λb hb=>by
    obtain ⟨c,hc,rfl⟩:=aV.mp hb;exact bk1 c hc) (λb hb=>by
    obtain ⟨c,hc,rfl⟩:=aV.mp hb;exact bk2 c hc) eq
  have tc:=(sa.trans sb).trans sc;have h2c:=tc _ _ h2';have hA2c:∀ c∈C2,c.At Hc:=λc hc=>((hA2 c hc).same s12).same tc;have hA1c:∀ c∈C1,c.At Hc:=λc hc=>((hA1 c hc).same s12).same tc;have bo1:∀ c∈C1,BoD d (N*Eh) M c.b:=λc hc=>(bk1 c hc).bod hR ND1 (o1 c hc).w.up;have bo2:∀ c∈C2,BoD d (N*Eh) M c.b:=λc hc=>(bk2 c hc).bod hR ND1 (o2 c hc).w.up;exists BC h2c hA2c fc N1 bN9 g9 (!2) hd Eh1 bk2 λpl2 ps2 Hd sd nd ed hr2=>?_;have ev2:=uE (c:=0) w2 (tQ bo2) _ (ag _);rw [au] at ev2;exists KH rfl (sd _ _ h2c) (λc hc=>(hA2c c hc).same sd) b1 b20 ed (by rw [hr2.1]; lia) hR hr2 w2.walk sz ev2 λrb ab bb ps' es' qs He se eb na nb nab ea' eb' hr' hl' T=>?_;rw [en2,<-same] at T;have hl'':es'.length<=100:=by rw [hl']; lia
  have t0e:=((s12.trans tc).trans sd).trans se;have h1e:=t0e _ _ h1;have hAe1:∀ c∈C1,c.At He:=λc hc=>((hA1c c hc).same sd).same se;exists BC h1e hAe1 ((fc.same sd).same se) N1 bN9 g9 (!2) hd Eh1 bk1 λpl1 ps1 Hf sf nf ef hr1=>?_;have ebf:=sf _ _ eb;have eaf:=sf _ _ ea';have ebf':=sf _ _ eb';have w1':=w1.walk;rw [vM] at w1' en1;have h1f:=sf _ _ h1e;have hlen:(((C1.map Cell.v).length:Nat):Int)=(((C1.map Cell.b).length:Nat):Int):=by rw [aa,aa]
  walk_at "r";rw [hlen];refine Db rfl (F:=nrmD sb' N Eh (C1.map Cell.b)) (by rw [aa]; lia) (by rw [aa]; lia) ef (by rw [hr1.1]; lia) hr1 w1' eaf (by rw [hr'.1]; lia) (hr'.same sf) en1 T.w λpf qs' Hg sg nf' eg hrg=>?_;have ebg:=sg _ _ ebf;exists zt (!1) λr Hh sh eh=>?_;have tgh:=sg.trans sh;have s0f:=t0e.trans sf;have nb0:H bb=none:=Same.nn ((s12.trans tc).trans sd) nb;have npf:H pf=none:=Same.nn s0f nf';have wat:=u5 w1 (Kr a1) (λn hn=>tQ bo1 n (b9.mp hn));rw [vM] at wat;refine qp eq r pf bb Hh _ _ qs (N*Eh) ((s0f.trans sg).trans sh) eh npf nb0 (λz=>?_) (sh _ _ eg) (hrg.same sh) ?_ (tgh _ _ ebf') sz (Ji (by rw [aa]; exact a1) (by rw [aa]; exact a20) w1' (λi hi=>(wat i hi).1) en1 T)
  . rw [z,ebf'] at nf';cases nf'
  . rw [hrg.1,ai,aa]
    lia
theorem K71(F:Fun K "one_board" "one_board" S52 f fd)(B:Bl mg)(o46x:O46x P w K mg base cs)(o50x:Own P w K mg base 4 "height_by" ["whole","width"] [] P59)(o41x:O41x P w K mg base):FnOk P w K mg base CX0 10 f fd ["d","heap","width"] (P72 K cs):=by
  refine F.okA C73 λcdv A outer s H vs Q E hr h=>?_;obtain @⟨d,N0,Eh,p,pw,C,w,kx,kN,kw,kE,kh,M,rfl,h1,hA,o1,ok1,hbt1,lk,hN,hE,n1,hR,hw,wz,bw,bt,nz,oe,qp,qa⟩:=h;refine ⟨_,(za (ps_s 3 C73.nd (zq (pa2 (pv 2) (ze o50x hr rfl (pa2 (ze o41x hr rfl (pa1 (pv 1))) (pv 2)))))) (za (ps_s 4 C73.nd (ze o46x hr rfl (pa3 (pv 0) (pv 1) (zI (pa1 (pv 3)))))) (zd (zh (xj (zg zW (pit 4) zP (zm _)) (zq (pa2 (pit 4) (pv 3))) wW))))),?_⟩;walk_at "s";obtain ⟨a1,a20⟩:=n1;obtain ⟨bx,bY,bz⟩:=bw;have hs:=JA bt wz bx bY bz nz;have ws:S19 w:=⟨wz,bx.mono ⋯,bY.mono ⋯,bz.mono ⋯⟩
  exists vY rfl h1 hA ok1 hbt1 a1 λt1 H1 s1 e1=>?_;exists A0 rfl e1 (s1 _ _ hw) wz ⟨bx.mono ⋯,bY.mono ⋯,bz.mono ⋯⟩ (bt.mono ⋯ ⋯) nz λph H2 s2 e2=>?_;have s12:=s1.trans s2;exists zt (!1) λpm H3 s3 e3=>?_;have hc:Cell.At H3 ⟨pm,pw,ph,⟨w,(hbS (tbs (C.map Cell.b)) w)⟩⟩:=⟨e3,(s12.trans s3) _ _ hw,s3 _ _ e2⟩
  exists wa (!1) λpl2 H4 s4 e4=>?_;have s04:=(s12.trans s3).trans s4;generalize (hbS (tbs (C.map Cell.b)) w)=h at *
  exists Hz rfl (C1:=C) (C2:=[⟨pm,pw,ph,⟨w,h⟩⟩]) (s04 _ _ h1) e4 (λc hc=>(hA c hc).same s04) (λc hx=>by rw [ao.mp hx]; exact hc.same s4) o1 ok1 hbt1 (λeq c hx=>by rw [ao.mp hx]; exact oe eq) (λc hx=>by rw [ao.mp hx]; exact ⟨ws,hs⟩) (λi hi=>by obtain rfl:i=0:=(by simpa using hi); exact GZ) lk hN hE ⟨a1,a20⟩ ⟨by simp,by simp⟩ hR (λeq r pl pp H5 ps es qs D' s5 e5 npl _ _ e6 hr hl _ sz P=>?_) λr H5 i j s5 e5 fu=>?_
  . walk_at "r";rw [iH rfl];exists zt (!1) λr6 H6 s6 e7=>?_;exact qp eq r6 pl pm ph H6 ps es qs D' ((s04.trans s5).trans s6) e7 ((hc.same (s4.trans s5)).same s6) (Same.nn s04 npl) (s6 _ _ e6) (hr.same s6) hl sz P
  . walk_at "r";rw [show decide (Str.ofString "apart"=Str.ofString "plan")=false by decide +kernel];walk_at "r";exact qa (λz=>fu.ne (congrArg (cmT (2*i+j)) z)) H5 (s04.trans s5)
theorem Js{N:Int}{p:Addr}{s:B4}{Q:VK}{X:XK}(hl:H p=some (.lst (C.map Cell.v)))(hA:∀ c∈C,c.At H)(fb:BsAt H pb r1 r2 s N)(hN:1<=N)(hNb:Bd 900 N)(gb:GB d 900 s)(h1:1<=C.length)(h60:C.length<=60)(hd:Bd 64 d)(hE:1<=E)(bD:Bd 900 (N*E))(hC:∀ c∈C,BK d s N E M0 M c.b)(hx:∀ c∈C,Bd 900 (bxD s N (N*E) c.b).x/\Bd 900 (bxD s N (N*E) c.b).y)(q:∀ (l:Addr) (H':Hp) (R:List Cell),H l=none->Same H H'->H' l=some (.lst (R.map Cell.v))->(∀ c∈R,c.At H')->R.map Cell.b=nrmD s N E (C.map Cell.b)->Q (.ref l) H'):P62 ([.int d,.ref p,.ref pb]++[]) H Q X:=by
  have hl':((C.map Cell.b).map (bxD s N (N*E))).length=C.length:=by rw [aa,aa]
  refine u8 rfl (D:=N*E) (hb:=(C.map Cell.b).map (bxD s N (N*E))) hl hA fb hN hNb gb hl'.symm (!2) (!2) hd (aI (!2) (!2)) bD (λk c b hc hb=>?_) (λb hb=>?_) q
  . rw [aj,aj,hc] at hb;have e:b=bxD s N (N*E) c.b:=(aq hb).symm;subst e;have bk:=hC c (aw hc);exact ⟨bk.w,congrArg Bo.h bk.bo⟩
  . obtain ⟨b',hb',rfl⟩:=aV.mp hb;obtain ⟨c,hc,rfl⟩:=aV.mp hb';have bk:=(hC c hc).ok;exact ⟨bk.bi,bk.bj,hx c hc⟩
theorem HY{x:Int}:g3 x y 1=1:=by unfold g3; simp
theorem Gn:Runs H [] []:=⟨rfl,λi p x hp=>by simp at hp⟩
theorem Ki{C:List Bo}(hR:Rt d)(hC:∀ b∈C,(1<=b.w.z/\sgn d b.w.x b.w.y=1)/\1<=b.h.z/\sgn d b.h.x b.h.y=1)(hne:C≠[])(hs:xP (tbs C)=0)(T:TbD E kt (tbs C))(E1:1<=E):¬ ((colS (tbs C)).x=0/\(colS (tbs C)).y=0):=λ⟨z1,z2⟩=>by
  have u:=(AQ hR hC hne T E1 hs).2.1;unfold pwS at u;rw [z1,z2] at u;simp only [Int.zero_fdiv,zQ] at u;exact absurd u ⋯
theorem K72(F:Fun K "fewest" "fewest" S49 f fd)(B:Bl mg)(o47x:O47x P w K mg base)(o17x:O17x P w K mg base)(o51x:O51x P w K mg base cs)(o20x:O20x P w K mg base)(o19x:Own P w K mg base 5 "normal_heap" ["d","heap","base"] [] P62)(o49x:Own P w K mg base 3 "plain_width" ["d","whole"] [] (P51 K))(o41x:O41x P w K mg base):FnOk P w K mg base CX0 11 f fd ["d","heap"] (P73 K cs):=by
  refine F.okA C74 λcdv A outer s H vs Q E hr h=>?_;obtain @⟨d,N0,Eh,Et,p,C,kx,kN,kE,kh,kt,ke,kr,M,rfl,h1,hA,ok1,hbt1,bt,n1,hR,hB,q⟩:=h;refine ⟨_,(za (ps_s 2 C74.nd (ze o47x hr rfl (pa1 (pv 1)))) (za (zw (zg zW (zp zx rfl B.len bI (pa1 (pv 1))) (pv 2) (zm _)) (zd (zh (zq (pa2 (zI yU) (zR wB rfl B.list vq (pa1 (pv 1))))))) zo) (za (zw (zg zW (pv 2) zc (zm _)) (za (ps_s 3 C74.nd (ze o51x hr rfl (pa3 (pv 0) (pv 1) (ze o49x hr rfl (pa2 (pv 0) (ze o41x hr rfl (pa1 (pv 1)))))))) (zd (zh (zq (pa2 (pit 3) (zI (pa1 (pit 3)))))))) zo) (za (ps_s 4 C74.nd (ze o17x hr rfl (pa2 (pv 0) (yr ["one"] [] rfl (zA (pv 1)) (λ_ _ _ _ _=>(pg_n 0 (show List.Nodup (α:=Str) ["one"] by decide +kernel))) (λ_ _ _ _ _=>zL) (λ_ _ _ _ _=>(pe_i (r:=rIxT K) ix_tup (pv 0) zc)))))) (zd (zh (zq (pa2 (ze o20x hr rfl (pa3 (pv 0) (pv 1) (pv 4))) (ze o19x hr rfl (pa3 (pv 0) (pv 1) (pv 4))))))))))),?_⟩;walk_at "s";obtain ⟨a1,a20⟩:=n1;have hd:Bd 64 d:=zG (B:=99) (by have:=hR.lo; lia) hR.hi (!3);have hCe:C.map Cell.b≠[]:=λz=>by have:=congrArg List.length z; rw [aa] at this; simp at this; rw [this] at a1; simp at a1
  exists Dy rfl h1 hA ok1 hbt1 a1 bt λH1 s1=>?_;have h11:=s1 _ _ h1;walk_at "r";rw [aa];refine if_d (λc=>?_) (λc=>?_)
  . have ln:=a20;have hT:∃ (D0:Int) (K0:Nat),Sz D0 K0 M/\K0<=1900/\∀ c∈C,BoD d D0 M c.b:=by
      have f4:=λ(fb:FwC kx kN kE kh kt ke kr M)=>fb.n;rcases hB with ⟨_,h⟩|⟨fb,⟨N1,bN⟩,⟨E1',bE⟩,hwn,_⟩
      . exact h
      . have hw:∀ c∈C,Wh d N0 Eh kx (kx+kN) kh c.b:=λc hc=>(hwn c hc).wh N1 bN;have lk:=fb.a;have:=lk.c5;have:=lk.c6;have:=lk.c7;have:=lk.c8;refine ⟨N0*Eh,kN+kE,⟨aI (!2) (!2),bN.mul bE,by lia,by lia⟩,by have:=f4 fb; lia,λc hc=>⟨((hw c hc).w.scale bE).mono (!2),?_⟩⟩;have:=(hw c hc).h.scale bN;rw [ak] at this;exact this.mono (!2)
    obtain ⟨D0,K0,z0,k0,b0⟩:=hT;exists zB (!1) λpl H2 n2 s2 e2=>?_;exists tt (s2 _ _ h11) λph H3 n3 s3 e3=>?_;exists zt (!1) λr H4 s4 e4=>?_;have s14:=(s2.trans s3).trans s4;exact q r pl ph H4 [] [] C D0 K0 (s1.trans s14) e4 ⟨Same.nn s1 n2,Same.nn (s1.trans s2) n3,zb e2 n3⟩ ((s3.trans s4) _ _ e2) Gn (!1) (s4 _ _ e3) (λc hc=>(hA c hc).same (s1.trans s14)) rfl c z0 k0 (.inl rfl) (way_nil λb hb=>by obtain ⟨c,hc,rfl⟩:=aV.mp hb; exact b0 c hc)
  obtain ⟨fb,⟨N01,bN0⟩,⟨Eh1,bE⟩,hwn,Et1,bEt,T,dvE⟩:=hB.resolve_left (λz=>c z.1);have hw:∀ c∈C,Wh d N0 Eh kx (kx+kN) kh c.b:=λc hc=>(hwn c hc).wh N01 bN0;have oC:∀ b∈C.map Cell.b,Wh d N0 Eh kx (kx+kN) kh b:=λb hb=>by obtain ⟨c,hc,rfl⟩:=aV.mp hb; exact hw c hc
  have btt:=T.bt (show Et≠0 by lia) bEt;have hC0:∀ b∈C.map Cell.b,(1<=b.w.z/\sgn d b.w.x b.w.y=1)/\1<=b.h.z/\sgn d b.h.x b.h.y=1:=λb hb=>⟨⟨(oC b hb).w.z1,(oC b hb).w.up⟩,(oC b hb).h.z1,(oC b hb).h.up⟩
  have f1:=fb.b;have f2:=fb.h;have f3:=fb.t;have f4:=fb.e;have f5:=fb.r1;have f6:=fb.r2;have f7:=fb.n;have f8:=fb.m;exists if_d (λc1=>?_) (λc1=>?_)
  . have sl:xP (tbs (C.map Cell.b))=0:=fq.mp λz=>by unfold rkT at c1; rw [ip z] at c1; lia
    obtain ⟨g1,u1,bx1,by1,h,eq,oh⟩:=AQ hR hC0 hCe T Et1 sl;exists vY rfl h11 (λc hc=>(hA c hc).same s1) ok1 hbt1 a1 λt2 H2 s2 e2=>?_;exists tK rfl e2 (btt.mono (!2) (!2)) hd (Ki hR hC0 hCe sl T Et1) hR λpw H3 s3 e3=>?_;have s13:=(s1.trans s2).trans s3;have w1:So d N0 (kx+kN) (pwS d (tbs (C.map Cell.b))):=⟨gH _,HY,u1,(pwS d (tbs (C.map Cell.b))).x*N0,(pwS d (tbs (C.map Cell.b))).y*N0,(bx1.mul bN0).mono (!2),(by1.mul bN0).mono (!2),(cH _).symm,(cH _).symm⟩
    have nz:=LD (w:=pwS d (tbs (C.map Cell.b))) (show (1:Int)≠0 by decide) λ⟨z1,z2⟩=>by rw [z1,z2,zQ] at u1; exact absurd u1 ⋯
    have hh:=HV (t:=tbs (C.map Cell.b)) oh.z1 oh.g nz eq.symm;have hz1:1<=(pwS d (tbs (C.map Cell.b))).z:=gH _;have hg1:g3 (pwS d (tbs (C.map Cell.b))).x (pwS d (tbs (C.map Cell.b))).y (pwS d (tbs (C.map Cell.b))).z=1:=HY;have hdv:(pwS d (tbs (C.map Cell.b))).z∣N0:=Int.one_dvd _;have wz:(pwS d (tbs (C.map Cell.b))).z≠0:=(show (1:Int)≠0 by decide)
    have bz:Bd 500 (pwS d (tbs (C.map Cell.b))).z:=by show Bd 500 1; exact (u7 1).mono ⋯
    generalize pwS d (tbs (C.map Cell.b))=w at *
    exists xU rfl (N0:=N0) (Eh:=Eh) (s13 _ _ h1) (λc hc=>(hA c hc).same s13) hw ok1 hbt1 fb.a ⟨N01,bN0⟩ ⟨Eh1,bE⟩ ⟨a1,a20⟩ hR e3 wz ⟨bx1.mono (!2),by1.mono (!2),bz⟩ (btt.mono (!2) (!2)) nz (λ_=>?_) (λ_ r pl pm ph H4 ps es qs D' s4 e4 cm npl epl hr hl sz P=>?_) (λne=>absurd (by rw [hh]; exact eq) ne)
    . rw [hh];obtain ⟨f,hf⟩:=dvE;have bf:Bd kE f:=uM bE Eh1 ⟨Et,by rw [hf]; exact ak _ _⟩;have:=oh.scale bf;rw [<-hf] at this;exact ⟨w1,⟨bx1.mono (!2),by1.mono (!2)⟩,this.mono (!2)⟩
    rw [hh] at cm P;exists zB (!1) λl H5 n5 s5 e5=>?_;exists zt (!1) λr6 H6 s6 e6=>?_;have s36:=(s4.trans s5).trans s6;have pe:=tH P;refine q r6 pl l H6 ps es [⟨pm,pw,ph,⟨w,h⟩⟩] D' _ (s13.trans s36) e6 ⟨Same.nn s13 npl,Same.nn (s13.trans s4) n5,zb epl n5⟩ ((s5.trans s6) _ _ epl) (hr.same (s5.trans s6)) (!2) (s6 _ _ e5) (λc hc=>by rw [ao.mp hc]; exact cm.same (s5.trans s6)) eq.symm c1.symm sz (!2) (.inr λc hc=>by rw [ao.mp hc]; exact ⟨⟨hz1,hg1,u1,bx1.mono (!2),by1.mono (!2),hdv⟩,oh.mono (!2)⟩) ⟨P.w,P.b,pe⟩
  have c2:rkT (tbs (C.map Cell.b))=2:=by unfold rkT at c1 ⊢; split at c1 <;> simp_all
  obtain ⟨x1,c1',c2',c3,c4,c5,c6,c7,c8⟩:=fb.a;have hL:∀ c∈C,c.At H1/\Wh d N0 Eh kx (kx+kN) kh c.b:=λc hc=>⟨(hA c hc).same s1,hw c hc⟩
  have lL:C.length<=40:=by lia
  exists xv ?_;exists ⟨p,rfl,⟨_,SqL.of h11⟩,λG hG=>yE (K:=K) (a:=p) (ys:=C.map Cell.v) (λi xs σ' H'=>E1 λ(v:Option V)=>A4 (σ'=[v]) (xs=((C.take i).map lnOf).map Ln.v) (H' G=some (.lst xs)) (SameX G H1 H')) ⟨none,rfl,rfl,zj,λb o e n=>by rw [zn n]; exact e⟩ (λi xs σ' H' _ z=>by obtain ⟨v,_,_,_,z⟩:=z; exact SqL.of (z _ _ h11 (zb h11 hG))) ?_ ?_⟩
  . rintro i x xs σ' H' hi ⟨v,rfl,rfl,eG,sx⟩;have hi':=(af.mp hi).1;obtain ⟨c,rfl,hc,hic⟩:=xD hi;have ct:=sx _ _ (hL c hc).1.t (zb (hL c hc).1.t hG);exists zr eG (by rw [aa,aa,az]; rw [aa] at hi'; lia) λHb sxb eb=>?_;refine xm hi' ⟨_,rfl,?_,eb,sx.trans sxb⟩;rw [dW,hic,ah,ah];rfl
  rintro xs σ' Hb ⟨v,rfl,rfl,eG,sx⟩;rw [aa,au] at eG;have sb:Same H1 Hb:=λb o e=>sx b o e (zb e hG);have LS:LsB d 700 Hb G (C.map lnOf):=⟨eG,λc hc=>by
    obtain ⟨c',hc',rfl⟩:=aV.mp hc;exact sb _ _ (hL c' hc').1.w,λc hc=>by
    obtain ⟨c',hc',rfl⟩:=aV.mp hc;have o:=(hL c' hc').2.w;have k:=o.sk N01 bN0;have x:=(hL c' hc').2.x;exact ⟨o.z1,o.g,o.up,x.1.mono (!2),x.2.mono (!2),k.bz.mono (!2)⟩⟩
  have bds:∀ u∈(C.map lnOf).map Ln.u,Bd kx u.1/\Bd kx u.2:=λu hu=>by
    obtain ⟨c,hc,rfl⟩:=aV.mp hu;obtain ⟨c',hc',rfl⟩:=aV.mp hc;exact (hL c' hc').2.x
  have zs1:∀ z∈(C.map lnOf).map λc:Ln=>c.s.z,1<=z/\z∣N0:=λz hz=>by
    obtain ⟨c,hc,rfl⟩:=aV.mp hz;obtain ⟨c',hc',rfl⟩:=aV.mp hc;exact ⟨(hL c' hc').2.w.z1,(hL c' hc').2.w.dvd N01⟩
  obtain ⟨N1,_,Nd⟩:=vV ((C.map lnOf).map λc:Ln=>c.s.z) 1 ⋯ λz hz=>(zs1 z hz).1;have ND:=BE ((C.map lnOf).map λc:Ln=>c.s.z) 1 ⋯ ⟨N0,by lia⟩ zs1;obtain ⟨ups,_⟩:=FU LS.ok;obtain ⟨M',hM⟩:=Er hR ups;have gM:=Fst.gb hR x1 hM ups bds;have N1:1<=cbs ((C.map lnOf).map λc:Ln=>c.s.z):=N1;have ND:cbs ((C.map lnOf).map λc:Ln=>c.s.z)∣N0:=ND;have Nd:∀ z∈(C.map lnOf).map λc:Ln=>c.s.z,z∣cbs ((C.map lnOf).map λc:Ln=>c.s.z):=Nd;have Nb:Bd kN (cbs ((C.map lnOf).map λc:Ln=>c.s.z)):=Bd.dvd_le bN0 N01 ND;exists Ai rfl LS hR (by rw [aa]; exact lL) hM (Nb.mono (!2)) λpb r1 r2 Hc sc fc=>?_;have Ndv:∀ c∈C,c.b.w.z∣cbs ((C.map lnOf).map λc:Ln=>c.s.z):=λc hc=>Nd _ (aU (f:=λc:Ln=>c.s.z) (aU (f:=lnOf) hc));have hsrv:∀ c∈C,(st d M').srv c.b.w.x c.b.w.y:=λc hc=>hM.1 _ (aU (f:=Ln.u) (aU (f:=lnOf) hc));generalize cbs ((C.map lnOf).map λc:Ln=>c.s.z)=N at *
  generalize st d M'=sb' at *
  clear LS eG sx zs1 Nd hM ups bds;have bk:∀ c∈C,BK d sb' N Eh ((kx+kN)+kx+3+(kN+kh)) M c.b:=λc hc=>BK.so (k:=kx+1) (Mw:=(kx+kN)) (Mh:=kh) (kN:=kN) (kE:=kE) hR gM N1 Eh1 N01 (hL c hc).2.w (Ndv c hc) ND (hL c hc).2.h (hsrv c hc) Nb bE (!2) (!2) (!2) (!2) (!2);have ND1:1<=N*Eh:=aI (!2) (!2);have bND:Bd (kN+kE) (N*Eh):=Nb.mul bE;have sz:Sz (N*Eh) (kN+kE) M:=⟨ND1,bND,by lia,by lia⟩
  have bas:Bas d M (sb'.a*Eh) (sb'.b*Eh) (sb'.c*Eh) (sb'.e*Eh):=EZ hR gM Eh1 bE (!2);have bN9:Bd 900 N:=Nb.mono (!2);have g9:GB d 900 sb':=gM.mono (!2);obtain ⟨w1,l1,en1,ne1⟩:=u9 (C:=C) false hR sz N1 Eh1 bas bk (!2) a1;have bkb:∀ b∈C.map Cell.b,BK d sb' N Eh _ M b:=λb hb=>by obtain ⟨c,hc,rfl⟩:=aV.mp hb; exact bk c hc
  have tbn:=Il hR gM (!2) N1 Eh1 bas bkb (by rw [aa]; lia);have nh:=MF hR gM (!2) N1 Eh1 bas bkb (by rw [aa]; lia) T Et1 Nb;have bo1:∀ c∈C,BoD d (N*Eh) M c.b:=λc hc=>(bk c hc).bod hR ND1 (hw c hc).w.up;have tc:=sb.trans sc;have h1c:=tc _ _ h11;have hAc:∀ c∈C,c.At Hc:=λc hc=>(hL c hc).1.same tc;exists BC h1c hAc fc N1 bN9 g9 (!2) hd Eh1 bk λpl ps Hd sd nd ed hr=>?_;have h1d:=sd _ _ h1c;exists Js h1d (λc hc=>(hAc c hc).same sd) (fc.same sd) N1 bN9 g9 a1 (!2) hd Eh1 (bND.mono (!2)) bk (λc hc=>by obtain ⟨k1,k2⟩:=(hw c hc).h.num2 Eh1 Nb; exact ⟨k1.mono (!2),k2.mono (!2)⟩) λl He R nl se el hR' eR=>?_;exists zt (!1) λr Hf sf ef=>?_;have s1d:=(s1.trans tc).trans sd;have wat:=u5 w1 (Kr a1) (λn hn=>tQ bo1 n (b9.mp hn));have w1':=w1.walk;rw [vM] at w1' en1 wat;have hlen:R.length=(nrmD sb' N Eh (C.map Cell.b)).length:=by rw [<-eR,aa]
  have l2:(nrmD sb' N Eh (C.map Cell.b)).length<=2:=BA _ _ _ _ 2;refine q r pl l Hf ps _ R (N*Eh) (kN+kE) ((s1d.trans se).trans sf) ef ⟨Same.nn (s1.trans tc) nd,Same.nn s1d nl,zb ed nl⟩ ((se.trans sf) _ _ ed) (hr.same (se.trans sf)) (by rw [hr.1]; lia) (sf _ _ el) (λc hc=>(hR' c hc).same sf) (by rw [eR]; exact tbn) ?_ sz (!2) (.inr λc hc=>by have z:=nh c.b (by rw [<-eR]; exact aU hc); exact ⟨⟨z.1.z1,z.1.g,z.1.up,z.1.bx.mono (!2),z.1.bY.mono (!2),aH z.1.dv ND⟩,z.2.mono (!2)⟩) ⟨w1',λi hi=>(wat i hi).1,by rw [eR]; exact en1⟩;rw [c2,hlen];generalize hnn:nrmD sb' N Eh (C.map Cell.b)=nn at *
  match nn,ne1,l2 with
  | [b],_,_ =>
    exfalso;have:=Ey b;rw [tbn] at this;unfold rkT at c2;rw [io this] at c2
    lia
  | [_,_],_,_=>rfl
theorem K73(F:Fun K "_law_few" "_law_few" S66 f fd)(B:Bl mg)(o48x:Own P w K mg base 11 "fewest" ["d","heap"] [] (P73 K cs))(o61x:O61x P w K mg base)(o51x:O51x P w K mg base cs)(o31x_3:Own P w K mg base 8 "walked" ["d","heap","plan","turning"] [.bl false] (P69 cs))(o47x:O47x P w K mg base)(o52x:O52x P w K mg base):FnOk P w K mg base CX0 12 f fd ["_law_d","_law_some","_law_cell"] (P74 K cs):=by
  refine F.okA C75 λcdv A outer s H vs Q E hr h=>?_;obtain @⟨d,N0,Et,f,p,c,C,kx,kN,kE,kh,kt,ke,kf,M,rfl,h1,hA,n1,hR,fw,lk,hf,hN,hE,hw,hT,q⟩:=h;refine ⟨_,(za (Fn (ze o48x hr rfl (pa2 (pv 0) (pv 1))) (uN (n:=2) rfl (ya (pg_n 3 C75.nd) (ya (pg_n 4 C75.nd) wF)))) (za (zw (PW.pt (vx (zg (Fc hr.units) (ze o31x_3 hr rfl (pa3 (pv 0) (pv 1) (pv 3))) (pv 4) (zm _)) (xN (zg vZ (zp zx rfl B.len bI (pa1 (pv 4))) (ze o47x hr rfl (pa1 (pv 1))) (zm _))))) (zd (zh wW)) zo) (za (zw (PW.pt (vx (zg zW (zp zx rfl B.len bI (pa1 (pv 4))) zc (zm _)) (xN (zg zW (zf zO (ze o52x hr rfl (pa2 (pv 2) zc)) zc) zc (zm _))))) (zd (zh (pv 4))) zo) (za (ps_s 5 C75.nd (zf zv zc (zf zO (ze o52x hr rfl (pa2 (pv 2) zc)) zc))) (za (ps_s 6 C75.nd (zf zv zc (zf zO (ze o52x hr rfl (pa2 (pv 2) zc)) zc))) (za (ps_s 7 C75.nd (ze o61x hr rfl (pa3 (pe_i ix_tup (pil 4) zc) (pv 5) (pv 6)))) (za (ps_s 8 C75.nd (ze o51x hr rfl (pa3 (pv 0) (pv 1) (pv 7)))) (za (zw (PW.pt (vx (zg Fe (pv 8) wW (zm _)) (xN (zg (Cb hr.units) (pit 8) (zq (pa2 (pv 7) (ze o61x hr rfl (pa3 (pe_i ix_tup (pil 4) zc) (pv 6) (pv 5))))) (zm _))))) (zd (zh wW)) zo) (za (zw (zg (Fc hr.units) (ze o31x_3 hr rfl (pa3 (pv 0) (pv 4) (pe_i ix_tup (ze o51x hr rfl (pa3 (pv 0) (pv 4) (pv 7))) zc))) (zI (pa1 (pit 8))) (zm _)) (zd (zh wW)) zo) (zd (zh (ze o31x_3 hr rfl (pa3 (pv 0) (pv 1) (pit 8)))))))))))))),?_⟩;walk_at "s";obtain ⟨a1,a20⟩:=n1;obtain ⟨N01,bN0⟩:=hN;obtain ⟨f1,bf,bEf⟩:=hE;obtain ⟨Et1,bEt,T⟩:=hT;obtain ⟨hf1,hf2,hf3,hf4⟩:=hf;have hd:Bd 64 d:=zG (B:=99) (by have:=hR.lo; lia) hR.hi (!3);have E1':1<=Et*f:=aI (!2) (!2);have k1:=fw.t;have k2:=fw.e;have k3:=fw.n;have k4:=fw.m;have whC:∀ c∈C,Wh d N0 (Et*f) kx (kx+kN) kh c.b:=λc hc=>(hw c hc).wh N01 bN0;have ok:∀ c∈C,S19 c.b.w/\S19 c.b.h:=λc hc=>(whC c hc).s19 N01 bN0 E1' bEf (!2) (!2) (!2) (!2);have hB4:=FX N01 bN0 E1' bEf whC a20 (!2) (!2);have btt:=T.bt (show Et≠0 by lia) bEt;have bt:(tbs (C.map Cell.b)).Bt 3000 3000:=btt.mono (!2) (!2);have rk12:rkT (tbs (C.map Cell.b))=1\/rkT (tbs (C.map Cell.b))=2:=by unfold rkT; split <;> simp
  exists GE rfl (kt:=kt) (ke:=ke) (kr:=kx+1) (kN:=kN) (kE:=kE) (kh:=kh) (kx:=kx) (M:=M) (N0:=N0) (Eh:=Et*f) (Et:=Et) h1 hA ok hB4 bt ⟨a1,a20⟩ hR (.inr ⟨fw,⟨N01,bN0⟩,⟨E1',bEf⟩,hw,Et1,bEt,T,dU _ _⟩) λrf pl ph H1 ps es R D' K' s1 e1 _ epl hr hl eph hAR eqT lenR sz kK wR W=>?_;have hwR:∀ c∈R,WnB d N0 (Et*f) (kx+1) kh c.b:=λc hc=>by
    rcases wR with z|z
    . have:c.b∈C.map Cell.b:=by rw [<-z]; exact aU hc
      obtain ⟨c',hc',e⟩:=aV.mp this;rw [<-e];exact (hw c' hc').mono (!2) (!2)
    . exact ⟨(z c hc).1,((z c hc).2.scale bf).mono (!2)⟩
  have obR:=Gm W;have obR:∀ c∈R,BoD d D' M c.b:=λc hc=>obR _ (aU hc);have R12:1<=R.length/\R.length<=2:=by lia
  have okR:∀ c∈R,S19 c.b.w/\S19 c.b.h:=λc hc=>(obR c hc).s19 sz.d1 sz.bd hf4 kK;have hB4R:=J4 okR R12.2;clear wR;exists tO rfl (s1 _ _ h1) (λc hc=>(hA c hc).same s1) (!2) epl (!2) hd hr (by rw [vM]; exact W.w) λr2 V2 H2 s2 _ e2 hV bV=>?_;have eph2:=s2 _ _ eph;exists HQ e2 eph2 hV (λc hc=>(hAR c hc).same s2) (by rw [bV,vM]; exact W.e) ?_;have s12:=s1.trans s2;exists Dy rfl (s12 _ _ h1) (λc hc=>(hA c hc).same s12) ok hB4 a1 bt λH3 s3=>?_;have s23:=s2.trans s3;have s13:=s1.trans s23;have eph3:=s23 _ _ eph;have hAR3:∀ c∈R,c.At H3:=λc hc=>(hAR c hc).same s23;walk_at "r";rw [aa];refine Dg lenR ?_;have retF:Q (.ref ph) H3:=q ph H3 R N0 f s13 eph3 hAR3 eqT R12 ⟨N01,f1⟩ ⟨cL _,cL _⟩ ⟨bN0.mono (!2),bf.mono (!2)⟩ λc hc=>(hwR c hc).mono (!2) (!2);walk_at "r";rw [aa];refine if_d (λc2=>?_) (λc2=>?_)
  . walk_at "r";exact retF
  exists zu rfl (!2) (!2) λm1 _ _=>?_;exists if_d (λc3=>?_) (λc3=>?_)
  . walk_at "r";exact retF
  clear retF;have r1:R.length=1:=by lia
  obtain ⟨b0,rfl⟩:∃ b0,R=[b0]:=by
    match R,r1 with
    | [b],_=>exact ⟨b,rfl⟩
  have hb:=hwR b0 aG;have at0:=hAR3 b0 aG;have eph3:H3 ph=some (.lst [.ref b0.p]):=eph3;have tR:tbs (C.map Cell.b)=tbs [b0.b]:=eqT.symm;exists zu rfl (!2) (!2) λm2 m20 m21=>?_;exists zu rfl (!2) (!2) λm3 m30 m31=>?_;have b2:Bd 4 (1+m2 % 9):=zG (B:=9) (!2) (!2) ⋯;have b3:Bd 4 (1+m3 % 9):=zG (B:=9) (!2) (!2) ⋯;have k5:1<=1+m2 % 9:=by lia
  have k6:1<=1+m3 % 9:=by lia
  have t0:=at0.t;walk_at "r";generalize 1+m2 % 9=m at *
  generalize 1+m3 % 9=k at *
  have syw:SY b0.b.w:=⟨hb.1.z1,hb.1.g,hb.1.bx.mono (!2),hb.1.bY.mono (!2),(uM bN0 N01 hb.1.dv).mono (!2)⟩
  have syh:SY b0.b.h:=(hb.2.sk E1' bEf).mono (!2) (!2);refine xu rfl at0.w syw (b2.mono ⋯) k6 (b3.mono ⋯) λpw H4 s4 e4=>?_;have w1:Wn d (N0*k) (kx+11) (shS b0.b.w m k):=(hb.1.sh hR k5 k6 b2).mono (!2);have h1':So d (Et*f*m) (kh+11) (shS b0.b.h k m):=(KE hR hb.2 k6 k5 b3).mono (!2);have eq1:=MD (w:=b0.b.w) (h:=b0.b.h) hb.1.z1 hb.2.z1 k5 k6;have N1':1<=N0*k:=aI (!2) (!2);have bN':Bd (kN+10) (N0*k):=(bN0.mul b3).mono (!2);have Em1:1<=Et*f*m:=aI (!2) (!2);have bEm:Bd (kE+10) (Et*f*m):=(bEf.mul b2).mono (!2);have eqC:tbs (C.map Cell.b)=tbs [⟨shS b0.b.w m k,shS b0.b.h k m⟩]:=tR.trans eq1.symm;have nz:=MW w1;have hh:hbS (tbs (C.map Cell.b)) (shS b0.b.w m k)=shS b0.b.h k m:=HV h1'.z1 h1'.g nz eqC.symm;have bw5:Bd 500 (shS b0.b.w m k).x/\Bd 500 (shS b0.b.w m k).y/\Bd 500 (shS b0.b.w m k).z:=⟨w1.bx.mono (!2),w1.bY.mono (!2),(uM bN' N1' w1.dv).mono (!2)⟩
  have wz:(shS b0.b.w m k).z≠0:=by have:=w1.z1; lia
  have bt4:=btt.mono (show kt<=440 by lia) (show ke<=440 by lia);have s14:=s13.trans s4;have at4:=at0.same s4;have ph4:=s4 _ _ eph3;exists xU rfl (N0:=N0*k) (Eh:=Et*f*m) (s14 _ _ h1) (λc hc=>(hA c hc).same s14) (λc hc=>WnB.wh (b:=c.b) ⟨((hw c hc).1.scale k).mono (!2),((hw c hc).2.scale b2).mono (!2)⟩ N1' bN') ok hB4 lk ⟨N1',bN'⟩ ⟨Em1,bEm⟩ ⟨a1,a20⟩ hR e4 wz bw5 bt4 nz (λ_=>by rw [hh]; exact WnB.wh (b:=⟨_,_⟩) ⟨w1,h1'⟩ N1' bN') (λ_ r5 pl5 pm5 ph5 H5 ps5 es5 qs5 D5 s5 e5 cm5 npl5 epl5 hr5 hl5 sz5 P5=>?_) (λne=>absurd (by rw [hh]; exact eqC) ne);rw [hh] at cm5 P5;have ph5':=s5 _ _ ph4;walk_at "r";rw [show decide (V.ref r5=V.non)=false from im (λz=>nomatch z)];have t5:=(at4.same s5).t;exists xu rfl (at4.same s5).h syh (b3.mono ⋯) k5 (b2.mono ⋯) λpq H6 s6 e6=>?_;exists zt (!1) λpt H7 s7 e7=>?_;have s57:=s6.trans s7;have cm7:=cm5.same s57;refine JX (a:=⟨pm5,pw,ph5,⟨shS b0.b.w m k,shS b0.b.h k m⟩⟩) (b:=⟨pt,pw,pq,⟨shS b0.b.w m k,shS b0.b.h k m⟩⟩) cm7 ⟨e7,cm7.w,s7 _ _ e6⟩ rfl ?_;have s47:=s5.trans s57;have e57:=s57 _ _ e5;have at7:=at4.same s47;have ph7:=s47 _ _ ph4;exists xU rfl (C:=[b0]) (N0:=N0*k) (Eh:=Et*f*m) ph7 (λc hc=>by rw [ao.mp hc]; exact at7) (λc hc=>by rw [ao.mp hc]; exact WnB.wh (b:=b0.b) ⟨(hb.1.scale k).mono (!2),(hb.2.scale b2).mono (!2)⟩ N1' bN') okR hB4R lk ⟨N1',bN'⟩ ⟨Em1,bEm⟩ ⟨by simp,by simp⟩ hR cm7.w wz bw5 (by show (tbs [b0.b]).Bt 440 440; rw [<-tR]; exact bt4) nz (λ_=>by rw [show ([b0].map Cell.b)=[b0.b] from rfl,<-tR,hh]; exact WnB.wh (b:=⟨_,_⟩) ⟨w1,h1'⟩ N1' bN') (λ_ r8 pl8 pm8 ph8 H8 ps8 es8 qs8 D8 s8 e8 cm8 npl8 epl8 hr8 hl8 sz8 P8=>?_) (λne=>absurd (by rw [show ([b0].map Cell.b)=[b0.b] from rfl,<-tR,hh]; exact eqC) ne);rw [show ([b0].map Cell.b)=[b0.b] from rfl,<-tR,hh] at P8;have ph8':=s8 _ _ ph7;exists tO rfl (L:=[b0]) ph8' (λc hc=>by rw [ao.mp hc]; exact at7.same s8) (!1) epl8 (by simp at hl8; lia) hd hr8 (by rw [vM]; exact P8.w) λr9 V9 H9 s9 _ e9 hV9 bV9=>?_;have bV9:V9.map Cell.b=[⟨shS b0.b.w m k,shS b0.b.h k m⟩]:=by rw [bV9,vM]; exact tH P8
  have s79:=s8.trans s9;have e59:=s79 _ _ e57;exists wa (!1) λra Ha sa ea=>?_;refine HQ (D:=[⟨pm5,pw,ph5,⟨shS b0.b.w m k,shS b0.b.h k m⟩⟩]) (sa _ _ e9) ea (λc hc=>(hV9 c hc).same sa) (λc hc=>by rw [ao.mp hc]; exact cm7.same (s79.trans sa)) bV9 ?_;have s7a:=s79.trans sa;have s5a:=s57.trans s7a;have s0a:=(s14.trans s5).trans s5a;have e5a:=s7a _ _ e57;exists tO rfl (s0a _ _ h1) (λc hc=>(hA c hc).same s0a) (!2) (s5a _ _ epl5) (!2) hd (hr5.same s5a) (by rw [vM]; exact P5.w) λrb Vb Hb sb _ eb hVb bVb=>?_;have bVb:Vb.map Cell.b=[⟨shS b0.b.w m k,shS b0.b.h k m⟩]:=by rw [bVb,vM]; exact tH P5
  have lb:Vb.length=1:=by have:=congrArg List.length bVb; simpa using this
  refine q rb Hb Vb (N0*k) (f*m) (s0a.trans sb) eb hVb (by rw [bVb]; exact eqC.symm) ⟨by lia,by lia⟩ ⟨N1',aI (!2) (!2)⟩ ⟨dU _ _,dU _ _⟩ ⟨bN',(bf.mul b2).mono (!2)⟩ λc hc=>?_;have:c.b∈Vb.map Cell.b:=aU hc;rw [bVb] at this;rw [ao.mp this,<-am];exact ⟨w1,h1'⟩
theorem L4{i:Nat}(h:i<=8):FwC (180+11*i) (61+10*i) (122+(10*i+1)) (422+31*i) 178 122 (180+11*i+1) 1640:=⟨⟨by lia,by lia,by lia,by lia,by lia,by lia,by lia,by lia,by lia⟩,by lia,by lia,by lia,by lia,by lia,by lia,by lia,by lia⟩
theorem Mg{i:Nat}(h:i<=9):LkB (180+11*i) (61+10*i) (180+11*i+(61+10*i)) (122+(10*i+1)) (422+31*i) 1640:=⟨by lia,by lia,by lia,by lia,by lia,by lia,by lia,by lia,by lia⟩
theorem K74(F:Fun K "law" "law" S67 f fd)(B:Bl mg)(o56x:Own P w K mg base 1 "_law_root" ["_law_cell"] [] P19)(o64x:Own P w K mg base 4 "_law_heap_of" ["_law_script","_law_most","_law_d"] [] (P60 K))(o59x:Own P w K mg base 3 "_law_places" ["_law_heap"] [] P52)(o63x:O63x P w K mg base)(o65x:Own P w K mg base 12 "_law_few" ["_law_d","_law_some","_law_cell"] [] (P74 K cs))(o47x:O47x P w K mg base)(o60x:Own P w K mg base 1 "_law_rank" ["_law_found"] [] P20)(o52x:O52x P w K mg base)(o46x:O46x P w K mg base cs):FnOk P w K mg base CX0 13 f fd ["_law_script"] (GM K):=by
  refine F.ok (k:=12) C76 (λvs H Q E h=>by obtain ⟨a,ns,rfl,hS,h63,hbd,q⟩:=h; rfl) (λcdv A outer s H vs Q E hr h=>?_);obtain ⟨a,ns,rfl,hS,h63,hbd,q⟩:=h;refine ⟨_,(za (ps_s 1 C76.nd (ze o56x hr rfl (pa1 (zp (xf rfl) rfl B.sum uI (pa1 (z5 yG (pv 0) yL (yc zc))))))) (za (ps_s 2 C76.nd (ze o64x hr rfl (pa3 (pv 0) zc (pv 1)))) (za (ps_s 3 C76.nd (zR wB rfl B.list vq (pa1 (pv 2)))) (za (ps_s 4 C76.nd (ze o59x hr rfl (pa1 (pv 2)))) (za (zH PassesOwn.never rfl (zA (zf vz (z5 yG (pv 0) (yc zc) (yc zc)) (zI (pa1 zc)))) (pg_n 5 C76.nd) (za (xp (zw (PW.pt (yQ (zg xM (zf zO (ze o52x hr rfl (pa2 (pv 5) zc)) zc) zc (zm _)) (yw (zg ue (zp zx rfl B.len bI (pa1 (pv 2))) zc (zm _))))) (zd (ps_s 2 C76.nd (ze o63x hr rfl (pa3 (pv 2) (pv 5) (pv 1))))) (za (ps_s 2 C76.nd (ze o65x hr rfl (pa3 (pv 1) (pv 2) (pv 5)))) (zd (zw (PW.pt (vx (zg Fe (pv 2) wW (zm _)) (xN (zg vZ (pe_i ix_tup (ze o46x hr rfl (pa3 (pv 1) (pv 2) (pv 3))) zc) zP (zm _))))) (zd (zh wP)) zo))))) (zd (zw (PW.pt (vx (zg (Fc hr.units) (ze o59x hr rfl (pa1 (pv 2))) (pv 4) (zm _)) (xN (zg vZ (ze o47x hr rfl (pa1 (pv 2))) (ze o60x hr rfl (pa1 (pv 4))) (zm _))))) (zd (zh wP)) zo)))) (zd (zh wP))))))),?_⟩;walk_at "s";exists DQ hS λp0 H0 ms0 hm0 hl0 s0 e0=>?_;exists CV (SqL.of e0) ?_;exists BO rfl λd H1 hR s1'=>?_;have sS:Same H H1:=s0.trans s1';have hS1:=sS.seq hS;exists ur rfl hS1 (!2) ⟨by decide,by decide⟩ hR λr H2 C N0 Eh0 s2 er hC nn1 bb1 oC T0 nC=>?_;obtain ⟨n1,n6⟩:=nC;obtain ⟨N01,E01⟩:=nn1;obtain ⟨bN0,bE0⟩:=bb1;have bN0:Bd 61 N0:=bN0;have bE0:Bd 61 Eh0:=bE0;obtain ⟨Et,hEt⟩:∃ Et,Et=Eh0*N0:=⟨_,rfl⟩
  have T0:TbD Et 178 (tbs (C.map Cell.b)):=by rw [hEt]; exact T0
  have Et1:1<=Et:=by rw [hEt]; exact aI (!2) (!2)
  have bEt:Bd 122 Et:=by rw [hEt]; exact bE0.mul bN0
  have oC:∀ c∈C,WnB d N0 Et 86 147 c.b:=λc hc=>⟨(oC c hc).1,by rw [hEt]; exact (oC c hc).2.scale bN0⟩
  clear hEt bE0 E01;have btt:=T0.bt (show Et≠0 by lia) bEt;have bt:(tbs (C.map Cell.b)).Bt 3000 3000:=btt.mono ⋯ ⋯;exists tt er λpf H3 nf s3 ef=>?_;have whC:∀ c∈C,Wh d N0 Et 86 147 147 c.b:=λc hc=>(oC c hc).wh N01 bN0;have okC:∀ c∈C,S19 c.b.w/\S19 c.b.h:=λc hc=>(whC c hc).s19 N01 bN0 Et1 bEt ⋯ ⋯ ⋯ ⋯;have hB4C:=FX N01 bN0 Et1 bEt whC (!2) ⋯ ⋯;exists wn rfl (s3 _ _ er) (λc hc=>(hC c hc).same s3) okC hB4C λl l0 l1 q0 q1 q2 q3 H4 s4 e4=>?_;have s34:=s3.trans s4;exists yC ?_;exists LG (i:=7) (j:=15) ((s2.trans s34).seq hS1) λp5 H5a s5a e5a=>?_;exists wa (!1) λp6 H6 s6 e6=>?_;refine Ep (s6 _ _ e5a) e6 (by simp only [ax,aK,aa,az]; lia) λp5 H5 s5 e5=>?_;obtain ⟨cs',e5,hcs⟩:∃ cs':List Int,H5 p5=some (.lst (cs'.map V.int))/\cs'.length<=9:=⟨(ns.drop 7).take (15 - 7)++[4],by rw [ah]; exact e5,by rw [ai,az]; simp only [ax,aK]; lia⟩
  have s45:=(s5a.trans s6).trans s5;have s25:=s34.trans s45;have er5:=s25 _ _ er;have hC5:∀ c∈C,c.At H5:=λc hc=>(hC c hc).same s25;have ef5:=(s4.trans s45) _ _ ef;have e45:LsH H5 l l0 l1 q0 q1 q2 q3 (tbs (C.map Cell.b)):=e4.same s45;clear er hC ef e4 e5a e6 s3 s34 s4 s5a s6 s5 s45 s25 nf;refine ⟨p5,rfl,⟨_,SqL.of e5⟩,zJ (K:=K) (a:=p5) (xs:=cs'.map V.int) (λi σ H'=>E5 λ(v:Option V) (A:Addr) (C':List Cell) (N f:Int)=>A10 (σ=[vR a,vI d,vR A,vR pf,vR l,v]) (Same H5 H') (H' A=some (.lst (C'.map Cell.v))) ((∀ c∈C',c.At H')) (tbs (C'.map Cell.b)=tbs (C.map Cell.b)) ((1<=C'.length/\C'.length<=12)) ((1<=N/\1<=f)) (N0∣N) ((Bd (61+10*i) N/\Bd (10*i+1) f)) (∀ c∈C',WnB d N (Et*f) (180+11*i) (422+31*i) c.b)) ⟨_,r,C,N0,1,rfl,Same.refl _,er5,hC5,rfl,⟨n1,by lia⟩,⟨N01,by decide⟩,cL _,⟨bN0,by decide⟩,λc hc=>by rw [cH]; exact (oC c hc).mono ⋯ ⋯⟩ (λi σ H' _ z=>by obtain ⟨_,_,_,_,_,_,z,_⟩:=z; exact SqL.of (z _ _ e5)) ?_ ?_⟩
  . rintro i x σ H' hi ⟨v,A,C',N,f,rfl,si,eA,hA',eqT,⟨c1,c12⟩,⟨N1,f1⟩,hdv,⟨bN,bf⟩,oC'⟩;have hi':=(af.mp hi).1;rw [aa] at hi';have i8:i<=8:=by lia
    rw [aj] at hi;obtain ⟨cc,hcc,rfl⟩:=av.mp hi;clear hi hcc;have E1':1<=Et*f:=aI (!2) (!2);have T':TbD Et 178 (tbs (C'.map Cell.b)):=by rw [eqT]; exact T0
    exists wS (T:=λσ H'=>E4 λ(A:Addr) (C':List Cell) (N f:Int)=>A10 (σ=[vR a,vI d,vR A,vR pf,vR l,vI cc]) (Same H5 H') (H' A=some (.lst (C'.map Cell.v))) ((∀ c∈C',c.At H')) (tbs (C'.map Cell.b)=tbs (C.map Cell.b)) ((1<=C'.length/\C'.length<=12)) ((1<=N/\1<=f)) (N0∣N) ((Bd (61+10*(i+1)) N/\Bd (10*(i+1)+1) f)) (∀ c∈C',WnB d N (Et*f) (180+11*(i+1)) (422+31*(i+1)) c.b)) ?_ ?_
    . exists zu rfl (!2) (!2) λm1 _ _=>?_;walk_at "r";apply F6
      . intro few;refine if_d (λk1=>?_) (λ_=>few);walk_at "r";rw [aa];refine if_d (λk2=>?_) (λ_=>few);exists uA rfl (K':=122+(10*i+1)) (kx:=180+11*i) (kh:=422+31*i) eA hA' oC' ⟨N1,E1'⟩ ⟨bN.mono (!2),bEt.mul bf⟩ ⟨by lia,by lia,by lia,by lia⟩ ⟨c1,by lia⟩ hR λr2 H1 L2 N2 E2 s2 _ e2 hA2 nn2 kd bb2 o2 l2 t2=>?_;obtain ⟨ka,kb,ha,hb,ka1,kb1,bka,bkb,_⟩:=kd;have ef:E2=Et*(f*kb):=by rw [hb,am]
        rw [ef] at o2;walk_at "r";exact ⟨r2,L2,N2,f*kb,rfl,si.trans s2,e2,hA2,t2.trans eqT,⟨by lia,by lia⟩,⟨nn2.1,aI (!2) (!2)⟩,aH hdv ⟨ka,ha⟩,⟨by rw [ha]; exact (bN.mul bka).mono (!2),(bf.mul bkb).mono (!2)⟩,λc hc=>(o2 c hc).mono (!2) (!2)⟩
      exists Dc rfl (kx:=180+11*i) (kN:=61+10*i) (kE:=122+(10*i+1)) (kh:=422+31*i) (kt:=178) (ke:=122) (kf:=10*i+1) (M:=1640) eA hA' ⟨c1,by lia⟩ hR (L4 i8) ⟨by lia,by lia,by lia,by lia,by lia,by lia,by lia,by lia,by lia⟩ ⟨by lia,by lia,by lia,by decide⟩ ⟨N1,bN⟩ ⟨f1,bf,bEt.mul bf⟩ oC' ⟨Et1,bEt,T'⟩ λr2 H1 L2 N2 f2 s2 e2 hA2 t2 l2 nn2 dd2 bb2 o2=>?_;have bb2a:Bd (61+10*(i+1)) N2:=bb2.1.mono (!2);have bb2b:Bd (10*(i+1)+1) f2:=bb2.2.mono (!2);have o2:∀ c∈L2,WnB d N2 (Et*f2) (180+11*(i+1)) (422+31*(i+1)) c.b:=λc hc=>(o2 c hc).mono (!2) (!2);have e2f:1<=Et*f2:=aI (!2) (!2);have wh2:∀ c∈L2,Wh d N2 (Et*f2) (180+11*(i+1)) (180+11*(i+1)+(61+10*(i+1))) (422+31*(i+1)) c.b:=λc hc=>(o2 c hc).wh nn2.1 bb2a;have s5b:=si.trans s2;walk_at "r";rw [show decide (V.ref r2=V.non)=false from im (λz=>nomatch z)];exists Hz rfl (C1:=L2) (C2:=C) e2 (s5b _ _ ef5) hA2 (λc hc=>(hC5 c hc).same s5b) wh2 (λc hc=>(wh2 c hc).s19 nn2.1 bb2a e2f (bEt.mul bb2b) (!2) (!2) (!2) (!2)) (FX nn2.1 bb2a e2f (bEt.mul bb2b) wh2 (!2) (!2) (!2)) (λ_ c hc=>WnB.wh (b:=c.b) ⟨⟨(oC c hc).1.z1,(oC c hc).1.g,(oC c hc).1.up,(oC c hc).1.bx.mono (!2),(oC c hc).1.bY.mono (!2),aH (oC c hc).1.dv (aH hdv dd2.1)⟩,((oC c hc).2.scale bb2b).mono (!2)⟩ nn2.1 bb2a) okC hB4C (Mg (!2)) ⟨nn2.1,bb2a⟩ ⟨e2f,bEt.mul bb2b⟩ ⟨l2.1,by lia⟩ ⟨n1,by lia⟩ hR (λ_ r7 pl7 pp7 H7 ps7 es7 qs7 D7 s7 e7 _ _ _ _ _ _ _ _ _=>?_) (λr7 H7 i7 j7 s7 e7 fu=>absurd (congrArg (cmT (2*i7+j7)) (t2.trans eqT)) fu.ne);walk_at "r";rw [show decide (Str.ofString "plan"=Str.ofString "plan")=true from iH rfl];walk_at "r";exact ⟨r2,L2,N2,f2,rfl,s5b.trans s7,s7 _ _ e2,λc hc=>(hA2 c hc).same s7,t2.trans eqT,⟨l2.1,by lia⟩,nn2,aH hdv dd2.1,⟨bb2a,bb2b⟩,o2⟩
    clear eA hA' eqT c1 c12 N1 f1 hdv bN bf oC' E1' T' si;rintro σ H6 ⟨A,C',N,f,rfl,si,eA,hA',eqT,⟨c1,c12⟩,⟨N1,f1⟩,hdv,⟨bN,bf⟩,oC'⟩;have E1':1<=Et*f:=aI (!2) (!2);have wh:∀ c∈C',Wh d N (Et*f) (180+11*(i+1)) (180+11*(i+1)+(61+10*(i+1))) (422+31*(i+1)) c.b:=λc hc=>(oC' c hc).wh N1 bN;have ok':∀ c∈C',S19 c.b.w/\S19 c.b.h:=λc hc=>(wh c hc).s19 N1 bN E1' (bEt.mul bf) (!2) (!2) (!2) (!2);have hB4':=FX N1 bN E1' (bEt.mul bf) wh (!2) (!2) (!2);exists wn rfl eA hA' ok' hB4' λl' l0' l1' q0' q1' q2' q3' H7 s7 e7=>?_;exists IP e7 (e45.same (si.trans s7)) (λ_=>?_) (λne=>absurd eqT ne);exists Dy rfl (s7 _ _ eA) (λc hc=>(hA' c hc).same s7) ok' hB4' c1 (by rw [eqT]; exact bt) λH8 s8=>?_;exists BQ rfl (LsH.due (e45.same ((si.trans s7).trans s8))) bt λH9 s9=>?_;exists Dg (by rw [eqT]) ?_;walk_at "r";have s79:=(s7.trans s8).trans s9;exact ⟨_,A,C',N,f,rfl,si.trans s79,s79 _ _ eA,λc hc=>(hA' c hc).same s79,eqT,⟨c1,c12⟩,⟨N1,f1⟩,hdv,⟨bN,bf⟩,oC'⟩
  rintro σ H' ⟨v,A,C',N,f,rfl,si,_⟩;walk_at "r";exact q _
end
end Bk
open Bk
noncomputable section
variable {C:Addr}{vs:List L2.V}{its:List Value}{x:Str}{w:World}
namespace Hd
open PySem.W PySem.Calls
abbrev pm0:Value:=(.str "boardglue.lengths" 294)
abbrev pm1:Value:=(.str "boardglue.bases" 439)
abbrev pm2:Value:=(.str "boardglue.normal" 494)
abbrev pm3:Value:=(.str "boardglue.yard" 556)
abbrev pm4:Value:=(.str "boardglue.plans" 703)
abbrev pm5:Value:=(.str "boardglue.tables" 769)
abbrev pm6:Value:=(.str "boardglue.likes" 844)
abbrev pm7:Value:=(.str "law_boardglue_k64_whole_cut_and_made_few" 909)
abbrev pm8:Value:=(.str "boardglue.boards" 548)
abbrev pm9:Value:=(.str "boardglue.fewest" 862)
def cs:Cs:=⟨31,44,56,68,80,92,377⟩
abbrev TT(w:World)(mg:Str->Option Value)(x:Str)(st:Stmt):Prop:=L2.Top (K w.params) mg x st
theorem tI(a:Addr)(its:Array Value)(v:L2.Vals vs its.toList)(z:its.size<=sizeLine:=by decide)(l:(K w.params).lookup a=some (tu its):=by kernel_rfl):L2.TupIn (K w.params) a vs:=L2.tupIn_mk l rfl rfl z v
theorem u1{α:Type}{P:List α->Prop}(h:∀ a0,P [a0]):∀ us:List α,us.length=1->P us
  | [a0],_=>h a0
theorem u2{α:Type}{P:List α->Prop}(h:∀ a0 a1,P [a0,a1]):∀ us:List α,us.length=2->P us
  | [a0,a1],_=>h a0 a1
theorem u3{α:Type}{P:List α->Prop}(h:∀ a0 a1 a2,P [a0,a1,a2]):∀ us:List α,us.length=3->P us
  | [a0,a1,a2],_=>h a0 a1 a2
theorem u4{α:Type}{P:List α->Prop}(h:∀ a0 a1 a2 a3,P [a0,a1,a2,a3]):∀ us:List α,us.length=4->P us
  | [a0,a1,a2,a3],_=>h a0 a1 a2 a3
theorem ow{mg:Str->Option Value}{k:Nat}{st:Stmt}{ps:List Str}{sp:L2.Sp}(base:Heap)(T:L2.Top (K w.params) mg x st)(h:∀ f fd,L2.Fun (K w.params) x x st f fd->L2.FnOk p w (K w.params) mg base L2.CX0 k f fd ps sp)(hb:∀ (kV doc pm:Value) (an:Option Addr) (cdv ct:Value) (us:List Value),us.length=ps.length->bindArgs (fnOf x x (L2.defArgs st) (L2.defBody st) (L2.defScope st) .none kV doc pm an cdv ct) ⟨us,[]⟩=pure (ps.zip us)):L2.Own p w (K w.params) mg base k x ps [] sp:=T.own hb h
section
variable {w:World}{mg:Str->Option Value}{h:Heap}(KX:(K w.params).In h)(G:h.Ns mainGlobals mg)
include KX G
theorem tp{st:Stmt}(f cd:Addr)(pm:Value)(a:nsIn (K w.params) mainGlobals x=some (some (.ref f)):=by kernel_rfl)(l:(K w.params).lookup f=some ⟨.type "function",none,.func (fnOf x x (L2.defArgs st) (L2.defBody st) (L2.defScope st) .none .none .none pm none (.ref cd) .none),#[]⟩:=by kernel_rfl)(c:codeIn (K w.params) (.ref cd) x=true:=by kernel_rfl)(k:keepIn (K w.params) (.ref f)=true:=by kernel_rfl):L2.Top (K w.params) mg x st:=L2.top_mk KX G a l c k
theorem tm{m q:Str}{st:Stmt}(f cd:Addr)(pm:Value)(l:(K w.params).lookup f=some ⟨.type "function",none,.func (fnOf m q (L2.defArgs st) (L2.defBody st) (L2.defScope st) .none .none .none pm none (.ref cd) .none),#[]⟩:=by kernel_rfl)(c:codeIn (K w.params) (.ref cd) q=true:=by kernel_rfl)(k:keepIn (K w.params) (.ref f)=true:=by kernel_rfl)(a:findIn (K w.params) (.ref C) m=some (some (.ref f)):=by kernel_rfl)(n:isFn (K w.params) (.ref f)=true:=by kernel_rfl):L2.TopM (K w.params) C m q st:=L2.topM_mk l c k a n
theorem td{st:Stmt}(f T cd:Addr)(pm:Value)(a:nsIn (K w.params) mainGlobals x=some (some (.ref f)):=by kernel_rfl)(l:(K w.params).lookup f=some ⟨.type "function",none,.func (fnOf x x (L2.defArgs st) (L2.defBody st) (L2.defScope st) (.ref T) .none .none pm none (.ref cd) .none),#[]⟩:=by kernel_rfl)(c:codeIn (K w.params) (.ref cd) x=true:=by kernel_rfl)(k:keepIn (K w.params) (.ref f)=true:=by kernel_rfl)(t:(K w.params).lookup T=some (tu its.toArray):=by kernel_rfl):L2.TopD (K w.params) mg x st its:=L2.topD_mk KX G a l c k t rfl
theorem ti{q:Str}{st:Stmt}(f T cd:Addr)(pm:Value)(l:(K w.params).lookup f=some ⟨.type "function",none,.func (fnOf "__init__" q (L2.defArgs st) (L2.defBody st) (L2.defScope st) (.ref T) .none .none pm none (.ref cd) .none),#[]⟩:=by kernel_rfl)(c:codeIn (K w.params) (.ref cd) q=true:=by kernel_rfl)(k:keepIn (K w.params) (.ref f)=true:=by kernel_rfl)(t:(K w.params).lookup T=some (tu its.toArray):=by kernel_rfl)(m:makesIn (K w.params) C=true:=by kernel_rfl)(i:findIn (K w.params) (.ref C) "__init__"=some (some (.ref f)):=by kernel_rfl)(nf:isFn (K w.params) (.ref f)=true:=by kernel_rfl)(kc:keepIn (K w.params) (.ref C)=true:=by kernel_rfl)(a:nsIn (K w.params) mainGlobals x=some (some (.ref C)):=by kernel_rfl):L2.TopIn (K w.params) mg C x q st its:=L2.topIn_mk KX G l c k t rfl m i nf kc a
theorem gT(a:Addr)(its:Array Value)(v:L2.Vals vs its.toList)(z:its.size<=sizeLine:=by decide)(e:nsIn (K w.params) mainGlobals x=some (some (.ref a)):=by kernel_rfl)(l:(K w.params).lookup a=some (tu its):=by kernel_rfl):L2.TopT (K w.params) mg x vs:=L2.topT_mk KX G e l rfl rfl z v
theorem nn(e:nsIn (K w.params) mainGlobals x=some none:=by kernel_rfl):mg x=none:=mg_none_of KX G e
theorem bl :Bl mg:=⟨nn KX G,nn KX G,nn KX G,nn KX G,nn KX G,nn KX G,nn KX G,nn KX G,nn KX G,nn KX G,nn KX G,nn KX G,nn KX G,nn KX G,nn KX G,nn KX G,nn KX G⟩
theorem T2:TT w mg "is_whole" S0:=tp KX G 102 101 pm0
theorem T3:TT w mg "common_divisor" S1:=tp KX G 109 108 pm0
theorem T4:TT w mg "with_sign_of" S2:=tp KX G 130 129 pm0
theorem T5:TT w mg "is_above_nought" S10:=tp KX G 188 187 pm0
theorem T6:TT w mg "crossed" S14:=tp KX G 216 215 pm1
theorem T7:TT w mg "gathering" S22:=tp KX G 263 262 pm2
theorem T8:TT w mg "names_taken" S25:=tp KX G 285 284 pm3
theorem T9:TT w mg "count_put" S26:=tp KX G 292 291 pm3
theorem T10:TT w mg "turned" S27:=tp KX G 299 298 pm3
theorem T11:TT w mg "places_of" S34:=tp KX G 408 407 pm4
theorem T12:TT w mg "with_names" S37:=tp KX G 425 424 pm4
theorem T13:TT w mg "slant" S45:=tp KX G 486 485 pm5
theorem T14:TT w mg "first_unlike" S46:=tp KX G 493 492 pm6
theorem T15:TT w mg "_law_mix" S53:=tp KX G 538 537 pm7
theorem T16:TT w mg "_law_low" S54:=tp KX G 545 544 pm7
theorem T17:TT w mg "_law_fraction" S55:=tp KX G 552 551 pm7
theorem T18:TT w mg "_law_sign" S56:=tp KX G 559 558 pm7
theorem T19:TT w mg "_law_root" S57:=tp KX G 564 563 pm7
theorem T20:TT w mg "_law_rank" S61:=tp KX G 592 591 pm7
theorem T21:L2.TopIn (K w.params) mg 377 "Yard" "Yard.__init__" S68 [(.bool false)]:=ti KX G 333 328 332 pm3
theorem T22:L2.TopM (K w.params) 377 "board_ever" "Yard.board_ever" S72:=tm KX G 357 356 pm3
theorem T23:L2.TopM (K w.params) 377 "boards" "Yard.boards" S73:=tm KX G 362 361 pm3
theorem T24:L2.TopM (K w.params) 377 "heap" "Yard.heap" S74:=tm KX G 367 366 pm3
theorem T25:L2.TopD (K w.params) mg "length" S3 [(.int (0) 352),(.int (1) 353)]:=td KX G 138 131 137 pm0
theorem T26:L2.TopD (K w.params) mg "fraction" S4 [(.int (1) 364)]:=td KX G 146 139 145 pm0
theorem T27:TT w mg "by_parts" S6:=tp KX G 160 159 pm0
theorem T28:TT w mg "added" S7:=tp KX G 167 166 pm0
theorem T29:TT w mg "under" S11:=tp KX G 195 194 pm0
theorem T30:TT w mg "counts" S15:=tp KX G 223 222 pm1
theorem T31:TT w mg "common_bottom" S16:=tp KX G 230 229 pm1
theorem T32:TT w mg "undoing" S33:=tp KX G 403 402 pm4
theorem T33:TT w mg "names_behind" S36:=tp KX G 418 417 pm4
theorem T34:TT w mg "plus" S39:=tp KX G 444 443 pm5
theorem T35:TT w mg "times" S40:=tp KX G 451 450 pm5
theorem T36:TT w mg "_law_side" S58:=tp KX G 571 570 pm7
theorem T37:TT w mg "_law_add" S59:=tp KX G 578 577 pm7
theorem T38:TT w mg "_law_share" S62:=tp KX G 599 598 pm7
theorem T39:TT w mg "_law_rest" S63:=tp KX G 606 605 pm7
theorem T40:L2.TopM (K w.params) 377 "check_names" "Yard.check_names" S70:=tm KX G 345 344 pm3
theorem T41:TT w mg "parts" S5:=tp KX G 153 152 pm0
theorem T42:TT w mg "taken" S8:=tp KX G 174 173 pm0
theorem T43:TT w mg "timed" S9:=tp KX G 181 180 pm0
theorem T44:TT w mg "first_base" S12:=tp KX G 202 201 pm1
theorem T45:TT w mg "is_length" S23:=tp KX G 268 267 pm8
theorem T46:TT w mg "glued_beside" S29:=tp KX G 313 312 pm3
theorem T47:TT w mg "stacked" S30:=tp KX G 320 319 pm3
theorem T48:TT w mg "followed" S38:=tp KX G 430 429 pm4
theorem T49:TT w mg "by" S41:=tp KX G 458 457 pm5
theorem T50:TT w mg "together" S44:=tp KX G 479 478 pm5
theorem T51:TT w mg "plain_width" S50:=tp KX G 517 516 pm9
theorem T52:TT w mg "_law_places" S60:=tp KX G 585 584 pm7
theorem T53:TT w mg "_law_cut" S64:=tp KX G 613 612 pm7
theorem T54:TT w mg "next_base" S13:=tp KX G 209 208 pm1
theorem T55:TT w mg "times_over" S18:=tp KX G 242 241 pm2
theorem T56:TT w mg "is_deed" S24:=tp KX G 278 277 pm3
theorem T57:TT w mg "cut_across" S28:=tp KX G 306 305 pm3
theorem T58:TT w mg "board_table" S43:=tp KX G 472 471 pm5
theorem T59:TT w mg "height_by" S51:=tp KX G 524 523 pm9
theorem T60:TT w mg "_law_heap_of" S65:=tp KX G 618 617 pm7
theorem T61:TT w mg "serving" S17:=tp KX G 235 234 pm1
theorem T62:TT w mg "normal_heap" S20:=tp KX G 249 248 pm2
theorem T63:TT w mg "normal_plan" S21:=tp KX G 256 255 pm2
theorem T64:TT w mg "table" S42:=tp KX G 465 464 pm5
theorem T65:L2.TopM (K w.params) 377 "put_by" "Yard.put_by" S71:=tm KX G 350 349 pm3
theorem T66:TT w mg "rank" S48:=tp KX G 505 504 pm9
theorem T67:L2.TopM (K w.params) 377 "do" "Yard.do" S69:=tm KX G 338 337 pm3
theorem T68:TT w mg "yard_behind" S31:=tp KX G 388 387 pm4
theorem T69:L2.TopD (K w.params) mg "walked" S32 [(.bool false)]:=td KX G 396 389 395 pm4
theorem T70:TT w mg "back" S35:=tp KX G 413 412 pm4
theorem T71:TT w mg "like" S47:=tp KX G 498 497 pm6
theorem T72:TT w mg "one_board" S52:=tp KX G 531 530 pm9
theorem T73:TT w mg "fewest" S49:=tp KX G 510 509 pm9
theorem T74:TT w mg "_law_few" S66:=tp KX G 625 624 pm7
theorem T75:TT w mg "law" S67:=tp KX G 632 631 pm7
theorem g_NOUGHT :L2.TopT (K w.params) mg "NOUGHT" [.int 0,.int 0,.int 1]:=gT KX G 95 #[(.int (0) 296),(.int (0) 297),(.int (1) 298)] (.cons ⟨_,rfl⟩ (.cons ⟨_,rfl⟩ (.cons ⟨_,rfl⟩ .nil)))
theorem g_GREAT_BITS :L2.TopI mg "GREAT_BITS" (8192):=L2.topI_mk (t:=300) KX G (by kernel_rfl)
theorem g_CUTS :L2.TopT (K w.params) mg "CUTS" [.str "across",.str "along"]:=gT KX G 269 #[(.str "across" 558),(.str "along" 559)] (.cons ⟨_,rfl⟩ (.cons ⟨_,rfl⟩ .nil))
theorem g_GLUINGS :L2.TopT (K w.params) mg "GLUINGS" [.str "beside",.str "atop"]:=gT KX G 270 #[(.str "beside" 561),(.str "atop" 562)] (.cons ⟨_,rfl⟩ (.cons ⟨_,rfl⟩ .nil))
theorem g_SHIFTS :L2.TopT (K w.params) mg "SHIFTS" [.str "stack",.str "spread"]:=gT KX G 271 #[(.str "stack" 564),(.str "spread" 565)] (.cons ⟨_,rfl⟩ (.cons ⟨_,rfl⟩ .nil))
theorem g_TURN :L2.TopS mg "TURN" (Str.ofString "turn"):=L2.topS_mk (t:=567) KX G (by kernel_rfl)
theorem g_EMPTY :L2.TopE (K w.params) mg "EMPTY":=L2.topE_mk (a:=437) (r0:=433) (r1:=436) (f0:=431) (f1:=432) (f2:=434) (f3:=435) KX G (by kernel_rfl) (tI 437 #[(.ref 433),(.ref 436)] (.cons rfl (.cons rfl .nil))) (tI 433 #[(.ref 431),(.ref 432)] (.cons rfl (.cons rfl .nil))) (tI 436 #[(.ref 434),(.ref 435)] (.cons rfl (.cons rfl .nil))) (tI 431 #[(.int (0) 771),(.int (1) 772)] (.cons ⟨_,rfl⟩ (.cons ⟨_,rfl⟩ .nil))) (tI 432 #[(.int (0) 773),(.int (1) 774)] (.cons ⟨_,rfl⟩ (.cons ⟨_,rfl⟩ .nil))) (tI 434 #[(.int (0) 775),(.int (1) 776)] (.cons ⟨_,rfl⟩ (.cons ⟨_,rfl⟩ .nil))) (tI 435 #[(.int (0) 777),(.int (1) 778)] (.cons ⟨_,rfl⟩ (.cons ⟨_,rfl⟩ .nil)))
theorem xs :Xs (K w.params) mg cs:=⟨(mg_of KX G (by kernel_rfl)),(mg_of KX G (by kernel_rfl)),(mg_of KX G (by kernel_rfl)),(mg_of KX G (by kernel_rfl)),(mg_of KX G (by kernel_rfl)),(mg_of KX G (by kernel_rfl)),(mg_of KX G (by kernel_rfl)),⟨(by kernel_rfl),(by kernel_rfl),(by kernel_rfl),(by kernel_rfl)⟩,(by unfold L2.NoAttr; kernel_rfl),(by unfold L2.NoAttr; kernel_rfl),(by unfold L2.NoAttr; kernel_rfl),(by unfold L2.NoAttr; kernel_rfl),(by unfold L2.NoAttr; kernel_rfl)⟩
end
end Hd
end
def PySem.W.Fast.tw18020318429240217087:PySem.Program:=PySem.Challenge.pw_boardglue_k64_whole_cut_and_made_few
theorem PySem.W.Fast.te18020318429240217087:PySem.Challenge.pw_boardglue_k64_whole_cut_and_made_few=PySem.W.Fast.tw18020318429240217087:=rfl
open PySem.W
set_option maxRecDepth 100000 in
set_option maxHeartbeats 0 in
theorem PySem.Challenge.cw_boardglue_k64_whole_cut_and_made_few_holds : PySem.Challenge.rw_boardglue_k64_whole_cut_and_made_few.Holds := by
  w_on; o_law;rename_i said;refine holds_open (r:=PySem.Challenge.rw_boardglue_k64_whole_cut_and_made_few.row) (q:=Hd.qv) (loose:=Hd.loose) (Xt:=Hd.Xt) (XP:=XL Hd.qv []) (Yf:=Hd.Yf) (Ya:=Hd.Ya) (YP:=InK Hd.K) (N:=8252) Hd.left (InK.of Hd.asK) InK.keeps (λs e=>xl_of s (Bool.and_eq_true_iff.mp e).1) XL.keeps (by rfl) (by rfl) (by rfl) (λs e=>recFacts_of (Bool.and_eq_true_iff.mp e).2) (by rfl) said (by decide +kernel) ⟨rfl,rfl,rfl,rfl,rfl,by decide +kernel⟩ ?hw ?hc
  case hw=>w_witness2
  refine L2.walk_B (l:=PySem.Challenge.rw_boardglue_k64_whole_cut_and_made_few) (k:=13) (x:="_law_script") rfl rfl ⟨rfl,by decide,by decide⟩ (λw h Y=>Y) ?F
  case F =>
    intro w mg fa h KX G hmg;have B:Bl mg:=Hd.bl KX G;have T_Yard___init__:=Hd.T21 KX G;have T_Yard_board_ever:=Hd.T22 KX G;have T_Yard_boards:=Hd.T23 KX G;have T_Yard_heap:=Hd.T24 KX G;have T_length:=Hd.T25 KX G;have T_fraction:=Hd.T26 KX G;have T_Yard_check_names:=Hd.T40 KX G;have T_Yard_put_by:=Hd.T65 KX G;have T_Yard_do:=Hd.T67 KX G;have T_walked:=Hd.T69 KX G;have T_law:=Hd.T75 KX G;have g_NOUGHT:=Hd.g_NOUGHT KX G;have g_GREAT_BITS:=Hd.g_GREAT_BITS KX G;have g_CUTS:=Hd.g_CUTS KX G;have g_GLUINGS:=Hd.g_GLUINGS KX G;have g_SHIFTS:=Hd.g_SHIFTS KX G;have g_TURN:=Hd.g_TURN KX G;have g_EMPTY:=Hd.g_EMPTY KX G;have X:=Hd.xs KX G;refine L2.law_mk T_law hmg (λ_ _ _ _ _ _ _=>rfl) λbase f fd F=>?_;have o0x:=Hd.ow base (Hd.T2 KX G) (λf fd F=>K1 F B ) (λ_ _ _ _ _ _=>Hd.u1 λ_=>rfl);have o1x:=Hd.ow base (Hd.T3 KX G) (λf fd F=>K2 F B g_GREAT_BITS) (λ_ _ _ _ _ _=>Hd.u2 λ_ _=>rfl);have o2x:=Hd.ow base (Hd.T4 KX G) (λf fd F=>K3 F B ) (λ_ _ _ _ _ _=>Hd.u2 λ_ _=>rfl);have o10x:=Hd.ow base (Hd.T5 KX G) (λf fd F=>K4 F B ) (λ_ _ _ _ _ _=>Hd.u3 λ_ _ _=>rfl);have o14x:=Hd.ow base (Hd.T6 KX G) (λf fd F=>K5 F B ) (λ_ _ _ _ _ _=>Hd.u2 λ_ _=>rfl);have o21x:=Hd.ow base (Hd.T7 KX G) (λf fd F=>K6 F B ) (λ_ _ _ _ _ _=>Hd.u2 λ_ _=>rfl);have o24x:=Hd.ow base (Hd.T8 KX G) (λf fd F=>K7 F B g_GLUINGS) (λ_ _ _ _ _ _=>Hd.u1 λ_=>rfl);have o25x:=Hd.ow base (Hd.T9 KX G) (λf fd F=>K8 F B g_CUTS) (λ_ _ _ _ _ _=>Hd.u1 λ_=>rfl);have o26x:=Hd.ow base (Hd.T10 KX G) (λf fd F=>K9 F B ) (λ_ _ _ _ _ _=>Hd.u1 λ_=>rfl);have o33x:=Hd.ow base (Hd.T11 KX G) (λf fd F=>K10 F B ) (λ_ _ _ _ _ _=>Hd.u1 λ_=>rfl);have o36x:=Hd.ow base (Hd.T12 KX G) (λf fd F=>K11 F B g_GLUINGS) (λ_ _ _ _ _ _=>Hd.u2 λ_ _=>rfl);have o44x:=Hd.ow base (Hd.T13 KX G) (λf fd F=>K12 F B ) (λ_ _ _ _ _ _=>Hd.u1 λ_=>rfl);have o45x:=Hd.ow base (Hd.T14 KX G) (λf fd F=>K13 F B ) (λ_ _ _ _ _ _=>Hd.u2 λ_ _=>rfl);have o52x:=Hd.ow base (Hd.T15 KX G) (λf fd F=>K14 F B ) (λ_ _ _ _ _ _=>Hd.u2 λ_ _=>rfl);have o53x:=Hd.ow base (Hd.T16 KX G) (λf fd F=>K15 F B ) (λ_ _ _ _ _ _=>Hd.u3 λ_ _ _=>rfl);have o54x:=Hd.ow base (Hd.T17 KX G) (λf fd F=>K16 F B ) (λ_ _ _ _ _ _=>Hd.u2 λ_ _=>rfl);have o55x:=Hd.ow base (Hd.T18 KX G) (λf fd F=>K17 F B ) (λ_ _ _ _ _ _=>Hd.u3 λ_ _ _=>rfl);have o56x:=Hd.ow base (Hd.T19 KX G) (λf fd F=>K18 F B ) (λ_ _ _ _ _ _=>Hd.u1 λ_=>rfl);have o60x:=Hd.ow base (Hd.T20 KX G) (λf fd F=>K19 F B ) (λ_ _ _ _ _ _=>Hd.u1 λ_=>rfl);have o67x:L2.OwnI Hd.p w (Hd.K w.params) mg base L2.CX0 Hd.cs.Yard 1 "Yard" ["self","d","heap","turning"] [] (P21 Hd.cs):=T_Yard___init__.own (ds:=[]) (λT _ _ _ _ _ _ us hl=>by have hl':us.length=4:=(by simpa using hl); match us,hl' with | [_,_,_,_],_=>exact ⟨_,rfl,rfl⟩) .nil (λf fd F=>K20 F B X);have o71x:L2.OwnM Hd.p w (Hd.K w.params) mg base L2.CX0 Hd.cs.Yard 1 "board_ever" ["self","name"] [] (P22 Hd.cs):=T_Yard_board_ever.own X.c_Yard (λ_ _ _ _ _ _=>Hd.u2 λ_ _=>rfl) (λf fd F=>K21 F B X);have o72x:L2.OwnM Hd.p w (Hd.K w.params) mg base L2.CX0 Hd.cs.Yard 1 "boards" ["self"] [] (P23 Hd.cs):=T_Yard_boards.own X.c_Yard (λ_ _ _ _ _ _=>Hd.u1 λ_=>rfl) (λf fd F=>K22 F B X);have o73x:L2.OwnM Hd.p w (Hd.K w.params) mg base L2.CX0 Hd.cs.Yard 1 "heap" ["self"] [] (P24 Hd.cs):=T_Yard_heap.own X.c_Yard (λ_ _ _ _ _ _=>Hd.u1 λ_=>rfl) (λf fd F=>K23 F B X);have o3x:L2.Own Hd.p w (Hd.K w.params) mg base 2 "length" ["a","b","n"] [] P25:=T_length.own (ds:=[]) (λT _ _ _ _ _ _ us hl=>by have hl':us.length=3:=(by simpa using hl); match us,hl' with | [_,_,_],_=>exact ⟨_,rfl,rfl⟩) .nil (λf fd F=>K24 F B o2x o1x o0x);have o4x:L2.Own Hd.p w (Hd.K w.params) mg base 2 "fraction" ["top","bottom"] [] P26:=T_fraction.own (ds:=[]) (λT _ _ _ _ _ _ us hl=>by have hl':us.length=2:=(by simpa using hl); match us,hl' with | [_,_],_=>exact ⟨_,rfl,rfl⟩) .nil (λf fd F=>K25 F B o2x o1x);have o6x:=Hd.ow base (Hd.T27 KX G) (λf fd F=>K26 F B o1x) (λ_ _ _ _ _ _=>Hd.u2 λ_ _=>rfl);have o7x:=Hd.ow base (Hd.T28 KX G) (λf fd F=>K27 F B o1x) (λ_ _ _ _ _ _=>Hd.u2 λ_ _=>rfl);have o11x:=Hd.ow base (Hd.T29 KX G) (λf fd F=>K28 F B o10x) (λ_ _ _ _ _ _=>Hd.u3 λ_ _ _=>rfl);have o15x:=Hd.ow base (Hd.T30 KX G) (λf fd F=>K29 F B o14x) (λ_ _ _ _ _ _=>Hd.u3 λ_ _ _=>rfl);have o16x:=Hd.ow base (Hd.T31 KX G) (λf fd F=>K30 F B o1x) (λ_ _ _ _ _ _=>Hd.u1 λ_=>rfl);have o32x:=Hd.ow base (Hd.T32 KX G) (λf fd F=>K31 F B o71x) (λ_ _ _ _ _ _=>Hd.u3 λ_ _ _=>rfl);have o35x:=Hd.ow base (Hd.T33 KX G) (λf fd F=>K32 F B o24x o25x) (λ_ _ _ _ _ _=>Hd.u2 λ_ _=>rfl);have o38x:=Hd.ow base (Hd.T34 KX G) (λf fd F=>K33 F B o1x) (λ_ _ _ _ _ _=>Hd.u2 λ_ _=>rfl);have o39x:=Hd.ow base (Hd.T35 KX G) (λf fd F=>K34 F B o1x) (λ_ _ _ _ _ _=>Hd.u2 λ_ _=>rfl);have o57x:=Hd.ow base (Hd.T36 KX G) (λf fd F=>K35 F B o53x o52x) (λ_ _ _ _ _ _=>Hd.u3 λ_ _ _=>rfl);have o58x:=Hd.ow base (Hd.T37 KX G) (λf fd F=>K36 F B o54x) (λ_ _ _ _ _ _=>Hd.u2 λ_ _=>rfl);have o61x:=Hd.ow base (Hd.T38 KX G) (λf fd F=>K37 F B o53x) (λ_ _ _ _ _ _=>Hd.u3 λ_ _ _=>rfl);have o62x:=Hd.ow base (Hd.T39 KX G) (λf fd F=>K38 F B o53x) (λ_ _ _ _ _ _=>Hd.u2 λ_ _=>rfl);have o69x:L2.OwnM Hd.p w (Hd.K w.params) mg base L2.CX0 Hd.cs.Yard 2 "check_names" ["self","names"] [] (P40 Hd.cs):=T_Yard_check_names.own X.c_Yard (λ_ _ _ _ _ _=>Hd.u2 λ_ _=>rfl) (λf fd F=>K39 F B X o0x);have o5x:=Hd.ow base (Hd.T41 KX G) (λf fd F=>K40 F B o4x) (λ_ _ _ _ _ _=>Hd.u1 λ_=>rfl);have o8x:=Hd.ow base (Hd.T42 KX G) (λf fd F=>K41 F B o7x) (λ_ _ _ _ _ _=>Hd.u2 λ_ _=>rfl);have o9x:=Hd.ow base (Hd.T43 KX G) (λf fd F=>K42 F B o3x) (λ_ _ _ _ _ _=>Hd.u3 λ_ _ _=>rfl);have o12x:=Hd.ow base (Hd.T44 KX G) (λf fd F=>K43 F B o3x) (λ_ _ _ _ _ _=>Hd.u2 λ_ _=>rfl);have o22x:=Hd.ow base (Hd.T45 KX G) (λf fd F=>K44 F B o3x o0x) (λ_ _ _ _ _ _=>Hd.u1 λ_=>rfl);have o28x:=Hd.ow base (Hd.T46 KX G) (λf fd F=>K45 F B o7x) (λ_ _ _ _ _ _=>Hd.u2 λ_ _=>rfl);have o29x:=Hd.ow base (Hd.T47 KX G) (λf fd F=>K46 F B o3x) (λ_ _ _ _ _ _=>Hd.u2 λ_ _=>rfl);have o37x:=Hd.ow base (Hd.T48 KX G) (λf fd F=>K47 F B o35x o36x o25x) (λ_ _ _ _ _ _=>Hd.u3 λ_ _ _=>rfl);have o40x:=Hd.ow base (Hd.T49 KX G) (λf fd F=>K48 F B o39x o4x) (λ_ _ _ _ _ _=>Hd.u2 λ_ _=>rfl);have o43x:=Hd.ow base (Hd.T50 KX G) (λf fd F=>K49 F B o38x) (λ_ _ _ _ _ _=>Hd.u2 λ_ _=>rfl);have o49x:=Hd.ow base (Hd.T51 KX G) (λf fd F=>K50 F B g_NOUGHT o6x o1x o11x) (λ_ _ _ _ _ _=>Hd.u2 λ_ _=>rfl);have o59x:=Hd.ow base (Hd.T52 KX G) (λf fd F=>K51 F B o58x) (λ_ _ _ _ _ _=>Hd.u1 λ_=>rfl);have o63x:=Hd.ow base (Hd.T53 KX G) (λf fd F=>K52 F B o61x o52x o57x o62x o55x) (λ_ _ _ _ _ _=>Hd.u3 λ_ _ _=>rfl);have o13x:=Hd.ow base (Hd.T54 KX G) (λf fd F=>K53 F B o11x o8x) (λ_ _ _ _ _ _=>Hd.u2 λ_ _=>rfl);have o18x:=Hd.ow base (Hd.T55 KX G) (λf fd F=>K54 F B o9x) (λ_ _ _ _ _ _=>Hd.u3 λ_ _ _=>rfl);have o23x:=Hd.ow base (Hd.T56 KX G) (λf fd F=>K55 F B g_CUTS g_SHIFTS g_GLUINGS g_TURN o22x o0x) (λ_ _ _ _ _ _=>Hd.u1 λ_=>rfl);have o27x:=Hd.ow base (Hd.T57 KX G) (λf fd F=>K56 F B g_NOUGHT o11x o8x) (λ_ _ _ _ _ _=>Hd.u3 λ_ _ _=>rfl);have o42x:=Hd.ow base (Hd.T58 KX G) (λf fd F=>K57 F B o5x o39x) (λ_ _ _ _ _ _=>Hd.u1 λ_=>rfl);have o50x:=Hd.ow base (Hd.T59 KX G) (λf fd F=>K58 F B o5x o6x o40x) (λ_ _ _ _ _ _=>Hd.u2 λ_ _=>rfl);have o64x:=Hd.ow base (Hd.T60 KX G) (λf fd F=>K59 F B o63x o52x o57x) (λ_ _ _ _ _ _=>Hd.u3 λ_ _ _=>rfl);have o17x:=Hd.ow base (Hd.T61 KX G) (λf fd F=>K60 F B o12x o16x o13x o3x o15x) (λ_ _ _ _ _ _=>Hd.u2 λ_ _=>rfl);have o19x:=Hd.ow base (Hd.T62 KX G) (λf fd F=>K61 F B g_NOUGHT o7x o15x o18x) (λ_ _ _ _ _ _=>Hd.u3 λ_ _ _=>rfl);have o20x:=Hd.ow base (Hd.T63 KX G) (λf fd F=>K62 F B o21x o15x o18x) (λ_ _ _ _ _ _=>Hd.u3 λ_ _ _=>rfl);have o41x:=Hd.ow base (Hd.T64 KX G) (λf fd F=>K63 F B g_EMPTY o43x o42x) (λ_ _ _ _ _ _=>Hd.u1 λ_=>rfl);have o70x:L2.OwnM Hd.p w (Hd.K w.params) mg base L2.CX0 Hd.cs.Yard 5 "put_by" ["self","deed","boards"] [] (P65 Hd.cs):=T_Yard_put_by.own X.c_Yard (λ_ _ _ _ _ _=>Hd.u3 λ_ _ _=>rfl) (λf fd F=>K64 F B X o27x o26x o28x o29x);have o47x:=Hd.ow base (Hd.T66 KX G) (λf fd F=>K65 F B o44x o41x) (λ_ _ _ _ _ _=>Hd.u1 λ_=>rfl);have o68x:L2.OwnM Hd.p w (Hd.K w.params) mg base L2.CX0 Hd.cs.Yard 6 "do" ["self","deed"] [] (P67 Hd.cs):=T_Yard_do.own X.c_Yard (λ_ _ _ _ _ _=>Hd.u2 λ_ _=>rfl) (λf fd F=>K66 F B X g_TURN o24x o69x o70x o23x);have o30x:=Hd.ow base (Hd.T68 KX G) (λf fd F=>K67 F B X o67x o68x) (λ_ _ _ _ _ _=>Hd.u4 λ_ _ _ _=>rfl);have o31x_3:L2.Own Hd.p w (Hd.K w.params) mg base 8 "walked" ["d","heap","plan","turning"] [.bl false] (P69 Hd.cs):=T_walked.own (ds:=[.bool false]) (λT _ _ _ _ _ _ us hl=>by have hl':us.length=3:=(by simpa using hl); match us,hl' with | [_,_,_],_=>exact ⟨_,rfl,rfl⟩) (.cons rfl .nil) (λf fd F=>K68 F B o73x o30x);have o34x:=Hd.ow base (Hd.T70 KX G) (λf fd F=>K69 F B o30x o72x o24x o33x o25x o32x) (λ_ _ _ _ _ _=>Hd.u3 λ_ _ _=>rfl);have o46x:=Hd.ow base (Hd.T71 KX G) (λf fd F=>K70 F B o45x o17x o34x o37x o41x o20x) (λ_ _ _ _ _ _=>Hd.u3 λ_ _ _=>rfl);have o51x:=Hd.ow base (Hd.T72 KX G) (λf fd F=>K71 F B o46x o50x o41x) (λ_ _ _ _ _ _=>Hd.u3 λ_ _ _=>rfl);have o48x:=Hd.ow base (Hd.T73 KX G) (λf fd F=>K72 F B o47x o17x o51x o20x o19x o49x o41x) (λ_ _ _ _ _ _=>Hd.u2 λ_ _=>rfl);have o65x:=Hd.ow base (Hd.T74 KX G) (λf fd F=>K73 F B o48x o61x o51x o31x_3 o47x o52x) (λ_ _ _ _ _ _=>Hd.u3 λ_ _ _=>rfl);exact K74 F B o56x o64x o59x o63x o65x o47x o60x o52x o46x
