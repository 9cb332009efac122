import PyProof.Rows.All
import Wide.All
import OpenK.AllK
import Wide.FinOn
import Lean
import PyProof.EqAt
import PyProof.EqKinds
import PyProof.TupleCall
import PySem.Challenge.RW_boardglue_k82_turned_apart
set_option tactic.hygienic false
set_option compiler.extract_closed false
abbrev aa:=@List.length_map
abbrev af:=@List.getElem?_eq_some_iff
abbrev ag:=@List.getElem?_eq_getElem
abbrev ai:=@List.length_append
abbrev aj:=@List.map_append
abbrev ak:=@Nat.le_refl
abbrev ao:=@List.getElem?_map
abbrev aq:=@List.mem_singleton
abbrev ar:=@Int.mul_assoc
abbrev au:=@List.length_cons
abbrev av:=@Int.mul_comm
abbrev ay:=@List.mem_of_getElem?
abbrev aB:=@Option.map_eq_some_iff
abbrev aC:=@List.mem_cons_of_mem
abbrev aE:=@List.mem_append
abbrev aG:=@List.take_length
abbrev aH:=@List.mem_cons_self
abbrev aI:=@Int.mul_ne_zero
abbrev aJ:=@Option.some.inj
abbrev aK:=@Int.eq_of_mul_eq_mul_right
abbrev aM:=@Int.mul_pos
abbrev aP:=@List.getElem?_append_right
abbrev aQ:=@Nat.lt_of_lt_of_le
abbrev aR:=@Nat.ne_of_lt
abbrev aT:=@List.getElem?_append_left
abbrev aU:=@List.length_take
abbrev aV:=@List.length_nil
abbrev aW:=@List.mem_cons
abbrev aX:=@Bool.false_ne_true
abbrev aZ:=@List.size_toArray
abbrev a6:=@List.map_cons
abbrev a7:=@List.mem_append_right
abbrev a8:=@Classical.byContradiction
abbrev a9:=@Nat.lt_of_le_of_lt
abbrev bC:=@Rat.divInt_eq_div
abbrev bF:=@PySem.F.slot_list_append
abbrev bH:=@PySem.F.type_list_append
abbrev bI:=@Int.dvd_trans
abbrev bJ:=@PySem.F.plainAttrs_list
abbrev bK:=@Int.gcd_eq_natAbs_gcd_natAbs
abbrev bL:=@Std.le_of_lt
abbrev bO:=@Int.mul_left_comm
abbrev bP:=@Rat.divInt_eq_divInt_iff
abbrev bQ:=@List.take_succ
abbrev bR:=@List.append_assoc
abbrev bS:=@PySem.boot_len
abbrev bT:=@List.take_of_length_le
abbrev bU:=@Nat.le_of_lt
abbrev bV:=@List.mem_map
abbrev bW:=@List.mem_of_mem_take
abbrev b7:=@Int.gcd_dvd_left
abbrev b9:=@List.mem_map_of_mem
abbrev ca:=@List.mem_range
abbrev cb:=@Int.mul_nonpos_of_nonneg_of_nonpos
abbrev ce:=@Int.gcd_dvd_right
abbrev cf:=@Nat.le_trans
abbrev cg:=@List.mem_append_left
abbrev cq:=@List.length_range
abbrev cr:=@Int.natAbs_natCast
abbrev cu:=@Int.natAbs_dvd_natAbs
abbrev cv:=@Int.ediv_mul_cancel
abbrev cB:=@List.length_pos_iff
abbrev cC:=@Int.natAbs_mul
abbrev cG:=@Int.zero_mul
abbrev cH:=@Ne.symm
abbrev cJ:=@Nat.zero_le
abbrev cK:=@Int.mul_zero
abbrev cM:=@Int.add_zero
abbrev cN:=@List.pairwise_lt_range
abbrev cP:=@Bool.eq_iff_iff
abbrev cQ:=@PySem.W.kia_one
abbrev cR:=@Int.neg_mul_neg
abbrev cS:=@List.lookup_cons
abbrev cT:=@Int.dvd_mul_left
abbrev cU:=@List.take_append_of_le_length
abbrev cV:=@PySem.W.Fast.te14364793385576792824
abbrev cW:=@PyProof.Rows.callWith_type1
abbrev cX:=@Int.emod_nonneg
abbrev cZ:=@Int.gcd_pos_of_ne_zero_left
abbrev c9:=@List.filter_cons
abbrev db:=@List.getElem_mem
abbrev dc:=@List.map_nil
abbrev de:=@Int.mul_fdiv_cancel_left
abbrev df:=@Int.mul_ediv_cancel_left
abbrev dg:=@Int.mul_one
abbrev dj:=@Bool.and_eq_true
abbrev dk:=@Int.mul_le_mul_of_nonneg_left
abbrev dm:=@Nat.lt_irrefl
abbrev dn:=@Int.gcd_comm
abbrev dq:=@Int.mul_le_mul
abbrev dr:=@List.mem_range'_1
abbrev du:=@List.filterMap_cons
abbrev dy:=@PySem.mem_of_lookup
abbrev dz:=@Int.mul_nonneg_of_nonpos_of_nonpos
abbrev dA:=@Int.mul_nonpos_of_nonpos_of_nonneg
abbrev dB:=@List.getD_eq_getElem?_getD
abbrev dC:=@Int.emod_lt_of_pos
abbrev dD:=@List.getElem?_eq_none
abbrev dE:=@Nat.sub_self
abbrev dF:=@Int.mul_neg_of_pos_of_neg
abbrev dG:=@Decidable.byContradiction
abbrev dH:=@List.mem_of_mem_drop
abbrev dI:=@List.nodup_cons
abbrev dJ:=@PyProof.Rows.slot_tuple_getitem
abbrev dL:=@List.foldl_append
abbrev dM:=@List.getElem?_range
abbrev dO:=@List.length_drop
abbrev dP:=@Nat.le_add_right
abbrev dQ:=@List.drop_of_length_le
abbrev dR:=@Rat.num_divInt_den
abbrev dS:=@List.length_range'
abbrev dU:=@List.append_nil
abbrev dW:=@List.take_append_drop
abbrev d4:=@List.find?_cons
abbrev d5:=@Int.neg_mul
abbrev d6:=@Int.zero_add
abbrev d7:=@List.idxOf_lt_length_of_mem
abbrev d8:=@PySem.W.mg_of
abbrev d9:=@Int.fdiv_eq_ediv_of_nonneg
abbrev ei:=@List.getElem?_of_mem
abbrev em:=@Nat.eq_of_mul_eq_mul_left
abbrev eI:=@Int.mul_pos_of_neg_of_neg
abbrev eJ:=@Int.eq_of_mul_eq_mul_left
abbrev eK:=@List.all_eq_true
abbrev eM:=@List.getElem_map
abbrev eP:=@Array.length_toList
abbrev eQ:=@List.getElem?_take_of_lt
abbrev eR:=@Int.dvd_refl
abbrev eU:=@List.mem_filter
abbrev eV:=@List.any_cons
abbrev eW:=@Option.map_some
abbrev eZ:=@Int.dvd_coe_gcd
abbrev fh:=@Int.ofNat.inj
abbrev fi:=@List.range_succ
abbrev fj:=@List.filter_append
abbrev fk:=@Int.add_sub_cancel
abbrev fq:=@Nat.min_eq_left
abbrev fw:=@Nat.add_sub_cancel_left
abbrev fz:=@Nat.le_mul_of_pos_right
abbrev fA:=@List.filter_cons_of_neg
abbrev fC:=@List.filter_cons_of_pos
abbrev fD:=@Nat.le_mul_of_pos_left
abbrev fE:=@Std.IsPreorder.le_refl
abbrev fF:=@Nat.le_succ
abbrev fG:=@Int.mul_sub
abbrev fH:=@List.getElem?_inj
abbrev fI:=@List.range_eq_nil
abbrev fJ:=@Int.mul_nonneg
abbrev fK:=@List.length_singleton
abbrev fM:=@List.length_filter_le
abbrev fR:=@Int.mul_ediv_add_emod
abbrev fS:=@List.Nodup.length_le_of_subset
abbrev fU:=@Int.ne_of_gt
abbrev fV:=@Nat.lt_succ_self
abbrev fW:=@Int.lt_of_not_ge
abbrev gf:=@Int.gcd_mul_left
abbrev gi:=@Nat.min_eq_right
abbrev gj:=@Nat.add_assoc
abbrev gq:=@Int.not_lt
abbrev gr:=@Sum.inl.inj
abbrev gu:=@PySem.W.plainGet_of
abbrev gv:=@Int.gcd_sub_mul_right_right
abbrev gx:=@Int.fdiv_mul_cancel
abbrev gy:=@Nat.div_eq_iff_eq_mul_right
abbrev gA:=@Int.one_mul
abbrev gB:=@Nat.two_pow_pos
abbrev gC:=@List.filter_eq_self
abbrev gD:=@List.getElem_range'
abbrev gE:=@Int.mul_eq_zero
abbrev gF:=@List.perm_ext_iff_of_nodup
abbrev gG:=@List.mem_filterMap
abbrev gH:=@PySem.W.callWith_K
abbrev gI:=@Nat.lt_trans
abbrev gJ:=@Int.add_comm
abbrev gL:=@Rat.add_comm
abbrev gO:=@Rat.sub_eq_add_neg
abbrev gP:=@Int.gcd_zero_right
abbrev gQ:=@Nat.sub_zero
abbrev gR:=@Int.lt_of_mul_lt_mul_left
abbrev gS:=@Int.gcd_add_mul_left_left
abbrev gU:=@List.pairwise_iff_getElem
abbrev gW:=@Option.isSome_iff_exists
abbrev gY:=@PySem.F.args_tuple_add_2
abbrev gZ:=@PyProof.noPylong_of_log2
abbrev g5:=@List.take_add_one
abbrev g6:=@List.Perm.eq_of_pairwise
abbrev g8:=@List.pairwise_map
abbrev hJ:=@List.nodup_append
abbrev hU:=@List.getElem?_replicate
abbrev hV:=@PySem.F.entry_tuple_add
abbrev hW:=@Int.sub_mul
abbrev h7:=@Nat.mul_one
abbrev h8:=@List.map_take
abbrev h9:=@List.map_drop
abbrev ia:=@Int.mul_neg
abbrev ib:=@Rat.add_assoc
abbrev ie:=@List.pairwise_lt_range'
abbrev ig:=@List.pairwise_singleton
abbrev ii:=@List.length_eq_zero_iff
abbrev ij:=@List.nodup_range
abbrev ik:=@List.take_append
abbrev il:=@List.ext_getElem
abbrev im:=@List.mem_flatMap
abbrev io:=@List.getElem?_set_self
abbrev ip:=@PySem.W.cellsFrom_some
abbrev iq:=@PySem.F.slot_tuple_add
abbrev iu:=@Nat.ne_of_gt
abbrev iw:=@PySem.W.methodCall_KW
abbrev ix:=@List.of_mem_zip
abbrev iy:=@List.length_replicate
abbrev iz:=@PySem.F.slot_dict_pop
abbrev iA:=@Int.lt_or_le
abbrev iB:=@Bool.beq_eq_decide_eq
abbrev iC:=@Rat.zero_add
abbrev iD:=@Nat.le_total
abbrev iE:=@Rat.zero_divInt
abbrev iF:=@Nat.add_zero
abbrev iG:=@List.mem_range'
abbrev iH:=@Int.zero_sub
abbrev iI:=@List.drop_zero
abbrev iJ:=@Nat.log2_lt
abbrev iK:=@Int.mul_add
abbrev iL:=@Int.add_mul
abbrev iM:=@Int.neg_add
abbrev iN:=@Int.dvd_sub
abbrev iO:=@Nat.le_of_dvd
abbrev iP:=@Int.le_of_dvd
abbrev iQ:=@Nat.mul_assoc
abbrev iR:=@List.take_nil
abbrev iS:=@List.sum_cons
abbrev iT:=@decide_eq_false
abbrev iU:=@if_pos
abbrev iV:=@if_neg
abbrev iW:=@PySem.wpAny_mono
abbrev iX:=@PySem.wpAny_truthy_bool
abbrev iY:=@PySem.wpAny_execs_nil
abbrev iZ:=@PyProof.Rows.assignInOrder_cons
abbrev i4:=@PySem.wpAny_bind
abbrev i5:=@PySem.wpAny_standAt
abbrev i6:=@PySem.wpAny_pure
abbrev i7:=@PySem.wpAny_newObj_type
abbrev i8:=@PySem.wpAny_passesOwn
abbrev i9:=@PySem.wpAny_pyNext_list_item
abbrev ja:=@PySem.wpAny_pyNext_list_end
abbrev jb:=@PySem.wpAny_pyIter_list
abbrev jc:=@PySem.codeAny_mono
abbrev jd:=@PySem.wpAny_Call_Name_kw
abbrev je:=@PySem.wpAny_holding
abbrev jf:=@PySem.wpAny_typeOf
abbrev jg:=@decide_eq_true
abbrev ji:=@PySem.tupleKind_room_in1
abbrev jj:=PySem.W.Frag
set_option maxHeartbeats 4000000
set_option Elab.async false
set_option linter.all false
set_option maxRecDepth 100000
namespace L2
local macro_rules | `(!1)=>`(by simp)
open PySem PySem.Spec PyProof.Rows
abbrev Key:=Sum Int Str
def Cp:Key->Value->Bool
 | .inl k,v=>Value.isInt k v
 | .inr x,v=>Value.isStrOf x v
def keyH(w:World):Key->Int
 | .inl k=>hashInt k
 | .inr x=>hashStr w x
theorem keyIs_shape:∀{k:Key}{v:Value},Cp k v=true->(∃i t,k=Sum.inl i/\v=Value.int i t)\/(∃x t,k=Sum.inr x/\v=Value.str x t)
 | .inl i,v,h=>by obtain⟨t,e⟩:=Value.isInt_shape (k:=i) (v:=v) h;exact .inl ⟨i,t,rfl,e⟩
 | .inr x,v,h=>by obtain⟨t,e⟩:=Value.isStrOf_shape (x:=x) (v:=v) h;exact .inr ⟨x,t,rfl,e⟩
theorem CP(i:Int)(t:Tok):Cp (.inl i) (.int i t)=true:=by simp[Cp,Value.isInt]
theorem DT(x:Str)(t:Tok):Cp (.inr x) (.str x t)=true:=by simp[Cp,Value.isStrOf]
theorem IT(a b:Int):decide ((Sum.inl a:Key)=Sum.inl b)=(a==b):=by
 by_cases e:a=b
 .subst e;simp
 .have h:¬ (Sum.inl a:Key)=Sum.inl b:=λq=>e (gr q);rw[iT h];exact(beq_eq_false_iff_ne.mpr e).symm
theorem J7(a b:Str):decide ((Sum.inr a:Key)=Sum.inr b)=decide (a=b):=by
 by_cases e:a=b
 .subst e;simp
 .have h:¬ (Sum.inr a:Key)=Sum.inr b:=λq=>e (Sum.inr.inj q);rw[iT h,iT e]
theorem Jx(a:Int)(b:Str):decide ((Sum.inl a:Key)=Sum.inr b)=false:=iT (λq=>nomatch q)
theorem JW(a:Str)(b:Int):decide ((Sum.inr a:Key)=Sum.inl b)=false:=iT (λq=>nomatch q)
def zS(prog:Program)(w:World):PySem.KeyKind prog w Key where
 is:=Cp
 hash:=keyH w
 inj:=λv a b ha hb=>by
  rcases keyIs_shape ha with⟨i,t,rfl,rfl⟩|⟨x,t,rfl,rfl⟩
  .rcases keyIs_shape hb with⟨j,u,rfl,e⟩|⟨y,u,rfl,e⟩
   .injection e with e1 _;rw[e1]
   .exact nomatch e
  .rcases keyIs_shape hb with⟨j,u,rfl,e⟩|⟨y,u,rfl,e⟩
   .exact nomatch e
   .injection e with e1 _;rw[e1]
 byValue:=λk v h=>by rcases keyIs_shape h with⟨i,t,rfl,rfl⟩|⟨x,t,rfl,rfl⟩<;>rfl
 pyHash:=λhv h=>by
  rcases keyIs_shape hv with⟨i,t,rfl,rfl⟩|⟨x,t,rfl,rfl⟩
  .exact wpAny_pyHash_int h
  .exact wpAny_pyHash_str h
 eqBool:=λhu hv h=>by
  rcases keyIs_shape hu with⟨i,t,rfl,rfl⟩|⟨x,t,rfl,rfl⟩
  .rcases keyIs_shape hv with⟨j,u,rfl,rfl⟩|⟨y,u,rfl,rfl⟩
   .rw[IT]at h;exact wpAny_eqBool_int h
   .rw[Jx]at h;exact SeqAt.EqAt.int_str i t y u _ _ _ _ h
  .rcases keyIs_shape hv with⟨j,u,rfl,rfl⟩|⟨y,u,rfl,rfl⟩
   .rw[JW]at h;exact SeqAt.EqAt.str_int x t j u _ _ _ _ h
   .rw[J7]at h;exact wpAny_eqBool_str h
 «strs»:=λk x t v h=>by
  rcases keyIs_shape h with⟨i,u,rfl,e⟩|⟨y,u,rfl,e⟩
  .exact nomatch e
  .injection e with e1 _;subst e1;cases v<;>rfl
theorem AI(prog:Program)(w:World)(i:Int)(t:Tok):(zS prog w).is (.inl i) (.int i t)=true:=CP i t
theorem AJ(prog:Program)(w:World)(x:Str)(t:Tok):(zS prog w).is (.inr x) (.str x t)=true:=DT x t
inductive V where
 |non|bl (b:Bool)|int (i:Int)|str (x:Str)|byt (b:Array UInt8)|flt (b:UInt64)|ref (a:Addr)|ty (n:String)
 deriving DecidableEq
def RelV:V->Value->Prop
 | .non,u=>u=Value.none
 | .bl b,u=>u=Value.bool b
 | .int i,u=>∃t,u=Value.int i t
 | .str x,u=>∃t,u=Value.str x t
 | .byt b,u=>∃t,u=Value.bytes b t
 | .flt b,u=>∃t,u=Value.float b t
 | .ref a,u=>u=Value.ref a
 | .ty n,u=>u=Value.type n
abbrev Vals:List V->List Value->Prop:=Paired RelV
theorem Vals.length{xs:List V}{us:List Value}(r:Vals xs us):xs.length=us.length:=Paired.length r
theorem Vals.get:∀{xs:List V}{us:List Value}{i:Nat}{x:V},Vals xs us->xs[i]?=some x->∃u,us[i]?=some u/\RelV x u
 |_,_,_,_,.nil,e=>by simp at e
 |_,_,0,_,.cons r _,e=>by simp at e;subst e;exact⟨_,rfl,r⟩
 |_,_,i+1,x,.cons _ t,e=>by obtain⟨u,h1,h2⟩:=Vals.get (i:=i) (x:=x) t (by simpa using e);exact⟨u,by simpa using h1,h2⟩
theorem Vals.append:∀{xs ys:List V}{us ws:List Value},Vals xs us->Vals ys ws->Vals (xs++ys) (us++ws)
 |_,_,_,_,.nil,s=>s
 |_,_,_,_,.cons r t,s=>.cons r (Vals.append t s)
theorem Vals.take:∀{xs:List V}{us:List Value}(n:Nat),Vals xs us->Vals (xs.take n) (us.take n)
 |_,_,0,_=>.nil
 |_,_,_+1,.nil=>.nil
 |_,_,n+1,.cons r t=>.cons r (Vals.take n t)
theorem Vals.drop:∀{xs:List V}{us:List Value}(n:Nat),Vals xs us->Vals (xs.drop n) (us.drop n)
 |_,_,0,r=>r
 |_,_,_+1,.nil=>.nil
 |_,_,n+1,.cons _ t=>Vals.drop n t
def RelO:Option V->Option Value->Prop
 |some v,some u=>RelV v u
 |none,none=>True
 |_,_=>False
def KV{κ:Type}:List (κ×V)->List (κ×Value)->Prop:=Paired λ(p:κ×V)(q:κ×Value)=>p.1=q.1/\RelV p.2 q.2
def kV:Key->V
 | .inl i=>.int i
 | .inr x=>.str x
inductive HO where
 |lst (xs:List V)
 |tup (xs:List V)
 |dK (kvs:List (Key×V))|dT (kvs:List (List Key×V))
 |set (S:Int->Bool) (n:Nat)
 |ins (C dx:Addr) (fs:List (Str×V))
 |own (x:Addr)
 |xd (fs:List (Str×V))
 |met (f x:Addr)
 |rng (lo hi:Int)
 |frz (o:Obj) (u:HO)
 |tbl (ps:Array Value)
 |ext (φ:Heap->Prop)
abbrev Hp:=Addr->Option HO
def upd(H:Hp)(a:Addr)(o:HO):Hp:=λb=>if b=a then some o else H b
theorem zg{H:Hp}{a:Addr}{o:HO}:upd H a o a=some o:=by unfold upd;rw[iU rfl]
theorem zl{H:Hp}{a b:Addr}{o:HO}(h:b≠a):upd H a o b=H b:=by unfold upd;rw[iV h]
theorem zX{H:Hp}{a b:Addr}{o u:HO}(h:H a=some o)(h':H b=some u)(d:o≠u):a≠b:=by intro e;subst e;rw[h]at h';exact d (aJ h')
theorem zb{H:Hp}{a b:Addr}{o:HO}(h:H a=some o)(h':H b=none):a≠b:=by intro e;subst e;rw[h]at h';cases h'
section
variable(P:Program)(w:World)
def ObjOk(H:Hp)(h:Heap)(a:Addr):HO->Prop
 | .lst xs=>xs.length<=sizeLine/\∃ (its:List Value) (n:Nat),Vals xs its/\h.get? a=some { cls:=.type "list",data:=.seq its.toArray n }
 | .tup xs=>xs.length<=sizeLine/\∃its:List Value,Vals xs its/\IsTup h a its.toArray
 | .dK kvs=>kvs.length<=sizeLine/\(a==sysModules)=false/\∃vs,KV kvs vs/\h.DictOf (zS P w) a vs
 | .dT kvs=>kvs.length<=sizeLine/\(a==sysModules)=false/\∃xs:List (List Key×Addr×Value),
   Paired (λ(p:List Key×V)(q:List Key×Addr×Value)=>p.1=q.1/\H q.2.1=some (.tup (p.1.map kV))/\RelV p.2 q.2.2) kvs xs /\
   ∃o es ep,h.get? a=some o/\o.ExactDict/\o.data=.dict es ep/\es.toList=xs.map (entryOfKey (tupleKind (zS P w)))/\(xs.map (·.1)).Nodup
 | .set S n=>h.SetOf (intKind P w) a S n
 | .ins C dx fs=>H dx=some (.own a)/\fs.length<=1000/\dx≠a/\h.get? a=some (W.instObj C dx) /\
   ∃mA,h.Ns1 dx mA/\(∀f,RelO (fs.lookup f) (mA f))/\PySem.Within mA (fs.map (·.1))
 | .own _=>∃o,h.get? a=some o
 | .xd fs=>∃mA,h.Ns1 a mA/\∀f,RelO (fs.lookup f) (mA f)
 | .rng lo hi=>∃t u v,h.get? a=some { cls:=.type "range",data:=.fields #[.int lo t,.int hi u,.int 1 v] }
 | .frz o u=>h.get? a=some o/\ObjOk H h a u
 | .tbl ps=>h.get? a=some { cls:=.none,data:=.fields ps }
 | .met f x=>h.get? a=some (W.methodObj (.ref f) (.ref x))
 | .ext φ=>φ h/\(∃o,h.get? a=some o)/\∀h1 h2:Heap,φ h1->(∀o,h1.get? a=some o->h2.get? a=some o)->φ h2
def HOk(H:Hp)(h:Heap):Prop:=∀a o,H a=some o->ObjOk P w H h a o
end
variable{P:Program}{w:World}{H H':Hp}{h h':Heap}{a:Addr}{o:HO}
theorem ObjOk.lt(x:ObjOk P w H h a o):a<h.objs.size:=by
 cases o with
 |lst xs=>obtain⟨_,_,_,_,e⟩:=x;exact Heap.lt_size e
 |tup xs=>obtain⟨_,_,_,p⟩:=x;exact p.lt
 |dK kvs=>obtain⟨_,_,_,_,o,_,_,e,_⟩:=x;exact Heap.lt_size e
 |dT kvs=>obtain⟨_,_,_,_,o,_,_,e,_⟩:=x;exact Heap.lt_size e
 |set S n=>obtain⟨o,_,_,_,e,_⟩:=x;exact Heap.lt_size e
 |ins C dx fs=>obtain⟨_,_,_,e,_⟩:=x;exact Heap.lt_size e
 |own y=>obtain⟨_,e⟩:=x;exact Heap.lt_size e
 |xd fs=>obtain⟨_,⟨_,_,_,e,_⟩,_⟩:=x;exact Heap.lt_size e
 |rng lo hi=>obtain⟨_,_,_,e⟩:=x;exact Heap.lt_size e
 |frz ob u=>obtain⟨e,_⟩:=x;exact Heap.lt_size e
 |tbl ps=>exact Heap.lt_size (show h.get? a=some _ from x)
 |met f y=>exact Heap.lt_size (show h.get? a=some _ from x)
 |ext φ=>obtain⟨_,⟨_,e⟩,_⟩:=x;exact Heap.lt_size e
theorem Paired.mapP{α β:Type}{F G:α->β->Prop}:∀{l₁:List α}{l₂:List β},Paired F l₁ l₂->(∀a b,F a b->G a b)->Paired G l₁ l₂
 |_,_,.nil,_=>.nil
 |_,_,.cons r t,f=>.cons (f _ _ r) (Paired.mapP t f)
theorem ObjOk.stay(x:ObjOk P w H h a o)(k:∀b u,(b=a\/H b=some (.own a))->h.get? b=some u->h'.get? b=some u)(ho:∀b,H b=some (.own a)->H' b=some (.own a))(ht:∀b xs,H b=some (.tup xs)->H' b=some (.tup xs)):ObjOk P w H' h' a o:=by
 induction o with
 |lst xs=>obtain⟨z,its,n,r,e⟩:=x;exact⟨z,its,n,r,k _ _ (.inl rfl) e⟩
 |tup xs=>obtain⟨z,its,r,ob,e,c⟩:=x;exact⟨z,its,r,ob,k _ _ (.inl rfl) e,c⟩
 |dK kvs=>obtain⟨z,y,vs,r,ob,es,ep,e,c⟩:=x;exact⟨z,y,vs,r,ob,es,ep,k _ _ (.inl rfl) e,c⟩
 |dT kvs =>
  obtain⟨z,y,xs,r,ob,es,ep,e,c⟩:=x;exact⟨z,y,xs,Paired.mapP r λp q z=>⟨z.1,ht _ _ z.2.1,z.2.2⟩,ob,es,ep,k _ _ (.inl rfl) e,c⟩
 |set S n=>obtain⟨ob,es,ep,t,e,c⟩:=x;exact⟨ob,es,ep,t,k _ _ (.inl rfl) e,c⟩
 |ins C dx fs =>
  obtain⟨d,z,ne,e,mA,⟨od,es,ep,e2,c⟩,r⟩:=x;exact⟨ho _ d,z,ne,k _ _ (.inl rfl) e,mA,⟨od,es,ep,k _ _ (.inr d) e2,c⟩,r⟩
 |own y=>obtain⟨ob,e⟩:=x;exact⟨ob,k _ _ (.inl rfl) e⟩
 |xd fs=>obtain⟨mA,⟨od,es,ep,e,c⟩,r⟩:=x;exact⟨mA,⟨od,es,ep,k _ _ (.inl rfl) e,c⟩,r⟩
 |rng lo hi=>obtain⟨t,u,v,e⟩:=x;exact⟨t,u,v,k _ _ (.inl rfl) e⟩
 |frz ob u ih=>obtain⟨e,q⟩:=x;exact⟨k _ _ (.inl rfl) e,ih q⟩
 |tbl ps =>
  have e:h.get? a=some { cls:=.none,data:=.fields ps }:=x;show h'.get? a=some { cls:=.none,data:=.fields ps };exact k a _ (.inl rfl) e
 |met f y =>
  have e:h.get? a=some (W.methodObj (.ref f) (.ref y)):=x;show h'.get? a=some (W.methodObj (.ref f) (.ref y));exact k a _ (.inl rfl) e
 |ext φ=>obtain⟨p,⟨o,e⟩,st⟩:=x;exact⟨st _ _ p λo q=>k _ _ (.inl rfl) q,⟨o,k _ _ (.inl rfl) e⟩,st⟩
theorem HOk.lt(x:HOk P w H h)(e:H a=some o):a<h.objs.size:=(x a o e).lt
theorem HOk.fresh(x:HOk P w H h)(e:h.objs.size<=a):H a=none:=by
 cases q:H a with
 |none=>rfl
 |some u=>exact absurd (aQ (x.lt q) e) (dm _)
theorem HOk.kept(x:HOk P w H h)(k:∀b u,h.get? b=some u->h'.get? b=some u):HOk P w H h':=λa o e =>
 (x a o e).stay (λb u _ q=>k b u q) (λ_ q=>q) λ_ _ q=>q
theorem HOk.laid(x:HOk P w H h)(k:∀b u,h.get? b=some u->h'.get? b=some u)(hp:h.objs.size<=a)(new:ObjOk P w (upd H a o) h' a o):HOk P w (upd H a o) h':=λb u e=>by
 have hn:=x.fresh hp;by_cases hb:b=a
 .subst hb;rw[zg]at e;cases e;exact new
 .rw[zl hb]at e;exact(x b u e).stay (λc v _ q=>k c v q) (λc q=>by rw[zl (zb q hn)];exact q) λc xs q=>by rw[zl (zb q hn)];exact q
def Rd(H:Hp)(a:Addr)(u:HO):Prop:=H a=some u\/∃o,H a=some (.frz o u)
theorem Rd.ok{u:HO}(r:Rd H a u)(x:HOk P w H h):ObjOk P w H h a u:=by
 rcases r with r|⟨o,r⟩
 .exact x a u r
 .obtain⟨_,q⟩:=x a _ r;exact q
def Mut:Option HO->Prop
 |some (.lst _)=>True
 |some (.dK _)=>True
 |some (.dT _)=>True
 |some (.set _ _)=>True
 |some (.ins _ _ _)=>True
 |some (.ext _)=>True
 |_=>False
variable{x e:Addr}{o':HO}
theorem HOk.write(ok:HOk P w H h)(mu:Mut (H x))(he:e=x\/H e=some (.own x))(k:∀b u,b≠e->h.get? b=some u->h'.get? b=some u)(heo:∃u,h'.get? e=some u)(new:ObjOk P w (upd H x o') h' x o'):HOk P w (upd H x o') h':=λb u q=>by
 have nown:∀c y,H c=some (.own y)->c≠x:=λc y r z=>by subst z;rw[r]at mu;exact mu
 have ntup:∀c xs,H c=some (.tup xs)->c≠x:=λc xs r z=>by subst z;rw[r]at mu;exact mu
 by_cases hb:b=x
 .subst hb;rw[zg]at q;cases q;exact new
 .rw[zl hb]at q;by_cases hbe:b=e
  .have q':H b=some (.own x):=by
    rcases he with z|z
    .exact absurd (hbe.trans z) hb
    .rw[hbe];exact z
   rw[q]at q';cases q';obtain⟨v,hv⟩:=heo;exact⟨v,by rw[hbe];exact hv⟩
  .refine(ok b u q).stay (λc v hc r=>k c v ?_ r) (λc r=>by rw[zl (nown c b r)];exact r) λc xs r=>by rw[zl (ntup c xs r)];exact r
   rcases hc with rfl|hc
   .exact hbe
   .rintro rfl;rcases he with z|z
    .exact nown c b hc z
    .rw[hc]at z;cases z;exact hb rfl
structure Un(fs ex:List Addr)(H H':Hp)(h h':Heap):Prop where
 keep:∀b o,h.get? b=some o->H b=none->b∉fs->b∉ex->h'.get? b=some o
 slot:∀b o,h.get? b=some o->H b=none->b∈fs->b∉ex->∃sl,h'.get? b=some { o with slots:=sl }
 free:∀b o,h.get? b=some o->H b=none->b∉ex->H' b=none
 there:∀b o,h.get? b=some o->b∉ex->∃o',h'.get? b=some o'
 tups:∀b xs,H b=some (.tup xs)->H' b=some (.tup xs)/\∀o,h.get? b=some o->h'.get? b=some o
 frzs:∀b o u,H b=some (.frz o u)->H' b=some (.frz o u)
 tbls:∀b ps,H b=some (.tbl ps)->∃more,H' b=some (.tbl (ps++more))
section
variable{fs fs' ex ex':List Addr}{H1 H2:Hp}{h1 h2:Heap}
theorem Un.any(u:Un fs ex H H1 h h1){b:Addr}{ob:Obj}(q:h.get? b=some ob)(n:H b=none)(hx:b∉ex):∃sl,h1.get? b=some { ob with slots:=sl }:=by
 by_cases hb:b∈fs
 .exact u.slot b ob q n hb hx
 .exact⟨ob.slots,u.keep b ob q n hb hx⟩
theorem Un.kept(k:∀b u,h.get? b=some u->h'.get? b=some u):Un fs ex H H h h' :=
 ⟨λb ob q _ _ _=>k b ob q,λb ob q _ _ _=>⟨ob.slots,k b ob q⟩,λ_ _ _ n _=>n,λb ob q _=>⟨ob,k b ob q⟩,λb _ q=>⟨q,k b⟩,λ_ _ _ q=>q,λ_ ps q=>⟨#[],by rw[q];simp⟩⟩
theorem Un.refl:Un fs ex H H h h:=Un.kept λ_ _ q=>q
theorem Un.laid(k:∀b u,h.get? b=some u->h'.get? b=some u)(hp:h.objs.size<=a)(hn:H a=none):Un fs ex H (upd H a o) h h' where
 keep:=λb u q _ _ _=>k b u q
 slot:=λb u q _ _ _=>⟨u.slots,k b u q⟩
 free:=λb u q n _=>by rw[zl (aR (aQ (Heap.lt_size q) hp))];exact n
 there:=λb u q _=>⟨u,k b u q⟩
 tups:=λb xs q=>⟨by rw[zl (zb q hn)];exact q,k b⟩
 frzs:=λb u xs q=>by rw[zl (zb q hn)];exact q
 tbls:=λb ps q=>⟨#[],by rw[zl (zb q hn),q];simp⟩
theorem Un.write(mu:Mut (H x))(he:e=x\/H e=some (.own x))(k:∀b u,b≠e->h.get? b=some u->h'.get? b=some u)(heo:∃u,h'.get? e=some u):Un fs ex H (upd H x o) h h':=by
 have hx:∀b,H b=none->b≠x:=λb n z=>by subst z;rw[n]at mu;exact mu
 have hb:∀b,H b=none->b≠e:=λb n z=>by
  subst z;rcases he with r|r
  .exact hx b n r
  .rw[n]at r;cases r
 have hm:∀b u,H b=some u->¬ Mut (some u)->b≠x:=λb u q nm z=>by subst z;rw[q]at mu;exact nm mu
 refine⟨λb u q n _ _=>k b u (hb b n) q,λb u q n _ _=>⟨u.slots,k b u (hb b n) q⟩,λb u q n _=>by rw[zl (hx b n)];exact n,λb u q _=>?_,
  λb xs q=>⟨by rw[zl (hm b _ q λz=>z)];exact q,λo=>k b o λz=>he.elim (λr=>hm b _ q (λz=>z) (z.trans r)) (λr=>by rw[<-z,q]at r;cases r)⟩,λb u xs q=>by rw[zl (hm b _ q λz=>z)];exact q,λb ps q=>⟨#[],by rw[zl (hm b _ q λz=>z),q];simp⟩⟩
 by_cases hbe:b=e
 .subst hbe;exact heo
 .exact⟨u,k b u hbe q⟩
end
def trk(h:Heap)(H:Hp):List Addr:=(List.range h.objs.size).filter λa=>(H a).isSome
def hidT(h:Heap)(H:Hp):Heap:=W.hideAll h (trk h H)
theorem Ef(h:Heap)(H:Hp):(hidT h H).objs.size=h.objs.size:=W.hideAll_size _ _
theorem EZ{b:Addr}{o:Obj}(e:h.get? b=some o)(n:H b=none):(hidT h H).get? b=some o :=
 W.hideAll_get _ e λhm=>by have q:(H b).isSome=true:=(eU.mp hm).2;rw[n]at q;simp at q
theorem Iw{b:Addr}{o:Obj}(e:(hidT h H).get? b=some o):h.get? b=some o/\H b=none:=by
 have e':h.get? b=some o:=W.of_hideAll (trk h H) e;refine⟨e',?_⟩;cases q:H b with
 |none=>rfl
 |some x =>
  have hm:b∈trk h H:=eU.mpr ⟨ca.mpr (Heap.lt_size e'),by simp[q]⟩;have z:(hidT h H).get? b=none:=W.hideAll_none (trk h H) hm;rw[z]at e;cases e
def HX(g h:Heap)(L:Addr):List (Addr×Obj):=(List.range h.objs.size).filterMap λa=>if a=L\/(g.get? a).isSome=true then none else (h.get? a).map λo=>(a,o)
def rest(g h:Heap)(L d:Addr):List (Addr×Obj):=(HX g h L).filter λp=>decide (p.1≠d)
structure Mod(K:jj)(mg:Str->Option Value)(base:Heap):Prop where
 kin:K.In base
 glob:base.Ns mainGlobals mg
 blt:∃mb,base.Ns builtinsNs mb/\∀x:Str,x≠"__name__"->mb x=bootBuiltins x
 nolimit:base.NoLimit
structure Cx where
 prog:Program
 w:World
 K:jj
 mg:Str->Option Value
 base:Heap
 A:Around
 N:List Str
 s₀:Shared
 H₀:Hp
 env:Env
 outer:List Env
 stack:List Env
 ex:List Addr
 fn:Str->Bool
 calm:Bool
 pn:List (Addr×Obj)
 xe:Value->Shared->Prop
def frs(l:List Env):List Addr:=l.filterMap (·.frame)
abbrev Cx.fs(X:Cx):List Addr:=frs X.outer
def Vis(sc:Scope)(x:Str):Prop:=sc.names.lookup x=some .local\/sc.names.lookup x=some .cell\/sc.names.lookup x=some .free
def Loc(sc:Scope)(x:Str):Prop:=sc.names.lookup x=some .local\/sc.names.lookup x=some .cell
def Look(env:Env)(h:Heap)(m:Str->Option Value)(x:Str)(u:Value):Prop :=
 (env.kindOf x=some .local/\m x=some u)\/((env.kindOf x=some .cell\/env.kindOf x=some .free)/\∃c,env.cells.lookup x=some c/\h.IsCell c (some u))
structure Cx.Ok(X:Cx):Prop where
 mod:Mod X.K X.mg X.base
 kind:X.env.scope.kind=.function
 glob:X.env.globals=mainGlobals
 blt:X.env.builtins=builtinsNs
 above:X.s₀.heap.objs.size<=X.env.locals
 inj:∀x y c,X.env.cells.lookup x=some c->X.env.cells.lookup y=some c->x=y
 has:∀x,(X.env.kindOf x=some .cell\/X.env.kindOf x=some .free)->∃c,X.env.cells.lookup x=some c
 cab:∀x c,X.fn x=true->X.env.cells.lookup x=some c->X.s₀.heap.objs.size<=c
 hd:X.calm=true->X.A.handled=none
 frames:X.A.frames=some X.stack
 stk:X.stack=X.outer\/(X.stack=X.env::X.outer/\X.env.frame=some X.env.locals)
 exf:∀b∈X.ex,b≠X.env.locals/\∀x c,X.env.cells.lookup x=some c->c≠b
 bs:∀b o,X.base.get? b=some o->X.s₀.heap.get? b=some o/\X.H₀ b=none
 bsz:X.base.objs.size<=X.s₀.heap.objs.size
 noex:∀b o,X.base.get? b=some o->b∉X.ex
 exfs:∀b∈X.ex,b∉X.fs
 funs:X.s₀.heap.FunFrames X.base X.outer
 frf:∀b∈X.fs,X.H₀ b=none
structure Inv(X:Cx)(pins:List (Addr×Obj))(σ:List (Option V))(H:Hp)(s:Shared):Prop where
 ok:X.Ok
 os:s.os=X.s₀.os
 bare:AllBare s.gens
 base:Un X.fs X.ex X.H₀ H X.s₀.heap s.heap
 loc:∃m,s.heap.Ns X.env.locals m/\∀(i:Nat)(x:Str)(v:V),X.N[i]?=some x->σ[i]?=some (some v)->Vis X.env.scope x->∃u,RelV v u/\Look X.env s.heap m x u
 cell:∀x c,X.env.cells.lookup x=some c->∃v,s.heap.IsCell c v
 free:H X.env.locals=none
 freeC:∀x c,X.env.cells.lookup x=some c->H c=none
 pin:∀p∈X.pn++pins,s.heap.get? p.1=some p.2/\H p.1=none/\p.1≠X.env.locals/\p.1∉X.fs/\∀v,p.2.data≠.cell v
 hok:HOk X.prog X.w H s.heap
 len:σ.length=X.N.length
variable{it:Addr}{g':Array GenState}{d':Drawn}{ch:List Addr}{M:Model}{t':Nat}{E:Value->Shared->Prop}
section
variable{X:Cx}{pins:List (Addr×Obj)}{σ:List (Option V)}{s:Shared}
theorem Cx.Ok.nofr(ok:X.Ok){b:Addr}{o:Obj}(e:X.base.get? b=some o):b∉X.fs:=λhb=>by have:=(ok.funs.mem hb).1;rw[e]at this;cases this
theorem Inv.bs(I:Inv X pins σ H s):∀b o,X.base.get? b=some o->s.heap.get? b=some o/\H b=none:=λb o e =>
 ⟨I.base.keep b o (I.ok.bs b o e).1 (I.ok.bs b o e).2 (I.ok.nofr e) (I.ok.noex b o e),I.base.free b o (I.ok.bs b o e).1 (I.ok.bs b o e).2 (I.ok.noex b o e)⟩
theorem Inv.bk(I:Inv X pins σ H s):∀b o,X.base.get? b=some o->s.heap.get? b=some o:=λb o e=>(I.bs b o e).1
theorem Inv.mod(I:Inv X pins σ H s):Mod X.K X.mg X.base:=I.ok.mod
theorem Inv.kIn(I:Inv X pins σ H s):X.K.In s.heap:=I.ok.mod.kin.keeps I.bk
theorem Inv.lt(I:Inv X pins σ H s):X.env.locals<s.heap.objs.size:=let ⟨_,hn,_⟩:=I.loc;hn.lt
theorem Inv.sz(I:Inv X pins σ H s):X.s₀.heap.objs.size<=s.heap.objs.size:=cf I.ok.above (bU I.lt)
theorem Inv.nofs(I:Inv X pins σ H s)(h:s.heap.objs.size<=a):a∉X.fs:=λhb=>by obtain⟨_,o,ho,_⟩:=I.ok.funs.mem hb;exact absurd (aQ (Heap.lt_size ho) (cf I.sz h)) (dm _)
theorem Inv.cne(I:Inv X pins σ H s):∀x c,X.env.cells.lookup x=some c->c≠X.env.locals:=λx c e z=>by obtain⟨v,o,ho,hd⟩:=I.cell x c e;obtain⟨m,⟨o',es,ep,ho',hd',_⟩,_⟩:=I.loc;rw[z,ho']at ho;cases ho;rw[hd']at hd;cases hd
theorem Inv.funs(I:Inv X pins σ H s):s.heap.FunFrames X.base X.outer:=by
 have all:∀(l:List Env),(∀b∈frs l,b∈X.fs)->X.s₀.heap.FunFrames X.base l->s.heap.FunFrames X.base l:=by
  intro l;induction l with
  |nil=>intro _ _;trivial
  |cons env r ih =>
   intro hs hl;obtain⟨hk,⟨L,o,hf,hn,ho,hd⟩,hr⟩:=hl;have hL:L∈X.fs:=hs L (by unfold frs;rw[du,hf];exact aH);obtain⟨sl,e⟩:=I.base.slot L o ho (I.ok.frf L hL) hL λz=>I.ok.exfs L z hL;exact⟨hk,⟨L,_,hf,hn,e,hd⟩,ih (λb hb=>hs b (by unfold frs;rw[du,hf];exact aC _ hb)) hr⟩
 exact all X.outer (λ_ hb=>hb) I.ok.funs
theorem Inv.stack(I:Inv X pins σ H s):s.heap.FunFrames X.base X.stack:=by
 rcases I.ok.stk with e|⟨e,hf⟩
 .rw[e];exact I.funs
 .rw[e];obtain⟨m,hn,_⟩:=I.loc;refine .cons (by rw[I.ok.kind];decide) hf hn ?_ I.funs;exact Heap.get?_none_of_le (cf I.ok.bsz I.ok.above)
theorem Inv.stkSub(I:Inv X pins σ H s):∀b∈frs X.stack,b∈X.env.locals::X.fs:=λb hb=>by
 rcases I.ok.stk with e|⟨e,hf⟩
 .rw[e]at hb;exact aC _ hb
 .rw[e]at hb;unfold frs at hb;rw[du,hf]at hb;exact hb
theorem Inv.stkFree(I:Inv X pins σ H s):∀b∈frs X.stack,H b=none:=λb hb=>by
 rcases aW.mp (I.stkSub b hb) with e|hb
 .rw[e];exact I.free
 .obtain⟨_,o,ho,_⟩:=I.ok.funs.mem hb;exact I.base.free b o ho (I.ok.frf b hb) λz=>I.ok.exfs b z hb
theorem Inv.step(I:Inv X pins σ H s)(hch:∀b∈ch,(b∈X.ex\/X.s₀.heap.objs.size<=b)/\b≠X.env.locals/\(∀x c,X.env.cells.lookup x=some c->c≠b)/\∀p∈X.pn++pins,p.1≠b)(keep:∀b o,b≠X.env.locals->b∉X.fs->b∉ch->s.heap.get? b=some o->H b=none->h'.get? b=some o)(slot:∀b o,b≠X.env.locals->b∈X.fs->b∉ch->s.heap.get? b=some o->H b=none->∃sl,h'.get? b=some { o with slots:=sl })(free:∀b o,b∉ch->s.heap.get? b=some o->H b=none->H' b=none)(there:∀b o,b∉ch->s.heap.get? b=some o->∃o',h'.get? b=some o')(tups:∀b xs,H b=some (.tup xs)->H' b=some (.tup xs)/\∀o,s.heap.get? b=some o->h'.get? b=some o)(frzs:∀b o u,H b=some (.frz o u)->H' b=some (.frz o u))(tbls:∀b ps,H b=some (.tbl ps)->∃more,H' b=some (.tbl (ps++more)))(ns:∀m,s.heap.Ns X.env.locals m->h'.Ns X.env.locals m)(hok:HOk X.prog X.w H' h')(hg:AllBare g'):
  Inv X pins σ H' { s with heap:=h',gens:=g',drawn:=d',toks:=t' }:=by
 have neL:∀b o,X.s₀.heap.get? b=some o->b≠X.env.locals:=λb o e=>aR (aQ (Heap.lt_size e) I.ok.above);have neC:∀b o,X.s₀.heap.get? b=some o->b∉X.ex->b∉ch:=λb o e hx hb=>by
  rcases (hch b hb).1 with z|z
  .exact hx z
  .exact absurd (aQ (Heap.lt_size e) z) (dm _)
 have cellK:∀x c,X.env.cells.lookup x=some c->∀v,s.heap.IsCell c v->h'.IsCell c v:=λx c e v ⟨o,ho,hd⟩=>by
  have nch:c∉ch:=λz=>(hch c z).2.2.1 x c e rfl;by_cases hc:c∈X.fs
  .obtain⟨sl,q⟩:=slot c o (I.cne x c e) hc nch ho (I.freeC x c e);exact⟨_,q,hd⟩
  .exact⟨o,keep c o (I.cne x c e) hc nch ho (I.freeC x c e),hd⟩
 refine⟨I.ok,I.os,hg,⟨λb o e n hb hx=>?_,λb o e n hb hx=>?_,λb o e n hx=>?_,λb o e hx=>?_,λb xs e=>⟨(tups b xs (I.base.tups b xs e).1).1,λo q=>(tups b xs (I.base.tups b xs e).1).2 o ((I.base.tups b xs e).2 o q)⟩,λb o xs e=>frzs b o xs (I.base.frzs b o xs e),λb ps e=>?_⟩,?_,λx c e=>?_,?_,λx c e=>?_,λp hp=>?_,hok,I.len⟩
 .exact keep b o (neL b o e) hb (neC b o e hx) (I.base.keep b o e n hb hx) (I.base.free b o e n hx)
 .obtain⟨sl,e1⟩:=I.base.slot b o e n hb hx;obtain⟨sl',e2⟩:=slot b _ (neL b o e) hb (neC b o e hx) e1 (I.base.free b o e n hx);exact⟨sl',e2⟩
 .obtain⟨o',e1⟩:=I.base.there b o e hx;exact free b o' (neC b o e hx) e1 (I.base.free b o e n hx)
 .obtain⟨o',e1⟩:=I.base.there b o e hx;exact there b o' (neC b o e hx) e1
 .obtain⟨m1,e1⟩:=I.base.tbls b ps e;obtain⟨m2,e2⟩:=tbls b _ e1;exact⟨m1++m2,by rw[e2,Array.append_assoc]⟩
 .obtain⟨m,hn,hl⟩:=I.loc;refine⟨m,ns m hn,λi x v e1 e2 e3=>?_⟩;obtain⟨u,r,l⟩:=hl i x v e1 e2 e3;refine⟨u,r,?_⟩;rcases l with l|⟨k,c,e,z⟩
  .exact .inl l
  .exact .inr ⟨k,c,e,cellK x c e _ z⟩
 .obtain⟨v,z⟩:=I.cell x c e;exact⟨v,cellK x c e v z⟩
 .obtain⟨m,⟨o,_,_,ho,_⟩,_⟩:=I.loc;exact free _ o (λz=>(hch _ z).2.1 rfl) ho I.free
 .obtain⟨v,o,ho,hd⟩:=I.cell x c e;exact free c o (λz=>(hch c z).2.2.1 x c e rfl) ho (I.freeC x c e)
 .obtain⟨e,n,ne,nf,d⟩:=I.pin p hp;have nch:p.1∉ch:=λz=>(hch p.1 z).2.2.2 p hp rfl;exact⟨keep p.1 p.2 ne nf nch e n,free p.1 p.2 nch e n,ne,nf,d⟩
theorem Inv.un(I:Inv X pins σ H s)(u:Un X.fs [] H H' s.heap h')(hok:HOk X.prog X.w H' h'):Inv X pins σ H' { s with heap:=h',toks:=t' }:=by obtain⟨m,⟨o,es,ep,ho,r⟩,_⟩:=id I.loc;obtain⟨sl,hL⟩:=u.any ho I.free (!1);exact I.step (g':=s.gens) (d':=s.drawn) (ch:=[]) (λ_ z=>nomatch z) (λb o _ hb _ e n=>u.keep b o e n hb (!1)) (λb o _ hb _ e n=>u.slot b o e n hb (!1)) (λb o _ e n=>u.free b o e n (!1)) (λb o _ e=>u.there b o e (!1)) u.tups u.frzs u.tbls (λm' hm=>by obtain⟨o',es',ep',ho',r'⟩:=hm;rw[ho]at ho';cases ho';exact⟨_,es',ep',hL,r'⟩) hok I.bare
theorem Inv.call(I:Inv X pins σ H s)(u:Un (frs X.stack) ch H H' s.heap h')(hok:HOk X.prog X.w H' h')(hg:AllBare g')(hch:∀b∈ch,(b∈X.ex\/X.s₀.heap.objs.size<=b)/\b≠X.env.locals/\(∀x c,X.env.cells.lookup x=some c->c≠b)/\∀p∈X.pn++pins,p.1≠b): Inv X pins σ H' { s with heap:=h',gens:=g',drawn:=d',toks:=t' }:=by obtain⟨m,⟨o,es,ep,ho,r⟩,_⟩:=id I.loc;obtain⟨sl,hL⟩:=u.any ho I.free λz=>(hch _ z).2.1 rfl;exact I.step (ch:=ch) hch (λb o hL hb hc e n=>u.keep b o e n (λz=>(aW.mp (I.stkSub b z)).elim hL hb) hc) (λb o _ _ hc e n=>u.any e n hc) (λb o hc e n=>u.free b o e n hc) (λb o hc e=>u.there b o e hc) u.tups u.frzs u.tbls (λm' hm=>by obtain⟨o',es',ep',ho',r'⟩:=hm;rw[ho]at ho';cases ho';exact⟨_,es',ep',hL,r'⟩) hok hg
theorem Inv.turned(I:Inv X pins σ H s)(k:∀b o,b≠it->s.heap.get? b=some o->h'.get? b=some o)(hn:H it=none)(hL:it≠X.env.locals)(h1:it∈X.ex\/X.s₀.heap.objs.size<=it)(h2:∀x c,X.env.cells.lookup x=some c->c≠it)(h3:∀p∈X.pn++pins,p.1≠it):Inv X pins σ H { s with heap:=h',toks:=t' }:=by
 have nit:∀b u,H b=some u->b≠it:=λb u e z=>by rw[z,hn]at e;cases e
 refine I.step (g':=s.gens) (d':=s.drawn) (ch:=[it]) (λb hb=>?_) (λb o _ _ hc e _=>k b o (λz=>hc (by simp[z])) e) (λb o _ _ hc e _=>⟨o.slots,k b o (λz=>hc (by simp[z])) e⟩) (λ_ _ _ _ n=>n)
  (λb o hc e=>⟨o,k b o (λz=>hc (by simp[z])) e⟩) (λb _ e=>⟨e,λo=>k b o (nit b _ e)⟩) (λ_ _ _ e=>e) (λb ps e=>⟨#[],by rw[e];simp⟩) (λm hm=>?_) (λb u e=>?_) I.bare
 .have e:b=it:=by simpa using hb
  subst e;exact⟨h1,hL,h2,h3⟩
 .obtain⟨o,es,ep,ho,r⟩:=hm;exact⟨o,es,ep,k _ o (cH hL) ho,r⟩
 .refine(I.hok b u e).stay (λc v hc q=>k c v ?_ q) (λ_ q=>q) λ_ _ q=>q;rcases hc with z|z
  .rw[z];exact nit b u e
  .exact nit c _ z
theorem Inv.tok(I:Inv X pins σ H s)(t:Nat):Inv X pins σ H { s with toks:=t }:=I.un (h':=s.heap) (t':=t) Un.refl I.hok
theorem Inv.kept{t':Nat}(I:Inv X pins σ H s)(k:∀b u,s.heap.get? b=some u->h'.get? b=some u):Inv X pins σ H { s with heap:=h',toks:=t' }:=I.un (Un.kept k) (I.hok.kept k)
theorem Inv.laid{a:Addr}{o:HO}{t':Nat}(I:Inv X pins σ H s)(k:∀b u,s.heap.get? b=some u->h'.get? b=some u)(hp:s.heap.objs.size<=a)(new:ObjOk X.prog X.w (upd H a o) h' a o): Inv X pins σ (upd H a o) { s with heap:=h',toks:=t' }:=I.un (Un.laid k hp (I.hok.fresh hp)) (I.hok.laid k hp new)
theorem Inv.write{x e:Addr}{o:HO}{t':Nat}(I:Inv X pins σ H s)(mu:Mut (H x))(he:e=x\/H e=some (.own x))(k:∀b u,b≠e->s.heap.get? b=some u->h'.get? b=some u)(heo:∃u,h'.get? e=some u) (new:ObjOk X.prog X.w (upd H x o) h' x o):Inv X pins σ (upd H x o) { s with heap:=h',toks:=t' }:=I.un (Un.write mu he k heo) (I.hok.write mu he k heo new)
theorem Inv.pins_of{pins':List (Addr×Obj)}(I:Inv X pins σ H s)(h:∀p∈pins',s.heap.get? p.1=some p.2/\H p.1=none/\p.1≠X.env.locals/\p.1∉X.fs/\∀v,p.2.data≠.cell v):Inv X pins' σ H s :=
 ⟨I.ok,I.os,I.bare,I.base,I.loc,I.cell,I.free,I.freeC,λp hp=>(aE.mp hp).elim (λz=>I.pin p (cg _ z)) (h p),I.hok,I.len⟩
variable{x:Str}
theorem BL{N:List Str}(hN:N.Nodup){i j:Nat}(a:N[i]?=some x)(b:N[j]?=some x):i=j:=by obtain⟨h1,e1⟩:=af.mp a;obtain⟨h2,e2⟩:=af.mp b;exact(List.getElem_inj hN).mp (e1.trans e2.symm)
theorem tR{A:Around}{i:Nat}{v:V}{u:Value}{Q:Unit->Shared->Prop}(I:Inv X pins σ H s)(hN:X.N.Nodup)(hi:X.N[i]?=some x)(hx:Loc X.env.scope x)(r:RelV v u)(h:∀s',Inv X pins (σ.set i (some v)) H s'->(∃a,Heap.SameBut a s.heap s'.heap/\(a=X.env.locals\/X.env.cells.lookup x=some a))->Q () s')(hf:X.fn x=true\/X.env.scope.names.lookup x=some .local:=by first|exact .inl rfl|exact .inr rfl|assumption):wpAny M A (storeName X.env x u) Q E s:=by
 obtain⟨m,hn,hl⟩:=id I.loc;have hcls:(X.env.scope.kind==.class || (X.env.scope.kind==.module && X.env.locals != X.env.globals))=false:=by rw[I.ok.kind];rfl
 have hiσ:i<σ.length:=by rw[I.len];exact(af.mp hi).1
 have cne:=I.cne;have tracked:∀{a:Addr}{h':Heap},(∃o,s.heap.get? a=some o/\H a=none)->Heap.SameBut a s.heap h'->HOk X.prog X.w H h':=λ{a h'} ha hs b ob e=>by
  obtain⟨_,_,hfree⟩:=ha;refine(I.hok b ob e).stay (λc w' hc q=>(hs.2 c ?_).trans q) (λ_ q=>q) λ_ _ q=>q;rintro rfl;rcases hc with rfl|hc
  .rw[hfree]at e;cases e
  .rw[hfree]at hc;cases hc
 rcases hx with hk|hk
 .refine wpAny_storeName_local hk hn (λh' hn' hs=>?_) hcls;obtain⟨oL,_,_,hoL,_⟩:=id hn;refine h _ ⟨I.ok,I.os,I.bare,⟨λb o e n hb hx=>?_,λb o e n hb hx=>?_,I.base.free,λb o e hx=>?_,λb xs e=>⟨(I.base.tups b xs e).1,λo q=>(hs.2 b (zb (I.base.tups b xs e).1 I.free)).trans ((I.base.tups b xs e).2 o q)⟩,I.base.frzs,I.base.tbls⟩,⟨_,hn',λj y v' e1 e2 e3=>?_⟩,λy c e=>?_,I.free,I.freeC,λp hp=>?_,tracked ⟨oL,hoL,I.free⟩ hs,by simpa using I.len⟩ ⟨_,hs,.inl rfl⟩
  .exact(hs.2 b (aR (aQ (Heap.lt_size e) I.ok.above))).trans (I.base.keep b o e n hb hx)
  .obtain⟨sl,e1⟩:=I.base.slot b o e n hb hx;exact⟨sl,(hs.2 b (aR (aQ (Heap.lt_size e) I.ok.above))).trans e1⟩
  .obtain⟨o',e1⟩:=I.base.there b o e hx;exact⟨o',(hs.2 b (aR (aQ (Heap.lt_size e) I.ok.above))).trans e1⟩
  .by_cases hj:j=i
   .subst hj;rw[hi]at e1;cases e1;rw[io hiσ]at e2;cases e2
    exact⟨u,r,.inl ⟨hk,by simp⟩⟩
   .rw[List.getElem?_set_ne (cH hj)]at e2;obtain⟨u',r',q⟩:=hl j y v' e1 e2 e3;refine⟨u',r',?_⟩;rcases q with⟨k,e⟩|⟨k,c,e,z⟩
    .refine .inl ⟨k,?_⟩;have:y≠x:=λe=>hj (BL hN e1 (e ▸ hi));simp[this,e]
    .exact .inr ⟨k,c,e,z.sameBut hs (cne y c e)⟩
  .obtain⟨w',z⟩:=I.cell y c e;exact⟨w',z.sameBut hs (cne y c e)⟩
  .obtain⟨e,n,ne,nf,d⟩:=I.pin p hp;exact⟨(hs.2 p.1 ne).trans e,n,ne,nf,d⟩
 .have hfn:X.fn x=true:=by
   rcases hf with z|z
   .exact z
   .rw[z]at hk;cases hk
  obtain⟨c,hc⟩:=I.ok.has x (.inl hk);obtain⟨w',z⟩:=I.cell x c hc;refine wpAny_storeName_cell I.ok.kind hk hc z (λh' hc' hs=>?_);obtain⟨oc,hoc,hocd⟩:=id z;refine h { s with heap:=h' } ⟨I.ok,I.os,I.bare,⟨λb o e n hb hx=>?_,λb o e n hb hx=>?_,I.base.free,λb o e hx=>?_,λb xs e=>⟨(I.base.tups b xs e).1,λo q=>(hs.2 b (zb (I.base.tups b xs e).1 (I.freeC x c hc))).trans ((I.base.tups b xs e).2 o q)⟩,I.base.frzs,I.base.tbls⟩,⟨m,hn.sameBut hs (cH (cne x c hc)),λj y v' e1 e2 e3=>?_⟩,λy c' e=>?_,I.free,I.freeC,λp hp=>?_,tracked ⟨oc,hoc,I.freeC x c hc⟩ hs,by simpa using I.len⟩ ⟨c,hs,.inr hc⟩
  .exact(hs.2 b (aR (aQ (Heap.lt_size e) (I.ok.cab x c hfn hc)))).trans (I.base.keep b o e n hb hx)
  .obtain⟨sl,e1⟩:=I.base.slot b o e n hb hx;exact⟨sl,(hs.2 b (aR (aQ (Heap.lt_size e) (I.ok.cab x c hfn hc)))).trans e1⟩
  .obtain⟨o',e1⟩:=I.base.there b o e hx;exact⟨o',(hs.2 b (aR (aQ (Heap.lt_size e) (I.ok.cab x c hfn hc)))).trans e1⟩
  .by_cases hj:j=i
   .subst hj;rw[hi]at e1;cases e1;rw[io hiσ]at e2;cases e2
    exact⟨u,r,.inr ⟨.inl hk,c,hc,hc'⟩⟩
   .rw[List.getElem?_set_ne (cH hj)]at e2;obtain⟨u',r',q⟩:=hl j y v' e1 e2 e3;refine⟨u',r',?_⟩;rcases q with q|⟨k,c',e,z'⟩
    .exact .inl q
    .refine .inr ⟨k,c',e,z'.sameBut hs ?_⟩;rintro rfl;exact hj (BL hN e1 (I.ok.inj _ _ _ e hc ▸ hi))
  .by_cases hcc:c'=c
   .subst hcc;exact⟨_,hc'⟩
   .obtain⟨w2,z2⟩:=I.cell y c' e;exact⟨w2,z2.sameBut hs hcc⟩
  .obtain⟨e,n,ne,nf,d⟩:=I.pin p hp;refine⟨(hs.2 p.1 ?_).trans e,n,ne,nf,d⟩;intro q;rw[q,hoc]at e;have q':oc=p.2:=aJ e;exact d w' (by rw[<-q'];exact hocd)
theorem vg{A:Around}{i:Nat}{v:V}{u:Value}{Q:Unit->Shared->Prop}(I:Inv X pins σ H s)(hN:X.N.Nodup)(hi:X.N[i]?=some x)(hx:Loc X.env.scope x)(r:RelV v u)(h:∀s',Inv X pins (σ.set i (some v)) H s'->Q () s')(hf:X.fn x=true\/X.env.scope.names.lookup x=some .local:=by first|exact .inl rfl|exact .inr rfl|assumption):wpAny M A (storeName X.env x u) Q E s :=
 tR I hN hi hx r (λs' I' _=>h s' I') hf
theorem Inv.call'{s':Shared}(I:Inv X pins σ H s)(ho:s'.os=s.os)(u:Un (frs X.stack) ch H H' s.heap s'.heap)(hok:HOk X.prog X.w H' s'.heap)(hg:AllBare s'.gens)(hch:∀b∈ch,(b∈X.ex\/X.s₀.heap.objs.size<=b)/\b≠X.env.locals/\(∀x c,X.env.cells.lookup x=some c->c≠b)/\∀p∈X.pn++pins,p.1≠b):Inv X pins σ H' s':=by obtain⟨h',g',d',t',o'⟩:=s';have e:o'=s.os:=ho;subst e;exact I.call (g':=g') (t':=t') (d':=d') u hok hg hch
end
abbrev XK:=Value->Option Addr->Hp->Prop
abbrev St:=List (Option V)
abbrev VK:=V->Hp->Prop
abbrev TE:=St->Hp->VK->Prop
abbrev TT:=St->Hp->(Bool->Hp->Prop)->Prop
abbrev TA:=St->Hp->(List V->Hp->Prop)->Prop
structure Ends where
 nx:St->Hp->Prop
 rt:VK
 bk:St->Hp->Prop:=λ_ _=>False
 ct:St->Hp->Prop:=λ_ _=>False
abbrev TS:=Ends->St->Hp->Prop
def EP(X:Cx)(pins:List (Addr×Obj))(σ:St)(Q:VK)(u:Value)(s':Shared):Prop:=∃v H',Inv X pins σ H' s'/\RelV v u/\Q v H'
def TP(X:Cx)(pins:List (Addr×Obj))(σ:St)(Q:Bool->Hp->Prop)(b:Bool)(s':Shared):Prop:=∃H',Inv X pins σ H' s'/\Q b H'
def AP(X:Cx)(pins:List (Addr×Obj))(σ:St)(Q:List V->Hp->Prop)(us:List Value)(s':Shared):Prop:=∃vs H',Inv X pins σ H' s'/\Vals vs us/\Q vs H'
def SP(X:Cx)(pins:List (Addr×Obj))(D:Ends)(f:Flow)(s':Shared):Prop :=
 match f with
 | .next=>∃σ' H',Inv X pins σ' H' s'/\D.nx σ' H'
 | .brk=>∃σ' H',Inv X pins σ' H' s'/\D.bk σ' H'
 | .cont=>∃σ' H',Inv X pins σ' H' s'/\D.ct σ' H'
 | .ret u=>∃v σ' H',Inv X pins σ' H' s'/\RelV v u/\D.rt v H'
def PE(X:Cx)(e:Expr)(t:TE):Prop :=
 ∀(pins:List (Addr×Obj))(s:Shared)(σ:St)(H:Hp)(Q:VK),Inv X pins σ H s->t σ H Q->wpAny (model X.prog X.w) X.A (eval e X.env) (EP X pins σ Q) X.xe s
def PT(X:Cx)(e:Expr)(t:TT):Prop :=
 ∀(pins:List (Addr×Obj))(s:Shared)(σ:St)(H:Hp)(Q:Bool->Hp->Prop),Inv X pins σ H s->t σ H Q->wpAny (model X.prog X.w) X.A (isTrue e X.env (eval e X.env)) (TP X pins σ Q) X.xe s
def PW(X:Cx)(e:Expr)(t:TT):Prop :=
 ∀(whole:Sem Value)(pins:List (Addr×Obj))(s:Shared)(σ:St)(H:Hp)(Q:Bool->Hp->Prop),Inv X pins σ H s->t σ H Q->wpAny (model X.prog X.w) X.A (isTrue e X.env whole) (TP X pins σ Q) X.xe s
theorem PW.pt{X:Cx}{e:Expr}{t:TT}(h:PW X e t):PT X e t:=h _
def PA(X:Cx)(es:List Expr)(t:TA):Prop :=
 ∀(pos:Pos)(pins:List (Addr×Obj))(s:Shared)(σ:St)(H:Hp)(Q:List V->Hp->Prop),Inv X pins σ H s->t σ H Q->wpAny (model X.prog X.w) X.A (spliced (backTo pos (starEach es X.env))) (AP X pins σ Q) X.xe s
def PS(X:Cx)(st:Stmt)(t:TS):Prop :=
 ∀(pins:List (Addr×Obj))(s:Shared)(σ:St)(H:Hp)(D:Ends),Inv X pins σ H s->t D σ H->wpAny (model X.prog X.w) X.A (exec st X.env) (SP X pins D) X.xe s
def PSs(X:Cx)(st:List Stmt)(t:TS):Prop :=
 ∀(pins:List (Addr×Obj))(s:Shared)(σ:St)(H:Hp)(D:Ends),Inv X pins σ H s->t D σ H->wpAny (model X.prog X.w) X.A (execs st X.env) (SP X pins D) X.xe s
theorem thn{α:Type}{t:Sem α}{Q Q':α->Shared->Prop}{A:Around}{s:Shared}(h:wpAny M A t Q E s)(hQ:∀a s,Q a s->Q' a s):wpAny M A t Q' E s:=iW h hQ λ_ _ x=>x
variable{op:CmpOp}{c:Expr}{pins:List (Addr×Obj)}
section
variable{X:Cx}
def tVar(i:Nat):TE:=λσ H Q=>∃v,σ[i]?=some (some v)/\Q v H
@[reducible] def tC (v:V):TE:=λ_ H Q=>Q v H
variable{x:Str}
theorem JI{i:Nat}{pos:Pos}(hN:X.N[i]?=some x)(hv:Vis X.env.scope x)(hd:(x==("__debug__":Str))=false:=by decide)(hcd:(x==("__classdict__":Str))=false:=by decide):PE X (.Name x pos) (tVar i):=by
 intro pins s σ H Q I h;obtain⟨v,e,h⟩:=h;obtain⟨m,hn,hl⟩:=I.loc;obtain⟨u,r,l⟩:=hl i x v hN e hv;have fin:EP X pins σ Q u s:=⟨v,H,I,r,h⟩
 rcases l with⟨hk,hm⟩|⟨hk,c,hc,hcell⟩
 .exact wpAny_Name (wpAny_loadName_local I.ok.kind hk hn hm fin) hd
 .rcases hk with hk|hk
  .exact wpAny_Name (wpAny_loadName_cell I.ok.kind hk hc hcell fin) hd
  .exact wpAny_Name (wpAny_loadName_free I.ok.kind hk hc hcell fin hcd) hd
theorem zd{i j pos}:PE X (.Constant (.int i) j pos) (tC (.int i)):=λ_ _ _ H _ I h=>wpAny_Constant_int ⟨.int i,H,I.tok _,⟨_,rfl⟩,h⟩
theorem wm{b j pos}:PE X (.Constant (.bool b) j pos) (tC (.bl b)):=λ_ _ _ H _ I h=>Constant_bool ⟨.bl b,H,I,rfl,h⟩
theorem CN{j pos}:PE X (.Constant .none j pos) (tC .non):=λ_ _ _ H _ I h=>Constant_none ⟨.non,H,I,rfl,h⟩
theorem zH{x j pos}:PE X (.Constant (.str x) j pos) (tC (.str x)):=λ_ _ _ H _ I h=>Calls.Constant_str ⟨.str x,H,I.tok _,⟨_,rfl⟩,h⟩
def Gl(X:Cx)(x:Str):Prop:=X.env.kindOf x=some .globalImplicit
theorem Aw{s:Shared}{σ:St}{u:Value}{pos:Pos}{Q:Value->Shared->Prop}(I:Inv X pins σ H s)(hg:Gl X x)(hm:X.mg x=some u)(h:Q u s)(hd:(x==("__debug__":Str))=false:=by decide):wpAny (model X.prog X.w) X.A (eval (.Name x pos) X.env) Q E s :=
 Calls.Name_function_global I.ok.kind hg (Calls.loadGlobal_global (by rw[I.ok.glob];exact I.mod.glob.keeps I.bk) hm h) hd
theorem vw{s:Shared}{σ:St}{u:Value}{pos:Pos}{Q:Value->Shared->Prop}(I:Inv X pins σ H s)(hg:Gl X x)(hm:X.mg x=none)(hv:bootBuiltins x=some u)(h:Q u s)(hn:x≠"__name__":=by decide)(hd:(x==("__debug__":Str))=false:=by decide):wpAny (model X.prog X.w) X.A (eval (.Name x pos) X.env) Q E s:=by obtain⟨mb,h1,h2⟩:=I.mod.blt;exact Calls.Name_function_global I.ok.kind hg (Calls.loadGlobal_builtin (by rw[I.ok.glob];exact I.mod.glob.keeps I.bk) hm (by rw[I.ok.blt];exact h1.keeps I.bk) ((h2 x hn).trans hv) h) hd
theorem yf{v:V}{u:Value}{pos:Pos}(hg:Gl X x)(hm:X.mg x=some u)(r:RelV v u)(hd:(x==("__debug__":Str))=false:=by decide):PE X (.Name x pos) (tC v):=
 λ_ _ _ H _ I h=>Aw I hg hm ⟨v,H,I,r,h⟩ hd
theorem xi{v:V}{u:Value}{pos:Pos}(hg:Gl X x)(hm:X.mg x=none)(hv:bootBuiltins x=some u)(r:RelV v u)(hn:x≠"__name__":=by decide)(hd:(x==("__debug__":Str))=false:=by decide):PE X (.Name x pos) (tC v):=
 λ_ _ _ H _ I h=>vw I hg hm hv ⟨v,H,I,r,h⟩ hn hd
variable{a b:Expr}{ta tb:TE}{pos:Pos}
def PC(X:Cx)(op:CmpOp)(a b:Expr)(t:TE):Prop :=
 ∀(pins:List (Addr×Obj))(s:Shared)(σ:St)(H:Hp)(Q:VK),Inv X pins σ H s->t σ H Q ->
  wpAny (model X.prog X.w) X.A (eval a X.env) (λv s₁=>wpAny (model X.prog X.w) X.A (eval b X.env) (λu s₂=>wpAny (model X.prog X.w) X.A (compareOp op v u) (EP X pins σ Q) X.xe s₂) X.xe s₁) X.xe s
def tB(t:TE):TT:=λσ H Q=>t σ H λx H1=>∃c,x=.bl c/\Q c H1
variable{t:TE}
theorem II(h:PC X op a b t)(h1:behindInMarks op b=false:=by first|exact nobehind _ (by decide) (by decide)|rfl):PT X (.Compare a [op] [b] pos) (tB t):=by
 intro pins s σ H Q I hw;refine wpAny_isTrue_Compare1 (thn (h pins s σ H _ I hw) λv s1 h1=>thn h1 λu s2 h2=>thn h2 λc s3 ⟨x,H1,I1,r1,q1⟩=>?_) h1;obtain⟨d,rfl,q⟩:=q1;cases r1
 exact iX ⟨H1,I1,q⟩
theorem yp{e:Expr}(h:PE X e t)(he:∀whole,isTrue e X.env whole=(do let v <-whole;standAt e.pos;holding [v] (truthy v)):=by intro _;rfl):PT X e (tB t):=by
 intro pins s σ H Q I hw;refine isTrue_plain (thn (h pins s σ H _ I hw) λv s1 ⟨x,H1,I1,r1,q1⟩=>?_) (he _);obtain⟨d,rfl,q⟩:=q1;cases r1
 exact iX ⟨H1,I1,q⟩
variable{tA tB':TT}{rest:List Expr}
def tAnd(t u:TT):TT:=λσ H Q=>t σ H λc H1=>if c=true then u σ H1 Q else Q false H1
def tOr(t u:TT):TT:=λσ H Q=>t σ H λc H1=>if c=true then Q true H1 else u σ H1 Q
def tNot(t:TT):TT:=λσ H Q=>t σ H λc H1=>Q (!c) H1
theorem y9(ha:PT X a tA):PW X (.BoolOp .And [a] pos) tA:=by
 intro wh pins s σ H Q I h;refine isTrue_and (thn (ha pins s σ H Q I h) λc s1 e=>?_);cases c with
 |true=>exact isTrue_and_nil e
 |false=>exact e
theorem uk(ha:PT X a tA):PW X (.BoolOp .Or [a] pos) tA:=by
 intro wh pins s σ H Q I h;refine isTrue_or (thn (ha pins s σ H Q I h) λc s1 e=>?_);cases c with
 |false=>exact isTrue_or_nil e
 |true=>exact e
theorem xF(ha:PT X a tA)(hb:PW X (.BoolOp .And (b::rest) pos) tB'):PW X (.BoolOp .And (a::b::rest) pos) (tAnd tA tB'):=by
 intro wh pins s σ H Q I h;refine isTrue_and (thn (ha pins s σ H _ I h) λc s1 ⟨H1,I1,q1⟩=>?_);cases c with
 |true=>exact hb wh pins s1 σ H1 Q I1 q1
 |false=>exact⟨H1,I1,q1⟩
theorem t9(ha:PT X a tA)(hb:PW X (.BoolOp .Or (b::rest) pos) tB'):PW X (.BoolOp .Or (a::b::rest) pos) (tOr tA tB'):=by
 intro wh pins s σ H Q I h;refine isTrue_or (thn (ha pins s σ H _ I h) λc s1 ⟨H1,I1,q1⟩=>?_);cases c with
 |true=>exact⟨H1,I1,q1⟩
 |false=>exact hb wh pins s1 σ H1 Q I1 q1
theorem yJ(ha:PT X a tA):PT X (.UnaryOp .Not a pos) (tNot tA):=by intro pins s σ H Q I h;exact isTrue_not (ha pins s σ H (λc H1=>Q (!c) H1) I h)
def Jh(ta tb:TE):TE:=λσ H Q=>ta σ H λx H1=>∃c,x=.bl c/\if c=true then tb σ H1 Q else Q (.bl false) H1
def tOrV(ta tb:TE):TE:=λσ H Q=>ta σ H λx H1=>∃c,x=.bl c/\if c=true then Q (.bl true) H1 else tb σ H1 Q
def Jm(ta:TE):TE:=λσ H Q=>ta σ H λx H1=>∃c,x=.bl c/\Q (.bl (!c)) H1
theorem tz{op}(h:PE X a t):PE X (.BoolOp op [a] pos) t:=λpins s σ H Q I hw=>BoolOp_one (h pins s σ H Q I hw)
theorem Bv(ha:PE X a ta)(hb:PE X (.BoolOp .And (b::rest) pos) tb):PE X (.BoolOp .And (a::b::rest) pos) (Jh ta tb):=by
 intro pins s σ H Q I h;refine BoolOp_and (thn (ha pins s σ H _ I h) λv s1 ⟨x,H1,I1,r1,q1⟩=>?_);obtain⟨c,rfl,q1⟩:=q1;cases r1
 refine iX ?_;cases c with
 |true=>exact hb pins s1 σ H1 Q I1 q1
 |false=>exact⟨.bl false,H1,I1,rfl,q1⟩
theorem KN(ha:PE X a ta)(hb:PE X (.BoolOp .Or (b::rest) pos) tb):PE X (.BoolOp .Or (a::b::rest) pos) (tOrV ta tb):=by
 intro pins s σ H Q I h;refine BoolOp_or (thn (ha pins s σ H _ I h) λv s1 ⟨x,H1,I1,r1,q1⟩=>?_);obtain⟨c,rfl,q1⟩:=q1;cases r1
 refine iX ?_;cases c with
 |false=>exact hb pins s1 σ H1 Q I1 q1
 |true=>exact⟨.bl true,H1,I1,rfl,q1⟩
theorem Gp(ha:PE X a ta):PE X (.UnaryOp .Not a pos) (Jm ta):=by
 intro pins s σ H Q I h;refine UnaryOp_ (thn (ha pins s σ H _ I h) λv s1 ⟨x,H1,I1,r1,q1⟩=>?_);obtain⟨c,rfl,q1⟩:=q1;cases r1
 exact not_of (iX ⟨.bl (!c),H1,I1,rfl,q1⟩)
def tIf(t:TT)(ta tb:TE):TE:=λσ H Q=>t σ H λc H1=>if c=true then ta σ H1 Q else tb σ H1 Q
theorem wW(hc:PT X c tA)(ha:PE X a ta)(hb:PE X b tb):PE X (.IfExp c a b pos) (tIf tA ta tb):=by
 intro pins s σ H Q I h;refine wpAny_IfExp (thn (hc pins s σ H _ I h) λd s1 ⟨H1,I1,q1⟩=>?_);cases d with
 |true=>exact ha pins s1 σ H1 Q I1 q1
 |false=>exact hb pins s1 σ H1 Q I1 q1
end
def SqL(K:jj)(H:Hp)(a:Addr)(xs:List V):Prop :=
 Rd H a (.lst xs) \/
  ∃ (o:Obj) (its:Array Value) (n:Nat),K.lookup a=some o/\o.cls=.type "list"/\o.dict=none/\o.data=.seq its n/\its.size<=sizeLine/\Vals xs its.toList
def SqT(K:jj)(H:Hp)(a:Addr)(xs:List V):Prop :=
 Rd H a (.tup xs) \/
  ∃ (o:Obj) (its:Array Value) (n:Nat),K.lookup a=some o/\o.cls=.type "tuple"/\o.data=.seq its n/\its.size<=sizeLine/\Vals xs its.toList
def absV:Value->Option V
 | .none=>some .non
 | .bool b=>some (.bl b)
 | .int i _=>some (.int i)
 | .str x _=>some (.str x)
 | .bytes b _=>some (.byt b)
 | .float b _=>some (.flt b)
 | .ref a=>some (.ref a)
 | .type n=>some (.ty n)
 |_=>none
theorem RelV.abs{x:V}{u:Value}(r:RelV x u):absV u=some x:=by
 cases x with
 |non=>cases r;rfl
 |bl _=>cases r;rfl
 |int _=>obtain⟨t,rfl⟩:=r;rfl
 |str _=>obtain⟨t,rfl⟩:=r;rfl
 |byt _=>obtain⟨t,rfl⟩:=r;rfl
 |flt _=>obtain⟨t,rfl⟩:=r;rfl
 |ref _=>cases r;rfl
 |ty _=>cases r;rfl
theorem RelV.inj{x y:V}{u:Value}(r:RelV x u)(q:RelV y u):x=y:=aJ (r.abs.symm.trans q.abs)
theorem Vals.inj:∀{xs ys:List V}{us:List Value},Vals xs us->Vals ys us->xs=ys
 |_,_,_,.nil,.nil=>rfl
 |_,_,_,.cons r t,.cons r' t'=>by rw[r.inj r',Vals.inj t t']
section
variable{X:Cx}{pins:List (Addr×Obj)}{σ:St}{s:Shared}{xs ys:List V}
theorem SqL.of{K:jj}(h:H a=some (.lst xs)):SqL K H a xs:=.inl (.inl h)
theorem SqT.of{K:jj}(h:H a=some (.tup xs)):SqT K H a xs:=.inl (.inl h)
theorem Inv.list(I:Inv X pins σ H s)(h:SqL X.K H a xs):∃its:List Value,Vals xs its/\PlainL s.heap a its.toArray/\xs.length<=sizeLine:=by
 rcases h with h|⟨o,its,n,hk,hc,hd,hs,hz,r⟩
 .obtain⟨z,its,n,r,e⟩:=h.ok I.hok;exact⟨its,r,⟨_,n,e,rfl,rfl,rfl⟩,z⟩
 .refine⟨its.toList,r,⟨o,n,I.kIn a o hk,hc,hd,by simpa using hs⟩,?_⟩;have e:=r.length;simp only[eP]at e;omega
theorem Inv.tuple(I:Inv X pins σ H s)(h:SqT X.K H a xs):∃its:List Value,Vals xs its/\IsTup s.heap a its.toArray/\xs.length<=sizeLine:=by
 rcases h with h|⟨o,its,n,hk,hc,hs,hz,r⟩
 .obtain⟨z,its,r,p⟩:=h.ok I.hok;exact⟨its,r,p,z⟩
 .refine⟨its.toList,r,⟨o,I.kIn a o hk,hc,n,by simpa using hs⟩,?_⟩;have e:=r.length;simp only[eP]at e;omega
theorem Inv.list_inj(I:Inv X pins σ H s)(h:SqL X.K H a xs)(h':SqL X.K H a ys):xs=ys:=by
 obtain⟨its,r,⟨o,n,e,_,_,d⟩,_⟩:=I.list h;obtain⟨its',r',⟨o',n',e',_,_,d'⟩,_⟩:=I.list h';rw[e]at e';cases e';rw[d]at d';injection d' with d1 _;have:its=its':=by simpa using congrArg Array.toList d1
 subst this;exact r.inj r'
theorem Inv.tuple_inj(I:Inv X pins σ H s)(h:SqT X.K H a xs)(h':SqT X.K H a ys):xs=ys:=by
 obtain⟨its,r,⟨o,e,_,n,d⟩,_⟩:=I.tuple h;obtain⟨its',r',⟨o',e',_,n',d'⟩,_⟩:=I.tuple h';rw[e]at e';cases e';rw[d]at d';injection d' with d1 _;have:its=its':=by simpa using congrArg Array.toList d1
 subst this;exact r.inj r'
end
abbrev Cx.wish(X:Cx)(E:Value->Shared->Prop):Cx:={ X with xe:=E }
abbrev Cx.nox(X:Cx):Cx:=X.wish λ_ _=>False
theorem Cx.Ok.wish{X:Cx}(ok:X.Ok)(E:Value->Shared->Prop):(X.wish E).Ok :=
 ⟨ok.mod,ok.kind,ok.glob,ok.blt,ok.above,ok.inj,ok.has,ok.cab,ok.hd,ok.frames,ok.stk,ok.exf,ok.bs,ok.bsz,ok.noex,ok.exfs,ok.funs,ok.frf⟩
theorem Cx.Ok.unwish{X:Cx}(ok:(X.wish E).Ok):X.Ok :=
 ⟨ok.mod,ok.kind,ok.glob,ok.blt,ok.above,ok.inj,ok.has,ok.cab,ok.hd,ok.frames,ok.stk,ok.exf,ok.bs,ok.bsz,ok.noex,ok.exfs,ok.funs,ok.frf⟩
section
variable{X:Cx}{pins:List (Addr×Obj)}{σ:St}{s:Shared}{E:Value->Shared->Prop}
theorem Inv.wish(I:Inv X pins σ H s)(E:Value->Shared->Prop):Inv (X.wish E) pins σ H s:=⟨I.ok.wish E,I.os,I.bare,I.base,I.loc,I.cell,I.free,I.freeC,I.pin,I.hok,I.len⟩
theorem Inv.unwish(I:Inv (X.wish E) pins σ H s):Inv X pins σ H s:=⟨I.ok.unwish,I.os,I.bare,I.base,I.loc,I.cell,I.free,I.freeC,I.pin,I.hok,I.len⟩
theorem SP.unwish{D:Ends}{f:Flow}{s':Shared}(h:SP (X.wish E) pins D f s'):SP X pins D f s':=by
 cases f with
 |next=>obtain⟨σ',H',I,q⟩:=h;exact⟨σ',H',I.unwish,q⟩
 |brk=>obtain⟨σ',H',I,q⟩:=h;exact⟨σ',H',I.unwish,q⟩
 |cont=>obtain⟨σ',H',I,q⟩:=h;exact⟨σ',H',I.unwish,q⟩
 |ret u=>obtain⟨v,σ',H',I,r,q⟩:=h;exact⟨v,σ',H',I.unwish,r,q⟩
theorem PSs.nox{st:List Stmt}{t:TS}(h:PSs X.nox st t):PSs X st t:=λpins s σ H D I hw =>
 iW (h pins s σ H D (I.wish _) hw) (λ_ _ q=>q.unwish) λ_ _ z=>False.elim z
end
variable{tc:TT}
section
variable{X:Cx}{st:Stmt}{rest:List Stmt}{t u:TS}{e:Expr}{te:TE}{pos:Pos}
def J5:TS:=λD σ H=>D.nx σ H
def tSeq(t u:TS):TS:=λD σ H=>t { D with nx:=u D } σ H
theorem zn:PSs X [] J5:=λ_ _ σ H _ I h=>iY ⟨σ,H,I,h⟩
theorem za(h1:PS X st t)(h2:PSs X rest u):PSs X (st::rest) (tSeq t u):=by
 intro pins s σ H D I h;refine wpAny_execs_cons (thn (h1 pins s σ H { D with nx:=u D } I h) λf s1 q=>?_);cases f with
 |next =>
  obtain⟨σ',H',I',q⟩:=q;exact h2 pins s1 σ' H' D I' q
 |ret v=>exact q
 |brk=>exact q
 |cont=>exact q
theorem zc(h1:PS X st t):PSs X [st] t:=by
 intro pins s σ H D I h;refine wpAny_execs_cons (thn (h1 pins s σ H D I h) λf s1 q=>?_);cases f with
 |next=>exact iY q
 |ret v=>exact q
 |brk=>exact q
 |cont=>exact q
theorem Inv.quiet{σ:St}{s:Shared}(I:Inv X pins σ H s):interactive X.env=false:=by simp[interactive,I.ok.kind]
def Km(te:TE):TS:=λD σ H=>te σ H λ_ H1=>D.nx σ H1
theorem zZ(he:PE X e te)(hs:swapsWith e none pos.line X.env=pure false:=by rfl):PS X (.Expr e pos) (Km te):=by intro pins s σ H D I h;exact wpAny_Expr_any (thn (he pins s σ H _ I h) λv s1 ⟨x,H1,I1,r1,q1⟩=>⟨σ,H1,I1,q1⟩) I.quiet hs
def tRet(te:TE):TS:=λD σ H=>te σ H D.rt
theorem zi(he:PE X e te):PS X (.Return (some e) pos) (tRet te):=by intro pins s σ H D I h;exact wpAny_Return_some (thn (he pins s σ H _ I h) λv s1 ⟨x,H1,I1,r1,q1⟩=>⟨x,σ,H1,I1,r1,q1⟩)
def tIfS(c:TT)(t u:TS):TS:=λD σ H=>c σ H λb H1=>if b=true then t D σ H1 else u D σ H1
theorem zy{a b:List Stmt}(hc:PT X c tc)(ha:PSs X a t)(hb:PSs X b u):PS X (.If c a b pos) (tIfS tc t u):=by
 intro pins s σ H D I h;refine wpAny_If (thn (hc pins s σ H _ I h) λd s1 ⟨H1,I1,q1⟩=>?_);cases d with
 |true=>exact ha pins s1 σ H1 D I1 q1
 |false=>exact hb pins s1 σ H1 D I1 q1
def Gb:TS:=λ_ _ _=>False
theorem yA:PS X st Gb:=λ_ _ _ _ _ _ h=>h.elim
theorem DA{sts:List Stmt}:PSs X sts Gb:=λ_ _ _ _ _ _ h=>h.elim
end
abbrev TG:=V->St->Hp->(St->Hp->Prop)->Prop
abbrev TGs:=List V->St->Hp->(St->Hp->Prop)->Prop
def PG(X:Cx)(target:Expr)(t:TG):Prop :=
 ∀(pins:List (Addr×Obj))(s:Shared)(σ:St)(H:Hp)(v:V)(u:Value)(Q:St->Hp->Prop),Inv X pins σ H s->RelV v u->t v σ H Q ->
  wpAny (model X.prog X.w) X.A (assign target X.env u) (λ_ s'=>∃σ' H',Inv X pins σ' H' s'/\Q σ' H') X.xe s
def PGs(X:Cx)(ts:List Expr)(t:TGs):Prop :=
 ∀(pins:List (Addr×Obj))(s:Shared)(σ:St)(H:Hp)(vs:List V)(us:List Value)(Q:St->Hp->Prop),Inv X pins σ H s->Vals vs us->t vs σ H Q ->
  wpAny (model X.prog X.w) X.A (assignInOrder ((assignEach ts X.env).map (·.2)) us) (λ_ s'=>∃σ' H',Inv X pins σ' H' s'/\Q σ' H') X.xe s
variable{X:Cx}{pos:Pos}
def Cv(i:Nat):TG:=λv σ H Q=>Q (σ.set i (some v)) H
theorem Hs{i:Nat}{x:Str}(hN:X.N.Nodup)(hi:X.N[i]?=some x)(hx:Loc X.env.scope x)(hf:X.fn x=true\/X.env.scope.names.lookup x=some .local:=by first|exact .inl rfl|exact .inr rfl|assumption):PG X (.Name x pos) (Cv i):=by intro pins s σ H v u Q I r h;exact wpAny_assign_Name (vg I hN hi hx r (λs' I'=>⟨_,H,I',h⟩) hf)
def gNil:TGs:=λvs σ H Q=>vs=[]/\Q σ H
def Jr(t:TG)(u:TGs):TGs:=λvs σ H Q=>∃v r,vs=v::r/\t v σ H λσ' H'=>u r σ' H' Q
theorem yP:PGs X [] gNil:=by
 intro pins s σ H vs us Q I r h;obtain⟨e,h⟩:=h;subst e;cases r
 exact assignInOrder_nil ⟨σ,H,I,h⟩
theorem zA{e:Expr}{es:List Expr}{t:TG}{u:TGs}(h1:PG X e t)(h2:PGs X es u)(hs:(assignEach (e::es) X.env).map (·.2)=assign e X.env::(assignEach es X.env).map (·.2):=by rfl):PGs X (e::es) (Jr t u):=by
 intro pins s σ H vs us Q I r h;obtain⟨v,vr,e1,h⟩:=h;subst e1;cases r with
 |cons r rr =>
  rw[hs];refine iZ (thn (h1 pins s σ H _ _ _ I r h) λ_ s1 ⟨σ1,H1,I1,q1⟩=>?_);exact h2 pins s1 σ1 H1 _ _ Q I1 rr q1
def gTup(K:jj)(n:Nat)(t:TGs):TG:=λv σ H Q=>∃a xs,v=.ref a/\SqT K H a xs/\xs.length=n/\t xs σ H Q
theorem xZ{es:List Expr}{k:Nat}{t:TGs}{n:Nat}(hc:X.calm=true)(h:PGs X es t)(hn:(assignEach es X.env).length=n:=by rfl)(hst:(assignEach es X.env).findIdx? (·.1)=none:=by rfl):PG X (.Tuple es k pos) (gTup X.K n t):=by
 intro pins s σ H v u Q I r hw;obtain⟨a,xs,e1,hq,hl,hw⟩:=hw;subst e1;cases r
 obtain⟨its,rv,ht,hz⟩:=I.tuple hq;refine assign_Tuple_tuple (I.ok.hd hc) ht (by simp[hn,<-hl,rv.length]) hst λh' hx=>?_;have I1:Inv X pins σ H { s with heap:=h' }:=I.kept (t':=s.toks) λb o e=>hx b o (aR (Heap.lt_size e)) e;exact h pins _ σ H xs _ Q I1 (by simpa using rv) hw
def tAsg(te:TE)(g:TG):TS:=λD σ H=>te σ H λx H1=>g x σ H1 D.nx
variable{g:TG}
theorem B7{tg e:Expr}{te:TE}(he:PE X e te)(hg:PG X tg g)(hs:swapsWithSole [tg] e pos.line X.env=pure false:=by rfl)(hw:swappedStores [tg] e X.env=pure none:=by rfl)(h1:(assignEach [tg] X.env).map (·.2)=[assign tg X.env]:=by rfl):PS X (.Assign [tg] e pos) (tAsg te g):=by intro pins s σ H D I h;refine wpAny_Assign_stores (thn (he pins s σ H _ I h) λv s1 ⟨x,H1,I1,r1,q1⟩=>?_) hs hw;rw[h1];exact thn (hg pins s1 σ H1 x v _ I1 r1 q1) λ_ s2 q=>q
theorem IX{i:Nat}{x:Str}{e:Expr}{te:TE}{pos':Pos}(hN:X.N.Nodup)(hi:X.N[i]?=some x)(hx:Loc X.env.scope x)(he:PE X e te)(hs:swapsWith e (some (.Name x pos')) pos.line X.env=pure false:=by rfl)(hf:X.fn x=true\/X.env.scope.names.lookup x=some .local:=by first|exact .inl rfl|exact .inr rfl|assumption):
  PS X (.Assign [.Name x pos'] e pos) (tAsg te (Cv i)):=by
 intro pins s σ H D I h;refine wpAny_Assign_Name (thn (he pins s σ H _ I h) λv s1 ⟨y,H1,I1,r1,q1⟩=>?_) hs;exact vg I1 hN hi hx r1 (λs2 I2=>⟨_,H1,I2,q1⟩) hf
def tPar(i j:Nat)(ta:TA):TS:=λD σ H=>ta σ H λvs H1=>∃v w,vs=[v,w]/\D.nx ((σ.set i (some v)).set j (some w)) H1
theorem Ji{i j:Nat}{x y:Str}{a b:Expr}{ta:TA}{px py pt:Pos}{kt k2 pt2}(hc:X.calm=true)(hN:X.N.Nodup)(hi:X.N[i]?=some x)(hj:X.N[j]?=some y)(hij:i≠j)(hx:X.env.scope.names.lookup x=some .local)(hy:X.env.scope.names.lookup y=some .local)(ha:PA X [a,b] ta)(hw:swappedStores [.Tuple [.Name x px,.Name y py] kt pt] (.Tuple [a,b] k2 pt2) X.env=pure (some [x,y]))(hs:swapsWithSole [.Tuple [.Name x px,.Name y py] kt pt] (.Tuple [a,b] k2 pt2) pos.line X.env=pure false:=by rfl):
  PS X (.Assign [.Tuple [.Name x px,.Name y py] kt pt] (.Tuple [a,b] k2 pt2) pos) (tPar i j ta):=by
 intro pins s σ H D I h;rw[exec_Assign_arm];refine i4 (i5 ?_);rw[hs];refine i4 (i6 ?_);rw[iV (by decide)];refine i4 (Tuple_ (thn (ha _ pins s σ H _ I h) λus s1 ⟨vs,H1,I1,r1,q1⟩=>?_));obtain⟨v,w,e1,q1⟩:=q1;subst e1;obtain⟨u1,u2,rfl,rv,rw'⟩:∃u1 u2,us=[u1,u2]/\RelV v u1/\RelV w u2:=by
  cases r1 with
  |cons p q =>
   cases q with
   |cons p' q' =>
    cases q'
    exact⟨_,_,rfl,p,p'⟩
 refine i7 ?_ (by show 2<=sizeLine;decide);have I2:Inv X pins σ H1 { s1 with heap:=s1.heap.push { cls:=.type "tuple",data:=.seq [u1,u2].toArray } }:=I1.kept (t':=s1.toks) λb o e=>Heap.get?_push_of_some _ e;rw[hw];refine i4 (i6 ?_);show wpAny (model X.prog X.w) X.A (do rule "assign.swapped-stores";let items <-unpackItems (.ref s1.heap.objs.size) 2 none;assignInOrder [λv=>bindName X.env y v,λv=>bindName X.env x v] items.reverse;pure Flow.next) _ _ _;refine i4 (wpAny_rule (i4 (unpackItems_tuple (items:=#[u1,u2]) (I.ok.hd hc) (IsTup.new s1.heap _) λh' hx'=>?_)));have I3:=I2.kept (h':=h') (t':=s1.toks) λb o e=>hx' b o (aR (Heap.lt_size e)) e;show wpAny _ _ (assignInOrder [λv=>bindName X.env y v,λv=>bindName X.env x v] [u2,u1] >>= λ_=>pure Flow.next) _ _ _;refine i4 (iZ (wpAny_bindName (vg I3 hN hj (.inl hy) rw' (λs2 I4=>?_) (.inr hy))));refine iZ (wpAny_bindName (vg I4 hN hi (.inl hx) rv (λs3 I5=>assignInOrder_nil (i6 ?_)) (.inr hx)));rw[List.set_comm _ _ (cH hij)]at I5;exact⟨_,H1,I5,q1⟩
def Cd(c:TT)(tb:TS):TS:=λD σ H=>∃W:Nat->St->Hp->Prop,(∃m,W m σ H)/\∀m σ H,W m σ H ->
 c σ H λb H1=>if b=true then ∃N:St->Hp->Prop,(∀σ' H',N σ' H'->∃m',m'<m/\W m' σ' H')/\tb { D with nx:=N,ct:=N,bk:=D.nx } σ H1 else D.nx σ H1
variable{body:List Stmt}
theorem xy{tb:TS}(hp:PassesOwn (model X.prog X.w) X.A X.env X.xe)(hc:PT X c tc)(hb:PSs X body tb):PS X (.While c body [] pos) (Cd tc tb):=by
 intro pins s σ H D I h;obtain⟨W,⟨m0,w0⟩,turn⟩:=h;refine wpAny_While (codeAny_whileLoop (λn s'=>∃σ' H',Inv X pins σ' H' s'/\W n σ' H') ?_ m0 ⟨σ,H,I,w0⟩);rintro n s1 ⟨σ1,H1,I1,w1⟩;refine i8 hp (thn (hc pins s1 σ1 H1 _ I1 (turn n σ1 H1 w1)) λb s2 ⟨H2,I2,q2⟩=>?_);cases b with
 |true =>
  obtain⟨N,hN,q2⟩:=q2;rw[iU rfl];refine i8 hp (thn (hb pins s2 σ1 H2 _ I2 q2) λf s3 q3=>?_);cases f with
  |next =>
   obtain⟨σ3,H3,I3,n3⟩:=q3;obtain⟨m',hm,w3⟩:=hN σ3 H3 n3;exact⟨m',hm,σ3,H3,I3,w3⟩
  |cont =>
   obtain⟨σ3,H3,I3,n3⟩:=q3;obtain⟨m',hm,w3⟩:=hN σ3 H3 n3;exact⟨m',hm,σ3,H3,I3,w3⟩
  |brk=>exact q3
  |ret v=>exact q3
 |false =>
  rw[iV aX];exact iY ⟨σ1,H2,I2,q2⟩
structure It where
 go:Nat->Hp->Prop
 yld:Nat->Hp->V->Hp->Prop
 stop:Nat->Hp->Prop
def FpOk(X:Cx)(pins:List (Addr×Obj))(H:Hp)(b:Addr):Prop :=
 H b=none/\b≠X.env.locals/\b∉X.fs/\(b∈X.ex\/X.s₀.heap.objs.size<=b)/\(∀x c,X.env.cells.lookup x=some c->c≠b)/\∀p∈X.pn++pins,p.1≠b
theorem Inv.fpOk{σ:St}{s:Shared}{b:Addr}(I:Inv X pins σ H s)(hb:s.heap.objs.size<=b)(hn:H' b=none):FpOk X pins H' b:=by
 refine⟨hn,iu (aQ I.lt hb),I.nofs hb,.inr (cf I.sz hb),λx c e z=>?_,λp hp z=>?_⟩
 .obtain⟨v,q⟩:=I.cell x c e;exact absurd (aQ q.lt (by rw[z];exact hb)) (dm _)
 .exact absurd (aQ (Heap.lt_size (I.pin p hp).1) (by rw[z];exact hb)) (dm _)
structure Turn(P:Program)(w:World)(K:jj)(tg:Expr)(J:It)(fp:List Addr)(it:Addr)(tn:Nat->Heap->Prop):Prop where
 mem:it∈fp
 obj:∀i h,tn i h->∀b∈fp,∃o,h.get? b=some o/\∀v,o.data≠.cell v
 keep:∀i h h',tn i h->(∀b∈fp,∀o,h.get? b=some o->h'.get? b=some o)->tn i h'
 item:∀(X:Cx),X.prog=P->X.w=w->X.K=K->X.calm=true->∀(i:Nat)(pins:List (Addr×Obj))(s:Shared)(σ:St)(H:Hp)(E:Value->Shared->Prop),Inv X pins σ H s->(∀b∈fp,FpOk X pins H b)->tn i s.heap->J.go i H ->
  wpAny (model P w) X.A (pyNext (.ref it)) (λr s1=>∃u,r=some u /\
   wpAny (model P w) X.A (letOwnedTupleGo tg (.ref it) u) (λ_ s2=>∃x H',Inv X pins σ H' s2/\RelV x u/\J.yld i H x H'/\tn (i+1) s2.heap/\∀b∈fp,H' b=none) E s1) E s
 done:∀(X:Cx),X.prog=P->X.w=w->X.K=K->X.calm=true->∀(i:Nat)(pins:List (Addr×Obj))(s:Shared)(σ:St)(H:Hp)(E:Value->Shared->Prop),Inv X pins σ H s->(∀b∈fp,FpOk X pins H b)->tn i s.heap->J.stop i H ->
  wpAny (model P w) X.A (pyNext (.ref it)) (λr s1=>r=none/\Inv X pins σ H s1) E s
 self:∀(A:Around)(i:Nat)(s:Shared)(Q:Value->Shared->Prop)(E:Value->Shared->Prop),tn i s.heap->Q (.ref it) s->wpAny (model P w) A (pyIter (.ref it)) Q E s
abbrev TI:=St->Hp->(It->Hp->Prop)->Prop
def PIE(X:Cx)(pins:List (Addr×Obj))(σ:St)(tg:Expr)(R:It->Hp->Prop)(itv:Value)(s2:Shared):Prop :=
 ∃ (it:Addr) (fp:List Addr) (tn:Nat->Heap->Prop) (J:It) (H':Hp),itv=.ref it/\Inv X pins σ H' s2/\Turn X.prog X.w X.K tg J fp it tn/\tn 0 s2.heap/\(∀b∈fp,FpOk X pins H' b)/\R J H'
def PI(X:Cx)(tg iter:Expr)(wi:TI):Prop :=
 ∀(pins:List (Addr×Obj))(s:Shared)(σ:St)(H:Hp)(R:It->Hp->Prop),Inv X pins σ H s->wi σ H R ->
  wpAny (model X.prog X.w) X.A (eval iter X.env) (λv s1=>wpAny (model X.prog X.w) X.A (pyIter v) (PIE X pins σ tg R) X.xe s1) X.xe s
theorem Dl{A:Around}{s:Shared}{tg:Expr}{u:Value}{o:Obj}{n:String}{vs:Array Value}{Q:Unit->Shared->Prop}(ho:s.heap.get? it=some o)(hc:o.cls=.type n)(hd:o.data=.fields vs)(hn:["enumerate","zip","dict_itemiterator","dict_reverseitemiterator","odict_iterator","itertools.zip_longest","itertools.pairwise"].contains n=false)(hQ:Q () s):wpAny M A (letOwnedTupleGo tg (.ref it) u) Q E s:=by
 unfold letOwnedTupleGo;cases tg<;>first
  |exact i6 hQ
  |(cases u<;>first
    |exact i6 hQ
    |(refine i4 (wpAny_load ho ?_);rw[hc,hd];show wpAny M A (if (["enumerate","zip","dict_itemiterator","dict_reverseitemiterator","odict_iterator","itertools.zip_longest","itertools.pairwise"].contains n && vs[0]?==some (rawInt _))=true then _ else _) Q E s;rw[iV (by intro h;rw[hn,Bool.false_and]at h;cases h)];exact i6 hQ))
def Itl(K:jj)(a:Addr):It :=
 ⟨λi H=>∃xs x,SqL K H a xs/\xs[i]?=some x,λi H x H'=>H'=H/\∀xs,SqL K H a xs->xs[i]?=some x,λi H=>∃xs,SqL K H a xs/\xs.length<=i⟩
def Itt(K:jj)(a:Addr):It :=
 ⟨λi H=>∃xs x,SqT K H a xs/\xs[i]?=some x,λi H x H'=>H'=H/\∀xs,SqT K H a xs->xs[i]?=some x,λi H=>∃xs,SqT K H a xs/\xs.length<=i⟩
def Itr(lo:Int)(n:Nat):It:=⟨λi _=>i<n,λi H x H'=>H'=H/\x=.int (lo+i),λi _=>n<=i⟩
theorem Ez{K:jj}{tg:Expr}(a it:Addr):Turn P w K tg (Itl K a) [it] it (λi h=>h.IsListIter it a i) where
 mem:=by simp
 obj:=λi h st b hb=>by
  have e:b=it:=by simpa using hb
  subst e;obtain⟨o,e,c,d⟩:=st;exact⟨o,e,λv z=>by rw[d]at z;cases z⟩
 keep:=λi h h' st k=>st.at λo e=>k it (!1) o e
 item:=by intro X hP hw hK hc i pins s σ H E I hf st hg;subst hP hw hK;obtain⟨xs,x,hq,hx⟩:=hg;obtain⟨its,rv,p,hz⟩:=I.list hq;obtain⟨u,hu,ru⟩:=rv.get hx;obtain⟨f0,f1,f2,f3,f4,f5⟩:=hf it (!1);refine i9 st p.isList (x:=u) (by simpa using hu) λh' st' sb=>?_;have I1:Inv X pins σ H { s with heap:=h' }:=I.turned (t':=s.toks) (λb o hb e=>(sb.2 b hb).trans e) f0 f1 f3 f4 f5;obtain⟨o,e,c,d⟩:=id st';exact⟨u,rfl,Dl (s:={ s with heap:=h' }) e c d (by decide) ⟨x,H,I1,ru,⟨rfl,λys hy=>by rw[I.list_inj hy hq];exact hx⟩,st',λb hb=>(hf b hb).1⟩⟩
 done:=by intro X hP hw hK hc i pins s σ H E I hf st hg;subst hP hw hK;obtain⟨xs,hq,hx⟩:=hg;obtain⟨its,rv,p,hz⟩:=I.list hq;obtain⟨f0,f1,f2,f3,f4,f5⟩:=hf it (!1);have hl:=rv.length;exact ja (I.ok.hd hc) st p.isList (by simp;omega) λh' eb=>⟨rfl,I.turned (t':=s.toks) (λb o hb e=>eb b o hb e) f0 f1 f3 f4 f5⟩
 self:=λ_ _ _ _ _ st h=>wpAny_pyIter_listiter st h
theorem CG{K:jj}{tg:Expr}(a it:Addr):Turn P w K tg (Itt K a) [it] it (λi h=>h.IsTupleIter it a i) where
 mem:=by simp
 obj:=λi h st b hb=>by
  have e:b=it:=by simpa using hb
  subst e;obtain⟨o,e,c,d⟩:=st;exact⟨o,e,λv z=>by rw[d]at z;cases z⟩
 keep:=λi h h' st k=>st.at λo e=>k it (!1) o e
 item:=by intro X hP hw hK hc i pins s σ H E I hf st hg;subst hP hw hK;obtain⟨xs,x,hq,hx⟩:=hg;obtain⟨its,rv,p,hz⟩:=I.tuple hq;obtain⟨u,hu,ru⟩:=rv.get hx;obtain⟨f0,f1,f2,f3,f4,f5⟩:=hf it (!1);refine wpAny_pyNext_tuple_item st (show s.heap.IsTuple a its.toArray from p) (x:=u) (by simpa using hu) λh' st' sb=>?_;have I1:Inv X pins σ H { s with heap:=h' }:=I.turned (t':=s.toks) (λb o hb e=>(sb.2 b hb).trans e) f0 f1 f3 f4 f5;obtain⟨o,e,c,d⟩:=id st';exact⟨u,rfl,Dl (s:={ s with heap:=h' }) e c d (by decide) ⟨x,H,I1,ru,⟨rfl,λys hy=>by rw[I.tuple_inj hy hq];exact hx⟩,st',λb hb=>(hf b hb).1⟩⟩
 done:=by intro X hP hw hK hc i pins s σ H E I hf st hg;subst hP hw hK;obtain⟨xs,hq,hx⟩:=hg;obtain⟨its,rv,p,hz⟩:=I.tuple hq;obtain⟨f0,f1,f2,f3,f4,f5⟩:=hf it (!1);have hl:=rv.length;exact wpAny_pyNext_tuple_end (I.ok.hd hc) st (show s.heap.IsTuple a its.toArray from p) (by simp;omega) λh' eb=>⟨rfl,I.turned (t':=s.toks) (λb o hb e=>eb b o hb e) f0 f1 f3 f4 f5⟩
 self:=λ_ _ _ _ _ st h=>wpAny_pyIter_tupleiter st h
theorem CB{K:jj}{tg:Expr}(it:Addr)(lo:Int)(n:Nat):Turn P w K tg (Itr lo n) [it] it (λi h=>IsRangeIter h it (lo+(i:Nat)*1) ((n:Int) - (i:Nat)) 1) where
 mem:=by simp
 obj:=λi h st b hb=>by
  have e:b=it:=by simpa using hb
  subst e;exact⟨_,st,λv z=>by have z':Data.fields _=Data.cell v:=z;cases z'⟩
 keep:=λi h h' st k=>k it (!1) _ st
 item:=by intro X hP hw hK hc i pins s σ H E I hf st hg;subst hP hw hK;obtain⟨f0,f1,f2,f3,f4,f5⟩:=hf it (!1);have W:=Walks.range (prog:=X.prog) (w:=X.w) (I.ok.hd hc) it lo 1 n;refine W.item i s _ _ hg st λv h' tk hv st' kk=>?_;obtain⟨t,rfl⟩:=hv;have I1:Inv X pins σ H { s with heap:=h',toks:=tk }:=I.turned (λb o hb e=>kk b o (by simpa using hb) e) f0 f1 f3 f4 f5;refine⟨_,rfl,Dl (s:={ s with heap:=h',toks:=tk }) (n:="range_iterator") st' rfl rfl (by decide) ⟨.int (lo+i),H,I1,⟨t,?_⟩,⟨rfl,rfl⟩,st',λb hb=>(hf b hb).1⟩⟩;rw[dg]
 done:=by intro X hP hw hK hc i pins s σ H E I hf st hg;subst hP hw hK;obtain⟨f0,f1,f2,f3,f4,f5⟩:=hf it (!1);exact wpAny_pyNext_range_end (I.ok.hd hc) st (by have:n<=i:=hg;omega) λh' eb=>⟨rfl,I.turned (t':=s.toks) (λb o hb e=>eb b o hb e) f0 f1 f3 f4 f5⟩
 self:=λ_ _ _ _ _ st h=>wpAny_pyIter_rangeiter st h
variable{tg:Expr}
def GZ(K:jj)(tl:TE):TI:=λσ H R=>tl σ H λx H1=>∃a,x=.ref a/\(∃xs,SqL K H1 a xs)/\R (Itl K a) H1
def iTup(K:jj)(tl:TE):TI:=λσ H R=>tl σ H λx H1=>∃a,x=.ref a/\(∃xs,SqT K H1 a xs)/\R (Itt K a) H1
variable{l:Expr}{tl:TE}
theorem zG(hl:PE X l tl):PI X tg l (GZ X.K tl):=by
 intro pins s σ H R I h;refine thn (hl pins s σ H _ I h) λv s1 ⟨x,H1,I1,r1,q1⟩=>?_;obtain⟨a,e,⟨xs,hq⟩,q⟩:=q1;subst e;cases r1
 obtain⟨its,rv,p,hz⟩:=I1.list hq;refine jb p.isList ?_;refine⟨s1.heap.objs.size,[s1.heap.objs.size],_,_,H1,rfl,I1.kept (t':=s1.toks) λb o e=>Heap.get?_push_of_some _ e,Ez a _,⟨_,Heap.get?_push_size _ rfl,rfl,rfl⟩,λb hb=>?_,q⟩;have e:b=s1.heap.objs.size:=by simpa using hb
 subst e;exact I1.fpOk (ak _) (I1.hok.fresh (ak _))
theorem GQ(hl:PE X l tl):PI X tg l (iTup X.K tl):=by
 intro pins s σ H R I h;refine thn (hl pins s σ H _ I h) λv s1 ⟨x,H1,I1,r1,q1⟩=>?_;obtain⟨a,e,⟨xs,hq⟩,q⟩:=q1;subst e;cases r1
 obtain⟨its,rv,p,hz⟩:=I1.tuple hq;refine wpAny_pyIter_tuple (show s1.heap.IsTuple a its.toArray from p) ?_;refine⟨s1.heap.objs.size,[s1.heap.objs.size],_,_,H1,rfl,I1.kept (t':=s1.toks) λb o e=>Heap.get?_push_of_some _ e,CG a _,⟨_,Heap.get?_push_size _ rfl,rfl,rfl⟩,λb hb=>?_,q⟩;have e:b=s1.heap.objs.size:=by simpa using hb
 subst e;exact I1.fpOk (ak _) (I1.hok.fresh (ak _))
variable{lo:Int}
theorem BQ{σ:St}{s:Shared}{R:It->Hp->Prop}{hi:Int}{t u v:Tok}{tk:Nat}(I:Inv X pins σ H s)(h1:-(2 ^ 62)<=lo)(h2:lo<2 ^ 62)(h3:-(2 ^ 62)<=hi)(h4:hi<2 ^ 62)(q:R (Itr lo (hi - lo).toNat) H):wpAny (model X.prog X.w) X.A (pyIter (.ref s.heap.objs.size)) (PIE X pins σ tg R) E { s with heap:=s.heap.push { cls:=.type "range",data:=.fields #[.int lo t,.int hi u,.int 1 v] },toks:=tk }:=by
 refine wpAny_pyIter_range (IsRange.new ..) (small_one h1 h2 h3 h4) ?_;have I1:Inv X pins σ H { s with heap:=s.heap.push { cls:=.type "range",data:=.fields #[.int lo t,.int hi u,.int 1 v] },toks:=tk }:=I.kept λb o e=>Heap.get?_push_of_some _ e;refine⟨(s.heap.push { cls:=.type "range",data:=.fields #[.int lo t,.int hi u,.int 1 v] }).objs.size,[(s.heap.push { cls:=.type "range",data:=.fields #[.int lo t,.int hi u,.int 1 v] }).objs.size],_,_,H,rfl,
  I1.kept (t':=tk) λb o e=>Heap.get?_push_of_some _ e,CB _ lo (hi - lo).toNat,?_,λb hb=>?_,q⟩
 .have e1:lo+((0:Nat):Int)*1=lo:=by simp
  have e2:(((hi - lo).toNat:Nat):Int) - ((0:Nat):Int)=Builtin.Range.rangeSize lo hi 1:=by rw[rangeSize_one];split<;>omega
  show IsRangeIter _ _ (lo+((0:Nat):Int)*1) ((((hi - lo).toNat:Nat):Int) - ((0:Nat):Int)) 1;rw[e1,e2];exact Heap.get?_push_size _ rfl
 .have e:b=(s.heap.push { cls:=.type "range",data:=.fields #[.int lo t,.int hi u,.int 1 v] }).objs.size:=by simpa using hb
  subst e;exact I1.fpOk (ak _) (I1.hok.fresh (ak _))
def Hj(ta:TA):TI:=λσ H R=>ta σ H λvs H1=>∃j:Int,vs=[.int j]/\-(2 ^ 62)<=j/\j<2 ^ 62/\R (Itr 0 j.toNat) H1
def Iv(ta:TA):TI:=λσ H R=>ta σ H λvs H1=>∃i j:Int,vs=[.int i,.int j]/\(-(2 ^ 62)<=i/\i<2 ^ 62/\-(2 ^ 62)<=j/\j<2 ^ 62)/\R (Itr i (j - i).toNat) H1
theorem z9{a:Expr}{ta:TA}{p:Pos}(hg:Gl X "range")(hm:X.mg "range"=none)(ha:PA X [a] ta)(hs:starEach [a] X.env=[(false,eval a X.env)]:=by rfl):PI X tg (.Call (.Name "range" p) [a] [] pos) (Hj ta):=by
 intro pins s σ H R I h;refine Call_ (vw I hg hm boot_range (cW (thn (ha pos pins s σ H _ I h) λus s1 ⟨vs,H1,I1,r1,q1⟩=>?_) hs rfl));obtain⟨j,e,q1,q2,q⟩:=q1;subst e;cases r1 with
 |cons r rr =>
  cases rr
  obtain⟨t,rfl⟩:=r;exact call_range_1 (BQ I1 (by omega) (by omega) q1 q2 (by simpa using q))
theorem wf{a b:Expr}{ta:TA}{p:Pos}(hg:Gl X "range")(hm:X.mg "range"=none)(ha:PA X [a,b] ta)(hs:starEach [a,b] X.env=[(false,eval a X.env),(false,eval b X.env)]:=by rfl)(hs2:starEach [b] X.env=[(false,eval b X.env)]:=by rfl):
  PI X tg (.Call (.Name "range" p) [a,b] [] pos) (Iv ta):=by
 intro pins s σ H R I h;refine Call_ (vw I hg hm boot_range (cW (thn (ha pos pins s σ H _ I h) λus s1 ⟨vs,H1,I1,r1,q1⟩=>?_) (by rw[hs,hs2]) (by rw[hs2];rfl)));obtain⟨i,j,e,⟨q1,q2,q3,q4⟩,q⟩:=q1;subst e;cases r1 with
 |cons r rr =>
  cases rr with
  |cons r' rr =>
   cases rr
   obtain⟨t,rfl⟩:=r;obtain⟨t',rfl⟩:=r';exact call_range_2 (BQ I1 q1 q2 q3 q4 q)
def tFor(wi:TI)(g:TG)(tb:TS):TS:=λD σ H=>wi σ H λJ H1=>∃W:Nat->Nat->St->Hp->Prop,(∃m,W 0 m σ H1)/\∀i m σ H,W i m σ H ->
 (J.stop i H/\D.nx σ H)\/(J.go i H/\∃N:St->Hp->Prop,(∀σ' H',N σ' H'->∃m',m'<m/\W (i+1) m' σ' H')/\∀x H',J.yld i H x H'->g x σ H' λσ2 H2=>tb { D with nx:=N,ct:=N,bk:=D.nx } σ2 H2)
def Al(fp:List Addr)(h:Heap):List (Addr×Obj):=fp.filterMap λb=>(h.get? b).map λo=>(b,o)
variable{fp:List Addr}
theorem xE{b:Addr}{o:Obj}(hb:b∈fp)(e:h.get? b=some o):(b,o)∈Al fp h:=gG.mpr ⟨b,hb,by rw[e];rfl⟩
theorem DI{p:Addr×Obj}(hp:p∈Al fp h):p.1∈fp/\h.get? p.1=some p.2:=by
 obtain⟨b,hb,e⟩:=gG.mp hp;cases q:h.get? b with
 |none=>rw[q]at e;cases e
 |some o =>
  rw[q]at e;have e':(b,o)=p:=aJ e;subst e';exact⟨hb,q⟩
theorem Inv.pinned{σ:St}{s:Shared}(I:Inv X pins σ H s)(hf:∀b∈fp,FpOk X pins H b)(ho:∀b∈fp,∃o,s.heap.get? b=some o/\∀v,o.data≠.cell v):Inv X (pins++Al fp s.heap) σ H s :=
 I.pins_of λp hp=>(aE.mp hp).elim (λz=>I.pin p (a7 _ z)) λz=>by obtain⟨hb,e⟩:=DI z;obtain⟨f0,f1,f2,_⟩:=hf p.1 hb;obtain⟨o,e',d⟩:=ho p.1 hb;rw[e]at e';cases e';exact⟨e,f0,f1,f2,d⟩
theorem Inv.unpinned{pl:List (Addr×Obj)}{σ:St}{s:Shared}(I:Inv X (pins++pl) σ H s):Inv X pins σ H s:=I.pins_of λp hp=>I.pin p (a7 _ (cg _ hp))
theorem zU{iter:Expr}{wi:TI}{tb:TS}(hp:PassesOwn (model X.prog X.w) X.A X.env X.xe)(hc:X.calm=true)(hi:PI X tg iter wi)(hg:PG X tg g)(hb:PSs X body tb)(hs:∀x,foldedSetIterable iter X.env x=pure x:=by intro _;rfl):PS X (.For tg iter body [] pos) (tFor wi g tb):=by
 intro pins s σ H D I h;refine wpAny_For (thn (hi pins s σ H _ I h) λv s1 h1=>thn h1 λitv s2 h2=>?_) hs;obtain⟨it,fp,tn,J,H2,e,I2,T,st2,f2,W,⟨m0,w0⟩,turn⟩:=h2;subst e;have stat:∀{H':Hp},(∀b∈fp,H' b=none)->∀b∈fp,FpOk X pins H' b:=λhn b hb=>⟨hn b hb,(f2 b hb).2⟩
 refine codeAny_forLoop_any (λn s'=>∃i σ' H',Inv X pins σ' H' s'/\tn i s'.heap/\(∀b∈fp,H' b=none)/\W i n σ' H') ?_ m0 ⟨0,σ,H2,I2,st2,λb hb=>(f2 b hb).1,w0⟩;rintro n s3 ⟨i,σ3,H3,I3,st3,fr3,w3⟩;rcases turn i n σ3 H3 w3 with⟨stop,qn⟩|⟨go,N,hN,step⟩
 .refine i8 hp (thn (T.done X rfl rfl rfl hc i pins s3 σ3 H3 X.xe I3 (stat fr3) st3 stop) λr s4 ⟨hr,I4⟩=>?_);subst hr;exact iY ⟨σ3,H3,I4,qn⟩
 .refine i8 hp (thn (T.item X rfl rfl rfl hc i pins s3 σ3 H3 X.xe I3 (stat fr3) st3 go) λr s4 ⟨u,hr,h4⟩=>?_);subst hr;refine i8 hp (thn h4 λ_ s5 ⟨x,H5,I5,r5,y5,st5,fr5⟩=>?_);have I5':=I5.pinned (stat fr5) (T.obj _ _ st5);refine i8 hp (thn (hg _ s5 σ3 H5 x u _ I5' r5 (step x H5 y5)) λ_ s6 ⟨σ6,H6,I6,q6⟩=>?_);refine i8 hp (thn (hb _ s6 σ6 H6 _ I6 q6) λf s7 q7=>?_);have again:∀{σ7:St}{H7:Hp},Inv X (pins++Al fp s5.heap) σ7 H7 s7->N σ7 H7->∃m,m<n/\∃i σ' H',Inv X pins σ' H' s7/\tn i s7.heap/\(∀b∈fp,H' b=none)/\W i m σ' H':=λ{σ7 H7} I7 n7=>by
   obtain⟨m',hm,w7⟩:=hN σ7 H7 n7;refine⟨m',hm,i+1,σ7,H7,I7.unpinned,T.keep _ _ _ st5 λb hb o e=>(I7.pin (b,o) (a7 _ (a7 _ (xE hb e)))).1,λb hb=>?_,w7⟩;obtain⟨o,e,d⟩:=T.obj _ _ st5 b hb;exact(I7.pin (b,o) (a7 _ (a7 _ (xE hb e)))).2.1
  cases f with
  |next=>obtain⟨σ7,H7,I7,n7⟩:=q7;exact again I7 n7
  |cont=>obtain⟨σ7,H7,I7,n7⟩:=q7;exact again I7 n7
  |brk=>obtain⟨σ7,H7,I7,q7⟩:=q7;exact⟨σ7,H7,I7.unpinned,q7⟩
  |ret v=>obtain⟨x7,σ7,H7,I7,r7,q7⟩:=q7;exact⟨x7,σ7,H7,I7.unpinned,r7,q7⟩
variable{D:Ends}
theorem z5{K:jj}{xs:List V}{tb:TS}{σ:St}(Pv:Nat->St->Hp->Prop)(h0:Pv 0 σ H)(hl:∀i σ H,i<=xs.length->Pv i σ H->SqL K H a xs)(hs:∀i x σ H,xs[i]?=some x->Pv i σ H->g x σ H λσ2 H2=>tb { D with nx:=Pv (i+1),ct:=Pv (i+1),bk:=D.nx } σ2 H2)(hd:∀σ H,Pv xs.length σ H->D.nx σ H):
  ∃W:Nat->Nat->St->Hp->Prop,(∃m,W 0 m σ H)/\∀i m σ H,W i m σ H ->
   ((Itl K a).stop i H/\D.nx σ H)\/((Itl K a).go i H/\∃N:St->Hp->Prop,(∀σ' H',N σ' H'->∃m',m'<m/\W (i+1) m' σ' H')/\∀x H',(Itl K a).yld i H x H'->g x σ H' λσ2 H2=>tb { D with nx:=N,ct:=N,bk:=D.nx } σ2 H2):=by
 refine⟨λi m σ H=>m=xs.length - i/\i<=xs.length/\Pv i σ H,⟨xs.length,by simp,cJ _,h0⟩,?_⟩;rintro i m σ H ⟨rfl,hi,p⟩;have q:=hl i σ H hi p;by_cases hlt:i<xs.length
 .refine .inr ⟨⟨xs,xs[i],q,by simp[hlt]⟩,Pv (i+1),λσ' H' p'=>⟨xs.length - (i+1),by omega,rfl,hlt,p'⟩,λx H' y=>?_⟩;obtain⟨e,y⟩:=y;subst e;exact hs i x σ _ (y xs q) p
 .have e:i=xs.length:=by omega
  subst e;exact .inl ⟨⟨xs,q,ak _⟩,hd σ H p⟩
theorem yV{n:Nat}{tb:TS}{σ:St}(Pv:Nat->St->Hp->Prop)(h0:Pv 0 σ H)(hs:∀i σ H,i<n->Pv i σ H->g (.int (lo+i)) σ H λσ2 H2=>tb { D with nx:=Pv (i+1),ct:=Pv (i+1),bk:=D.nx } σ2 H2)(hd:∀σ H,Pv n σ H->D.nx σ H):
  ∃W:Nat->Nat->St->Hp->Prop,(∃m,W 0 m σ H)/\∀i m σ H,W i m σ H ->
   ((Itr lo n).stop i H/\D.nx σ H)\/((Itr lo n).go i H/\∃N:St->Hp->Prop,(∀σ' H',N σ' H'->∃m',m'<m/\W (i+1) m' σ' H')/\∀x H',(Itr lo n).yld i H x H'->g x σ H' λσ2 H2=>tb { D with nx:=N,ct:=N,bk:=D.nx } σ2 H2):=by
 refine⟨λi m σ H=>m=n - i/\i<=n/\Pv i σ H,⟨n,by simp,cJ _,h0⟩,?_⟩;rintro i m σ H ⟨rfl,hi,p⟩;by_cases hlt:i<n
 .refine .inr ⟨hlt,Pv (i+1),λσ' H' p'=>⟨n - (i+1),by omega,rfl,hlt,p'⟩,λx H' y=>?_⟩;obtain⟨e,y⟩:=y;subst e y;exact hs i σ _ hlt p
 .have e:i=n:=by omega
  subst e;exact .inl ⟨ak _,hd σ H p⟩
theorem FB{c:TT}{tb:TS}{σ:St}(Pv:St->Hp->Prop)(μ:St->Hp->Nat)(h0:Pv σ H)(hs:∀σ H,Pv σ H->c σ H λb H1=>if b=true then tb { D with nx:=λσ' H'=>Pv σ' H'/\μ σ' H'<μ σ H,ct:=λσ' H'=>Pv σ' H'/\μ σ' H'<μ σ H,bk:=D.nx } σ H1 else D.nx σ H1)(mono:∀σ H Q Q',(∀b H1,Q b H1->Q' b H1)->c σ H Q->c σ H Q'):Cd c tb D σ H:=by
 refine⟨λm σ H=>m=μ σ H/\Pv σ H,⟨_,rfl,h0⟩,?_⟩;rintro m σ H ⟨rfl,p⟩;refine mono σ H _ _ (λb H1 q=>?_) (hs σ H p);cases b with
 |true=>exact⟨_,λσ' H' ⟨p',l⟩=>⟨_,l,rfl,p'⟩,q⟩
 |false=>exact q
abbrev R2:=V->V->Hp->VK->Prop
def OpR(X:Cx)(f:Value->Value->Sem Value)(r:R2):Prop :=
 ∀(pins:List (Addr×Obj))(s:Shared)(σ:St)(H:Hp)(x y:V)(v u:Value)(Q:VK),Inv X pins σ H s->RelV x v->RelV y u->r x y H Q ->
  wpAny (model X.prog X.w) X.A (f v u) (EP X pins σ Q) X.xe s
def UnR(X:Cx)(f:Value->Sem Value)(r:V->Hp->VK->Prop):Prop :=
 ∀(pins:List (Addr×Obj))(s:Shared)(σ:St)(H:Hp)(x:V)(v:Value)(Q:VK),Inv X pins σ H s->RelV x v->r x H Q ->
  wpAny (model X.prog X.w) X.A (f v) (EP X pins σ Q) X.xe s
def yZ(X:Cx)(f:Value)(r:List V->Hp->VK->Prop):Prop :=
 ∀(pins:List (Addr×Obj))(s:Shared)(σ:St)(H:Hp)(xs:List V)(us:List Value)(Q:VK),Inv X pins σ H s->Vals xs us->r xs H Q ->
  wpAny (model X.prog X.w) X.A (call f us) (EP X pins σ Q) X.xe s
@[reducible] def tOp (r:R2) (ta tb:TE):TE:=λσ H Q=>ta σ H λx H1=>tb σ H1 λy H2=>r x y H2 Q
def tUn(r:V->Hp->VK->Prop)(ta:TE):TE:=λσ H Q=>ta σ H λx H1=>r x H1 Q
def rI(C:Int->Int->Prop)(g:Int->Int->V):R2:=λx y H Q=>∃i j,x=.int i/\y=.int j/\C i j/\Q (g i j) H
def rI0(g:Int->Int->V):R2:=λx y H Q=>∃i j,x=.int i/\y=.int j/\Q (g i j) H
def rU(g:Int->V):V->Hp->VK->Prop:=λx H Q=>∃i,x=.int i/\Q (g i) H
variable{r:R2}
section
variable{a b c:Expr}{ta tb tc:TE}
variable{f:Value->Value->Sem Value}
theorem binT(ha:PE X a ta)(hb:PE X b tb){s:Shared}{σ:St}{R:V->V->Hp->Prop}(I:Inv X pins σ H s)(h:ta σ H λx H1=>tb σ H1 λy H2=>R x y H2){Q:Value->Shared->Prop}(hf:∀v u s2 x y H2,Inv X pins σ H2 s2->RelV x v->RelV y u->R x y H2->wpAny (model X.prog X.w) X.A (f v u) Q X.xe s2): wpAny (model X.prog X.w) X.A (eval a X.env) (λv s₁=>wpAny (model X.prog X.w) X.A (eval b X.env) (λu s₂=>wpAny (model X.prog X.w) X.A (f v u) Q X.xe s₂) X.xe s₁) X.xe s:=by refine thn (ha pins s σ H _ I h) λv s1 ⟨x,H1,I1,r1,q1⟩=>?_;refine thn (hb pins s1 σ H1 _ I1 q1) λu s2 ⟨y,H2,I2,r2,q2⟩=>?_;exact hf v u s2 x y H2 I2 r1 r2 q2
theorem zf{op:Operator}(ho:OpR X (binaryOp op) r)(ha:PE X a ta)(hb:PE X b tb):PE X (.BinOp a op b pos) (tOp r ta tb):=by intro pins s σ H Q I h;exact wpAny_BinOp (binT ha hb I h λv u s2 x y H2 I2 rx ry q=>ho pins s2 σ H2 x y v u Q I2 rx ry q)
theorem wS{op:UnaryOp}{r:V->Hp->VK->Prop}(ho:UnR X (unaryOp op) r)(ha:PE X a ta):PE X (.UnaryOp op a pos) (tUn r ta):=by intro pins s σ H Q I h;exact UnaryOp_ (thn (ha pins s σ H _ I h) λv s1 ⟨x,H1,I1,r1,q1⟩=>ho pins s1 σ H1 x v Q I1 r1 q1)
theorem opI{C:Int->Int->Prop}{g:Int->Int->Int}(rule:∀(i j:Int)(t u:Tok)(s:Shared)(Q:Value->Shared->Prop)(E:Value->Shared->Prop),C i j->Q (.int (g i j) s.toks) { s with toks:=s.toks+1 }->wpAny (model X.prog X.w) X.A (f (.int i t) (.int j u)) Q E s):
  OpR X f (rI C λi j=>.int (g i j)):=by
 intro pins s σ H x y v u Q I rx ry h;obtain⟨i,j,rfl,rfl,hc,q⟩:=h;obtain⟨t,rfl⟩:=rx;obtain⟨t',rfl⟩:=ry;exact rule i j t t' s _ _ hc ⟨.int (g i j),H,I.tok _,⟨_,rfl⟩,q⟩
theorem opI0{g:Int->Int->Int}(rule:∀(i j:Int)(t u:Tok)(s:Shared)(Q:Value->Shared->Prop)(E:Value->Shared->Prop),Q (.int (g i j) s.toks) { s with toks:=s.toks+1 }->wpAny (model X.prog X.w) X.A (f (.int i t) (.int j u)) Q E s):
  OpR X f (rI0 λi j=>.int (g i j)):=by
 intro pins s σ H x y v u Q I rx ry h;obtain⟨i,j,rfl,rfl,q⟩:=h;obtain⟨t,rfl⟩:=rx;obtain⟨t',rfl⟩:=ry;exact rule i j t t' s _ _ ⟨.int (g i j),H,I.tok _,⟨_,rfl⟩,q⟩
theorem opB0{g:Int->Int->Bool}(rule:∀(i j:Int)(t u:Tok)(s:Shared)(Q:Value->Shared->Prop)(E:Value->Shared->Prop),Q (.bool (g i j)) s->wpAny (model X.prog X.w) X.A (f (.int i t) (.int j u)) Q E s): OpR X f (rI0 λi j=>.bl (g i j)):=by intro pins s σ H x y v u Q I rx ry h;obtain⟨i,j,rfl,rfl,q⟩:=h;obtain⟨t,rfl⟩:=rx;obtain⟨t',rfl⟩:=ry;exact rule i j t t' s _ _ ⟨.bl (g i j),H,I,rfl,q⟩
def CPow(i j:Int):Prop:=0<=j/\j<=1000000/\i.natAbs<2 ^ 64
theorem Ce(k:Nat):(0:Int)<=2 ^ k:=by rw[two_pow_cast];exact Int.natCast_nonneg _
theorem zv:OpR X (binaryOp .Add) (rI0 λi j=>.int (i+j)):=opI0 λ_ _ _ _ _ _ _ q=>add_int q
theorem yH:OpR X (binaryOp .Sub) (rI0 λi j=>.int (i - j)):=opI0 λ_ _ _ _ _ _ _ q=>sub_int q
theorem yz:OpR X (binaryOp .Mod) (rI (λ_ j=>0<j) λi j=>.int (i % j)):=opI λi j _ _ _ _ _ hc q=>by have h1:(0:Int)<j:=hc;exact mod_int' (by omega) (by rw[Int.fmod_eq_emod_of_nonneg i (by omega)];exact q)
theorem Iy:OpR X (binaryOp .Mod) (rI (λ_ j=>j≠0) λi j=>.int (i.fmod j)):=opI λ_ _ _ _ _ _ _ hc q=>mod_int' hc q
theorem Go:OpR X (binaryOp .LShift) (rI CPow λi j=>.int (i*2 ^ j.toNat)):=opI λ_ _ _ _ _ _ _ hc q=>lshift_int_small hc.1 hc.2.1 hc.2.2 q
theorem JT:OpR X (binaryOp .RShift) (rI (λ_ j=>0<=j) λi j=>.int (i / 2 ^ j.toNat)):=opI λi j _ _ _ _ _ hc q =>
 rshift_int hc (by rw[d9 i (Ce _)];exact q)
theorem unI{f:Value->Sem Value}{g:Int->Int}(rule:∀(i:Int)(t:Tok)(s:Shared)(Q:Value->Shared->Prop)(E:Value->Shared->Prop),Q (.int (g i) s.toks) { s with toks:=s.toks+1 }->wpAny (model X.prog X.w) X.A (f (.int i t)) Q E s):
  UnR X f (rU λi=>.int (g i)):=by
 intro pins s σ H x v Q I rx h;obtain⟨i,rfl,q⟩:=h;obtain⟨t,rfl⟩:=rx;exact rule i t s _ _ ⟨.int (g i),H,I.tok _,⟨_,rfl⟩,q⟩
theorem xh:UnR X (unaryOp .USub) (rU λi=>.int (-i)):=unI λ_ _ _ _ _ q=>neg_int q
end
def scal:V->V->Bool
 | .non,.non=>true | .non,.int _=>true | .int _,.non=>true | .non,.bl _=>true | .bl _,.non=>true | .non,.str _=>true | .str _,.non=>true
 | .int _,.int _=>true | .bl _,.bl _=>true | .str _,.str _=>true | .byt _,.byt _=>true
 | .int _,.str _=>true | .str _,.int _=>true | .bl _,.str _=>true | .str _,.bl _=>true
 |_,_=>false
def rEq:R2:=λx y H Q=>scal x y=true/\Q (.bl (decide (x=y))) H
def rNe:R2:=λx y H Q=>scal x y=true/\Q (.bl (!decide (x=y))) H
theorem u9{i j:Int}:decide (V.int i=V.int j)=(i==j):=by rw[cP];simp
theorem dec_bl{i j:Bool}:decide (V.bl i=V.bl j)=(i==j):=by rw[cP];simp
theorem CM{i j:Str}:decide (V.str i=V.str j)=(i==j):=by rw[cP];simp
theorem Em{i j:Array UInt8}:decide (V.byt i=V.byt j)=(i.toList==j.toList):=by
 rw[cP];cases i
 cases j
 simp
variable{us:List Value}{y:V}
section
variable{a b c:Expr}{ta tb tc:TE}
theorem fin_bl{σ:St}{s:Shared}{Q:VK}{k k':Bool}(I:Inv X pins σ H s)(q:Q (.bl k) H)(e:k=k'):EP X pins σ Q (.bool k') s:=by subst e;exact⟨.bl k,H,I,rfl,q⟩
theorem ye:OpR X (compareOp .Eq) rEq:=by
 intro pins s σ H x y v u Q I rx ry h;obtain⟨hs,q⟩:=h;cases x with
 |non =>
  cases rx
  cases y with
  |non=>cases ry;exact PySem.EqNone.eq_none_none (fin_bl I q (!1))
  |bl j=>cases ry;exact PySem.EqNone.eq_none_bool (fin_bl I q (!1))
  |int j=>obtain⟨t',rfl⟩:=ry;exact PySem.EqNone.eq_none_int (fin_bl I q (!1))
  |str j=>obtain⟨t',rfl⟩:=ry;exact PySem.EqNone.eq_none_str (fin_bl I q (!1))
  |_=>exact absurd (show false=true from hs) aX
 |bl i =>
  cases rx
  cases y with
  |non=>cases ry;exact PySem.EqNone.eq_bool_none (fin_bl I q (!1))
  |bl j=>cases ry;exact eq_bool (fin_bl I q dec_bl)
  |str j=>obtain⟨t',rfl⟩:=ry;exact PySem.EqMixed.eq_bool_str (fin_bl I q (!1))
  |_=>exact absurd (show false=true from hs) aX
 |int i =>
  obtain⟨t,rfl⟩:=rx;cases y with
  |non=>cases ry;exact PySem.EqNone.eq_int_none (fin_bl I q (!1))
  |int j=>obtain⟨t',rfl⟩:=ry;exact eq_int (fin_bl I q u9)
  |str j=>obtain⟨t',rfl⟩:=ry;exact PySem.EqMixed.eq_int_str (fin_bl I q (!1))
  |_=>exact absurd (show false=true from hs) aX
 |str i =>
  obtain⟨t,rfl⟩:=rx;cases y with
  |non=>cases ry;exact PySem.EqNone.eq_str_none (fin_bl I q (!1))
  |bl j=>cases ry;exact PySem.EqMixed.eq_str_bool (fin_bl I q (!1))
  |int j=>obtain⟨t',rfl⟩:=ry;exact PySem.EqMixed.eq_str_int (fin_bl I q (!1))
  |str j=>obtain⟨t',rfl⟩:=ry;exact eq_str (fin_bl I q CM)
  |_=>exact absurd (show false=true from hs) aX
 |byt i =>
  obtain⟨t,rfl⟩:=rx;cases y with
  |byt j=>obtain⟨t',rfl⟩:=ry;exact W.eq_bytes (fin_bl I q Em)
  |_=>exact absurd (show false=true from hs) aX
 |_=>cases y<;>exact absurd (show false=true from hs) aX
theorem A2:OpR X (compareOp .NotEq) rNe:=by
 intro pins s σ H x y v u Q I rx ry h;obtain⟨hs,q⟩:=h;cases x with
 |non =>
  cases rx
  cases y with
  |non=>cases ry;exact PySem.EqNone.ne_none_none (fin_bl I q (!1))
  |bl j=>cases ry;exact PySem.EqNone.ne_none_bool (fin_bl I q (!1))
  |int j=>obtain⟨t',rfl⟩:=ry;exact PySem.EqNone.ne_none_int (fin_bl I q (!1))
  |str j=>obtain⟨t',rfl⟩:=ry;exact PySem.EqNone.ne_none_str (fin_bl I q (!1))
  |_=>exact absurd (show false=true from hs) aX
 |bl i =>
  cases rx
  cases y with
  |non=>cases ry;exact PySem.EqNone.ne_bool_none (fin_bl I q (!1))
  |bl j=>cases ry;exact ne_bool (fin_bl I q (congrArg not dec_bl))
  |str j=>obtain⟨t',rfl⟩:=ry;exact PySem.EqMixed.ne_bool_str (fin_bl I q (!1))
  |_=>exact absurd (show false=true from hs) aX
 |int i =>
  obtain⟨t,rfl⟩:=rx;cases y with
  |non=>cases ry;exact PySem.EqNone.ne_int_none (fin_bl I q (!1))
  |int j=>obtain⟨t',rfl⟩:=ry;exact ne_int (fin_bl I q (congrArg not u9))
  |str j=>obtain⟨t',rfl⟩:=ry;exact PySem.EqMixed.ne_int_str (fin_bl I q (!1))
  |_=>exact absurd (show false=true from hs) aX
 |str i =>
  obtain⟨t,rfl⟩:=rx;cases y with
  |non=>cases ry;exact PySem.EqNone.ne_str_none (fin_bl I q (!1))
  |bl j=>cases ry;exact PySem.EqMixed.ne_str_bool (fin_bl I q (!1))
  |int j=>obtain⟨t',rfl⟩:=ry;exact PySem.EqMixed.ne_str_int (fin_bl I q (!1))
  |str j=>obtain⟨t',rfl⟩:=ry;exact ne_str (fin_bl I q (congrArg not CM))
  |_=>exact absurd (show false=true from hs) aX
 |byt i =>
  obtain⟨t,rfl⟩:=rx;cases y with
  |byt j=>obtain⟨t',rfl⟩:=ry;exact W.ne_bytes (fin_bl I q (congrArg not Em))
  |_=>exact absurd (show false=true from hs) aX
 |_=>cases y<;>exact absurd (show false=true from hs) aX
theorem vZ:OpR X (compareOp .Lt) (rI0 λi j=>.bl (decide (i<j))):=opB0 λ_ _ _ _ _ _ _ q=>lt_int q
theorem Fk:OpR X (compareOp .LtE) (rI0 λi j=>.bl (decide (i<=j))):=opB0 λ_ _ _ _ _ _ _ q=>le_int q
theorem wa:OpR X (compareOp .Gt) (rI0 λi j=>.bl (decide (j<i))):=opB0 λ_ _ _ _ _ _ _ q=>gt_int q
theorem EN:OpR X (compareOp .GtE) (rI0 λi j=>.bl (decide (j<=i))):=opB0 λ_ _ _ _ _ _ _ q=>ge_int q
theorem HZ:OpR X (compareOp .IsNot) (λx y H Q=>y=.non/\Q (.bl (!decide (x=.non))) H):=by
 intro pins s σ H x y v u Q I rx ry h;obtain⟨rfl,q⟩:=h;cases ry
 refine isnot_none_gen (fin_bl I q ?_);cases x<;>first
  |(cases rx;rfl)
  |(obtain⟨t,rfl⟩:=rx;rfl)
theorem zm(b:Expr)(h:op≠.In:=by decide)(h2:op≠.NotIn:=by decide):behindInMarks op b=false:=by
 have e1:(op==CmpOp.In)=false:=by cases op<;>first|rfl|exact absurd rfl h
 have e2:(op==CmpOp.NotIn)=false:=by cases op<;>first|rfl|exact absurd rfl h2
 cases b<;>simp[behindInMarks,e1,e2]
theorem yo(ho:OpR X (compareOp op) r)(ha:PE X a ta)(hb:PE X b tb)(hm:behindInMarks op b=false):PE X (.Compare a [op] [b] pos) (tOp r ta tb):=by intro pins s σ H Q I h;exact wpAny_Compare1 (binT ha hb I h λv u s2 x y H2 I2 rx ry q=>ho pins s2 σ H2 x y v u Q I2 rx ry q) hm
def Jc(t:TE):TT:=λσ H Q=>t σ H λx H'=>∃k,x=.bl k/\Q k H'
theorem zk(ho:OpR X (compareOp op) r)(ha:PE X a ta)(hb:PE X b tb)(hm:behindInMarks op b=false):PT X (.Compare a [op] [b] pos) (Jc (tOp r ta tb)):=by
 intro pins s σ H Q I h;refine wpAny_isTrue_Compare1 (thn (ha pins s σ H _ I h) λv s1 ⟨x,H1,I1,r1,q1⟩=>thn (hb pins s1 σ H1 _ I1 q1) λu s2 ⟨y,H2,I2,r2,q2⟩ =>
  thn (ho pins s2 σ H2 x y v u _ I2 r1 r2 q2) λc s3 ⟨z,H3,I3,r3,k,e,q3⟩=>?_) hm
 subst e;cases r3
 exact iX ⟨H3,I3,q3⟩
theorem DE:(sizeLine:Nat)<2 ^ 63:=by rw[sizeLine_eq];decide
variable{x:V}
theorem EV(r:Vals [x] us):∃u,us=[u]/\RelV x u:=by
 cases r with
 |cons r1 r2=>cases r2;exact⟨_,rfl,r1⟩
theorem J8(r:Vals [x,y] us):∃u w',us=[u,w']/\RelV x u/\RelV y w':=by
 cases r with
 |cons r1 r2 =>
  cases r2 with
  |cons r3 r4=>cases r4;exact⟨_,_,rfl,r1,r3⟩
theorem FG:yZ X (.builtin "abs") (λxs H Q=>∃i,xs=[.int i]/\Q (.int (if i<0 then -i else i)) H):=by intro pins s σ H xs us Q I r h;obtain⟨i,rfl,q⟩:=h;obtain⟨u,rfl,t,rfl⟩:=EV r;exact call_abs_int λu tk=>⟨.int (if i<0 then -i else i),H,I.tok _,⟨_,rfl⟩,q⟩
theorem CV(hc:X.calm=true):yZ X (.builtin "max") (λxs H Q=>∃i j,xs=[.int i,.int j]/\Q (.int (if j > i then j else i)) H):=by
 intro pins s σ H xs us Q I r h;obtain⟨i,j,rfl,q⟩:=h;obtain⟨u,w',rfl,⟨t,rfl⟩,⟨t',rfl⟩⟩:=J8 r;refine max_two_ints (I.ok.hd hc) λh' tk k=>⟨_,H,I.kept k,?_,q⟩
 by_cases hj:j > i
 .rw[iU hj,iU hj];exact⟨_,rfl⟩
 .rw[iV hj,iV hj];exact⟨_,rfl⟩
end
structure ObjM(h:Heap)(x dx C:Addr)(mA:Str->Option Value):Prop where
 obj:h.get? x=some (W.instObj C dx)
 ns:h.Ns1 dx mA
 ne:dx≠x
variable{dx:Addr}{mA:Str->Option Value}
set_option tactic.hygienic true in
theorem Di(n:h.Ns1 dx mA):∃od,h.get? dx=some od/\∀name,W.lookIn name od=some (mA name):=by
 obtain⟨o,es,ep,ho,hd,hk,_,hm⟩:=n;refine⟨o,ho,λname=>?_⟩;have e:=hm name;unfold nsFind findBy at e;rw[<-Array.find?_toList]at e;unfold W.lookIn;rw[hd];dsimp only;split
 .rename_i y q;rw[q]at e;exact congrArg some e
 .rename_i q;rw[q]at e;have a:es.toList.any (·.refKey)=false:=by
   rw[List.any_eq_false];intro y hy;obtain⟨z,t,hkey⟩:=hk y (Array.mem_toList_iff.mp hy);simp[DictEntry.refKey,hkey]
  have a':¬ es.toList.any (·.refKey)=true:=by rw[a];exact aX
  rw[iV a'];exact congrArg some e
variable{C:Addr}
theorem ObjM.look(I:ObjM h x dx C mA):∃od,PySem.W.InstAt h x (W.instObj C dx) C (some od)/\∀name,W.lookIn name od=some (mA name):=
 let ⟨od,ho,hl⟩:=Di I.ns
 ⟨od,⟨I.obj,rfl,rfl,ho⟩,hl⟩
variable{kw:List (Str×Value)}{pl:Sem Bool}
section
variable{prog:Program}{A:Around}{E:Value->Shared->Prop}{s:Shared}{K:jj}{dx C f:Addr}{mA:Str->Option Value}{name:Str}{v:Value}
theorem Ib{expr:Bool}{Q:Value->Shared->Prop}(X:K.In s.heap)(I:ObjM s.heap x dx C mA)(hg:W.plainGet K C name=true)(hh:W.hasDictIn K C=true)(ha:W.findIn K (.ref C) name=some none)(hv:mA name=some v)(hv':W.handedIn v=true)(h:Q v { s with toks:=s.toks+1 }):
  wpAny (model prog w) A (getAttr (.ref x) name expr) Q E s:=by
 obtain⟨od,J,hl⟩:=I.look;exact W.get_value X J (gu hg).1 (W.findObj_own hh ha rfl (by rw[hl,hv])) hv' h
theorem F0{Q:Value×List Value->Shared->Prop}(X:K.In s.heap)(I:ObjM s.heap x dx C mA)(hg:W.plainGet K C name=true)(hf:W.findIn K (.ref C) name=some (some (.ref f)))(ht:W.isFn K (.ref f)=true)(hv:mA name=none)(h:Q (.ref f,[.ref x]) s): wpAny (model prog w) A (getMethod (.ref x) name pl) Q E s:=by obtain⟨od,J,hl⟩:=I.look;exact W.method_fn X J (gu hg).1 (gu hg).2 hf (beq_iff_eq.mp ht) (by show(W.lookIn name od).map (·.isSome)=some false;rw[hl,hv];rfl) h
theorem HQ{ns:List Str}{Q:Unit->Shared->Prop}(X:K.In s.heap)(I:ObjM s.heap x dx C mA)(hs:W.findIn K (.ref C) "__setattr__"=some (some (.builtin "object.__setattr__")))(hp:W.plainOver K C=true)(ht:W.takerIn K C name=some none)(hh:W.hasDictIn K C=true)(hw:PySem.Within mA ns)(hsz:ns.length<=sizeLine)(h:∀h',ObjM h' x dx C (λy=>if y=name then some v else mA y)->Heap.SameBut dx s.heap h'->Q () { s with heap:=h',toks:=s.toks+2 }):
  wpAny (model prog w) A (setAttr (.ref x) name v) Q E s:=by
 obtain⟨od,J,hl⟩:=I.look;refine W.set_plain X J hs (W.osa_open (s:={ s with toks:=s.toks+1 }) (r:=none) X J hp ht λb=>?_);obtain⟨cd,hc,hd'⟩:=W.any_some hh;have hx:s.heap.get? x=some ⟨.ref C,some dx,.plain,#[]⟩:=I.obj;refine i4 (i6 (i4 (i4 (wpAny_loadPart hx (i4 (PySem.W.Looks.here (s:={ s with toks:=s.toks+1 }) (W.looks_clsIn X hc) ?_))))));rw[hd'];refine i6 (a:=some dx) (i4 (i6 (i4 ?_)));refine wpAny_nsSet1 (s:={ s with toks:=s.toks+1 }) I.ns λh' hn2 hs2=>?_;obtain⟨oD,esD,epD,hoD,hdD,hcD⟩:=hn2.count (PySem.Within.cons name v hw);refine i4 (wpAny_lookBehind hoD (by rw[hdD];exact pastItsLine_dict (cf hcD (by rw[au];omega))) ?_);exact i6 (h _ ⟨(hs2.2 _ (cH I.ne)).trans I.obj,hn2,I.ne⟩ hs2)
theorem FQ{R:Result->Shared->Prop}{vs:List Value}(X:K.In s.heap)(hm:W.makesIn K C=true)(hi:W.findIn K (.ref C) "__init__"=some (some (.ref f)))(hf:W.typeIn K (.ref f)=some (.type "function"))(h:codeAny (model prog w) (A.under (.builtin "type.__call__" ⟨.ref C::vs,kw⟩)) (.call (.ref f) ⟨.ref (s.heap.objs.size+1)::vs,kw⟩) (PySem.W.InitBack (s.heap.objs.size+1) R)
   { s with heap:=(s.heap.push W.emptyDict).push (W.instObj C s.heap.objs.size) }):
  codeAny (model prog w) A (.call (.ref C) ⟨vs,kw⟩) R s:=by
 obtain⟨hh,g,d,t,os⟩:=s;exact W.make_core (W.makes_of X hm) (W.looks_findIn X hi) (λself=>W.bind_fn X self hf) (.inl rfl) h
end
def putF(f:Str)(v:V):List (Str×V)->List (Str×V)
 |[]=>[(f,v)]
 |(g,x)::r=>if g=f then (g,v)::r else (g,x)::putF f v r
theorem vy(f g:Str)(v:V):∀fs:List (Str×V),(putF f v fs).lookup g=if g=f then some v else fs.lookup g
 |[]=>by
  show List.lookup g [(f,v)]=_;by_cases h:g=f
  .have hb:(g==f)=true:=beq_iff_eq.mpr h;simp only[List.lookup,hb,iU h]
  .have hb:(g==f)=false:=beq_eq_false_iff_ne.mpr h;simp only[List.lookup,hb,iV h]
 |(k,x)::r=>by
  have ih:=vy f g v r;rw[show putF f v ((k,x)::r)=(if k=f then (k,v)::r else (k,x)::putF f v r) from rfl];by_cases hk:k=f
  .rw[iU hk];by_cases h:g=k
   .have hb:(g==k)=true:=beq_iff_eq.mpr h;simp only[List.lookup,hb,iU (h.trans hk)]
   .have hb:(g==k)=false:=beq_eq_false_iff_ne.mpr h;simp only[List.lookup,hb,iV (λe:g=f=>h (e.trans hk.symm))]
  .rw[iV hk];by_cases h:g=k
   .have hb:(g==k)=true:=beq_iff_eq.mpr h;simp only[List.lookup,hb,iV (λe:g=f=>hk (h.symm.trans e))]
   .have hb:(g==k)=false:=beq_eq_false_iff_ne.mpr h;simp only[List.lookup,hb];exact ih
theorem vv(f:Str)(v:V):∀fs:List (Str×V),f∈(putF f v fs).map (·.1)/\∀g,g∈fs.map (·.1)->g∈(putF f v fs).map (·.1)
 |[]=>⟨by simp[putF],λg h=>by simp at h⟩
 |(k,x)::r=>by
  obtain⟨i1,i2⟩:=vv f v r;rw[show putF f v ((k,x)::r)=(if k=f then (k,v)::r else (k,x)::putF f v r) from rfl];by_cases hk:k=f
  .rw[iU hk];subst hk;exact⟨by simp,λg h=>by simpa using h⟩
  .rw[iV hk];refine⟨?_,λg h=>?_⟩
   .rw[a6];exact aC _ i1
   .rw[a6]at h ⊢;rcases aW.mp h with e|e
    .exact aW.mpr (.inl e)
    .exact aC _ (i2 g e)
theorem xR(f:Str)(v:V):∀fs:List (Str×V),(putF f v fs).length<=fs.length+1
 |[]=>by simp[putF]
 |(k,x)::r=>by
  have ih:=xR f v r;rw[show putF f v ((k,x)::r)=(if k=f then (k,v)::r else (k,x)::putF f v r) from rfl];by_cases hk:k=f
  .rw[iU hk,au,au];omega
  .rw[iV hk,au,au];omega
theorem RelO.some_of{v:V}{o:Option Value}(r:RelO (some v) o):∃u,o=some u/\RelV v u:=by
 cases o with
 |none=>exact(show False from r).elim
 |some u=>exact⟨u,rfl,r⟩
theorem RelO.none_of{o:Option Value}(r:RelO none o):o=none:=by
 cases o with
 |none=>rfl
 |some u=>exact(show False from r).elim
theorem Dj{v:V}{u:Value}(r:RelV v u):W.handedIn u=true:=by
 cases v with
 |non=>cases (show u=Value.none from r);rfl
 |bl b=>cases (show u=Value.bool b from r);rfl
 |int i=>obtain⟨t,e⟩:=(show ∃t,u=Value.int i t from r);cases e;rfl
 |str x=>obtain⟨t,e⟩:=(show ∃t,u=Value.str x t from r);cases e;rfl
 |byt b=>obtain⟨t,e⟩:=(show ∃t,u=Value.bytes b t from r);cases e;rfl
 |flt b=>obtain⟨t,e⟩:=(show ∃t,u=Value.float b t from r);cases e;rfl
 |ref a=>cases (show u=Value.ref a from r);rfl
 |ty n=>cases (show u=Value.type n from r);rfl
section
variable{C dx:Addr}{fs fs':List (Str×V)}
theorem u5(hok:HOk P w H h)(e:H a=some (.ins C dx fs)):∃mA,ObjM h a dx C mA/\(∀f,RelO (fs.lookup f) (mA f))/\PySem.Within mA (fs.map (·.1))/\fs.length<=1000/\H dx=some (.own a):=by
 obtain⟨d,z,ne,ob,mA,n,r,q⟩:=(show ObjOk P w H h a (.ins C dx fs) from hok a _ e)
 exact⟨mA,⟨ob,n,ne⟩,r,q,z,d⟩
end
structure Cls(K:jj)(C:Addr):Prop where
 pg:W.plainGet K C Str.empty=true
 hd:W.hasDictIn K C=true
 po:W.plainOver K C=true
 sa:W.findIn K (.ref C) "__setattr__"=some (some (.builtin "object.__setattr__"))
theorem Cls.get{K:jj}(c:Cls K C)(f:Str):W.plainGet K C f=true:=c.pg
def NoAttr(K:jj)(C:Addr)(f:Str):Prop:=W.findIn K (.ref C) f=some none
theorem NoAttr.taker{K:jj}{f:Str}(n:NoAttr K C f):W.takerIn K C f=some none:=by unfold W.takerIn;rw[show W.findIn K (.ref C) f=some none from n];rfl
structure Meth(K:jj)(C:Addr)(m:Str)(f:Addr):Prop where
 at_:W.findIn K (.ref C) m=some (some (.ref f))
 fn:W.isFn K (.ref f)=true
 kp:W.keepIn K (.ref f)=true
section
variable{pins:List (Addr×Obj)}{σ:St}{s:Shared}{C dx:Addr}{fs:List (Str×V)}{f:Str}{v:V}{A:Around}{E:Value->Shared->Prop}
theorem CF{b:Bool}{Q:Value->Shared->Prop}(I:Inv X pins σ H s)(e:H a=some (.ins C dx fs))(c:Cls X.K C)(n:NoAttr X.K C f)(l:fs.lookup f=some v)(h:∀u s',Inv X pins σ H s'->RelV v u->Q u s'):wpAny (model X.prog X.w) A (getAttr (.ref a) f b) Q E s:=by obtain⟨mA,O,r,_,_,_⟩:=u5 I.hok e;obtain⟨u,hu,ru⟩:=RelO.some_of (v:=v) (o:=mA f) (by rw[<-l];exact r f);exact Ib I.kIn O (c.get f) c.hd n hu (Dj ru) (h u _ (I.tok _) ru)
theorem uy{m:Str}{g:Addr}{Q:Value×List Value->Shared->Prop}(I:Inv X pins σ H s)(e:H a=some (.ins C dx fs))(c:Cls X.K C)(k:Meth X.K C m g)(l:fs.lookup m=none)(h:Q (.ref g,[.ref a]) s):wpAny (model X.prog X.w) A (getMethod (.ref a) m pl) Q E s:=by obtain⟨mA,O,r,_,_,_⟩:=u5 I.hok e;have hn:mA m=none:=RelO.none_of (by rw[<-l];exact r m);exact F0 I.kIn O (c.get m) k.at_ k.fn hn h
theorem Cg{u:Value}{Q:Unit->Shared->Prop}(I:Inv X pins σ H s)(e:H a=some (.ins C dx fs))(c:Cls X.K C)(n:NoAttr X.K C f)(hl:fs.length<1000)(ry:RelV y u)(h:∀s',Inv X pins σ (upd H a (.ins C dx (putF f y fs))) s'->Q () s'):wpAny (model X.prog X.w) A (setAttr (.ref a) f u) Q E s:=by
 obtain⟨mA,O,r,wi,_,ho⟩:=u5 I.hok e;have hz:(fs.map (·.1)).length<=sizeLine:=by rw[aa,sizeLine_eq];omega
 refine HQ I.kIn O c.sa c.po n.taker c.hd wi hz λh' O' sb=>h _ ?_;have hd:∃o,h'.get? dx=some o:=let ⟨o,_,_,e',_⟩:=O'.ns;⟨o,e'⟩
 refine I.write (x:=a) (e:=dx) (by rw[e];exact True.intro) (.inr ho) (λb q hb z=>(sb.2 b hb).trans z) hd ?_;refine⟨by rw[zl O.ne];exact ho,?_,O.ne,O'.obj,_,O'.ns,λg=>?_,λg hg=>?_⟩
 .have:=xR f y fs;omega
 .show RelO ((putF f y fs).lookup g) (if g=f then some u else mA g);rw[vy];by_cases q:g=f
  .rw[iU q,iU q];exact ry
  .rw[iV q,iV q];exact r g
 .by_cases q:g=f
  .rw[q];exact(vv f y fs).1
  .refine(vv f y fs).2 g (wi g λz=>hg ?_);show(if g=f then some u else mA g)=none;rw[iV q];exact z
theorem Inv.made(I:Inv X pins σ H s):Inv X pins σ (upd (upd H s.heap.objs.size (.own (s.heap.objs.size+1))) (s.heap.objs.size+1) (.ins C s.heap.objs.size [])) { s with heap:=(s.heap.push W.emptyDict).push (W.instObj C s.heap.objs.size) }:=by
 have e1:(s.heap.push W.emptyDict).get? s.heap.objs.size=some W.emptyDict:=Heap.get?_push_size s.heap rfl;have e2:((s.heap.push W.emptyDict).push (W.instObj C s.heap.objs.size)).get? (s.heap.objs.size+1)=some (W.instObj C s.heap.objs.size):=by
  have:=Heap.get?_push_size (s.heap.push W.emptyDict) (o:=W.instObj C s.heap.objs.size) rfl
  rwa[Heap.size_push]at this
 have e3:(s.heap.push W.emptyDict).Ns s.heap.objs.size (λ_=>none):=⟨W.emptyDict,#[],_,e1,rfl,(λe he=>absurd he (!1)),λ_=>rfl⟩
 have I1:=I.laid (a:=s.heap.objs.size) (o:=.own (s.heap.objs.size+1)) (h':=s.heap.push W.emptyDict) (t':=s.toks) (λb u q=>Heap.get?_push_of_some _ q) (ak _) ⟨_,e1⟩;refine I1.laid (a:=s.heap.objs.size+1) (o:=.ins C s.heap.objs.size []) (t':=s.toks) (λb u q=>Heap.get?_push_of_some _ q) (Nat.le_of_eq (Heap.size_push _ _)) ?_;have ne:s.heap.objs.size≠s.heap.objs.size+1:=aR (fV _);refine⟨by rw[zl ne,zg],cJ _,ne,e2,λ_=>none,(Heap.Ns1.of_empty e3).at λo q=>Heap.get?_push_of_some _ q,λ_=>True.intro,λy hy=>absurd rfl hy⟩
theorem Hk{prog:Program}{env:Env}{e:Expr}{s:Shared}{Q:Value->Shared->Prop}(hb:attributeBase e f env (eval e env)=eval e env)(h:wpAny (model prog w) A (eval e env) (λo s₁=>wpAny (model prog w) A (getAttr o f true) Q E s₁) E s):wpAny (model prog w) A (eval (.Attribute e f pos) env) Q E s :=
 Attribute_any_ h (by rw[arm_eval_Attribute,hb])
end
def tFld(K:jj)(ta:TE)(f:Str):TE:=λσ H Q=>ta σ H λx H1=>∃a C dx fs v,x=.ref a/\H1 a=some (.ins C dx fs)/\Cls K C/\NoAttr K C f/\fs.lookup f=some v/\Q v H1
def sFld(K:jj)(ta tv:TE)(f:Str):TS:=λD σ H=>tv σ H λy H1=>ta σ H1 λx H2=>∃a C dx fs,x=.ref a/\H2 a=some (.ins C dx fs)/\Cls K C/\NoAttr K C f/\fs.length<1000 /\
 D.nx σ (upd H2 a (.ins C dx (putF f y fs)))
variable{o e value:Expr}{f:Str}{pos' tpos:Pos}{ta tv:TE}
theorem JR(he:PE X e ta)(hb:attributeBase e f X.env (eval e X.env)=eval e X.env):PE X (.Attribute e f pos) (tFld X.K ta f):=by intro pins s σ H Q I h;refine Hk hb (thn (he pins s σ H _ I h) λu s1 ⟨x,H1,I1,rx,a,C,dx,fs,v,ex,ea,c,n,l,q⟩=>?_);subst ex;obtain rfl:u=Value.ref a:=rx;exact CF I1 ea c n l λu' s2 I2 ru=>⟨v,H1,I2,ru,q⟩
theorem Ag(ha:PE X o ta)(hv:PE X value tv)(hs:swapsWith value (some (.Attribute o f pos')) pos.line X.env=pure false):PS X (.Assign [.Attribute o f pos'] value pos) (sFld X.K ta tv f):=by intro pins s σ H D I h;refine plainObj_wpAny_Assign_Attribute (thn (hv pins s σ H _ I h) λu s1 ⟨y,H1,I1,ry,q⟩=>thn (ha pins s1 σ H1 _ I1 q) λov s2 ⟨x,H2,I2,rx,a,C,dx,fs,ex,ea,c,n,l,q2⟩=>?_) hs;subst ex;obtain rfl:ov=Value.ref a:=rx;exact Cg I2 ea c n l ry λs3 I3=>⟨σ,_,I3,q2⟩
section
variable{pins:List (Addr×Obj)}{σ:St}{s:Shared}{A:Around}{E:Value->Shared->Prop}{Q:Value->Shared->Prop}{c:Value}{b:Bool}
inductive TyOf(K:jj)(H:Hp):V->Value->Prop where
 |non:TyOf K H .non (.type "NoneType")
 |bl (x:Bool):TyOf K H (.bl x) (.type "bool")
 |int (i:Int):TyOf K H (.int i) (.type "int")
 |str (x:Str):TyOf K H (.str x) (.type "str")
 |flt (x:UInt64):TyOf K H (.flt x) (.type "float")
 |lst {a:Addr} {xs:List V} (e:H a=some (.lst xs)):TyOf K H (.ref a) (.type "list")
 |frz {a:Addr} {o:Obj} {xs:List V} (e:H a=some (.frz o (.lst xs))):TyOf K H (.ref a) (.type "list")
 |tup {a:Addr} {xs:List V} (e:H a=some (.tup xs)):TyOf K H (.ref a) (.type "tuple")
 |dK {a:Addr} {kvs:List (Key×V)} (e:H a=some (.dK kvs)):TyOf K H (.ref a) (.type "dict")
 |dT {a:Addr} {kvs:List (List Key×V)} (e:H a=some (.dT kvs)):TyOf K H (.ref a) (.type "dict")
 |ins {a C dx:Addr} {fs:List (Str×V)} (e:H a=some (.ins C dx fs)) (cl:Cls K C) (ha:W.findIn K (.ref C) "__class__"=some (some (.builtin "object.__class__")))
   (hn:W.specialIn K (.builtin "object.__class__") "__get__"=some (some (.builtin "getset_descriptor.__get__"))) (htk:W.takesIn K (.builtin "object.__class__")=some true)
   (hm:W.mroIn K C (.type "object")=some true):TyOf K H (.ref a) (.ref C)
theorem EK{x:V}{u t:Value}(I:Inv X pins σ H s)(rx:RelV x u)(ty:TyOf X.K H x t)(e:W.kitOne X.K t c=some b)(h:∀tk,Q (.bool b) { s with toks:=tk }):
  wpAny (model X.prog X.w) A (call (.builtin "isinstance") [u,c]) Q E s:=by
 cases ty with
 |non=>cases (show u=Value.none from rx);exact cQ W.kitx_none I.kIn True.intro e (λz=>nomatch z) h
 |bl y=>cases (show u=Value.bool y from rx);exact cQ W.kitx_bool I.kIn True.intro e (λz=>nomatch z) h
 |int i=>obtain⟨t,q⟩:=(show ∃t,u=Value.int i t from rx);cases q;exact cQ W.kitx_int I.kIn True.intro e (λz=>nomatch z) h
 |str y=>obtain⟨t,q⟩:=(show ∃t,u=Value.str y t from rx);cases q;exact cQ W.kitx_str I.kIn True.intro e (λz=>nomatch z) h
 |flt y=>obtain⟨t,q⟩:=(show ∃t,u=Value.float y t from rx);cases q;exact cQ W.kitx_float I.kIn True.intro e (λz=>nomatch z) h
 | @lst a xs ea =>
  cases (show u=Value.ref a from rx)
  obtain⟨_,_,n,_,h1⟩:=(show ObjOk X.prog X.w H s.heap a (.lst xs) from I.hok a _ ea)
  exact cQ W.kitx_list I.kIn ⟨_,h1,rfl⟩ e (λz=>nomatch z) h
 | @frz a ob xs ea =>
  cases (show u=Value.ref a from rx)
  obtain⟨_,_,_,n,_,h1⟩:=(show ObjOk X.prog X.w H s.heap a (.frz ob (.lst xs)) from I.hok a _ ea)
  exact cQ W.kitx_list I.kIn ⟨_,h1,rfl⟩ e (λz=>nomatch z) h
 | @tup a xs ea =>
  cases (show u=Value.ref a from rx)
  obtain⟨_,_,_,p⟩:=(show ObjOk X.prog X.w H s.heap a (.tup xs) from I.hok a _ ea)
  obtain⟨o,h1,h2,_⟩:=p;exact cQ W.kitx_tuple I.kIn ⟨o,h1,h2⟩ e (λz=>nomatch z) h
 | @dK a kvs ea =>
  cases (show u=Value.ref a from rx)
  obtain⟨_,_,vs,_,p⟩:=(show ObjOk X.prog X.w H s.heap a (.dK kvs) from I.hok a _ ea)
  obtain⟨o,es,ep,h1,h2,_⟩:=p;exact cQ W.kitx_dict I.kIn ⟨o,h1,h2.1⟩ e (λz=>nomatch z) h
 | @dT a kvs ea =>
  cases (show u=Value.ref a from rx)
  obtain⟨_,_,xs,_,o,es,ep,h1,h2,_⟩:=(show ObjOk X.prog X.w H s.heap a (.dT kvs) from I.hok a _ ea)
  exact cQ W.kitx_dict I.kIn ⟨o,h1,h2.1⟩ e (λz=>nomatch z) h
 | @ins a C dx fs ea cl ha hn htk hm =>
  cases (show u=Value.ref a from rx)
  obtain⟨mA,O,_⟩:=u5 I.hok ea;obtain⟨od,J,_⟩:=O.look;exact cQ (W.kitx_own (cl.get _) cl.hd ha hn htk hm) I.kIn J e (λz=>nomatch z) h
end
structure Room(k:Nat)(A:Around):Prop where
 hd:A.handled=none
 dp:A.depth+3*k+5<recursionLimit
 un:A.units+16*k+200<cLine
theorem Room.mono{j k:Nat}{A:Around}(r:Room k A)(h:j<=k):Room j A:=⟨r.hd,by have:=r.dp;omega,by have:=r.un;omega⟩
theorem Room.deeper{k:Nat}{A:Around}(r:Room (k+1) A)(env:Env):Room k (A.deeper env):=
 ⟨r.hd,by have:=r.dp;show A.depth+1+3*k+5<_;omega,by have:=r.un;show A.units+3+16*k+200<_;omega⟩
theorem Cq{A:Around}:(A.under (.builtin "type.__call__" ⟨.ref C::us,kw⟩)).depth=A.depth+1:=by first|rfl|simp[Around.under,Code.weight,Code.isCreation,Code.isGuard,Code.isCaller,Code.frames,Code.isFrame,guardIds]
theorem Cu{A:Around}:(A.under (.builtin "type.__call__" ⟨.ref C::us,kw⟩)).units=A.units+1:=by first|rfl|simp[Around.under,Code.cUnits,Code.frames,Code.isFrame]
theorem Room.make{k:Nat}{A:Around}(r:Room (k+1) A)(C:Addr)(us:List Value)(kw:List (Str×Value)):Room k (A.under (.builtin "type.__call__" ⟨.ref C::us,kw⟩)):=
 ⟨r.hd,by have:=r.dp;rw[Cq];omega,by have:=r.un;rw[Cu];omega⟩
theorem Room.depth{k:Nat}{A:Around}(r:Room k A):A.depth<recursionLimit:=by have:=r.dp;omega
theorem Room.units{k:Nat}{A:Around}(r:Room k A):A.units+64<cLine:=by have:=r.un;omega
@[reducible] def tNil:TA:=λ_ H Q=>Q [] H
@[reducible] def tCons (ta:TE) (tr:TA):TA:=λσ H Q=>ta σ H λx H1=>tr σ H1 λxs H2=>Q (x::xs) H2
variable{es:List Expr}{te:TE}{t:TA}
theorem yq:PA X [] tNil:=λ_ _ _ _ H Q I h=>Calls.spliced_nil ⟨[],H,I,.nil,h⟩
theorem zu(ha:PE X e te)(hr:PA X es t)(hs:starEach (e::es) X.env=(false,eval e X.env)::starEach es X.env:=by rfl):PA X (e::es) (tCons te t):=by intro pos pins s σ H Q I h;rw[hs];show wpAny _ _ (spliced ((false,eval e X.env)::backTo pos (starEach es X.env))) _ _ s;refine Calls.spliced_cons (thn (ha pins s σ H _ I h) λu s1 ⟨x,H1,I1,r1,q1⟩=>?_);exact thn (hr pos pins s1 σ H1 _ I1 q1) λus s2 ⟨xs,H2,I2,r2,q2⟩=>⟨x::xs,H2,I2,.cons r1 r2,q2⟩
def tTup(t:TA):TE:=λσ H Q=>t σ H λxs H1=>xs.length<=sizeLine/\∀p,H1 p=none->Q (.ref p) (upd H1 p (.tup xs))
def tLst(t:TA):TE:=λσ H Q=>t σ H λxs H1=>xs.length<=sizeLine/\∀p,H1 p=none->Q (.ref p) (upd H1 p (.lst xs))
theorem zo{x1}(h:PA X es t):PE X (.Tuple es x1 pos) (tTup t):=by intro pins s σ H Q I hq;refine wpAny_Tuple_spliced (thn (h pos pins s σ H _ I hq) λus s1 ⟨xs,H1,I1,r,z,q⟩=>⟨by rw[<-r.length];exact z,?_⟩);have hf:H1 s1.heap.objs.size=none:=I1.hok.fresh (ak _);refine⟨.ref s1.heap.objs.size,upd H1 s1.heap.objs.size (.tup xs),I1.laid (t':=s1.toks) (λb u e=>Heap.get?_push_of_some _ e) (ak _) ?_,rfl,q _ hf⟩;exact⟨z,us,r,⟨_,Heap.get?_push_size _ rfl,rfl,_,rfl⟩⟩
theorem zP(h:PA X es t):PE X (.List es pos) (tLst t):=by intro pins s σ H Q I hq;refine wpAny_List_spliced (thn (h pos pins s σ H _ I hq) λus s1 ⟨xs,H1,I1,r,z,q⟩=>⟨by rw[<-r.length];exact z,?_⟩);have hf:H1 s1.heap.objs.size=none:=I1.hok.fresh (ak _);refine⟨.ref s1.heap.objs.size,upd H1 s1.heap.objs.size (.lst xs),I1.laid (t':=s1.toks) (λb u e=>Heap.get?_push_of_some _ e) (ak _) ?_,rfl,q _ hf⟩;exact⟨z,us,0,r,Heap.get?_push_size _ rfl⟩
abbrev Sp:=List V->Hp->VK->XK->Prop
abbrev CXT:=List Env->Hp->Shared->XK->Value->Shared->Prop
structure Env0(P:Program)(w:World)(K:jj)(mg:Str->Option Value)(base:Heap)(A:Around)(outer:List Env)(s:Shared)(H:Hp):Prop where
 frames:A.frames=some outer
 mod:Mod K mg base
 bs:∀b o,base.get? b=some o->s.heap.get? b=some o/\H b=none
 bsz:base.objs.size<=s.heap.objs.size
 funs:s.heap.FunFrames base outer
 frf:∀b∈frs outer,H b=none
 hok:HOk P w H s.heap
 bare:AllBare s.gens
def CE(outer:List Env)(P:Program)(w:World)(H:Hp)(s:Shared)(Q:VK)(u:Value)(s':Shared):Prop :=
 ∃v H',s'.os=s.os/\AllBare s'.gens/\Un (frs outer) [] H H' s.heap s'.heap/\HOk P w H' s'.heap/\RelV v u/\Q v H'
def CR(CX:CXT)(outer:List Env)(P:Program)(w:World)(H:Hp)(s:Shared)(Q:VK)(E:XK)(r:Result)(s':Shared):Prop :=
 match r with
 | .ok (.ret u)=>CE outer P w H s Q u s'
 | .ok _=>False
 | .error e=>CX outer H s E e s'
structure FnOk(P:Program)(w:World)(K:jj)(mg:Str->Option Value)(base:Heap)(CX:CXT)(k:Nat)(f:Addr)(fd:FuncData)(ps:List Str)(sp:Sp):Prop where
 len:∀vs H Q E,sp vs H Q E->vs.length=ps.length
 run:∀(A:Around)(outer:List Env)(s:Shared)(H:Hp)(args:Args)(us:List Value)(vs:List V)(Q:VK)(E:XK),Room k A->Env0 P w K mg base A outer s H->BindsTo s fd args (ps.zip us)->Vals vs us->sp vs H Q E ->
  codeAny (model P w) A (.call (.ref f) args) (CR CX outer P w H s Q E) s
variable{base:Heap}{outer:List Env}{mg:Str->Option Value}
theorem Env0.make{K:jj}{A:Around}{s:Shared}(e:Env0 P w K mg base A outer s H)(C:Addr)(us:List Value)(kw:List (Str×Value)): Env0 P w K mg base (A.under (.builtin "type.__call__" ⟨.ref C::us,kw⟩)) outer s H:=⟨by first|exact e.frames|(simpa [Around.under,Code.envs,Code.isFrame,pushEnvs] using e.frames),e.mod,e.bs,e.bsz,e.funs,e.frf,e.hok,e.bare⟩
section
variable{pins:List (Addr×Obj)}{σ:St}{s s':Shared}
theorem Inv.env0(I:Inv X pins σ H s):Env0 X.prog X.w X.K X.mg X.base X.A X.stack s H :=
 ⟨I.ok.frames,I.ok.mod,I.bs,cf I.ok.bsz I.sz,I.stack,I.stkFree,I.hok,I.bare⟩
theorem Inv.after{Q:VK}{u:Value}(I:Inv X pins σ H s)(h:CE X.stack X.prog X.w H s Q u s'):EP X pins σ Q u s':=by obtain⟨v,H',os,bare,un,hok,r,q⟩:=h;obtain⟨hh,g,d,t,os'⟩:=s';obtain rfl:os'=s.os:=os;exact⟨v,H',I.call (h':=hh) (g':=g) (d':=d) (t':=t) (ch:=[]) un hok bare (λb z=>absurd z (!1)),r,q⟩
end
def HI(sp:Sp)(dvs:List V)(E:XK)(t:TA):TE:=λσ H Q=>t σ H λvs H1=>sp (vs++dvs) H1 Q E
def CU(C:Addr)(m:Str)(sp:Sp)(dvs:List V)(E:XK)(ta:TE)(t:TA):TE:=λσ H Q=>ta σ H λx H1=>∃a dx fs,x=.ref a/\H1 a=some (.ins C dx fs)/\fs.lookup m=none /\
 t σ H1 λvs H2=>sp (x::(vs++dvs)) H2 Q E
def GV(C:Addr)(sp:Sp)(dvs:List V)(E:XK)(t:TA):TE:=λσ H Q=>t σ H λvs H1=>∀x dx,H1 x=none->H1 dx=none->dx≠x ->
 sp (.ref x::(vs++dvs)) (upd (upd H1 dx (.own x)) x (.ins C dx [])) (λv H2=>v=.non/\Q (.ref x) H2) E
def Binds(K:jj)(fd:FuncData)(ps:List Str)(ds:List Value):Prop :=
 ∀(s:Shared)(us:List Value),K.In s.heap->(us++ds).length=ps.length->BindsTo s fd ⟨us,[]⟩ (ps.zip (us++ds))
variable{ps:List Str}
theorem Binds.all{K:jj}{fd:FuncData}(h:∀us:List Value,us.length=ps.length->bindArgs fd ⟨us,[]⟩=pure (ps.zip us)):Binds K fd ps []:=λs us _ hl=>by rw[dU]at hl ⊢;exact .of_eq (h us hl)
def xH(CX:CXT)(X:Cx)(E:XK):Prop:=∀(pins:List (Addr×Obj))(σ:St)(H:Hp)(s:Shared)(e:Value)(s':Shared),Inv X pins σ H s->CX X.stack H s E e s'->X.xe e s'
variable{vs:List V}
section
variable{CX:CXT}{k:Nat}{f C:Addr}{fd:FuncData}{ps:List Str}{sp:Sp}{dvs:List V}{ds:List Value}{E:XK}{x m:Str}{p apos:Pos}
theorem D6{σ:St}{s:Shared}{Q:VK}(F:FnOk X.prog X.w X.K X.mg X.base CX k f fd ps sp)(hr:Room k X.A)(hb:Binds X.K fd ps ds)(hd:Vals dvs ds)(hx:xH CX X E)(I:Inv X pins σ H s)(r:Vals vs us)(h:sp (vs++dvs) H Q E):wpAny (model X.prog X.w) X.A (call (.ref f) us) (EP X pins σ Q) X.xe s:=by
 have r2:Vals (vs++dvs) (us++ds):=r.append hd;have hl:(us++ds).length=ps.length:=by rw[<-r2.length];exact F.len _ _ _ _ h
 refine wpAny_call (jc (F.run X.A X.stack s H ⟨us,[]⟩ (us++ds) (vs++dvs) Q E hr I.env0 (hb s us I.kIn hl) r2 h) λr s' hq=>?_);cases r with
 |error e=>exact hx pins σ H s e s' I hq
 |ok fl =>
  cases fl with
  |ret u=>exact I.after hq
  |next=>exact False.elim hq
  |brk=>exact False.elim hq
  |cont=>exact False.elim hq
theorem Ir(F:FnOk X.prog X.w X.K X.mg X.base CX k f fd ps sp)(hr:Room k X.A)(hg:Gl X x)(hm:X.mg x=some (.ref f))(hk:W.keepIn X.K (.ref f)=true)(hb:Binds X.K fd ps ds)(hd:Vals dvs ds)(hx:xH CX X E)(ha:PA X (e::es) t)(hdb:(x==("__debug__":Str))=false:=by decide)(he:starEach (e::es) X.env=(false,eval e X.env)::starEach es X.env:=by rfl)(hpl:(backTo pos (starEach es X.env)).any (·.1)=false:=by rfl):
  PE X (.Call (.Name x p) (e::es) [] pos) (HI sp dvs E t):=by
 intro pins s σ H Q I h;refine jd (Aw I hg hm ?_ hdb);refine gH (h₀:=X.base) I.ok.mod.kin hk (thn (ha pos pins s σ H _ I h) λus s1 ⟨vs,H1,I1,r,q⟩=>⟨I1.kIn,?_⟩) he hpl;exact D6 F hr hb hd hx I1 r q
theorem GX(he:PE X o ta)(c:Cls X.K C)(hm:Meth X.K C m f)(F:FnOk X.prog X.w X.K X.mg X.base CX k f fd ps sp)(hr:Room k X.A)(hb:Binds X.K fd ps ds)(hd:Vals dvs ds)(hx:xH CX X E)(ha:PA X (e::es) t)(hst:starEach (e::es) X.env=(false,eval e X.env)::starEach es X.env:=by rfl)(hpl:(backTo pos (starEach es X.env)).any (·.1)=false:=by rfl)(ht:eval (.Call (.Attribute o m apos) (e::es) [] pos) X.env=(do
   let ov <-eval o X.env
   standAt apos.atName
   let (f,first) <-holding [ov] (getMethod ov m pl)
   callWith pos f first (backTo pos (starEach (e::es) X.env)) (backToKw pos (keywordEach [] X.env))):=by rfl):
  PE X (.Call (.Attribute o m apos) (e::es) [] pos) (CU C m sp dvs E ta t):=by
 intro pins s σ H Q I h;refine iw (pl:=pl) (thn (he pins s σ H _ I h) λu s1 ⟨x,H1,I1,rx,a,dx,fs,ex,ea,l,q⟩=>?_) ht;subst ex;obtain rfl:u=Value.ref a:=rx;refine uy I1 ea c hm l ?_;refine gH (first:=[.ref a]) (h₀:=X.base) I.ok.mod.kin hm.kp (thn (ha pos pins s1 σ H1 _ I1 q) λus s2 ⟨vs,H2,I2,r,q2⟩=>⟨I2.kIn,?_⟩) hst hpl;exact D6 (us:=.ref a::us) (vs:=.ref a::vs) F hr hb hd hx I2 (.cons rfl r) q2
theorem FC(he:PE X o ta)(c:Cls X.K C)(hm:Meth X.K C m f)(F:FnOk X.prog X.w X.K X.mg X.base CX k f fd ps sp)(hr:Room k X.A)(hb:Binds X.K fd ps ds)(hd:Vals dvs ds)(hx:xH CX X E)(ht:eval (.Call (.Attribute o m apos) [] [] pos) X.env=(do
   let ov <-eval o X.env
   standAt apos.atName
   let (f,first) <-holding [ov] (getMethod ov m pl)
   callWith pos f first (backTo pos (starEach [] X.env)) (backToKw pos (keywordEach [] X.env))):=by rfl):
  PE X (.Call (.Attribute o m apos) [] [] pos) (CU C m sp dvs E ta tNil):=by
 intro pins s σ H Q I h;refine iw (pl:=pl) (thn (he pins s σ H _ I h) λu s1 ⟨x,H1,I1,rx,a,dx,fs,ex,ea,l,q⟩=>?_) ht;subst ex;obtain rfl:u=Value.ref a:=rx;refine uy I1 ea c hm l ?_;exact W.callWith_K0 (first:=[.ref a]) I1.kIn hm.kp (D6 (us:=[.ref a]) (vs:=[.ref a]) F hr hb hd hx I1 (.cons rfl .nil) q)
structure Mk(K:jj)(C f:Addr):Prop where
 makes:W.makesIn K C=true
 init:W.findIn K (.ref C) "__init__"=some (some (.ref f))
 fn:W.isFn K (.ref f)=true
 kp:W.keepIn K (.ref C)=true
theorem FZ{σ:St}{s:Shared}{Q:VK}(M:Mk X.K C f)(F:FnOk X.prog X.w X.K X.mg X.base CX k f fd ps sp)(hr:Room (k+1) X.A)(hb:Binds X.K fd ps ds)(hd:Vals dvs ds)(hx:xH CX X E)(I:Inv X pins σ H s)(r:Vals vs us)(h:∀x dx,H x=none->H dx=none->dx≠x->sp (.ref x::(vs++dvs)) (upd (upd H dx (.own x)) x (.ins C dx [])) (λv H2=>v=.non/\Q (.ref x) H2) E): wpAny (model X.prog X.w) X.A (call (.ref C) us) (EP X pins σ Q) X.xe s:=by
 have hq:=h (s.heap.objs.size+1) s.heap.objs.size (I.hok.fresh (fF _)) (I.hok.fresh (ak _)) (aR (fV _));have I2:=Inv.made (C:=C) I;have r2:Vals (V.ref (s.heap.objs.size+1)::(vs++dvs)) (Value.ref (s.heap.objs.size+1)::(us++ds)):=.cons rfl (r.append hd);have hl:(Value.ref (s.heap.objs.size+1)::us++ds).length=ps.length:=by have e:=r2.length;rw[F.len _ _ _ _ hq]at e;exact e.symm
 refine wpAny_call (FQ (f:=f) I.kIn M.makes M.init (beq_iff_eq.mp M.fn) (jc (F.run _ X.stack _ _ ⟨Value.ref (s.heap.objs.size+1)::us,[]⟩ (Value.ref (s.heap.objs.size+1)::(us++ds)) _ _ E (hr.make C us [])
  (I2.env0.make C us []) (hb _ (Value.ref (s.heap.objs.size+1)::us) I2.kIn hl) r2 hq) λr s' hq'=>?_))
 cases r with
 |error e=>exact hx pins σ _ _ e s' I2 hq'
 |ok fl =>
  cases fl with
  |ret u =>
   obtain⟨v,H',I3,rv,ev,q3⟩:=I2.after hq';subst ev;exact⟨rv,⟨V.ref (s.heap.objs.size+1),H',I3,rfl,q3⟩⟩
  |next=>exact False.elim hq'
  |brk=>exact False.elim hq'
  |cont=>exact False.elim hq'
theorem IA(M:Mk X.K C f)(F:FnOk X.prog X.w X.K X.mg X.base CX k f fd ps sp)(hr:Room (k+1) X.A)(hg:Gl X x)(hm:X.mg x=some (.ref C))(hb:Binds X.K fd ps ds)(hd:Vals dvs ds)(hx:xH CX X E)(ha:PA X (e::es) t)(hdb:(x==("__debug__":Str))=false:=by decide)(he:starEach (e::es) X.env=(false,eval e X.env)::starEach es X.env:=by rfl)(hpl:(backTo pos (starEach es X.env)).any (·.1)=false:=by rfl):
  PE X (.Call (.Name x p) (e::es) [] pos) (GV C sp dvs E t):=by
 intro pins s σ H Q I h;refine jd (Aw I hg hm ?_ hdb);refine gH (h₀:=X.base) I.ok.mod.kin M.kp (thn (ha pos pins s σ H _ I h) λus s1 ⟨vs,H1,I1,r,q⟩=>⟨I1.kIn,?_⟩) he hpl;exact FZ M F hr hb hd hx I1 r q
end
section
variable{CX:CXT}{k:Nat}{f C:Addr}{fd:FuncData}{ps ks:List Str}{sp:Sp}{E:XK}{x m:Str}{p apos kpos:Pos}{kws:List Keyword}{tk:TA}{nm:Option Str}
variable{g:List Value->List Value->List Value}{gV:List V->List V->List V}
end
structure FnScope(N P:List Str)(sc:Scope):Prop where
 kind:sc.kind=.function
 co:sc.isCoroutine=false
 gen:sc.isGenerator=false
 nd:N.Nodup
 pre:N.take P.length=P
 par:∀x∈P,sc.names.lookup x=some .local\/sc.names.lookup x=some .cell
 nofree:∀y∈sc.names,y.2≠.free
theorem Aj{kindOf:Str->Option NameKind}{x:Str}:∀{binds:List (Str×Value)}{m:Str->Option Value},(∀v,(x,v)∉binds)->bindL kindOf binds m x=m x
 |[],_,_=>rfl
 |(n,v)::r,m,h=>by
  unfold bindL;rw[Aj λw hw=>h w (aC _ hw)];split
  .have:x≠n:=by rintro rfl;exact h v aH
   simp[this]
  .rfl
theorem tP{kindOf:Str->Option NameKind}{x:Str}:∀{binds:List (Str×Value)}{m:Str->Option Value},(∀v,(x,v)∉binds)->bindC kindOf binds m x=m x
 |[],_,_=>rfl
 |(n,v)::r,m,h=>by
  unfold bindC;rw[tP λw hw=>h w (aC _ hw)];split
  .rfl
  .have:x≠n:=by rintro rfl;exact h v aH
   simp[this]
theorem Ah{kindOf:Str->Option NameKind}{x:Str}{v:Value}:∀{P:List Str}{vs:List Value}{i:Nat}{m:Str->Option Value},P.Nodup->P[i]?=some x->vs[i]?=some v->kindOf x=some .local -> bindL kindOf (P.zip vs) m x=some v
 |[],_,_,_,_,h,_,_=>by simp at h
 |_::_,[],_,_,_,_,h,_=>by simp at h
 |p::P,w::vs,0,m,nd,h1,h2,hk=>by simp at h1 h2;subst h1;subst h2;show bindL kindOf ((p,w)::P.zip vs) m p=_;unfold bindL;rw[Aj λv hv=>(dI.mp nd).1 (ix hv).1,iU hk];simp
 |p::P,w::vs,i+1,m,nd,h1,h2,hk=>by show bindL kindOf ((p,w)::P.zip vs) m x=_;unfold bindL;exact Ah (i:=i) (dI.mp nd).2 (by simpa using h1) (by simpa using h2) hk
theorem Ak{kindOf:Str->Option NameKind}{x:Str}{v:Value}:∀{P:List Str}{vs:List Value}{i:Nat}{m:Str->Option Value},P.Nodup->P[i]?=some x->vs[i]?=some v->kindOf x≠some .local -> bindC kindOf (P.zip vs) m x=some v
 |[],_,_,_,_,h,_,_=>by simp at h
 |_::_,[],_,_,_,_,h,_=>by simp at h
 |p::P,w::vs,0,m,nd,h1,h2,hk=>by simp at h1 h2;subst h1;subst h2;show bindC kindOf ((p,w)::P.zip vs) m p=_;unfold bindC;rw[tP λv hv=>(dI.mp nd).1 (ix hv).1,iV hk];simp
 |p::P,w::vs,i+1,m,nd,h1,h2,hk=>by show bindC kindOf ((p,w)::P.zip vs) m x=_;unfold bindC;exact Ak (i:=i) (dI.mp nd).2 (by simpa using h1) (by simpa using h2) hk
def start(N:List Str)(vs:List V):St:=vs.map some++List.replicate (N.length - vs.length) none
def cxOf(CX:CXT)(P:Program)(w:World)(K:jj)(mg:Str->Option Value)(base:Heap)(N:List Str)(qual:Str)(scope:Scope)(f:Addr)(cd:Value)(A:Around)(outer:List Env)(s:Shared)(H:Hp)(E:XK):Cx where
 prog:=P
 w:=w
 K:=K
 mg:=mg
 base:=base
 A:=A.deeper (envOfC qual scope s.heap.objs.size f cd)
 N:=N
 s₀:=s
 H₀:=H
 env:=envOfC qual scope s.heap.objs.size f cd
 outer:=outer
 stack:=envOfC qual scope s.heap.objs.size f cd::outer
 ex:=[]
 calm:=true
 fn:=λ_=>true
 pn:=[]
 xe:=λe s'=>wpAny (model P w) (A.deeper (envOfC qual scope s.heap.objs.size f cd)) (leaving (envOfC qual scope s.heap.objs.size f cd) e) (λ_ s''=>CX outer H s E e s'') (λe' s''=>CX outer H s E e' s'') s'
theorem BP{sc:Scope}{n:Nat}{x:Str}(h:sc.names.lookup x=some .cell):∃c,(cellsFrom n sc.names []).lookup x=some c:=by have q:=ip sc.names n [] (.inl h);exact gW.mp q
variable{CX:CXT}{scope:Scope}{qual:Str}
theorem Du{K:jj}{N:List Str}{f:Addr}{cd:Value}{A:Around}{s s1:Shared}{E:XK}(S:FnScope N ps scope)(hd:A.handled=none)(e0:Env0 P w K mg base A outer s H)(hl:vs.length=ps.length)(r:Vals vs us)(x:InCallC s s.heap.objs.size (bindL (envOfC qual scope s.heap.objs.size f cd).kindOf (ps.zip us) λ_=>none) (cellsFrom (s.heap.objs.size+1) scope.names []) (bindC (envOfC qual scope s.heap.objs.size f cd).kindOf (ps.zip us) λ_=>none) s1): Inv (cxOf CX P w K mg base N qual scope f cd A outer s H E) [] (start N vs) H s1:=by
 have hpl:ps.length<=N.length:=by have:=congrArg List.length S.pre;rw[aU]at this;omega
 obtain⟨h1,tk,rfl,hk⟩:=x.done;have noA:∀b:Addr,b∉(cxOf CX P w K mg base N qual scope f cd A outer s H E).ex:=λb z=>absurd (show b∈([]:List Addr) from z) (!1);refine⟨⟨e0.mod,S.kind,rfl,rfl,ak _,λy z c h1 h2=>?_,λy hy=>?_,λy c _ h=>?_,λ_=>hd,Around.frames_deeper e0.frames,.inr ⟨rfl,rfl⟩,λb z=>absurd z (noA b),e0.bs,e0.bsz,λb _ _=>noA b,λb z=>absurd z (noA b),e0.funs,e0.frf⟩,
  rfl,e0.bare,Un.kept hk,⟨_,x.toInCall.ns,λi y v h1 h2 h3=>?_⟩,λy c h=>⟨_,x.cell y c h⟩,e0.hok.fresh (ak _),λy c h=>?_,λp hp=>absurd (show p∈([]:List (Addr×Obj)) from hp) (!1),e0.hok.kept hk,?_⟩
 .exact name_of_addr x.apart (dy h1) (dy h2)
 .have hy:scope.names.lookup y=some .cell\/scope.names.lookup y=some .free:=hy;rcases hy with hy|hy
  .exact BP hy
  .exact absurd rfl (S.nofree _ (dy hy))
 .exact bU (x.above y c (dy h))
 .have hi:i<vs.length:=by
   unfold start at h2;by_cases hi:i<vs.length
   .exact hi
   .rw[aP (by simpa using hi)]at h2;rw[hU]at h2;split at h2<;>cases h2
  have ha:vs[i]?=some v:=by
   unfold start at h2;rw[aT (by simpa using hi),ao]at h2;cases e:vs[i]? with
   |none=>rw[e]at h2;cases h2
   |some a=>rw[e]at h2;cases h2;rfl
  obtain⟨u,hu,rv⟩:=r.get ha;have hp:ps[i]?=some y:=by rw[<-S.pre,eQ (by omega)];exact h1
  have ndP:ps.Nodup:=by rw[<-S.pre];exact S.nd.sublist (List.take_sublist _ _)
  refine⟨u,rv,?_⟩;rcases S.par y (ay hp) with k|k
  .exact .inl ⟨k,Ah ndP hp hu k⟩
  .obtain⟨c,e⟩:=BP (n:=s.heap.objs.size+1) k;refine .inr ⟨.inl k,c,e,?_⟩;have q:=x.cell y c e;rw[Ak ndP hp hu (by show scope.names.lookup y≠_;rw[k];decide)]at q;exact q
 .exact e0.hok.fresh (bU (x.above y c (dy h)))
 .unfold start;show _=N.length;rw[ai,aa,iy];omega
theorem J9{K:jj}{k:Nat}{f:Addr}{name:Str}{params:Arguments}{dV kV doc pm cdv ct oc:Value}{an od:Option Addr}{osl:Array (Option Value)}{N:List Str}{sp:Sp}(lk:K.lookup f=some ⟨oc,od,.func (W.fnOf name qual params body scope dV kV doc pm an cdv ct),osl⟩)(hcd:W.codeIn K cdv qual=true)(S:FnScope N ps scope)(len:∀vs H Q E,sp vs H Q E->vs.length=ps.length)(hbody:∀(A:Around)(outer:List Env)(s:Shared)(H:Hp)(vs:List V)(Q:VK)(E:XK),Room k (A.deeper (envOfC qual scope s.heap.objs.size f cdv))->sp vs H Q E ->
   ∃t,PSs (cxOf CX P w K mg base N qual scope f cdv A outer s H E) body t/\t { nx:=λ_ H'=>Q .non H',rt:=Q } (start N vs) H):
  FnOk P w K mg base CX (k+1) f (W.fnOf name qual params body scope dV kV doc pm an cdv ct) ps sp:=by
 refine⟨len,λA outer s H args us vs Q E hr e0 hb r hsp=>?_⟩;have hl:=len _ _ _ _ hsp;have KX:K.In s.heap:=e0.mod.kin.keeps λb o e=>(e0.bs b o e).1;have lim:s.heap.NoLimit:=e0.mod.nolimit.keeps λb o e=>(e0.bs b o e).1;have hkind:∀y∈ps.zip us,scope.names.lookup y.1=some .local\/(scope.names.lookup y.1=some .cell/\((cellsFrom (s.heap.objs.size+1) scope.names []).lookup y.1).isSome=true):=λ⟨n,v⟩ hy=>by
  rcases S.par n (ix hy).1 with q|q
  .exact .inl q
  .exact .inr ⟨q,ip _ _ _ (.inl q)⟩
 refine codeAny_call_function hr.depth (KX _ _ lk) rfl S.co S.gen rfl (W.codeRec_of KX hcd) (hb _ _ _ _ ?_);refine wpAny_newFunctionEnv_cells S.kind hkind λenv he s1 x=>?_;subst he;refine⟨lim.keeps x.toInCall.keep,codeAny_func ?_⟩;obtain⟨t,ht,hq⟩:=hbody A outer s H vs Q E (hr.deeper _) hsp;have I:Inv (cxOf CX P w K mg base N qual scope f cdv A outer s H E) [] (start N vs) H s1:=Du S hr.hd e0 hl r x;refine iW (ht [] s1 (start N vs) H _ I hq) (λfl s' hs=>?_) λe s' hs=>hs;have fin:∀{σ':St}{H':Hp}{v:V}{u:Value},Inv (cxOf CX P w K mg base N qual scope f cdv A outer s H E) [] σ' H' s'->RelV v u->Q v H'->CE outer P w H s Q u s' :=
  λ{σ' H' v u} J rv q=>⟨v,H',J.os,J.bare,J.base,J.hok,rv,q⟩
 cases fl with
 |ret u =>
  obtain⟨v,σ',H',J,rv,q⟩:=hs;exact fin J rv q
 |next =>
  obtain⟨σ',H',J,q⟩:=hs;exact fin (v:=V.non) (u:=Value.none) J rfl q
 |brk =>
  obtain⟨_,_,_,q⟩:=hs;exact False.elim q
 |cont =>
  obtain⟨_,_,_,q⟩:=hs;exact False.elim q
section
variable{x:Str}{p:Pos}{id T:String}{r:List V->Hp->VK->Prop}
def tCB(r:List V->Hp->VK->Prop)(t:TA):TE:=λσ H Q=>t σ H λvs H1=>r vs H1 Q
theorem zp(hc:yZ X (.builtin id) r)(hg:Gl X x)(hm:X.mg x=none)(hv:bootBuiltins x=some (.builtin id))(ha:PA X (e::es) t)(hn:x≠"__name__":=by decide)(hdb:(x==("__debug__":Str))=false:=by decide)(he:starEach (e::es) X.env=(false,eval e X.env)::starEach es X.env:=by rfl)(hpl:(backTo pos (starEach es X.env)).any (·.1)=false:=by rfl):PE X (.Call (.Name x p) (e::es) [] pos) (tCB r t):=by intro pins s σ H Q I h;refine jd (vw I hg hm hv ?_ hn hdb);exact PyProof.Rows.callWith_builtin1 (thn (ha pos pins s σ H _ I h) λus s1 ⟨vs,H1,I1,r1,q1⟩=>hc pins s1 σ H1 vs us Q I1 r1 q1) he hpl
theorem yR(hc:yZ X (.type T) r)(hg:Gl X x)(hm:X.mg x=none)(hv:bootBuiltins x=some (.type T))(ha:PA X (e::es) t)(hn:x≠"__name__":=by decide)(hdb:(x==("__debug__":Str))=false:=by decide)(he:starEach (e::es) X.env=(false,eval e X.env)::starEach es X.env:=by rfl)(hpl:(backTo pos (starEach es X.env)).any (·.1)=false:=by rfl):PE X (.Call (.Name x p) (e::es) [] pos) (tCB r t):=by intro pins s σ H Q I h;refine jd (vw I hg hm hv ?_ hn hdb);exact cW (thn (ha pos pins s σ H _ I h) λus s1 ⟨vs,H1,I1,r1,q1⟩=>hc pins s1 σ H1 vs us Q I1 r1 q1) he hpl
end
end L2
namespace HT
open PySem PyProof.Rows
open PySem.SeqAt
open PySem.AutoSeq1 (wpAny_loadPart')
open PySem.MeetsSeq PySem.MeetsSeq2 PySem.MeetsSeq3
variable{sl t:Addr}{hi lo:Option Int}{vl vu:Value}
section
variable{prog:Program}{w:World}{A:Around}{E:Value->Shared->Prop}{s:Shared}
theorem cat_tup{b:Addr}{vs ws:List Value}{Q:Value->Shared->Prop}(ht:IsTup s.heap t vs.toArray)(hb:IsTup s.heap b ws.toArray)(hv:vs≠[])(h1:ws=[]->Q (.ref t) s)(h2:ws≠[]->Q (.ref s.heap.objs.size) { s with heap:=s.heap.push { cls:=.type "tuple",data:=.seq (vs++ws).toArray } })(hsz:vs.length+ws.length<=sizeLine):wpAny (model prog w) A (binaryOp .Add (.ref t) (.ref b)) Q E s:=by
 obtain⟨⟨cls,dd,data,sl⟩,ho,hc,n,hd⟩:=id ht;obtain⟨⟨cls2,dd2,data2,sl2⟩,ho2,hc2,n2,hd2⟩:=id hb;simp only at hc hd hc2 hd2;subst hc hd hc2 hd2;have e:vs.toArray++ws.toArray=(vs++ws).toArray:=by simp
 by_cases hw:ws=[]
 .exact concat_meets ⟨_,ho,rfl⟩ ⟨_,ho2,rfl⟩ noFill_tuple_add seq_tuple_add iq hV (gY _ _)
   (tuple_addW1 t b vs.toArray ws.toArray n n2 dd dd2 sl sl2 (by simpa using hv) (by simp[hw])) ⟨ho,ho2,h1 hw⟩
 .refine concat_meets ⟨_,ho,rfl⟩ ⟨_,ho2,rfl⟩ noFill_tuple_add seq_tuple_add iq hV (gY _ _)
   (tuple_addW2 t b vs.toArray ws.toArray n n2 dd dd2 sl sl2 (by simpa using hv) (by simpa using hw) (by rw[aZ,aZ];exact hsz)) ⟨ho,ho2,?_⟩
  rw[e];exact h2 hw
def sIx(n d:Nat):Option Int->Nat
 |none=>d
 |some v=>if v<0 then (v+(n:Int)).toNat else min v.toNat n
theorem sIx_none(n d:Nat):sIx n d none=d:=rfl
theorem sIx_nat(n d k:Nat):sIx n d (some (k:Int))=min k n:=by show(if (k:Int)<0 then ((k:Int)+(n:Int)).toNat else min (k:Int).toNat n)=min k n;rw[iV (by omega),Int.toNat_natCast]
theorem JZ(n d:Nat)(hd:d<=n)(o:Option Int):sIx n d o<=n:=by
 cases o with
 |none=>exact hd
 |some v =>
  show(if v<0 then (v+(n:Int)).toNat else min v.toNat n)<=n;by_cases hv:v<0
  .rw[iU hv];omega
  .rw[iV hv];exact Nat.min_le_right _ _
theorem EG(v:Int)(n d:Nat):(if v<0 then max (v+(n:Int)) 0 else min v (n:Int))=((sIx n d (some v):Nat):Int):=by
 show(if v<0 then max (v+(n:Int)) 0 else min v (n:Int))=(((if v<0 then (v+(n:Int)).toNat else min v.toNat n):Nat):Int)
 by_cases hv:v<0
 .simp only[iU hv];omega
 .simp only[iV hv];omega
theorem CC(lo hi:Option Int)(n:Nat):Builtin.Slice.sliceAdjust lo hi 1 (n:Int)=(((sIx n 0 lo:Nat):Int),((sIx n n hi:Nat):Int)):=by
 have h1:¬ ((1:Int)<0):=by omega
 unfold Builtin.Slice.sliceAdjust;simp only[h1,if_false];refine Prod.ext ?_ ?_
 .cases lo with
  |none=>rfl
  |some v=>exact EG v n 0
 .cases hi with
  |none=>rfl
  |some v=>exact EG v n n
theorem Cj(i j:Nat):Builtin.Slice.slicePlaces (i:Int) (j:Int) 1=j - i:=by
 unfold Builtin.Slice.slicePlaces;have h1:(1:Int) > 0:=by omega
 simp only[h1,if_true,Int.ediv_one];split<;>omega
theorem ui{v:Value}{o:Option Int}{Q:Option Int->Shared->Prop}(p:IsPart v o)(h:Q o s):wpAny (model prog w) A (Builtin.Slice.slicePartIndex v) Q E s:=by
 cases p with
 |none=>exact slicePart_none h
 |int i t=>exact slicePart_int h
theorem wR{n:Nat}{Q:Int×Int×Nat->Shared->Prop}(hs:s.heap.IsSliceOf sl vl vu .none)(pl:IsPart vl lo)(pu:IsPart vu hi)(h:Q (((sIx n 0 lo:Nat):Int),1,sIx n n hi - sIx n 0 lo) s):wpAny (model prog w) A (Builtin.Slice.sliceApplied (.ref sl) (pure (n:Int))) Q E s:=by obtain⟨os,hos,hcs,hds⟩:=id hs;unfold Builtin.Slice.sliceApplied Builtin.Slice.sliceFields;refine i4 (i4 (wpAny_field hos hds (x:=vl) rfl (i4 (wpAny_field hos hds (x:=vu) rfl (i4 (wpAny_field hos hds (x:=.none) rfl (i6 ?_)))))));refine i4 (slicePart_none ?_);show wpAny _ _ (if ((1:Int)==0)=true then _ else _) _ _ s;rw[iV (by decide)];refine i4 (ui pl (i4 (ui pu (i4 (i6 ?_)))));show wpAny _ _ (match Builtin.Slice.sliceAdjust lo hi 1 (n:Int) with|(lo,hi)=>pure (lo,(1:Int),Builtin.Slice.slicePlaces lo hi 1)) _ _ s;rw[CC lo hi n];show wpAny _ _ (pure (((sIx n 0 lo:Nat):Int),(1:Int),Builtin.Slice.slicePlaces ((sIx n 0 lo:Nat):Int) ((sIx n n hi:Nat):Int) 1)) _ _ s;rw[Cj];exact i6 h
theorem ET(xs:Array Value)(i k:Nat):((List.range k).filterMap λ(m:Nat)=>xs[((i:Int)+(m:Int)*1).toNat]?).toArray=((xs.toList.drop i).take k).toArray:=by
 have e:(λ(m:Nat)=>xs[((i:Int)+(m:Int)*1).toNat]?)=λm=>xs[i+m]?:=by
  funext m;have:((i:Int)+(m:Int)*1).toNat=i+m:=by omega
  rw[this]
 rw[e];have:=pick_run xs i k;rw[List.filterMap_map]at this;have e2:((λx=>xs[x]?) ∘ λx=>i+x)=λm=>xs[i+m]?:=rfl;rw[e2]at this;rw[this]
theorem getItem_tuple_cut{items:Array Value}{Q:Value->Shared->Prop}(ht:IsTup s.heap t items)(hs:s.heap.IsSliceOf sl vl vu .none)(pl:IsPart vl lo)(pu:IsPart vu hi)(hw:¬ (sIx items.size 0 lo=0/\sIx items.size items.size hi=items.size))(h:Q (.ref s.heap.objs.size) { s with heap:=s.heap.push { cls:=.type "tuple",data:=.seq ((items.toList.drop (sIx items.size 0 lo)).take (sIx items.size items.size hi - sIx items.size 0 lo)).toArray } })(hsz:items.size<=sizeLine):wpAny (model prog w) A (getItem (.ref t) (.ref sl)) Q E s:=by
 have htake:sizeOk (.seq ((items.toList.drop (sIx items.size 0 lo)).take (sIx items.size items.size hi - sIx items.size 0 lo)).toArray):=by show((items.toList.drop (sIx items.size 0 lo)).take (sIx items.size items.size hi - sIx items.size 0 lo)).toArray.size<=sizeLine;rw[aZ,aU,dO,eP];omega
 have hj:sIx items.size items.size hi<=items.size:=JZ _ _ (ak _) hi;obtain⟨os,hos,hcs,hds⟩:=id hs;have hTs:s.TypeIs (.ref sl) "slice":=⟨os,hos,hcs⟩
 unfold getItem;try with_reducible refine je ?_
 first|refine i4 (i6 ?_)|skip
 refine i4 (wpAny_sequenceKey ht.typeIs (by decide) ?_);refine i4 (wpAny_callSpecial?_slot (name:=Str.ofString "__getitem__") ht.typeIs dJ
  (wpAny_call_entry dJ ht.typeIs entry_tuple_getitem ?_ (args_tuple_getitem _ _)))
 show wpAny _ _ (Builtin.Tuple.tupleItemsOf (.ref t) >>= _) _ _ s;refine i4 (tupleItemsOf_ ht ?_);refine i4 (jf hTs ?_);rw[iU (by decide)];refine i4 (wR hs pl pu ?_);have hno:¬ ((((sIx items.size 0 lo:Nat):Int)==0 && (1:Int)==1 && (sIx items.size items.size hi - sIx items.size 0 lo)==items.size)=true):=by intro q;rw[dj,dj]at q;have q1:((sIx items.size 0 lo:Nat):Int)=0:=eq_of_beq q.1.1;have q2:sIx items.size items.size hi - sIx items.size 0 lo=items.size:=eq_of_beq q.2;exact hw ⟨by omega,by omega⟩
 show wpAny _ _ (if (((sIx items.size 0 lo:Nat):Int)==0 && (1:Int)==1 && (sIx items.size items.size hi - sIx items.size 0 lo)==items.size)=true then _ else _) _ _ s;rw[iV hno,ET];first
  |exact i4 (m:=Builtin.Tuple.tupleExact _) (i7 (i6 ⟨_,rfl,i6 h⟩) htake)
  |exact i4 (m:=Builtin.Tuple.tupleExact _) (i7 (i4 (i6 (i6 ⟨_,rfl,i6 h⟩))) htake)
  |exact i4 (i4 (m:=Builtin.Tuple.tupleExact _) (i7 (i6 (i6 ⟨_,rfl,i6 h⟩)) htake))
  |exact i4 (i4 (m:=Builtin.Tuple.tupleExact _) (i7 (i6 ⟨_,rfl,i6 h⟩) htake))
end
end HT
namespace L2
open PySem PySem.Spec PyProof.Rows
abbrev TO:=St->Hp->(Option Int->Hp->Prop)->Prop
def PO(X:Cx)(e:Option Expr)(t:TO):Prop :=
 ∀(pins:List (Addr×Obj))(s:Shared)(σ:St)(H:Hp)(Q:Option Int->Hp->Prop),Inv X pins σ H s->t σ H Q ->
  wpAny (model X.prog X.w) X.A (evalPart e X.env) (λu s'=>∃o H',Inv X pins σ H' s'/\IsPart u o/\Q o H') X.xe s
def DM:TO:=λ_ H Q=>Q none H
def Jy(t:TE):TO:=λσ H Q=>t σ H λx H1=>∃i,x=.int i/\Q (some i) H1
variable{X:Cx}{e:Expr}{te:TE}{lo hi:Option Expr}{tl th:TO}{pos p2:Pos}
theorem wH:PO X none DM:=by intro pins s σ H Q I h;rw[evalPart_none];exact i6 ⟨none,H,I,.none,h⟩
theorem xu(h:PE X e te):PO X (some e) (Jy te):=by intro pins s σ H Q I hw;rw[evalPart_some];refine thn (h pins s σ H _ I hw) λu s1 ⟨x,H1,I1,r1,q1⟩=>?_;obtain⟨i,rfl,q⟩:=q1;obtain⟨t,rfl⟩:=r1;exact⟨some i,H1,I1,.int i t,q⟩
def SlR(X:Cx)(r:V->Option Int->Option Int->Hp->VK->Prop):Prop :=
 ∀(pins:List (Addr×Obj))(s:Shared)(σ:St)(H:Hp)(x:V)(v vl vu:Value)(lo hi:Option Int)(sl:Addr)(Q:VK),Inv X pins σ H s->RelV x v->s.heap.IsSliceOf sl vl vu .none->IsPart vl lo->IsPart vu hi->r x lo hi H Q ->
  ∃T id,typeLookup (.type T) "__getitem__"=pure (some (.builtin id))/\s.TypeIs v T/\wpAny (model X.prog X.w) X.A (getItem v (.ref sl)) (EP X pins σ Q) X.xe s
def tSl(r:V->Option Int->Option Int->Hp->VK->Prop)(te:TE)(tl th:TO):TE:=λσ H Q=>te σ H λx H1=>tl σ H1 λl H2=>th σ H2 λu H3=>r x l u H3 Q
theorem xa{r:V->Option Int->Option Int->Hp->VK->Prop}(hr:SlR X r)(he:PE X e te)(hl:PO X lo tl)(hu:PO X hi th):PE X (.Subscript e (.Slice lo hi none p2) pos) (tSl r te tl th):=by intro pins s σ H Q I h;refine Subscript_ (thn (he pins s σ H _ I h) λv s1 ⟨x,H1,I1,r1,q1⟩=>?_);refine wpAny_Slice (thn (hl pins s1 σ H1 _ I1 q1) λvl s2 ⟨l,H2,I2,pl,q2⟩=>thn (hu pins s2 σ H2 _ I2 q2) λvu s3 ⟨u,H3,I3,pu,q3⟩=>?_);rw[evalPart_none];refine i6 ?_;have I4:Inv X pins σ H3 { s3 with heap:=s3.heap.push { cls:=.type "slice",data:=.fields #[vl,vu,.none] } }:=I3.kept (t':=s3.toks) λb ob q=>Heap.get?_push_of_some _ q;obtain⟨T,id,hT,ht,hg⟩:=hr pins { s3 with heap:=s3.heap.push { cls:=.type "slice",data:=.fields #[vl,vu,.none] } } σ H3 x v vl vu l u s3.heap.objs.size Q I4 r1 (Heap.IsSliceOf.new ..) pl pu q3;show wpAny (model X.prog X.w) X.A (subscriptTail e (.Slice lo hi none p2) v (.ref s3.heap.objs.size)) (EP X pins σ Q) X.xe { s3 with heap:=s3.heap.push { cls:=.type "slice",data:=.fields #[vl,vu,.none] } };exact tail_any (ops:=[.ref s3.heap.objs.size,v]) ht hT hg (by with_unfolding_all rfl)
def cutV(xs:List V)(lo hi:Option Int):List V:=(xs.drop (HT.sIx xs.length 0 lo)).take (HT.sIx xs.length xs.length hi - HT.sIx xs.length 0 lo)
theorem vm(xs:List V)(lo hi:Option Int):(cutV xs lo hi).length<=xs.length:=by unfold cutV;rw[aU,dO];omega
def rSlT(K:jj):V->Option Int->Option Int->Hp->VK->Prop:=λx lo hi H Q=>∃a xs,x=.ref a/\SqT K H a xs /\
 ¬ (HT.sIx xs.length 0 lo=0/\HT.sIx xs.length xs.length hi=xs.length)/\∀p,H p=none->Q (.ref p) (upd H p (.tup (cutV xs lo hi)))
theorem Jj:SlR X (rSlT X.K):=by
 intro pins s σ H x v vl vu lo hi sl Q I rx hs pl pu h;obtain⟨a,xs,rfl,hx,hw,q⟩:=h;cases rx
 obtain⟨its,r,ht,hz⟩:=I.tuple hx;have hlen:its.toArray.size=xs.length:=by rw[aZ];exact r.length.symm
 refine⟨"tuple",_,dJ.lookup,ht.typeIs,?_⟩;refine HT.getItem_tuple_cut ht hs pl pu (by rw[hlen];exact hw) ?_ (by rw[hlen];exact hz);rw[hlen];refine⟨.ref s.heap.objs.size,_,I.laid (t':=s.toks) (o:=.tup (cutV xs lo hi)) (λb ob q=>Heap.get?_push_of_some _ q) (ak _) ?_,rfl,q _ (I.hok.fresh (ak _))⟩;exact⟨cf (vm xs lo hi) hz,_,(r.drop (HT.sIx xs.length 0 lo)).take (HT.sIx xs.length xs.length hi - HT.sIx xs.length 0 lo),IsTup.new _ _⟩
def IU(K:jj):R2:=λx y H Q=>∃a b xs ys,x=.ref a/\y=.ref b/\SqT K H a xs/\SqT K H b ys/\xs≠[]/\xs.length+ys.length<=sizeLine /\
 (ys=[]->Q (.ref a) H)/\(ys≠[]->∀p,H p=none->Q (.ref p) (upd H p (.tup (xs++ys))))
theorem Vals.nil_iff{xs:List V}{us:List Value}(r:Vals xs us):us=[]↔xs=[]:=by
 cases r with
 |nil=>simp
 |cons _ _=>simp
theorem GW:OpR X (binaryOp .Add) (IU X.K):=by
 intro pins s σ H x y v u Q I rx ry h;obtain⟨a,b,xs,ys,rfl,rfl,ha,hb,hx,hz,q1,q2⟩:=h;cases rx
 cases ry
 obtain⟨its,r1,p1,_⟩:=I.tuple ha;obtain⟨its2,r2,p2,_⟩:=I.tuple hb;refine HT.cat_tup p1 p2 (λz=>hx (r1.nil_iff.mp z)) (λz=>⟨.ref a,H,I,rfl,q1 (r2.nil_iff.mp z)⟩) (λz=>?_) (by rw[<-r1.length,<-r2.length];exact hz);refine⟨.ref s.heap.objs.size,_,I.laid (t':=s.toks) (o:=.tup (xs++ys)) (λb ob q=>Heap.get?_push_of_some _ q) (ak _) ?_,rfl,q2 (λw=>z (r2.nil_iff.mpr w)) _ (I.hok.fresh (ak _))⟩;exact⟨by rw[ai];exact hz,_,r1.append r2,IsTup.new _ _⟩
def ixN(n:Nat)(i:Int):Option Nat:=if 0<=i then (if i<n then some i.toNat else none) else if -(n:Int)<=i then some (i+n).toNat else none
def atI{α:Type}(xs:List α)(i:Int):Option α:=(ixN xs.length i).bind λj=>xs[j]?
theorem Iq{n:Nat}{i:Int}{j:Nat}(h:ixN n i=some j):seqIndex? i n=some j/\j<n/\-(n:Int)<=i/\i<n:=by
 unfold ixN at h;by_cases h0:0<=i
 .rw[iU h0]at h;by_cases h1:i<n
  .rw[iU h1]at h;have e:i.toNat=j:=aJ h;exact⟨by rw[seqIndex_of h0 h1,e],by omega,by omega,h1⟩
  .rw[iV h1]at h;cases h
 .rw[iV h0]at h;by_cases h1:-(n:Int)<=i
  .rw[iU h1]at h;have e:(i+n).toNat=j:=aJ h;exact⟨by rw[seqIndex_neg (by omega) h1,e],by omega,h1,by omega⟩
  .rw[iV h1]at h;cases h
theorem Dh{α:Type}{xs:List α}{i:Int}{v:α}(h:atI xs i=some v):∃j,seqIndex? i xs.length=some j/\xs[j]?=some v/\j<xs.length/\-(xs.length:Int)<=i/\i<xs.length:=by
 unfold atI at h;cases e:ixN xs.length i with
 |none=>rw[e]at h;cases h
 |some j =>
  rw[e]at h;obtain⟨h1,h2,h3,h4⟩:=Iq e;exact⟨j,h1,h,h2,h3,h4⟩
theorem yl{α:Type}{xs:List α}{j:Nat}{v:α}(h:xs[j]?=some v):atI xs (j:Int)=some v:=by
 have hj:j<xs.length:=(af.mp h).1;have e:ixN xs.length (j:Int)=some j:=by unfold ixN;rw[iU (by omega),iU (by omega)];simp
 unfold atI;rw[e];exact h
theorem Bs{α:Type}(xs:List α)(v:α):atI (xs++[v]) (-1)=some v:=by
 have hl:(xs++[v]).length=xs.length+1:=by simp
 have e:ixN (xs++[v]).length (-1)=some xs.length:=by unfold ixN;rw[hl,iV (by decide),iU (by omega)];congr 1;omega
 unfold atI;rw[e];show(xs++[v])[xs.length]?=some v;simp
def uG(b:Expr):Prop:=∀o i,subscripted b false o i=operate [o,i] (getItem o i)
def IxR(X:Cx)(r:R2):Prop :=
 ∀(value slice:Expr)(pins:List (Addr×Obj))(s:Shared)(σ:St)(H:Hp)(x y:V)(v u:Value)(Q:VK),Inv X pins σ H s->RelV x v->RelV y u->r x y H Q ->
  subscripted slice false v u=operate [v,u] (getItem v u)->wpAny (model X.prog X.w) X.A (subscriptTail value slice v u) (EP X pins σ Q) X.xe s
def MtR(X:Cx)(id:String)(r:V->List V->Hp->VK->Prop):Prop :=
 ∀(pins:List (Addr×Obj))(s:Shared)(σ:St)(H:Hp)(x:V)(xs:List V)(v:Value)(us:List Value)(Q:VK),Inv X pins σ H s->RelV x v->Vals xs us->r x xs H Q ->
  wpAny (model X.prog X.w) X.A (call (.builtin id) (v::us)) (EP X pins σ Q) X.xe s
variable{x y:V}
section
variable{a b:Expr}{ta tb:TE}
theorem Hw{r:R2}(hr:IxR X r)(ha:PE X a ta)(hb:PE X b tb)(hs:uG b):PE X (.Subscript a b pos) (tOp r ta tb):=by intro pins s σ H Q I h;exact Subscript_ (binT ha hb I h λv u s2 x y H2 I2 rx ry q=>hr a b pins s2 σ H2 x y v u Q I2 rx ry q (hs _ _))
def rIxL(K:jj):R2:=λx y H Q=>∃p xs i v,x=.ref p/\y=.int i/\SqL K H p xs/\atI xs i=some v/\Q v H
def rIxT(K:jj):R2:=λx y H Q=>∃p xs i v,x=.ref p/\y=.int i/\SqT K H p xs/\atI xs i=some v/\Q v H
theorem zQ:IxR X (rIxL X.K):=by
 intro value slice pins s σ H x y v u Q I rx ry h hs;obtain⟨p,xs,i,z,rfl,rfl,hq,he,q⟩:=h;cases rx
 obtain⟨t,rfl⟩:=ry;obtain⟨its,r,pl,hz⟩:=I.list hq;obtain⟨j,h1,h2,h3,h4,h5⟩:=Dh he;obtain⟨w,ew,rw'⟩:=r.get h2;have hl:=r.length;have hn:=DE;have fin:EP X pins σ Q w s:=⟨z,H,I,rw',q⟩
 by_cases h0:0<=i
 .have hj:i.toNat=j:=by
   rw[seqIndex_of h0 h5]at h1;exact aJ h1
  exact item_listR pl.isList h0 (by omega) (by rw[hj];simpa using ew) fin hs
 .have hj:(i+(its.toArray.size:Int)).toNat=j:=by
   rw[seqIndex_neg (by omega) h4]at h1;rw[aZ,<-hl];exact aJ h1
  exact subscriptTail_builtinR (x:=w) pl.isList.typeIs slot_list_getitem.lookup
   (wpAny_getItem_list_neg (Q:=λr s'=>r=w/\EP X pins σ Q r s') pl.isList (by omega) (by rw[aZ]<;>omega) (by omega) (by rw[hj];simpa using ew) ⟨rfl,fin⟩) hs
theorem zI:IxR X (rIxT X.K):=by
 intro value slice pins s σ H x y v u Q I rx ry h hs;obtain⟨p,xs,i,z,rfl,rfl,hq,he,q⟩:=h;cases rx
 obtain⟨t,rfl⟩:=ry;obtain⟨its,r,pl,hz⟩:=I.tuple hq;obtain⟨j,h1,h2,h3,h4,h5⟩:=Dh he;obtain⟨w,ew,rw'⟩:=r.get h2;have hl:=r.length;have hn:=DE;have fin:EP X pins σ Q w s:=⟨z,H,I,rw',q⟩
 exact subscriptTail_builtinR (x:=w) pl.typeIs slot_tuple_getitem.lookup
  (getItem_tuple (j:=j) (Q:=λr s'=>r=w/\EP X pins σ Q r s') pl (by omega) (by omega) (by rw[aZ,<-hl];exact h1) (by simpa using ew) ⟨rfl,fin⟩) hs
theorem tO(lo hi:Option Int)(n:Nat):(sliceBounds lo hi none n).1=((HT.sIx n 0 lo:Nat):Int)/\(sliceBounds lo hi none n).2.1=((HT.sIx n n hi:Nat):Int)/\(sliceBounds lo hi none n).2.2=1:=by
 refine⟨?_,?_,rfl⟩
 .cases lo with
  |none=>simp[sliceBounds,HT.sIx]
  |some i =>
   simp only[sliceBounds,HT.sIx,Option.getD_none,show(1:Int) > 0 by decide,if_true];by_cases h:i<0
   .simp only[h,if_true]<;>omega
   .simp only[h,if_false]<;>omega
 .cases hi with
  |none=>simp[sliceBounds,HT.sIx]
  |some i =>
   simp only[sliceBounds,HT.sIx,Option.getD_none,show(1:Int) > 0 by decide,if_true];by_cases h:i<0
   .simp only[h,if_true]<;>omega
   .simp only[h,if_false]<;>omega
theorem uK(its:List Value)(lo hi:Option Int):slicePick its.toArray lo hi none=((its.drop (HT.sIx its.length 0 lo)).take (HT.sIx its.length its.length hi - HT.sIx its.length 0 lo)).toArray:=by obtain⟨h1,h2,h3⟩:=tO lo hi its.toArray.size;unfold slicePick;rw[h1,h2,h3];simp only[sliceRange_one,pick_run,aZ]<;>rfl
def rSlL(K:jj):V->Option Int->Option Int->Hp->VK->Prop:=λx lo hi H Q=>∃a xs,x=.ref a/\SqL K H a xs/\∀p,H p=none->Q (.ref p) (upd H p (.lst (cutV xs lo hi)))
theorem wI:SlR X (rSlL X.K):=by
 intro pins s σ H x v vl vu lo hi sl Q I rx hs pl pu h;obtain⟨a,xs,rfl,hx,q⟩:=h;cases rx
 obtain⟨its,r,ht,hz⟩:=I.list hx;have hlen:=r.length;refine⟨"list",_,slot_list_getitem.lookup,ht.isList.typeIs,?_⟩;refine wpAny_getItem_list_slice ht.isList hs pl pu .none (by simp) ?_ (by rw[aZ]<;>omega);rw[uK,<-hlen];refine⟨.ref s.heap.objs.size,_,I.laid (t':=s.toks) (o:=.lst (cutV xs lo hi)) (λb ob q=>Heap.get?_push_of_some _ q) (ak _) ?_,rfl,q _ (I.hok.fresh (ak _))⟩;exact⟨cf (vm xs lo hi) hz,_,0,(r.drop (HT.sIx xs.length 0 lo)).take (HT.sIx xs.length xs.length hi - HT.sIx xs.length 0 lo),Heap.get?_push_size _ rfl⟩
def vX:V->Bool
 | .non=>true
 | .bl _=>true
 | .int _=>true
 | .str _=>true
 |_=>false
def eqV:V->V->Bool
 | .non,.non=>true
 | .bl a,.bl b=>a==b
 | .bl a,.int b=>(if a then 1 else 0)==b
 | .int a,.bl b=>a==(if b then 1 else 0)
 | .int a,.int b=>a==b
 | .str a,.str b=>a==b
 |_,_=>false
theorem JP{A:Around}{s:Shared}{u v:Value}(ry:RelV y u)(rx:RelV x v)(fy:vX y=true)(fx:vX x=true):SeqAt.EqAt A s u v (eqV y x):=by
 cases y with
 |non =>
  cases ry
  cases x with
  |non=>cases rx;exact SeqAt.EqAt.same _
  |bl b=>cases rx;exact SeqAt.EqAt.none_bool b
  |int b=>obtain⟨t,rfl⟩:=rx;exact SeqAt.EqAt.none_int b t
  |str b=>obtain⟨t,rfl⟩:=rx;exact SeqAt.EqAt.none_str b t
  |_=>exact absurd (show false=true from fx) aX
 |bl a =>
  cases ry
  cases x with
  |non=>cases rx;exact SeqAt.EqAt.bool_none a
  |bl b=>cases rx;exact SeqAt.EqAt.bool_bool a b
  |int b=>obtain⟨t,rfl⟩:=rx;exact SeqAt.EqAt.bool_int a b t
  |str b=>obtain⟨t,rfl⟩:=rx;exact SeqAt.EqAt.bool_str a b t
  |_=>exact absurd (show false=true from fx) aX
 |int a =>
  obtain⟨t',rfl⟩:=ry;cases x with
  |non=>cases rx;exact SeqAt.EqAt.int_none a t'
  |bl b=>cases rx;exact SeqAt.EqAt.int_bool a t' b
  |int b=>obtain⟨t,rfl⟩:=rx;exact SeqAt.EqAt.int_int a t' b t
  |str b=>obtain⟨t,rfl⟩:=rx;exact SeqAt.EqAt.int_str a t' b t
  |_=>exact absurd (show false=true from fx) aX
 |str a =>
  obtain⟨t',rfl⟩:=ry;cases x with
  |non=>cases rx;exact SeqAt.EqAt.str_none a t'
  |bl b=>cases rx;exact SeqAt.EqAt.str_bool a t' b
  |int b=>obtain⟨t,rfl⟩:=rx;exact SeqAt.EqAt.str_int a t' b t
  |str b=>obtain⟨t,rfl⟩:=rx;exact SeqAt.EqAt.str_str a t' b t
  |_=>exact absurd (show false=true from fx) aX
 |_=>exact absurd (show false=true from fy) aX
def eqU(x:V)(u:Value):Bool:=match u with
 | .none=>eqV .non x
 | .bool b=>eqV (.bl b) x
 | .int i _=>eqV (.int i) x
 | .str z _=>eqV (.str z) x
 |_=>false
theorem GF{u:Value}(r:RelV y u)(f:vX y=true):eqU x u=eqV y x:=by
 cases y with
 |non=>cases r;rfl
 |bl b=>cases r;rfl
 |int i=>obtain⟨t,rfl⟩:=r;rfl
 |str z=>obtain⟨t,rfl⟩:=r;rfl
 |_=>exact absurd (show false=true from f) aX
theorem vS{x:V}:∀{xs:List V}{us:List Value},Vals xs us->xs.all vX=true->us.any (eqU x)=xs.any λy=>eqV y x
 |_,_,.nil,_=>rfl
 |y::xs,u::us,.cons r t,f=>by rw[List.all_cons,dj]at f;rw[eV,eV,GF r f.1,vS t f.2]
theorem wn{A:Around}{s:Shared}{x:V}{v:Value}(rx:RelV x v)(fx:vX x=true):∀{xs:List V}{us:List Value},Vals xs us->xs.all vX=true->∀u∈us,SeqAt.EqAt A s u v (eqU x u)
 |_,_,.nil,_=>λu hu=>by cases hu
 |y::xs,u::us,.cons r t,f=>λu' hu=>by
  rw[List.all_cons,dj]at f;rcases aW.mp hu with rfl|hu
  .rw[GF r f.1];exact JP r rx f.1 fx
  .exact wn rx fx t f.2 u' hu
def inV(x:V)(xs:List V):Bool:=xs.any λy=>eqV y x
def rIn(K:jj)(neg:Bool):R2:=λx y H Q=>∃p xs,y=.ref p/\(SqL K H p xs\/SqT K H p xs)/\vX x=true/\xs.all vX=true/\Q (.bl (if neg then !inV x xs else inV x xs)) H
theorem yW:OpR X (compareOp .In) (rIn X.K false):=by
 intro pins s σ H x y v u Q I rx ry h;obtain⟨p,xs,rfl,hq,fx,fs,q⟩:=h;cases ry
 rcases hq with hq|hq
 .obtain⟨its,r,pl,hz⟩:=I.list hq;refine SeqAt.in_listAt (eqU x) pl.isList (λw hw=>wn rx fx r fs w (by simpa using hw)) ⟨.bl _,H,I,rfl,?_⟩;rw[show its.toArray.any (eqU x)=its.any (eqU x) by simp,vS r fs];exact q
 .obtain⟨its,r,pl,hz⟩:=I.tuple hq;refine SeqAt.in_tupleAt (eqU x) pl (λw hw=>wn rx fx r fs w (by simpa using hw)) ⟨.bl _,H,I,rfl,?_⟩;rw[show its.toArray.any (eqU x)=its.any (eqU x) by simp,vS r fs];exact q
theorem t8:OpR X (compareOp .NotIn) (rIn X.K true):=by
 intro pins s σ H x y v u Q I rx ry h;obtain⟨p,xs,rfl,hq,fx,fs,q⟩:=h;cases ry
 rcases hq with hq|hq
 .obtain⟨its,r,pl,hz⟩:=I.list hq;refine SeqAt.notIn_listAt (eqU x) pl.isList (λw hw=>wn rx fx r fs w (by simpa using hw)) ⟨.bl _,H,I,rfl,?_⟩;rw[show its.toArray.any (eqU x)=its.any (eqU x) by simp,vS r fs];exact q
 .obtain⟨its,r,pl,hz⟩:=I.tuple hq;refine SeqAt.notIn_tupleAt (eqU x) pl (λw hw=>wn rx fx r fs w (by simpa using hw)) ⟨.bl _,H,I,rfl,?_⟩;rw[show its.toArray.any (eqU x)=its.any (eqU x) by simp,vS r fs];exact q
theorem tM:yZ X (.builtin "len") (λxs H Q=>∃p ys,xs=[.ref p]/\(SqL X.K H p ys\/SqT X.K H p ys)/\Q (.int ys.length) H):=by
 intro pins s σ H xs us Q I r h;obtain⟨p,ys,rfl,hq,q⟩:=h;obtain⟨u,rfl,rx⟩:=EV r;cases rx
 have hn:=DE;rcases hq with hq|hq
 .obtain⟨its,r',pl,hz⟩:=I.list hq;have hlen:=r'.length;exact Calls.call_len_list pl.isList (by simp only[aZ]<;>omega) ⟨.int ys.length,H,I.tok _,⟨s.toks+1,by rw[aZ,hlen]⟩,q⟩
 .obtain⟨its,r',pl,hz⟩:=I.tuple hq;have hlen:=r'.length;exact len_tuple pl (by simp only[aZ]<;>omega) ⟨.int ys.length,H,I.tok _,⟨s.toks+1,by rw[aZ,hlen]⟩,q⟩
theorem tK:yZ X (.type "list") (λxs H Q=>∃p ys,xs=[.ref p]/\(SqL X.K H p ys\/SqT X.K H p ys)/\∀l,H l=none->Q (.ref l) (upd H l (.lst ys))):=by
 intro pins s σ H xs us Q I r h;obtain⟨p,ys,rfl,hq,q⟩:=h;obtain⟨u,rfl,rx⟩:=EV r;cases rx
 have fin:∀(its:List Value),Vals ys its->ys.length<=sizeLine->∀(h':Heap)(c':Nat),(∀b o',s.heap.get? b=some o'->h'.get? b=some o') ->
   h'.get? s.heap.objs.size=some { cls:=.type "list",dict:=none,data:=.seq its.toArray c',slots:=#[] }->EP X pins σ Q (.ref s.heap.objs.size) { s with heap:=h' }:=λits r' hz h' c' kp e =>
  ⟨.ref s.heap.objs.size,_,I.laid (t':=s.toks) kp (ak _) (show ObjOk X.prog X.w _ h' _ (.lst ys) from ⟨hz,its,c',r',e⟩),rfl,q _ (I.hok.fresh (ak _))⟩
 rcases hq with hq|hq
 .obtain⟨its,r',pl,hz⟩:=I.list hq;have hlen:=r'.length;obtain⟨o,ho,hc,n,hd⟩:=pl.isList;exact call_list_seq p (.inl rfl) ho hc hd (λh' c' kp e=>fin its r' hz h' c' kp e) (by simp only[aZ]<;>omega)
 .obtain⟨its,r',pl,hz⟩:=I.tuple hq;have hlen:=r'.length;obtain⟨o,ho,hc,n,hd⟩:=pl;exact call_list_seq p (.inr rfl) ho hc hd (λh' c' kp e=>fin its r' hz h' c' kp e) (by simp only[aZ]<;>omega)
theorem u8:yZ X (.type "tuple") (λxs H Q=>∃p ys,xs=[.ref p]/\((SqL X.K H p ys/\∀l,H l=none->Q (.ref l) (upd H l (.tup ys)))\/(SqT X.K H p ys/\Q (.ref p) H))):=by
 intro pins s σ H xs us Q I r h;obtain⟨p,ys,rfl,h⟩:=h;obtain⟨u,rfl,rx⟩:=EV r;cases rx
 rcases h with⟨hq,q⟩|⟨hq,q⟩
 .obtain⟨its,r',pl,hz⟩:=I.list hq;have hlen:=r'.length;refine call_tuple_list pl.isList (λh' kp=>?_) (by simp only[aZ]<;>omega);have I1:Inv X pins σ H { s with heap:=h' }:=I.kept (t':=s.toks) kp;have I2:Inv X pins σ (upd H h'.objs.size (.tup ys)) { s with heap:=h'.push { cls:=.type "tuple",data:=.seq its.toArray } } :=
   I1.laid (t':=s.toks) (λb o e=>Heap.get?_push_of_some _ e) (ak _) (show ObjOk X.prog X.w _ _ _ (.tup ys) from ⟨hz,its,r',IsTup.new _ _⟩)
  exact⟨.ref h'.objs.size,_,I2,rfl,q _ (I1.hok.fresh (ak _))⟩
 .obtain⟨its,r',pl,hz⟩:=I.tuple hq;exact call_tuple_same pl ⟨.ref p,H,I,rfl,q⟩
def tyV(K:jj)(T:String)(x:V)(H:Hp):Prop:=match x with
 | .str _=>T="str"
 | .int _=>T="int"
 | .ref p=>(T="list"/\∃xs,SqL K H p xs)\/(T="tuple"/\∃o,K.lookup p=some o/\o.cls=.type "tuple"/\o.dict=none) \/
   (T="dict"/\((∃kvs,H p=some (.dK kvs))\/∃kvs,H p=some (.dT kvs)))\/(T="set"/\∃S n,H p=some (.set S n))
 |_=>False
theorem Gy{pins:List (Addr×Obj)}{σ:St}{H:Hp}{s:Shared}{T:String}{v:Value}(I:Inv X pins σ H s)(r:RelV x v)(ty:tyV X.K T x H): s.TypeIs v T/\∀a,v=.ref a->∃ob,s.heap.get? a=some ob/\ob.dict=none:=by
 cases x with
 |str z =>
  obtain⟨t,rfl⟩:=r;cases (show T="str" from ty)
  exact⟨typeIs_str s z t,λ_ e=>nomatch e⟩
 |int i =>
  obtain⟨t,rfl⟩:=r;cases (show T="int" from ty)
  exact⟨typeIs_int s i t,λ_ e=>nomatch e⟩
 |ref p =>
  cases r
  rcases ty with⟨rfl,xs,hq⟩|⟨rfl,o,hk,hc,hd⟩|⟨rfl,hk⟩|⟨rfl,S,n,hk⟩
  .obtain⟨its,_,pl,_⟩:=I.list hq;refine⟨pl.isList.typeIs,λa e=>?_⟩;cases e
   obtain⟨o,n,e,c,hd,_⟩:=pl;exact⟨o,e,hd⟩
  .refine⟨⟨o,I.kIn p o hk,hc⟩,λa e=>?_⟩;cases e
   exact⟨o,I.kIn _ o hk,hd⟩
  .have z:∃o,s.heap.get? p=some o/\o.ExactDict:=by
    rcases hk with⟨kvs,hk⟩|⟨kvs,hk⟩
    .obtain⟨_,_,_,_,o,_,_,e,ex,_⟩:=I.hok p _ hk;exact⟨o,e,ex⟩
    .obtain⟨_,_,_,_,o,_,_,e,ex,_⟩:=I.hok p _ hk;exact⟨o,e,ex⟩
   obtain⟨o,e,ex⟩:=z;refine⟨⟨o,e,ex.1⟩,λa e2=>?_⟩;cases e2
   exact⟨o,e,ex.2.1⟩
  .obtain⟨o,_,_,_,e,ex,_⟩:=I.hok p _ hk;refine⟨⟨o,e,ex.1⟩,λa e2=>?_⟩;cases e2
   exact⟨o,e,ex.2.1⟩
 |_=>exact False.elim ty
def tBM0(K:jj)(T:String)(r:V->List V->Hp->VK->Prop)(to:TE):TE:=λσ H Q=>to σ H λx H1=>tyV K T x H1/\r x [] H1 Q
def tBM(K:jj)(T:String)(r:V->List V->Hp->VK->Prop)(to:TE)(t:TA):TE:=λσ H Q=>to σ H λx H1=>tyV K T x H1/\t σ H1 λxs H2=>r x xs H2 Q
variable{o:Expr}{es:List Expr}{to:TE}{t:TA}{name:Str}{apos cpos:Pos}{T id:String}{r:V->List V->Hp->VK->Prop}
theorem JH(pa:PlainAttrs T)(slot:Slot T name id)(hty:typeOf (.builtin id)=pure (.type "method_descriptor"))(hm:MtR X id r)(ho:PE X o to)(hbase:attributeBase o name X.env (eval o X.env)=eval o X.env:=by rfl)(hline:(apos.endLine==cpos.line)=true:=by rfl):PE X (.Call (.Attribute o name apos) [] [] cpos) (tBM0 X.K T r to):=by intro pins s σ H Q I h;refine wpAny_Call_method0_late hbase hline (thn (ho pins s σ H _ I h) λv s1 ⟨x,H1,I1,r1,ty,q1⟩=>?_);obtain⟨h1,h2⟩:=Gy I1 r1 ty;exact⟨T,id,pa,slot,hty,h1,h2,Calls.callWith_builtin rfl (PySem.evalArgs_none (hm pins s1 σ H1 x [] v [] Q I1 r1 .nil q1))⟩
theorem wC(pa:PlainAttrs T)(slot:Slot T name id)(hty:typeOf (.builtin id)=pure (.type "method_descriptor"))(hm:MtR X id r)(ho:PE X o to)(ha:PA X (e::es) t)(hbase:attributeBase o name X.env (eval o X.env)=eval o X.env:=by rfl)(hfew:((backTo cpos (starEach (e::es) X.env)).all (λx=>!x.1) && (backToKw cpos (keywordEach [] X.env)).all (λx=>x.1.isSome)
   && decide ((e::es).length+([]:List Keyword).length+(if ([]:List Keyword).isEmpty then 0 else 1)<30))=true:=by rfl)(hline:(apos.endLine==cpos.line)=true:=by rfl)(hs:starEach (e::es) X.env=(false,eval e X.env)::starEach es X.env:=by rfl)(hplain:(backTo cpos (starEach es X.env)).any (·.1)=false:=by rfl):
  PE X (.Call (.Attribute o name apos) (e::es) [] cpos) (tBM X.K T r to t):=by
 intro pins s σ H Q I h;refine wpAny_Call_method_late hbase hfew hline rfl (thn (ho pins s σ H _ I h) λv s1 ⟨x,H1,I1,r1,ty,q1⟩=>?_);obtain⟨h1,h2⟩:=Gy I1 r1 ty;refine⟨T,id,pa,slot,hty,h1,h2,?_⟩;have hA:=ha cpos pins s1 σ H1 _ I1 q1;rw[hs]at hA ⊢;refine Calls.callWith_builtin (by show(false || (backTo cpos (starEach es X.env)).any (·.1))=false;rw[hplain]<;>rfl) (Calls.evalArgs_plain ?_);exact thn hA λus s2 ⟨vs,H2,I2,r2,q2⟩=>hm pins s2 σ H2 x vs v us Q I2 r1 r2 q2
end
def MtM(X:Cx)(id:String)(r:V->List V->Hp->VK->Prop):Prop :=
 ∀(pins:List (Addr×Obj))(s:Shared)(σ:St)(H:Hp)(x:V)(xs:List V)(v:Value)(us:List Value)(Q:VK),Inv X pins σ H s->RelV x v->Vals xs us->r x xs H Q ->
  wpAny (model X.prog X.w) X.A (call (.builtin id) (v::us)) (EP X pins σ Q) X.xe s
theorem Vals.one:∀{x:V}{us:List Value},Vals [x] us->∃u,us=[u]/\RelV x u
 |_,_,.cons r .nil=>⟨_,rfl,r⟩
theorem Vals.two:∀{x y:V}{us:List Value},Vals [x,y] us->∃u v,us=[u,v]/\RelV x u/\RelV y v
 |_,_,_,.cons r (.cons q .nil)=>⟨_,_,rfl,r,q⟩
theorem Vals.zero:∀{us:List Value},Vals [] us->us=[]
 |_,.nil=>rfl
variable{its:List Value}{t':Nat}
section
variable{pins:List (Addr×Obj)}{σ:St}{H:Hp}{s:Shared}{l b:Addr}{xs ys zs:List V}
theorem Inv.lset{its':List Value}{n:Nat}{f:Array Value->Array Value}(I:Inv X pins σ H s)(hH:H l=some (.lst xs))(e:s.heap.get? l=some { cls:=.type "list",data:=.seq its.toArray n })(hf:f its.toArray=its'.toArray)(hv:Vals ys its')(hz:ys.length<=sizeLine):
  Inv X pins σ (upd H l (.lst ys)) { s with heap:=s.heap.update l (Obj.mapSeq f),toks:=t' }:=by
 have q:=PySem.IsL.update e f;rw[hf]at q;refine I.write (x:=l) (e:=l) (by rw[hH];exact trivial) (.inl rfl) (λb' u hb hu=>(Heap.get?_update_other s.heap (Obj.mapSeq f) (cH hb)).trans hu) ⟨_,q⟩ ?_;exact⟨hz,its',_,hv,q⟩
theorem Inv.lnew(I:Inv X pins σ H s)(hv:Vals ys its)(hz:ys.length<=sizeLine): Inv X pins σ (upd H s.heap.objs.size (.lst ys)) { s with heap:=s.heap.push { cls:=.type "list",data:=.seq its.toArray },toks:=t' } :=
 I.laid (λ_ _ q=>Heap.get?_push_of_some _ q) (ak _) ⟨hz,its,0,hv,Heap.get?_push_size _ rfl⟩
theorem Inv.fresh(I:Inv X pins σ H s):H s.heap.objs.size=none:=I.hok.fresh (ak _)
theorem Inv.lstM(I:Inv X pins σ H s)(hH:H l=some (.lst xs)):xs.length<=sizeLine/\∃ (its:List Value) (n:Nat),Vals xs its/\xs.length=its.length/\s.heap.get? l=some { cls:=.type "list",data:=.seq its.toArray n }:=by obtain⟨z,its,n,r,e⟩:=I.hok l _ hH;exact⟨z,its,n,r,r.length,e⟩
end
def z7:V->List V->Hp->VK->Prop:=λx vs H Q=>∃l xs y,x=.ref l/\vs=[y]/\H l=some (.lst xs)/\xs.length<sizeLine/\Q .non (upd H l (.lst (xs++[y])))
theorem zJ:MtM X "list.append" z7:=by
 intro pins s σ H x vs v us Q I rx rv h;obtain⟨l,xs,y,rfl,rfl,hH,hz,q⟩:=h;cases rx
 obtain⟨u,rfl,ru⟩:=rv.one;obtain⟨z,its,n,r,hl,e⟩:=I.lstM hH;refine call_meets F.slot_list_append ⟨_,e,rfl⟩ F.entry_list_append (F.args_list_append_2 _ _) (PySem.list_append l its.toArray n u (by rw[aZ];omega)) ⟨e,?_⟩;refine⟨.non,_,I.lset (its':=its++[u]) hH e (by simp) (r.append (.cons ru .nil)) ?_,rfl,q⟩;rw[ai,fK];omega
def rCat:R2:=λx y H Q=>∃l b xs zs,x=.ref l/\y=.ref b/\H l=some (.lst xs)/\H b=some (.lst zs)/\xs.length+zs.length<=sizeLine/\∀p,H p=none->Q (.ref p) (upd H p (.lst (xs++zs)))
theorem wN:OpR X (binaryOp .Add) rCat:=by
 intro pins s σ H x y v u Q I rx ry h;obtain⟨l,b,xs,zs,rfl,rfl,hH,hB,hz,q⟩:=h;cases rx
 cases ry
 obtain⟨z,its,n,r,hl,e⟩:=I.lstM hH;obtain⟨z2,its2,n2,r2,hl2,e2⟩:=I.lstM hB;refine PySem.P.add_list e e2 ?_ (by rw[aZ,aZ];omega);have ea:its.toArray++its2.toArray=(its++its2).toArray:=by simp
 rw[ea];exact⟨.ref _,_,I.lnew (t':=s.toks) (r.append r2) (by rw[ai];omega),rfl,q _ I.fresh⟩
section
variable{prog:Program}{w:World}{A:Around}{E:Value->Shared->Prop}{s:Shared}
end
end L2
namespace Att
open PySem PySem.W PySem.Calls PyProof.Rows
variable{h:Heap}{P:Params}
theorem vk:∀(ns:List Int)(vs:List Value),WellAll P h vs (ns.map WData.int)->IntsAre vs ns:=by
 intro ns;induction ns with
 |nil =>
  intro vs w;rw[dc]at w;cases w
  exact .nil
 |cons n ns ih =>
  intro vs w;rw[a6]at w;cases w with
  |cons a b =>
   cases a
   exact .cons _ _ (ih _ b)
theorem Er{l:OpenLaw}{n:Nat}(hn:l.most=some n){args:List WData}{vals:List Value}(hpre:l.row.toRowW.claim.pre args=true)(hwl:WellAll P h vals args): ∃a vs ns,vals=[Value.ref a]/\args=[WData.list (ns.map WData.int)]/\h.get? a=some { cls:=.type "list",data:=.seq vs.toArray }/\IntsAre vs ns/\ns.length<=n:=by
 have hsh:WShape.hasAll [] args [.list .int]=true:=(pre_splitW hpre).1;have hc:l.pre.holds [] { args:=args }=true:=(pre_splitW hpre).2;obtain⟨d,r,rfl,h1,h2⟩:=hasAllW_cons hsh;obtain rfl:=hasAllW_nil h2;obtain⟨xs,rfl,h3⟩:=hasW_list h1;obtain⟨ns,rfl⟩:=items_int h3;have hlen:ns.length<=n:=by
  unfold OpenLaw.pre at hc;have h4:(WTm.not (.lt (.lit (.int (n:Int))) (.len (.arg 0)))).holds [] { args:=[.list (ns.map .int)] }=true:=by have h4:=(holds_andW hc).1;rw[hn]at h4;exact h4
  have h5:=condW_of h4 (w_not (w_lt w_lit (w_len_list (w_arg rfl))));rw[aa]at h5;refine Nat.le_of_not_lt λq=>?_;have q':(n:Int)<((ns.length:Nat):Int):=by omega
  first
   |(rw[jg q']at h5;exact absurd h5 (by decide))
   |(simp at h5;omega)
 cases hwl with
 |cons w1 w2 =>
  cases w2
  cases w1 with
  |list ho hall=>exact⟨_,_,ns,rfl,rfl,ho,vk ns _ hall,hlen⟩
theorem DW(l:OpenLaw)(args:List WData):l.row.toRowW.claim.post args (.bool true) args=true :=
 postW_of (r:=l.row.toRowW) (X:=(true==true))
  (show WShape.has [] (.bool true) .bool=true by first|rfl|decide|simp[WShape.has,WShape.arms,WShape.armsAll])
  (show(WTm.eq .res (.lit (.bool true))).value [] { args:=args,res:=some (.bool true),after:=args }=some (.bool (true==true)) from w_eq_bool (w_res rfl) w_lit) rfl
section
variable{prog:Program}{w:World}{A:Around}{E:Value->Shared->Prop}{s:Shared}{K:Frag}
end
end Att
namespace L2
open PySem PySem.Spec PyProof.Rows
theorem Af:∀{vs:List Value}{ns:List Int},IntsAre vs ns->Vals (ns.map V.int) vs
 |_,_,.nil=>.nil
 |_,_,.cons n t h=>.cons ⟨t,rfl⟩ (Af h)
def Only(H:Hp):Prop:=∀b,H b=none\/∃o xs,H b=some (.frz o (.lst xs))
variable{a:Addr}{fd:FuncData}{sp:Sp}{x:Str}
theorem Fc{P:Program}{w:World}{K:jj}{mg mb:Str->Option Value}{CX:CXT}{k:Nat}{fa:Addr}{s₁:Shared}{vs:List Value}{ns:List Int}(KX:K.In s₁.heap)(hns:s₁.heap.Ns mainGlobals mg)(hb:s₁.heap.Ns builtinsNs mb)(hbb:∀x:Str,x≠"__name__"->mb x=bootBuiltins x)(hlim:s₁.heap.NoLimit)(hg:s₁.gens=#[])(ha:s₁.heap.get? a=some { cls:=.type "list",data:=.seq vs.toArray })(hi:IntsAre vs ns)(hl:ns.length<=sizeLine)(hr:Room k callerA)(F:∀base:Heap,K.In base->base.Ns mainGlobals mg->FnOk P w K mg base CX k fa fd [x] sp)(hbind:∀(s:Shared)(u:Value),BindsTo s fd ⟨[u],[]⟩ [(x,u)])(hsp:∀H:Hp,Only H->SqL K H a (ns.map V.int)->sp [.ref a] H (λv _=>v=.bl true) λ_ _ _=>False)(hCX:∀H e s',CX [] H s₁ (λ_ _ _=>False) e s'->False):
  codeAny (model P w) callerA (.call (.ref fa) ⟨[.ref a],[]⟩) (λr s'=>r=.ok (.ret (.bool true))/\OldK s₁.heap s'.heap/\s'.os=s₁.os/\AllBare s'.gens) s₁:=by
 have rv:=Af hi;have lenV:=hi.length;have core:∀H:Hp,Only H->SqL K H a (ns.map V.int)->HOk P w H s₁.heap->(∀b,H b≠none->b=a)->(H a≠none->K.lookup a=none) ->
   codeAny (model P w) callerA (.call (.ref fa) ⟨[.ref a],[]⟩) (λr s'=>r=.ok (.ret (.bool true))/\OldK s₁.heap s'.heap/\s'.os=s₁.os/\AllBare s'.gens) s₁:=by
  intro H hO hS hok hA hK;have base_of:∀{b:Addr}{o:Obj},s₁.heap.get? b=some o->H b=none->(hidT s₁.heap H).get? b=some o:=λe n=>EZ e n;have noA:∀{b:Addr}{o:Obj}{es:Array DictEntry}{ep:Nat},s₁.heap.get? b=some o->o.data=.dict es ep->H b=none:=λ{b o es ep} e d=>by
   cases q:H b with
   |none=>rfl
   |some u =>
    have e':b=a:=hA b (by rw[q];simp);subst e';rw[ha]at e;cases e;have d':Data.seq vs.toArray _=Data.dict es ep:=d;cases d'
  have nsK:∀{b:Addr}{m:Str->Option Value},s₁.heap.Ns b m->(hidT s₁.heap H).Ns b m:=λ{b m} ⟨o,es,ep,e,d,r⟩=>⟨o,es,ep,base_of e (noA e d),d,r⟩
  have hKb:K.In (hidT s₁.heap H):=λb o e=>base_of (KX b o e) (by
   cases q:H b with
   |none=>rfl
   |some u =>
    have e':b=a:=hA b (by rw[q];simp);subst e';rw[hK (by rw[q];simp)]at e;cases e)
  have hM:Mod K mg (hidT s₁.heap H):=⟨hKb,nsK hns,⟨mb,nsK hb,hbb⟩,let ⟨mc,h1,h2⟩:=hlim;⟨mc,nsK h1,h2⟩⟩
  have e0:Env0 P w K mg (hidT s₁.heap H) callerA [] s₁ H:=⟨rfl,hM,λb o e=>Iw e,Nat.le_of_eq (Ef _ _),trivial,λb hb=>absurd (show b∈([]:List Addr) from hb) (by simp),hok,.of_eq hg⟩
  refine jc ((F _ hKb (nsK hns)).run callerA [] s₁ H ⟨[.ref a],[]⟩ [.ref a] [.ref a] _ _ hr e0 (hbind s₁ (.ref a)) (.cons rfl .nil) (hsp H hO hS)) λr s' h=>?_;cases r with
  |error e=>exact(hCX H e s' h).elim
  |ok fl =>
   cases fl with
   |next=>exact False.elim h
   |brk=>exact False.elim h
   |cont=>exact False.elim h
   |ret u =>
    obtain⟨v,H',os,bare,un,hok',r',q⟩:=h;have q':v=.bl true:=q;subst q';obtain rfl:u=Value.bool true:=r';refine⟨rfl,OldK.of_keep λb o e=>?_,os,bare⟩;cases q:H b with
    |none=>exact un.keep b o e q (by intro z;exact absurd (show b∈([]:List Addr) from z) (by simp)) (by simp)
    |some u =>
     rcases hO b with z|⟨ob,xs,z⟩
     .rw[q]at z;cases z
     .have z2:=un.frzs b ob _ z;obtain⟨e1,_⟩:=hok b _ z;obtain⟨e2,_⟩:=hok' b _ z2;rw[e]at e1;cases e1;exact e2
 cases hk:K.lookup a with
 |some o =>
  have e:=KX a o hk;rw[ha]at e;cases e
  refine core (λ_=>none) (λ_=>.inl rfl) (.inr ⟨_,vs.toArray,_,hk,rfl,rfl,rfl,by rw[aZ,lenV];exact hl,by simpa using rv⟩) (λb u z=>by have z':(none:Option HO)=some u:=z;cases z') (λb z=>absurd rfl z) λz=>absurd rfl z
 |none =>
  refine core (λb=>if b=a then some (.frz { cls:=.type "list",data:=.seq vs.toArray } (.lst (ns.map V.int))) else none) (λb=>?_) (.inl (.inr ⟨{ cls:=.type "list",data:=.seq vs.toArray },iU rfl⟩)) (λb u z=>?_) (λb z=>?_) λ_=>hk
  .by_cases hb:b=a
   .exact .inr ⟨_,_,iU hb⟩
   .exact .inl (iV hb)
  .by_cases hb:b=a
   .have z':=(iU hb).symm.trans z;cases z'
    subst hb;exact⟨ha,by rw[aa];exact hl,vs,_,rv,ha⟩
   .have z':=(iV hb).symm.trans z;cases z'
  .by_cases hb:b=a
   .exact hb
   .exact absurd (iV hb) z
def xO(s:Stmt)(j:Nat):Stmt:=match s with
 | .ClassDef _ _ _ body _ _ _ _ _ _ _=>body.getD j (.Pass ⟨0,0,0,0⟩)
 |_=>.Pass ⟨0,0,0,0⟩
def defArgs(s:Stmt):Arguments:=match s with
 | .FunctionDef _ a _ _ _ _ _ _ _ _=>a
 |_=>{ posonlyargs:=[],args:=[],vararg:=none,kwonlyargs:=[],kw_defaults:=[],kwarg:=none,defaults:=[] }
def defBody(s:Stmt):List Stmt:=match s with
 | .FunctionDef _ _ b _ _ _ _ _ _ _=>b
 |_=>[]
def defScope(s:Stmt):Scope:=match s with
 | .FunctionDef _ _ _ _ _ _ sc _ _ _=>sc
 |_=>{ kind:=.function,names:=[],isGenerator:=false,isCoroutine:=false }
abbrev CX0:CXT:=λ_ _ _ _ _ _=>False
abbrev E0:XK:=λ_ _ _=>False
theorem uP{X:Cx}:xH CX0 X E0:=λ_ _ _ _ _ _ _ h=>h.elim
structure Fun(K:jj)(x qual:Str)(st:Stmt)(f:Addr)(fd:FuncData):Prop where
 ex:∃ (oc:Value) (od:Option Addr) (kV doc pm:Value) (an:Option Addr) (cdv ct:Value) (osl:Array (Option Value)),
  fd=W.fnOf x qual (defArgs st) (defBody st) (defScope st) .none kV doc pm an cdv ct/\K.lookup f=some ⟨oc,od,.func fd,osl⟩/\W.codeIn K cdv qual=true
 kp:W.keepIn K (.ref f)=true
variable{f:Addr}{ps:List Str}{qual:Str}
section
variable{P:Program}{w:World}{K:jj}{mg:Str->Option Value}{base:Heap}
theorem Fun.ok{st:Stmt}{N:List Str}{k:Nat}(F:Fun K x qual st f fd)(S:FnScope N ps (defScope st))(len:∀vs H Q E,sp vs H Q E->vs.length=ps.length)(hbody:∀(cdv:Value)(A:Around)(outer:List Env)(s:Shared)(H:Hp)(vs:List V)(Q:VK)(E:XK),Room k (A.deeper (envOfC qual (defScope st) s.heap.objs.size f cdv))->sp vs H Q E ->
   ∃t,PSs (cxOf CX0 P w K mg base N qual (defScope st) f cdv A outer s H E).nox (defBody st) t/\t { nx:=λ_ H'=>Q .non H',rt:=Q } (start N vs) H):FnOk P w K mg base CX0 (k+1) f fd ps sp:=by
 obtain⟨oc,od,kV,doc,pm,an,cdv,ct,osl,rfl,lk,hcd⟩:=F.ex;refine J9 lk hcd S len λA outer s H vs Q E hr hsp=>?_;obtain⟨t,h,q⟩:=hbody cdv A outer s H vs Q E hr hsp;exact⟨t,h.nox,q⟩
theorem Fun.binds{st:Stmt}(F:Fun K x qual st f fd)(h:∀(kV doc pm:Value)(an:Option Addr)(cdv ct:Value)(us:List Value),us.length=ps.length->bindArgs (W.fnOf x qual (defArgs st) (defBody st) (defScope st) .none kV doc pm an cdv ct) ⟨us,[]⟩=pure (ps.zip us)):Binds K fd ps []:=by obtain⟨oc,od,kV,doc,pm,an,cdv,ct,osl,rfl,lk,hcd⟩:=F.ex;exact .all (h kV doc pm an cdv ct)
theorem Ge{st:Stmt}{oc:Value}{od an:Option Addr}{osl:Array (Option Value)}{kV doc pm cdv ct:Value}(l:K.lookup f=some ⟨oc,od,.func (W.fnOf x qual (defArgs st) (defBody st) (defScope st) .none kV doc pm an cdv ct),osl⟩)(c:W.codeIn K cdv qual=true)(k:W.keepIn K (.ref f)=true):Fun K x qual st f (W.fnOf x qual (defArgs st) (defBody st) (defScope st) .none kV doc pm an cdv ct):=⟨⟨oc,od,kV,doc,pm,an,cdv,ct,osl,rfl,l,c⟩,k⟩
end
theorem uV{A:Around}{k:Nat}(hr:Room k A):A.units+1<cLine:=a9 (Nat.add_le_add_left (by decide:1<=64) _) hr.units
theorem CT{n:Nat}(h:n<=1000):n<sizeLine:=a9 h (by decide)
variable{X:Cx}
theorem pv(i:Nat){pos:Pos}(hN:X.N[i]?=some x:=by rfl)(hv:Vis X.env.scope x:=by first|exact Or.inl rfl|exact Or.inr (Or.inl rfl)|exact Or.inr (Or.inr rfl))(hd:(x==("__debug__":Str))=false:=by decide)(hcd:(x==("__classdict__":Str))=false:=by decide):PE X (.Name x pos) (tVar i):=JI hN hv hd hcd
def Same(H H':Hp):Prop:=∀b o,H b=some o->H' b=some o
theorem Same.refl(H:Hp):Same H H:=λ_ _ h=>h
variable{H:Hp}
theorem Same.trans{H1 H2:Hp}(a:Same H H1)(b:Same H1 H2):Same H H2:=λc o h=>b c o (a c o h)
theorem Same.seq{K:jj}{H':Hp}{xs:List V}(e:Same H H')(h:SqL K H a xs):SqL K H' a xs:=by
 rcases h with (h|⟨o,h⟩)|h
 .exact .inl (.inl (e _ _ h))
 .exact .inl (.inr ⟨o,e _ _ h⟩)
 .exact .inr h
end L2
noncomputable section
set_option linter.all false
namespace Hd
noncomputable section
open PySem PySem.W PySem.Calls PyProof.Rows
abbrev lf0:Life:=@PySem.Life.mk (@List.nil.{0} @Nat) (@List.nil.{0} @Nat) (@List.nil.{0} @Nat) (@OfNat.ofNat.{0} @Nat (nat_lit 0) (@instOfNatNat (nat_lit 0))) (@List.nil.{0} (@Prod.{0,0} @Nat @Nat)) (@List.nil.{0} @Nat) @Bool.false (@List.toArray.{0} @Nat (@List.nil.{0} @Nat)) (@List.nil.{0} @Nat) (@OfNat.ofNat.{0} @Nat (nat_lit 0) (@instOfNatNat (nat_lit 0))) @Bool.false @Bool.false @Bool.false (@OfNat.ofNat.{0} @Int (nat_lit 0) (@instOfNat (nat_lit 0))) (@List.cons.{0} @Int (@OfNat.ofNat.{0} @Int (nat_lit 2000) (@instOfNat (nat_lit 2000))) (@List.cons.{0} @Int (@OfNat.ofNat.{0} @Int (nat_lit 10) (@instOfNat (nat_lit 10))) (@List.cons.{0} @Int (@OfNat.ofNat.{0} @Int (nat_lit 10) (@instOfNat (nat_lit 10))) (@List.nil.{0} @Int)))) @Bool.false (@OfNat.ofNat.{0} @Nat (nat_lit 0) (@instOfNatNat (nat_lit 0))) @Bool.true (@List.nil.{0} @Nat) (@List.nil.{0} @Nat) (@OfNat.ofNat.{0} @Nat (nat_lit 0) (@instOfNatNat (nat_lit 0))) @Bool.false
abbrev dr1:Drawn:=@PySem.Drawn.mk (@OfNat.ofNat.{0} @Nat (nat_lit 0) (@instOfNatNat (nat_lit 0))) (@OfNat.ofNat.{0} @Nat (nat_lit 0) (@instOfNatNat (nat_lit 0))) (@OfNat.ofNat.{0} @Nat (nat_lit 0) (@instOfNatNat (nat_lit 0))) (@OfNat.ofNat.{0} @Nat (nat_lit 0) (@instOfNatNat (nat_lit 0)))
abbrev p:Program:=PySem.Challenge.pw_boardglue_k82_turned_apart
def top(i:Nat):Stmt:=p.main.body.getD i (.Pass ⟨0,0,0,0⟩)
def sub(s:Stmt)(j:Nat):Stmt:=match s with | .ClassDef (body:=b) ..=>b.getD j (.Pass ⟨0,0,0,0⟩)|_=>s
noncomputable def fn(x q:Str)(s:Stmt)(g:Addr)(cl:List (Str×Addr))(dV kV doc pm:Value)(an:Option Addr)(cd ct:Value)(bl:Addr):FuncData:={ name:=x,qualname:=q,params:=L2.defArgs s,body:=.stmts (L2.defBody s),scope:=L2.defScope s,globals:=g,closure:=cl,defaults:=dV,kwdefaults:=kV,doc:=doc,pyModule:=pm,annotations:=an,code:=cd,closureTuple:=ct,builtins:=bl }
def z0:Value:=.int 0 0
def cp(n:Tok):Value:=.str "/claim/cut.py" n
def co(a:Array Value):Obj:=⟨.type "code",none,.fields a,#[]⟩
def fo(f:FuncData):Obj:=⟨.type "function",none,.func f,#[]⟩
abbrev so(x:String):Str:=Str.ofString x
abbrev R(n:Addr):Value:=.ref n
abbrev N:=@BT.node
abbrev Z:BT:=.nil
abbrev L(o:Obj):BT:=.node o .nil .nil
def cO(x:String)(t:Tok)(y:String)(u v:Tok)(l a b c n:Int)(e:Value)(g:Bool)(k:Int)(m A B C D:Value)(i j:Int)(z:Tok):Obj:=co #[.str x t,.str y u,cp v,.int l 0,.int a 0,.int b 0,.int c 0,.int n 0,e,.bool g,.int k 0,m,A,B,C,D,.int i 0,.int j 0,cp z]
def f0(x q:Str)(s:Stmt):Obj:=⟨.none,none,.func (fn x q s 0 [] .none .none .none .none none .none .none 0),#[]⟩
def fO(x q:Str)(s:Stmt)(d m:Value)(c:Addr):Obj:=fo (fn x q s 3 [] d .none .none m none (.ref c) .none 0)
abbrev m0m:Value:=.str "__main__" 164
abbrev m1m:Value:=.str "boardglue.lengths" 294
abbrev m2m:Value:=.str "boardglue.bases" 460
abbrev m3m:Value:=.str "boardglue.normal" 515
abbrev m4m:Value:=.str "boardglue.boards" 555
abbrev m5m:Value:=.str "boardglue.yard" 563
abbrev m6m:Value:=.str "boardglue.plans" 710
abbrev m7m:Value:=.str "boardglue.tables" 776
abbrev m8m:Value:=.str "boardglue.likes" 849
abbrev m9m:Value:=.str "boardglue.turns" 867
abbrev m10m:Value:=.str "law_boardglue_k82_turned_apart" 922
def tu(a:Array Value):Obj:=⟨.type "tuple",none,.seq a 0,#[]⟩
def en(P:Params)(x:String)(t:Tok)(v:Value):DictEntry:=⟨PyData.keyHash P x,.str x t,v⟩
def env:Env:={ scope:=p.main.scope,locals:=mainNs,globals:=mainNs,cells:=[],code:=(.ref 13),frame:=some 14 }
abbrev b:List Stmt:=behindTheImports p
abbrev cE:Code:=.body b env
abbrev q:Pos:=⟨0,0,0,0⟩
abbrev B:List Frame:=[topFrame q]
abbrev m0:Nat:=nat_lit 11
abbrev ann:Option Value:=(some (.ref 6))
def o0:Obj:=tu #[]
def o1:Obj:=⟨.none,none,(.fields #[]),#[]⟩
def o2:Obj:=cO "<module>" 182 "<module>" 183 184 1 0 0 0 0 (R 11) false 181 (R 12) .none .none .none .none 185 1 186
def o3:Obj:=⟨(.type "frame"),none,.plain,#[(some (.ref 13)),(some (.ref 3)),(some (.ref 3)),none,(some (.str "__main__" 164)),none,(some (.ref 0))]⟩
def Ha(P:Params):Heap:=⟨⟨[boot_o_0 P,boot_o_1 P,boot_o_2 P,boot_o_3 P,boot_o_4 P,boot_o_5 P,boot_o_6 P,boot_o_7 P,boot_o_8 P,boot_o_9 P,boot_o_10 P,o0,o1,o2,o3]⟩,lf0⟩
def T0(P:Params):BT:=(N (boot_o_0 P) (N (boot_o_1 P) (N (boot_o_3 P) (L (boot_o_7 P)) (L o0)) (N (boot_o_5 P) (L (boot_o_9 P)) (L o2))) (N (boot_o_2 P) (N (boot_o_4 P) (L (boot_o_8 P)) (L o1)) (N (boot_o_6 P) (L (boot_o_10 P)) (L o3))))
theorem pre'(w:World):(λos=>PySem.W.Fast.tw15667345088766844465 PySem.W.Fast.tw14364793385576792824 p w m0 ann (nat_lit 12) (⟨boot_heap w.params,⟨[]⟩,boot_drawn,boot_toks,os⟩:Shared) (W.topStub p))=λos=>some ((⟨Ha w.params,⟨[]⟩,dr1,nat_lit 187,os⟩:Shared),Thread.mk (PySem.W.Fast.tw11892475500146522536 PySem.W.Fast.tw14364793385576792824 cE) cE ⟨0,0,0,0⟩ B):=by kernel_rfl
theorem pre(w:World)(os:OsState):topGo treeTable p w m0 ann (nat_lit 12) (⟨boot_heap w.params,⟨[]⟩,boot_drawn,boot_toks,os⟩:Shared) (topStub p)=some ((⟨Ha w.params,⟨[]⟩,dr1,nat_lit 187,os⟩:Shared),Thread.mk (denote treeTable cE) cE ⟨0,0,0,0⟩ B):=by rw[PySem.W.Fast.te15667345088766844465,cV,PySem.W.Fast.te11892475500146522536];exact congrFun (pre' w) os
theorem blk'(w:World):(λos=>PySem.W.Fast.tw14374325043358763698 PySem.W.Fast.tw14364793385576792824 p w m0 ann (nat_lit 1) (nat_lit 1) (⟨Ha w.params,⟨[]⟩,dr1,nat_lit 187,os⟩:Shared) (W.blockOf b env cE ⟨0,0,0,0⟩ B))=λos=>some (Flow.next,SharedT.abs (⟨T0 w.params,nat_lit 15,lf0,⟨[]⟩,dr1,nat_lit 187,os⟩:SharedT),cE,⟨0,0,0,0⟩):=by kernel_rfl
theorem blk(w:World)(os:OsState):segRun treeTable p w m0 ann (nat_lit 1) (nat_lit 1) (⟨Ha w.params,⟨[]⟩,dr1,nat_lit 187,os⟩:Shared) (blockOf b env cE ⟨0,0,0,0⟩ B)=some (Flow.next,SharedT.abs (⟨T0 w.params,nat_lit 15,lf0,⟨[]⟩,dr1,nat_lit 187,os⟩:SharedT),cE,⟨0,0,0,0⟩):=by rw[PySem.W.Fast.te14374325043358763698,cV];exact congrFun (blk' w) os
def nm:Stmt->Str | .FunctionDef (name:=n) ..=>n|_=>⟨#[]⟩
def ln:Stmt->Nat | .FunctionDef _ _ _ _ _ _ _ _ _ q=>q.line|_=>0
def vr(s:Stmt):List Str:=((L2.defScope s).names.filter λx=>match x.2 with | .local=>true|_=>false).map (·.1)
def sT:Tok->List Str->List Value
 |_,[]=>[]
 |n,x::r=>.str x n::sT (n+1) r
def tS(n:Tok)(l:List Str):Obj:=tu ⟨sT n l⟩
def cD(x y:Str)(s:Stmt)(e t i:Nat)(A B C:Value):Obj:=co #[.str x t,.str y (t+1),cp (t+2),.int (ln s) 0,.int (L2.defArgs s).args.length 0,z0,z0,.int 3 0,.ref e,.bool true,.int 181 0,.ref (e+1),.none,A,B,C,.int i 0,.int (ln s) 0,cp (i+1)]
def fP(x y:Str)(s:Stmt)(e t:Nat)(d m:Value):List Obj:=[o0,o1,tS (t+3) (vr s),o0,f0 x y s,cD x y s e t (t+3+(vr s).length) (R (e+2)) (R (e+3)) (R (e+4)),fO x y s d m (e+5)]
def fQ(x y:Str)(s:Stmt)(e t:Nat)(d m:Value):List Obj:=[o0,o1,f0 x y s,cD x y s e t (t+3) .none .none (R (e+2)),fO x y s d m (e+3)]
structure Op where
 e:Addr
 ks:List Nat
 os:Params->List Obj
 d:List (Str×Tok×Value)
 l:List Value
def ll(l:Int)(c:Addr):List Value:=[.int l 0,z0,.ref c]
def F(i e t:Nat)(m:Value):Op:=⟨e,[0,2,3,5,6],λ_=>fP (nm (top i)) (nm (top i)) (top i) e t .none m,[(nm (top i),t+5+(vr (top i)).length,.ref (e+6))],ll (ln (top i)) (e+5)⟩
def Q(i e t:Nat)(m:Value):Op:=⟨e,[0,3,4],λ_=>fQ (nm (top i)) (nm (top i)) (top i) e t .none m,[(nm (top i),t+5,.ref (e+4))],ll (ln (top i)) (e+3)⟩
def Dv(i e t:Nat)(m:Value)(v:List Value):Op:=⟨e - 1,[0,1,3,4,6,7],λ_=>tu ⟨v⟩::fP (nm (top i)) (nm (top i)) (top i) e t (.ref (e - 1)) m,[(nm (top i),t+5+(vr (top i)).length,.ref (e+6))],ll (ln (top i)) (e+5)⟩
def bm(x:String)(v:Value):Obj:=⟨.type "builtin_function_or_method",none,.fields #[.builtin x,v],#[]⟩
def di(l:List DictEntry)(n:Nat):Obj:=⟨.type "dict",none,.dict ⟨l⟩ n,#[]⟩
def me:Value:=.str "boardglue.errors" 194
noncomputable def Kl(x:Str)(b t:Nat)(l:Int):Op:=⟨b,[0,7,8,9],λP=>[tu #[.ref 31],bm "type.__prepare__" (.type "type"),di [en P "__module__" (t+7) me,en P "__qualname__" (t+9) (.str x (t+8)),en P "__firstlineno__" (t+11) (.int l (t+10)),en P "__static_attributes__" (t+12) (.ref (b+7))] 4,o0,o1,co #[.str x (t+2),.str x (t+3),cp (t+4),.int l 0,z0,z0,z0,z0,.ref (b+3),.bool false,.int 181 0,.ref (b+4),.none,.none,.none,.none,.int (t+5:Nat) 0,.int l 0,cp (t+6)],⟨.type "frame",none,.plain,#[some (.ref (b+5)),some (.ref 3),some (.ref (b+2)),none,some me,none,some (.ref 0)]⟩,o0,di [en P "__module__" (t+7) me,en P "__firstlineno__" (t+11) (.int l (t+10)),en P "__static_attributes__" (t+12) (.ref (b+7)),en P "__doc__" (t+13) .none] 2,⟨.type "type",none,.cls ⟨x,[.ref 31],[.ref (b+9),.ref 31,.type "ValueError",.type "Exception",.type "BaseException",.type "object"],b+8,x,true,[],[],false,none,false⟩,#[some (.ref b),none,some (.str x t),some (.str x (t+8)),some (.builtin "ValueError.__new__"),some (.bool true)]⟩,⟨.type "super",none,.fields #[.ref (b+9),.ref (b+9),.ref (b+9)],#[]⟩,bm "object.__init_subclass__" (.ref (b+9))],[(x,t+15,.ref (b+9))],ll l (b+5)⟩
noncomputable def ops:List Op:=[F 0 15 187 m0m,⟨22,[0,7,8,9,10],λP=>[tu #[(.type "ValueError")],⟨(.type "builtin_function_or_method"),none,(.fields #[(.builtin "type.__prepare__"),(.type "type")]),#[]⟩,⟨(.type "dict"),none,(.dict #[en P "__module__" 203 (.str "boardglue.errors" 194),en P "__qualname__" 205 (.str "YardError" 204),en P "__firstlineno__" 207 (.int (5) 206),en P "__static_attributes__" 208 (.ref 29)] 4),#[]⟩,o0,o1,cO "YardError" 198 "YardError" 199 200 5 0 0 0 0 (R 25) false 181 (R 26) .none .none .none .none 201 5 202,⟨(.type "frame"),none,.plain,#[(some (.ref 27)),(some (.ref 3)),(some (.ref 24)),none,(some (.str "boardglue.errors" 194)),none,(some (.ref 0))]⟩,o0,⟨(.type "dict"),none,(.dict #[en P "__module__" 203 (.str "boardglue.errors" 194),en P "__firstlineno__" 207 (.int (5) 206),en P "__static_attributes__" 208 (.ref 29),en P "__weakref__" 210 (.ref 32),en P "__doc__" 211 .none] 3),#[]⟩,⟨(.type "type"),none,(.cls ⟨"YardError",[(.type "ValueError")],[(.ref 31),(.type "ValueError"),(.type "Exception"),(.type "BaseException"),(.type "object")],30,"YardError",true,[],[(.ref 44),(.ref 56),(.ref 68),(.ref 80),(.ref 92)],false,none,false⟩),#[(some (.ref 22)),none,(some (.str "YardError" 196)),(some (.str "YardError" 204)),(some (.builtin "ValueError.__new__")),(some (.bool true))]⟩,⟨(.type "getset_descriptor"),none,(.fields #[(.str "__weakref__" 209),(.ref 31),(.builtin "ExceptionGroup.__weakref__"),.none]),#[]⟩,⟨(.type "super"),none,(.fields #[(.ref 31),(.ref 31),(.ref 31)]),#[]⟩,⟨(.type "builtin_function_or_method"),none,(.fields #[(.builtin "object.__init_subclass__"),(.ref 31)]),#[]⟩],[("YardError",213,.ref 31)],ll 5 27⟩,Kl "NoLength" 35 214 7,Kl "NoDeed" 47 230 9,Kl "NoName" 59 246 11,Kl "Grain" 71 262 13,Kl "Unfit" 83 278 15,⟨95,[0],λ_=>[tu #[(.int (0) 296),(.int (0) 297),(.int (1) 298)]],[("NOUGHT",299,.ref 95)],[]⟩,⟨0,[],λ_=>[],[("FAR_STEP",301,(.int (4294967296) 300))],[]⟩,⟨0,[],λ_=>[],[("GREAT_BITS",303,(.int (8192) 302))],[]⟩,⟨0,[],λ_=>[],[("HEAD_BITS",305,(.int (64) 304))],[]⟩,F 13 96 306 m1m,F 14 103 313 m1m,F 15 110 322 m1m,F 16 117 332 m1m,F 17 124 342 m1m,F 18 131 355 m1m,Dv 19 139 365 m1m [(.int (0) 363),(.int (1) 364)],Dv 20 147 376 m1m [(.int (1) 375)],F 21 154 385 m1m,F 22 161 392 m1m,F 23 168 406 m1m,F 24 175 414 m1m,F 25 182 423 m1m,F 26 189 433 m1m,F 27 196 442 m1m,F 28 203 451 m1m,F 30 210 462 m2m,F 31 217 470 m2m,F 32 224 480 m2m,F 33 231 488 m2m,F 34 238 500 m2m,Q 35 245 509 m2m,F 37 250 517 m3m,F 38 257 526 m3m,F 39 264 543 m3m,Q 41 271 557 m4m,⟨276,[0],λ_=>[tS 565 ["across","along"]],[("CUTS",567,.ref 276)],[]⟩,⟨277,[0],λ_=>[tS 568 ["beside","atop"]],[("GLUINGS",570,.ref 277)],[]⟩,⟨278,[0],λ_=>[tS 571 ["stack","spread"]],[("SHIFTS",573,.ref 278)],[]⟩,⟨0,[],λ_=>[],[("TURN",575,(.str "turn" 574))],[]⟩,F 47 279 576 m5m,F 48 286 583 m5m,F 49 293 590 m5m,F 50 300 597 m5m,F 51 307 604 m5m,F 52 314 613 m5m,F 53 321 621 m5m,⟨328,[7,8,11,12,13,16,17,18,20,21,23,24,25,28,29,30,32,33,35,36,37,40,41,42,45,46,47,49,50,52,53,54,55,56,57,58],λP=>[o0,⟨(.type "builtin_function_or_method"),none,(.fields #[(.builtin "type.__prepare__"),(.type "type")]),#[]⟩,⟨(.type "dict"),none,(.dict #[en P "__module__" 638 (.str "boardglue.yard" 563),en P "__qualname__" 640 (.str "Yard" 639),en P "__firstlineno__" 642 (.int (213) 641),en P "__init__" 648 (.ref 340),en P "do" 654 (.ref 345),en P "check_names" 663 (.ref 352),en P "put_by" 669 (.ref 357),en P "board_ever" 677 (.ref 364),en P "boards" 683 (.ref 369),en P "heap" 689 (.ref 374),en P "log" 696 (.ref 381),en P "__static_attributes__" 702 (.ref 382)] 12),#[]⟩,o0,⟨.none,none,(.fields #[(.int (215) 0),(.int (4) 0),(.ref 339),(.int (222) 0),(.int (4) 0),(.ref 344),(.int (237) 0),(.int (4) 0),(.ref 351),(.int (244) 0),(.int (4) 0),(.ref 356),(.int (260) 0),(.int (4) 0),(.ref 363),(.int (263) 0),(.int (4) 0),(.ref 368),(.int (266) 0),(.int (4) 0),(.ref 373),(.int (269) 0),(.int (4) 0),(.ref 380)]),#[]⟩,cO "Yard" 633 "Yard" 634 635 213 0 0 0 0 (R 331) false 181 (R 332) .none .none .none .none 636 213 637,⟨(.type "frame"),none,.plain,#[(some (.ref 333)),(some (.ref 3)),(some (.ref 330)),none,(some (.str "boardglue.yard" 563)),none,(some (.ref 0))]⟩]++[tu #[(.bool false)]]++fQ "__init__" "Yard.__init__" (sub (top 54) 0) 336 643 (.ref 335) m5m++fQ "do" "Yard.do" (sub (top 54) 1) 341 649 .none m5m++fP "check_names" "Yard.check_names" (sub (top 54) 2) 346 655 .none m5m++fQ "put_by" "Yard.put_by" (sub (top 54) 3) 353 664 .none m5m++fP "board_ever" "Yard.board_ever" (sub (top 54) 4) 358 670 .none m5m++fQ "boards" "Yard.boards" (sub (top 54) 5) 365 678 .none m5m++fQ "heap" "Yard.heap" (sub (top 54) 6) 370 684 .none m5m++fP "log" "Yard.log" (sub (top 54) 7) 375 690 .none m5m++[tS 697 ["done","known","lying","root","turning"],⟨(.type "dict"),none,(.dict #[en P "__module__" 638 (.str "boardglue.yard" 563),en P "__firstlineno__" 642 (.int (213) 641),en P "__init__" 648 (.ref 340),en P "do" 654 (.ref 345),en P "check_names" 663 (.ref 352),en P "put_by" 669 (.ref 357),en P "board_ever" 677 (.ref 364),en P "boards" 683 (.ref 369),en P "heap" 689 (.ref 374),en P "log" 696 (.ref 381),en P "__static_attributes__" 702 (.ref 382),en P "__dict__" 704 (.ref 385),en P "__weakref__" 706 (.ref 386),en P "__doc__" 707 .none] 4),#[]⟩,⟨(.type "type"),none,(.cls ⟨"Yard",[(.type "object")],[(.ref 384),(.type "object")],383,"Yard",true,[],[],false,none,false⟩),#[none,none,(some (.str "Yard" 631)),(some (.str "Yard" 639)),(some (.builtin "object.__new__")),(some (.bool true))]⟩,⟨(.type "getset_descriptor"),none,(.fields #[(.str "__dict__" 703),(.ref 384),(.builtin "function.__dict__"),(.builtin "function.__dict__#set")]),#[]⟩,⟨(.type "getset_descriptor"),none,(.fields #[(.str "__weakref__" 705),(.ref 384),(.builtin "ExceptionGroup.__weakref__"),.none]),#[]⟩,⟨(.type "super"),none,(.fields #[(.ref 384),(.ref 384),(.ref 384)]),#[]⟩,⟨(.type "builtin_function_or_method"),none,(.fields #[(.builtin "object.__init_subclass__"),(.ref 384)]),#[]⟩],[("Yard",709,.ref 384)],ll 213 333⟩,F 56 389 712 m6m,Dv 57 397 724 m6m [(.bool false)],F 58 404 734 m6m,Q 59 411 744 m6m,Q 60 416 750 m6m,Q 61 421 756 m6m,F 62 426 762 m6m,Q 63 433 770 m6m,⟨438,[0,1,2,3,4,5,6],λ_=>[tu #[(.int (0) 778),(.int (1) 779)],tu #[(.int (0) 780),(.int (1) 781)],tu #[(.ref 438),(.ref 439)],tu #[(.int (0) 782),(.int (1) 783)],tu #[(.int (0) 784),(.int (1) 785)],tu #[(.ref 441),(.ref 442)],tu #[(.ref 440),(.ref 443)]],[("EMPTY",786,.ref 444)],[]⟩,F 66 445 787 m7m,F 67 452 798 m7m,F 68 459 806 m7m,F 69 466 816 m7m,F 70 473 825 m7m,F 71 480 834 m7m,F 72 487 841 m7m,F 74 494 851 m8m,Q 75 501 861 m8m,⟨506,[0],λ_=>[tu #[(.int (1) 869),(.int (0) 870),(.int (1) 871)]],[("ONE",872,.ref 506)],[]⟩,F 78 507 873 m9m,F 79 514 882 m9m,F 80 521 896 m9m,F 81 528 907 m9m,F 83 535 924 m10m,Q 84 542 932 m10m,F 85 547 938 m10m,F 86 554 948 m10m,F 87 561 959 m10m,F 88 568 970 m10m,Q 89 575 980 m10m,F 90 580 986 m10m,Q 91 587 999 m10m,F 92 592 1005 m10m,F 93 599 1020 m10m,F 94 606 1032 m10m,Q 95 613 1039 m10m,Q 96 618 1045 m10m]
noncomputable def o4(P:Params):Obj:=⟨.type "dict",none,.dict ⟨[en P "__name__" 165 (.str "law_boardglue_k82_turned_apart" 922),en P "__doc__" 166 .none,en P "__package__" 167 .none,en P "__loader__" 168 (.builtin "__main__.__loader__#opaque"),en P "__spec__" 169 .none,en P "__annotations__" 170 (.ref 6),en P "__builtins__" 171 (.ref 4),en P "__file__" 173 (cp 172),en P "__cached__" 174 .none]++(ops.flatMap (·.d)).map λx=>⟨PyData.keyHash P x.1,.str x.1 x.2.1,x.2.2⟩⟩ 95,#[]⟩
def ob(P:Params):List Obj:=[(boot_o_0 P),(boot_o_1 P),(boot_o_2 P),o4 P,(boot_o_4 P),(boot_o_5 P),(boot_o_6 P),(boot_o_7 P),(boot_o_8 P),(boot_o_9 P),(boot_o_10 P),(o0),⟨.none,none,.fields ⟨ops.flatMap (·.l)⟩,#[]⟩,(o2),(o3)]++ops.flatMap (·.os P)
noncomputable def ev(l:List Obj):Bool->List Obj:=List.rec (λ_=>[]) (λx _ h b=>bif b then x::h false else h true) l
noncomputable def tr(n:Nat):List Obj->BT:=Nat.rec (λ_=>.nil) (λ_ h l=>match l with|[]=>.nil|x::r=>.node x (h (ev r true)) (h (ev r false))) n
def T1(P:Params):BT:=tr 12 (ob P)
theorem pc0'(w:World):(λos=>PySem.W.Fast.tw10110043849684766642 PySem.W.Fast.tw14364793385576792824 p w m0 ann (nat_lit 1) (nat_lit 4038) (⟨T0 w.params,nat_lit 15,lf0,⟨[]⟩,dr1,nat_lit 187,os⟩:SharedT) (W.piecesOf ((b.drop 0).take 97) env cE ⟨0,0,0,0⟩ B))=λos=>some (Flow.next,(⟨T1 w.params,nat_lit 623,lf0,⟨[]⟩,dr1,nat_lit 1051,os⟩:SharedT),cE,⟨500,0,516,83⟩):=by kernel_rfl
theorem pc0(w:World)(os:OsState):segRun treeTable p w m0 ann (nat_lit 1) (nat_lit 4038) (SharedT.abs (⟨T0 w.params,nat_lit 15,lf0,⟨[]⟩,dr1,nat_lit 187,os⟩:SharedT)) (piecesOf ((b.drop 0).take 97) env cE ⟨0,0,0,0⟩ B)=some (Flow.next,SharedT.abs (⟨T1 w.params,nat_lit 623,lf0,⟨[]⟩,dr1,nat_lit 1051,os⟩:SharedT),cE,⟨500,0,516,83⟩):=by refine segRun_of ?_;rw[PySem.W.Fast.te10110043849684766642,cV];exact congrFun (pc0' w) os
def H1(P:Params):Heap:=⟨⟨ob P⟩,lf0⟩
theorem fin'(w:World):(λos=>PySem.W.Fast.tw14082659384304107361 PySem.W.Fast.tw14364793385576792824 p w m0 ann (nat_lit 2) (SharedT.abs (⟨T1 w.params,nat_lit 623,lf0,⟨[]⟩,dr1,nat_lit 1051,os⟩:SharedT)) (Thread.mk (W.doneF Flow.next) cE ⟨500,0,516,83⟩ B))=λos=>some (⟨H1 w.params,⟨[]⟩,dr1,nat_lit 1051,os⟩:Shared):=by kernel_rfl
theorem fin(w:World)(os:OsState):topRun treeTable p w m0 ann (nat_lit 2) (SharedT.abs (⟨T1 w.params,nat_lit 623,lf0,⟨[]⟩,dr1,nat_lit 1051,os⟩:SharedT)) (Thread.mk (doneF Flow.next) cE ⟨500,0,516,83⟩ B)=some (⟨H1 w.params,⟨[]⟩,dr1,nat_lit 1051,os⟩:Shared):=by rw[PySem.W.Fast.te14082659384304107361,cV];exact congrFun (fin' w) os
def as:List Addr:=[2,3]++ops.flatMap λx=>x.ks.map (x.e+·)
def K(P:Params):Frag:=[(2,boot_o_2 P),(3,o4 P)]++ops.flatMap λx=>x.ks.map λk=>(x.e+k,(x.os P).getD k o0)
theorem asK(P:Params):as=(K P).map (·.1):=by kernel_rfl
theorem at_{w:World}{n N:Nat}{s s' r:Shared}{i k:Nat}{pos p':Pos}(h:segRun treeTable p w m0 ann 1 n s (piecesOf ((b.drop i).take k) env cE pos B)=some (.next,s',cE,p'))(g:topRun treeTable p w m0 ann N s' (restOf (b.drop (i+k)) env cE p' B)=some r):topRun treeTable p w m0 ann (n+N) s (restOf (b.drop i) env cE pos B)=some r:=by
 have z:=piece_app h g
 rwa[<-List.drop_drop,dW]at z
theorem bend:b.drop 97=[]:=by kernel_rfl
theorem run(w:World)(os:OsState):topRun treeTable p w m0 ann (12+(1+(4038+2))) (⟨boot_heap w.params,⟨[]⟩,boot_drawn,boot_toks,os⟩:Shared) (topStub p)=some (⟨H1 w.params,⟨[]⟩,dr1,nat_lit 1051,os⟩:Shared):=go_top (pre w os) (piece_block (blk w os) (show topRun treeTable p w m0 ann _ _ (restOf (b.drop 0) env cE _ B)=_ from (at_ (i:=0) (k:=97) (pc0 w os) (by rw[show b.drop 97=[] from bend];exact piece_nil (fin w os)))))
theorem size(w:World):((boot_heap w.params).isNs mainGlobals && (⟨[]⟩:Array GenState).size==0,(boot_heap w.params).objs.size,(boot_heap w.params).nsMap mainGlobals "__annotations__")=(true,m0,ann):=by kernel_rfl
def qv:Program:=view p [96]
def loose:List Str:=((ops.flatMap (·.d)).map (·.1)).dropLast
def Xt(s:Shared):Bool:=xlAt qv [] s && recOk [] s
def Yf(s:Shared):List (Option Obj):=as.map s.heap.get?
def Ya(w:World):List (Option Obj):=(K w.params).map λp=>some p.2
theorem Jg(w:World):(λos:OsState=>(staticsOk (importedModules p.main.body) (boot_heap w.params) (H1 w.params) && namesBound p (H1 w.params) && gensDone (⟨H1 w.params,⟨[]⟩,dr1,nat_lit 1051,os⟩:Shared) && laidKept (boot_heap w.params) (H1 w.params)))=λ_=>true:=by kernel_rfl
theorem Jb(w:World):(λos:OsState=>openSeen qv loose (importedModules p.main.body) Xt true (⟨H1 w.params,⟨[]⟩,dr1,nat_lit 1051,os⟩:Shared))=λ_=>openGood qv loose:=by kernel_rfl
theorem Ke(w:World):(λos:OsState=>Yf (⟨H1 w.params,⟨[]⟩,dr1,nat_lit 1051,os⟩:Shared))=λ_=>Ya w:=by kernel_rfl
theorem left:LeftO p qv loose Xt Yf Ya 8200:=by refine LeftO.of_pieces (H₀:=boot_heap) (H₁:=H1) (gs₀:=⟨[]⟩) (gs₁:=⟨[]⟩) (d₀:=boot_drawn) (d₁:=dr1) (k₀:=boot_toks) (k₁:=nat_lit 1051) (m₀:=m0) (ann:=ann) (M:=(12+(1+(4038+2)))) (boot_open (by kernel_rfl) (by decide) (λs=>by kernel_rfl)) size run (by decide) (λw=>funext λos=>?_);exact looks_pair (congrFun (Jg w) os) (looks_pair (congrFun (Jb w) os) (congrFun (Ke w) os))
end
end Hd
end
def PySem.W.Fast.tw3926628902802919041:PySem.Program:=PySem.Challenge.pw_boardglue_k82_turned_apart
theorem PySem.W.Fast.te3926628902802919041:PySem.Challenge.pw_boardglue_k82_turned_apart=PySem.W.Fast.tw3926628902802919041:=rfl
open PySem PySem.W PyProof.Rows in
set_option maxRecDepth 100000 in
set_option maxHeartbeats 0 in
theorem Lm:(chainsOk Hd.qv && opensWell PySem.Challenge.rw_boardglue_k82_turned_apart.row.prog && (frees PySem.Challenge.rw_boardglue_k82_turned_apart.row.toRowW && PySem.Challenge.rw_boardglue_k82_turned_apart.row.within.isEmpty))=true:=by decide+kernel
open PySem PySem.W PyProof.Rows in
set_option maxRecDepth 100000 in
set_option maxHeartbeats 0 in
theorem Lg:PySem.Challenge.rw_boardglue_k82_turned_apart.row.prog.bare:=⟨rfl,rfl,rfl,rfl,rfl,by decide+kernel⟩
set_option tactic.hygienic true in
open PySem PySem.W PyProof.Rows in
set_option maxRecDepth 100000 in
set_option maxHeartbeats 0 in
theorem Lu(h:PySem.Challenge.rw_boardglue_k82_turned_apart.row.wellSaid=true->PySem.Challenge.rw_boardglue_k82_turned_apart.row.Holds):PySem.Challenge.rw_boardglue_k82_turned_apart.Holds:=by w_on;o_law;rename_i said;exact h said
local macro_rules | `(tactic| omega)=>`(tactic| first|lia|omega +splitNatSub)
namespace L2
open PySem PySem.Spec PyProof.Rows
variable{κ:Type}[DecidableEq κ]
def valV(kvs:List (κ×V))(k:κ):Option V:=(kvs.find? λkv=>decide (kv.1=k)).map (·.2)
def putK(kvs:List (κ×V))(k:κ)(v:V):List (κ×V):=
 if (kvs.any λkv=>decide (kv.1=k))=true then kvs.map (λkv=>if kv.1=k then (kv.1,v) else kv) else kvs++[(k,v)]
def Ae(kvs:List (κ×V))(k:κ):List (κ×V):=kvs.filter λkv=>decide (kv.1≠k)
theorem yb{p:κ×V}{r:List (κ×V)}{k:κ}(e:p.1=k):valV (p::r) k=some p.2:=by simp[valV,d4,e]
theorem z6{p:κ×V}{r:List (κ×V)}{k:κ}(e:¬ p.1=k):valV (p::r) k=valV r k:=by simp[valV,d4,e]
theorem xY(k:κ):∀kvs:List (κ×V),(kvs.any λkv=>decide (kv.1=k))=(valV kvs k).isSome
 |[]=>rfl
 |p::r=>by
  rw[eV];by_cases e:p.1=k
  .simp only[yb e,jg e,Bool.true_or,Option.isSome_some]
  .rw[z6 e,iT e,Bool.false_or];exact xY k r
theorem BH(k j:κ)(y:V):∀kvs:List (κ×V),valV (kvs.map λkv=>if kv.1=k then (kv.1,y) else kv) j=(valV kvs j).map λx=>if j=k then y else x
 |[]=>rfl
 |p::r=>by
  have ih:=BH k j y r;rw[a6];by_cases h:p.1=k
  .rw[iU h];by_cases e:p.1=j
   .rw[yb (p:=(p.1,y)) e,yb e,eW,iU (e.symm.trans h)]
   .rw[z6 (p:=(p.1,y)) e,z6 e,ih]
  .rw[iV h];by_cases e:p.1=j
   .rw[yb (p:=p) e,yb e,eW,iV (λz=>h (e.trans z))]
   .rw[z6 (p:=p) e,z6 e,ih]
theorem tQ(k j:κ)(y:V):∀kvs:List (κ×V),valV kvs k=none->valV (kvs++[(k,y)]) j=if j=k then some y else valV kvs j
 |[],_=>by
  by_cases e:k=j
  .rw[iU e.symm];exact yb (p:=(k,y)) e
  .rw[iV (λz=>e z.symm)];exact z6 (p:=(k,y)) e
 |p::r,hn=>by
  rw[List.cons_append];have hk:¬ p.1=k:=λz=>by rw[yb z]at hn;cases hn
  rw[z6 hk]at hn;have ih:=tQ k j y r hn;by_cases e:p.1=j
  .rw[yb e,yb e,iV (λz=>hk (e.trans z))]
  .rw[z6 e,z6 e,ih]
theorem xV(kvs:List (κ×V))(k j:κ)(y:V):valV (putK kvs k y) j=if j=k then some y else valV kvs j:=by
 unfold putK;by_cases a:(kvs.any λkv=>decide (kv.1=k))=true
 .rw[iU a,BH];rw[xY]at a;by_cases e:j=k
  .obtain⟨x,hx⟩:=gW.mp a;rw[iU e,e,hx,eW,iU rfl]
  .rw[iV e];cases valV kvs j with
   |none=>rfl
   |some x=>rw[eW,iV e]
 .rw[iV a];refine tQ k j y kvs ?_;rw[xY]at a;cases q:valV kvs k with
  |none=>rfl
  |some x=>rw[q]at a;exact(a rfl).elim
theorem yD(kvs:List (κ×V))(k:κ)(v:V):(putK kvs k v).length<=kvs.length+1:=by
 unfold putK;split
 .rw[aa];omega
 .rw[ai,au,aV];omega
theorem B0{kvs:List (κ×V)}{k:κ}(v:V)(h:valV kvs k=none):putK kvs k v=kvs++[(k,v)]:=by unfold putK;rw[xY,h];exact iV (by decide)
variable{o:Option V}
theorem RelO.isSome_eq{u:Option Value}(r:RelO o u):o.isSome=u.isSome:=by
 cases o with
 |none=>cases u with
  |none=>rfl
  |some _=>exact(show False from r).elim
 |some _=>cases u with
  |none=>exact(show False from r).elim
  |some _=>rfl
theorem KV.val{kvs:List (κ×V)}{vs:List (κ×Value)}(r:KV kvs vs)(k:κ):RelO (valV kvs k) (valueAt vs k):=by
 unfold KV at r;induction r with
 |nil=>exact True.intro
 | @cons p q ps qs h t ih =>
  obtain⟨h1,h2⟩:=h;by_cases e:p.1=k
  .have e':q.1=k:=h1.symm.trans e;have b:valueAt (q::qs) k=some q.2:=by simp[valueAt,d4,e']
   rw[yb e,b];exact h2
  .have e':¬ q.1=k:=λz=>e (h1.trans z);have b:valueAt (q::qs) k=valueAt qs k:=by simp[valueAt,d4,e']
   rw[z6 e,b];exact ih
theorem KV.any{kvs:List (κ×V)}{vs:List (κ×Value)}(r:KV kvs vs)(k:κ):(kvs.any λkv=>decide (kv.1=k))=vs.any λkv=>decide (kv.1=k):=by
 unfold KV at r;induction r with
 |nil=>rfl
 |cons h t ih=>rw[eV,eV,ih,h.1]
variable{y:V}
theorem KV.repl{kvs:List (κ×V)}{vs:List (κ×Value)}(r:KV kvs vs)(k:κ){u:Value}(ry:RelV y u): KV (kvs.map λkv=>if kv.1=k then (kv.1,y) else kv) (vs.map λkv=>if kv.1=k then (kv.1,u) else kv):=by
 unfold KV at r ⊢;induction r with
 |nil=>exact .nil
 | @cons p q ps qs h t ih =>
  rw[a6,a6];refine .cons ?_ ih;obtain⟨h1,h2⟩:=h;by_cases e:p.1=k
  .rw[iU e,iU (h1.symm.trans e)];exact⟨h1,ry⟩
  .rw[iV e,iV (λz=>e (h1.trans z))];exact⟨h1,h2⟩
theorem KV.put{kvs:List (κ×V)}{vs:List (κ×Value)}(r:KV kvs vs)(k:κ){u:Value}(ry:RelV y u):KV (putK kvs k y) (stored vs k u):=by
 unfold putK stored;rw[r.any k];by_cases e:(vs.any λkv=>decide (kv.1=k))=true
 .rw[iU e,iU e];exact r.repl k ry
 .rw[iV e,iV e];exact Paired.snoc r ⟨rfl,ry⟩
theorem KV.drop{kvs:List (κ×V)}{vs:List (κ×Value)}(r:KV kvs vs)(k:κ):KV (Ae kvs k) (without vs k):=by
 unfold KV at r ⊢;unfold Ae without;induction r with
 |nil=>exact .nil
 | @cons p q ps qs h t ih =>
  obtain⟨h1,h2⟩:=h;rw[c9,c9];by_cases e:p.1=k
  .have a:¬ decide (p.1≠k)=true:=by simp[e]
   have b:¬ decide (q.1≠k)=true:=by simp[h1.symm.trans e]
   rw[iV a,iV b];exact ih
  .have e':¬ q.1=k:=λz=>e (h1.trans z);have a:decide (p.1≠k)=true:=by simp[e]
   have b:decide (q.1≠k)=true:=by simp[e']
   rw[iU a,iU b];exact .cons ⟨h1,h2⟩ ih
theorem KV.keys{kvs:List (κ×V)}{vs:List (κ×Value)}(r:KV kvs vs):kvs.map (·.1)=vs.map (·.1):=by
 unfold KV at r;induction r with
 |nil=>rfl
 |cons h t ih=>rw[a6,a6,ih,h.1]
theorem KV.length{kvs:List (κ×V)}{vs:List (κ×Value)}(r:KV kvs vs):kvs.length=vs.length:=Paired.length r
theorem Fn(kvs:List (κ×V))(k:κ):(Ae kvs k).length<=kvs.length:=fM _ _
theorem Ci{P:Program}{w:World}{k:Key}{u:Value}(r:RelV (kV k) u):(zS P w).is k u=true:=by
 cases k with
 |inl i=>obtain⟨t,e⟩:=(show ∃t,u=Value.int i t from r);subst e;exact AI P w i t
 |inr x=>obtain⟨t,e⟩:=(show ∃t,u=Value.str x t from r);subst e;exact AJ P w x t
theorem tX{P:Program}{w:World}:∀{ks:List Key}{us:List Value},Vals (ks.map kV) us->ItemsAre (zS P w) ks us
 |[],_,r=>by rw[dc]at r;cases r;exact .nil
 |k::ks,_,r=>by
  rw[a6]at r;cases r with
  |cons h t=>exact .cons (Ci h) (tX t)
abbrev KT(H:Hp):List (List Key×V)->List (List Key×Addr×Value)->Prop:=Paired λp q=>p.1=q.1/\H q.2.1=some (.tup (p.1.map kV))/\RelV p.2 q.2.2
variable{kvs:List (List Key×V)}
theorem KT.val{H:Hp}{xs:List (List Key×Addr×Value)}(r:KT H kvs xs)(k:List Key):RelO (valV kvs k) ((atKey xs k).map (·.2)):=by
 induction r with
 |nil=>exact True.intro
 | @cons p q ps qs h t ih =>
  obtain⟨h1,_,h2⟩:=h;by_cases e:p.1=k
  .have e':q.1=k:=h1.symm.trans e;have b:atKey (q::qs) k=some q.2:=by simp[atKey,d4,e']
   rw[yb e,b];exact h2
  .have e':¬ q.1=k:=λz=>e (h1.trans z);have b:atKey (q::qs) k=atKey qs k:=by simp[atKey,d4,e']
   rw[z6 e,b];exact ih
theorem KT.repl{H:Hp}{xs:List (List Key×Addr×Value)}(r:KT H kvs xs)(k:List Key){u:Value}(ry:RelV y u): KT H (kvs.map λkv=>if kv.1=k then (kv.1,y) else kv) (xs.map (putAt k u)):=by
 induction r with
 |nil=>exact .nil
 | @cons p q ps qs h t ih =>
  rw[a6,a6];refine .cons ?_ ih;obtain⟨h1,h2,h3⟩:=h;unfold putAt;by_cases e:p.1=k
  .rw[iU e,iU (h1.symm.trans e)];exact⟨h1,h2,ry⟩
  .rw[iV e,iV (λz=>e (h1.trans z))];exact⟨h1,h2,h3⟩
theorem KT.put{H:Hp}{xs:List (List Key×Addr×Value)}(r:KT H kvs xs)(k:List Key){b:Addr}{u:Value}(hb:H b=some (.tup (k.map kV)))(ry:RelV y u): KT H (putK kvs k y) (storedH xs k b u):=by
 have e:(kvs.any λkv=>decide (kv.1=k))=(atKey xs k).isSome:=by rw[xY,(r.val k).isSome_eq,Option.isSome_map]
 unfold putK storedH;rw[e];by_cases q:(atKey xs k).isSome=true
 .rw[iU q,iU q];exact r.repl k ry
 .rw[iV q,iV q];exact Paired.snoc r ⟨rfl,hb,ry⟩
variable{H':Hp}
theorem KT.keeps{H:Hp}{xs:List (List Key×Addr×Value)}(r:KT H kvs xs)(ht:∀b ys,H b=some (.tup ys)->H' b=some (.tup ys)):KT H' kvs xs :=
 Paired.mapP r λ_ _ z=>⟨z.1,ht _ _ z.2.1,z.2.2⟩
variable{P:Program}{w:World}{H:Hp}{h:Heap}{a:Addr}
theorem JQ{u:HO}(ok:HOk P w H h)(e:Rd H a u):ObjOk P w H h a u:=e.ok ok
theorem DZ{kvs:List (Key×V)}(ok:HOk P w H h)(e:Rd H a (.dK kvs)):kvs.length<=sizeLine/\(a==sysModules)=false/\∃vs,KV kvs vs/\h.DictOf (zS P w) a vs :=
 show ObjOk P w H h a (.dK kvs) from JQ ok e
theorem Jp{kvs:List (Key×V)}(ok:HOk P w H h)(e:H a=some (.dK kvs)):kvs.length<=sizeLine/\(a==sysModules)=false/\∃vs,KV kvs vs/\h.DictOf (zS P w) a vs:=DZ ok (.inl e)
theorem Bc{ks:List Key}(ok:HOk P w H h)(e:H a=some (.tup (ks.map kV))):(tupleKind (zS P w)).is h ks a:=by
 obtain⟨_,its,r,o,h1,h2,n,h3⟩:=(show ObjOk P w H h a (.tup (ks.map kV)) from ok a _ e)
 exact⟨o,its.toArray,n,h1,h2,h3,by simpa using tX r⟩
theorem DU(ok:HOk P w H h)(e:Rd H a (.dT kvs)):kvs.length<=sizeLine/\(a==sysModules)=false /\ ∃xs,KT H kvs xs/\h.DictOfH (tupleKind (zS P w)) a xs:=by
 obtain⟨z,y,xs,r,o,es,ep,h1,h2,h3,h4,h5⟩:=(show ObjOk P w H h a (.dT kvs) from JQ ok e)
 refine⟨z,y,xs,r,o,es,ep,h1,h2,h3,h4,λx hx=>?_,h5⟩;have all:∀{l:List (List Key×V)}{m:List (List Key×Addr×Value)},KT H l m->∀x∈m,(tupleKind (zS P w)).is h x.1 x.2.1:=by
  intro l m q;induction q with
  |nil=>intro x hx;exact nomatch hx
  | @cons p q ps qs hq t ih =>
   intro x hx;rcases aW.mp hx with e|hx
   .subst e;exact Bc ok (by rw[<-hq.1];exact hq.2.1)
   .exact ih x hx
 exact all r x hx
theorem KI(ok:HOk P w H h)(e:H a=some (.dT kvs)):kvs.length<=sizeLine/\(a==sysModules)=false /\ ∃xs,KT H kvs xs/\h.DictOfH (tupleKind (zS P w)) a xs:=DU ok (.inl e)
def DGet(H:Hp)(a:Addr)(y:V)(r:Option V):Prop :=
 (∃kvs k,Rd H a (.dK kvs)/\y=kV k/\r=valV kvs k)\/∃kvs k b,Rd H a (.dT kvs)/\y=.ref b/\H b=some (.tup (k.map kV))/\r=valV kvs k
def DPut(H:Hp)(a:Addr)(y v:V)(H':Hp):Prop :=
 (∃kvs k,H a=some (.dK kvs)/\y=kV k/\kvs.length<sizeLine/\H'=upd H a (.dK (putK kvs k v))) \/
 ∃kvs k b,H a=some (.dT kvs)/\y=.ref b/\H b=some (.tup (k.map kV))/\kvs.length<sizeLine/\H'=upd H a (.dT (putK kvs k v))
theorem DGet.k{H:Hp}{a:Addr}{kvs:List (Key×V)}{k:Key}(e:H a=some (.dK kvs)):DGet H a (kV k) (valV kvs k):=.inl ⟨kvs,k,.inl e,rfl,rfl⟩
theorem DPut.k{H:Hp}{a:Addr}{kvs:List (Key×V)}{k:Key}{v:V}(e:H a=some (.dK kvs))(hl:kvs.length<sizeLine):DPut H a (kV k) v (upd H a (.dK (putK kvs k v))):=.inl ⟨kvs,k,e,rfl,hl,rfl⟩
variable{h':Heap}
section
variable{X:Cx}{pins:List (Addr×Obj)}{σ:St}{s:Shared}{y v:V}{u r:Value}{o:Option V}{A:Around}{E:Value->Shared->Prop}
theorem Inv.big(I:Inv X pins σ H s):sysModules<s.heap.objs.size:=by have h:mainGlobals<s.heap.objs.size:=(I.mod.glob.keeps I.bk).lt;exact gI (by decide) h
theorem EF{Q:Value->Shared->Prop}(hu:A.units+1<cLine)(I:Inv X pins σ H s)(g:DGet H a y (some v))(ry:RelV y u)(h:∀w' s',Inv X pins σ H s'->RelV v w'->Q w' s'): wpAny (model X.prog X.w) A (getItem (.ref a) u) Q E s:=by
 rcases g with⟨kvs,k,e,ey,l⟩|⟨kvs,k,b,e,ey,eb,l⟩
 .subst ey;obtain⟨z,hd,vs,rel,dd⟩:=DZ I.hok e;obtain⟨w',hw,rw'⟩:=RelO.some_of (v:=v) (o:=valueAt vs k) (by rw[l];exact rel.val k);exact wpAny_getItem_of (Ci ry) dd.mapOf hw (h w' _ (I.tok _) rw')
 .subst ey;cases (show u=Value.ref b from ry)
  obtain⟨z,hd,xs,rel,dd⟩:=DU I.hok e;obtain⟨w',hw,rw'⟩:=RelO.some_of (v:=v) (o:=(atKey xs k).map (·.2)) (by rw[l];exact rel.val k);obtain⟨p,hp,hp2⟩:=aB.mp hw;refine wpAny_getItem_heap (ji hu) (Bc I.hok eb) dd hp ?_;rw[hp2];exact h w' _ (I.tok _) rw'
theorem Is{Q:Value->Shared->Prop}(hu:A.units+1<cLine)(I:Inv X pins σ H s)(g:DGet H a y o)(ry:RelV y u)(h:∀s',Inv X pins σ H s'->Q (.bool (!o.isSome)) s'): wpAny (model X.prog X.w) A (compareOp .NotIn u (.ref a)) Q E s:=by
 rcases g with⟨kvs,k,e,ey,l⟩|⟨kvs,k,b,e,ey,eb,l⟩
 .subst ey;obtain⟨z,hd,vs,rel,dd⟩:=DZ I.hok e;refine wpAny_notIn_of (Ci ry) hd dd.mapOf ?_;rw[<-(rel.val k).isSome_eq,<-l];exact h _ (I.tok _)
 .subst ey;cases (show u=Value.ref b from ry)
  obtain⟨z,hd,xs,rel,dd⟩:=DU I.hok e;refine wpAny_notIn_heap (ji hu) (Bc I.hok eb) hd dd ?_;have q:=(rel.val k).isSome_eq;rw[Option.isSome_map]at q;rw[<-q,<-l];exact h _ (I.tok _)
theorem Ay{t':Nat}{ob:HO}(I:Inv X pins σ H s)(mu:Mut (H a))(hs:Heap.SameBut a s.heap h')(he:∃q,h'.get? a=some q)(new:ObjOk X.prog X.w (upd H a ob) h' a ob): Inv X pins σ (upd H a ob) { s with heap:=h',toks:=t' } :=
 I.write (x:=a) (e:=a) mu (.inl rfl) (λb q hb z=>(hs.2 b hb).trans z) he new
theorem Ew{kvs:List (Key×V)}{vs:List (Key×Value)}(z:kvs.length<=sizeLine)(hd:(a==sysModules)=false)(rel:KV kvs vs)(dd:h'.DictOf (zS P w) a vs): ObjOk P w H' h' a (.dK kvs):=⟨z,hd,vs,rel,dd⟩
theorem Do{Q:Unit->Shared->Prop}(hu:A.units+1<cLine)(I:Inv X pins σ H s)(g:DPut H a y v H')(ry:RelV y u)(rv:RelV v r)(h:∀s',Inv X pins σ H' s'->Q () s'): wpAny (model X.prog X.w) A (setItem (.ref a) u r) Q E s:=by
 rcases g with⟨kvs,k,e,ey,l,eH⟩|⟨kvs,k,b,e,ey,eb,l,eH⟩
 .subst ey eH;obtain⟨z,hd,vs,rel,dd⟩:=Jp I.hok e;have hz:vs.length<=sizeLine:=by rw[<-rel.length];exact z
  have hl:(putK kvs k v).length<=sizeLine:=by have:=yD kvs k v;omega
  refine wpAny_setItem_pairs (hsz:=hz) (Ci ry) dd λh' dd' hs=>h _ ?_;have he:∃q,h'.get? a=some q:=let ⟨q,_,_,hq,_⟩:=dd';⟨q,hq⟩
  exact Ay I (by rw[e];exact True.intro) hs he (Ew hl hd (rel.put k rv) dd')
 .subst ey eH;cases (show u=Value.ref b from ry)
  obtain⟨z,hd,xs,rel,dd⟩:=KI I.hok e;have hz:xs.length<=sizeLine:=by rw[<-Paired.length rel];exact z
  have hl:(putK kvs k v).length<=sizeLine:=by have:=yD kvs k v;omega
  refine wpAny_setItem_heap (hsz:=hz) (ji hu) (Bc I.hok eb) dd λh' dd' hs=>h _ ?_;obtain⟨q,es,ep,hq,h2,h3,h4,_,h5⟩:=dd';refine Ay I (by rw[e];exact True.intro) hs ⟨q,hq⟩ ⟨hl,hd,_,(rel.put k eb rv).keeps λc ys ec=>?_,q,es,ep,hq,h2,h3,h4,h5⟩;rw[zl (zX ec e (λz=>nomatch z))];exact ec
end
section
variable{X:Cx}{pins:List (Addr×Obj)}{σ:St}{s:Shared}{kvs:List (Key×V)}{k:Key}{u:Value}{A:Around}{E:Value->Shared->Prop}
theorem KG{v:V}{more:List Value}{Q:Value->Shared->Prop}(I:Inv X pins σ H s)(e:H a=some (.dK kvs))(ry:RelV (kV k) u)(l:valV kvs k=some v)(hm:more=[]\/∃x,more=[x])(h:∀w' s',Inv X pins σ (upd H a (.dK (Ae kvs k))) s'->RelV v w'->Q w' s'):wpAny (model X.prog X.w) A (call (.builtin "dict.pop") (.ref a::u::more)) Q E s:=by
 obtain⟨z,hd,vs,rel,dd⟩:=Jp I.hok e;obtain⟨w',hw,rw'⟩:=RelO.some_of (v:=v) (o:=valueAt vs k) (by rw[<-l];exact rel.val k);have hp:(keyPart u).isSome=true:=by
  cases k with
  |inl i=>obtain⟨t,q⟩:=(show ∃t,u=Value.int i t from ry);subst q;rfl
  |inr x=>obtain⟨t,q⟩:=(show ∃t,u=Value.str x t from ry);subst q;rfl
 have ha:argsOk "dict.pop" ⟨.ref a::u::more,[]⟩:=by
  rcases hm with q|⟨x,q⟩
  .subst q;exact PySem.F.args_dict_pop_2 _ _
  .subst q;exact PySem.F.args_dict_pop_3 _ _ _
 refine call_meetsIn iz dd.typeIs PySem.F.entry_dict_pop ha (meets_dict_pop_there (zS X.prog X.w) a (Ci ry) more hm hp)
  ⟨vs,w',dd,by rw[<-rel.length];exact z,hw,λh' dd' hs=>h w' _ ?_ rw'⟩
 have he:∃q,h'.get? a=some q:=let ⟨q,_,_,hq,_⟩:=dd';⟨q,hq⟩
 exact Ay I (by rw[e];exact True.intro) hs he (Ew (cf (Fn kvs k) z) hd (rel.drop k) dd')
end
def NoSl(i:Expr):Prop:=∀ov iv,subscripted i false ov iv=operate [ov,iv] (getItem ov iv)
theorem HU{prog:Program}{A:Around}{E:Value->Shared->Prop}{s:Shared}{env:Env}{value slice:Expr}{pos:Pos}{T id:String}{Q:Value->Shared->Prop}(hl:typeLookup (.type T) "__getitem__"=pure (some (.builtin id)))(hs:NoSl slice)(h:wpAny (model prog w) A (eval value env) (λo s₁=>wpAny (model prog w) A (eval slice env) (λi s₂=>s₂.TypeIs o T/\wpAny (model prog w) A (getItem o i) Q E s₂) E s₁) E s): wpAny (model prog w) A (eval (.Subscript value slice pos) env) Q E s:=by
 refine Subscript_ (iW h (λo s₁ h₁=>iW h₁ (λi s₂ h₂=>?_) λ_ _ x=>x) λ_ _ x=>x);obtain⟨hT,h₂⟩:=h₂;unfold subscriptTail;refine i4 ?_;rw[getitemInPython_of_ne hT.not_modules];refine i4 (wpAny_specialOf hT hl ?_);have fin:wpAny (model prog w) A (subscripted slice false o i) (λr s₃=>wpAny (model prog w) A (letTemporaryGo value o r >>= λ_=>pure r) Q E s₃) E s₂:=by rw[hs o i];exact wpAny_operating (iW h₂ (λr s₃ h₃=>i4 (wpAny_letTemporaryGo (i6 h₃))) λ_ _ x=>x)
 first
  |exact i6 (i4 fin)
  |exact i4 (i6 (i4 fin))
  |exact i4 fin
variable{pins:List (Addr×Obj)}
theorem AN{X:Cx}{σ:St}{s:Shared}(I:Inv X pins σ H s)(g:DGet H a y o):s.TypeIs (.ref a) "dict":=by
 rcases g with⟨kvs,k,e,_,_⟩|⟨kvs,k,b,e,_,_,_⟩
 .obtain⟨_,_,vs,_,dd⟩:=DZ I.hok e;exact dd.typeIs
 .obtain⟨_,_,xs,_,dd⟩:=DU I.hok e;exact dd.typeIs
def IV(td ty:TE):TE:=λσ H Q=>td σ H λx H1=>ty σ H1 λy H2=>∃a v,x=.ref a/\DGet H2 a y (some v)/\Q v H2
def D7(ty td:TE):TE:=λσ H Q=>ty σ H λy H1=>td σ H1 λx H2=>∃a o,x=.ref a/\DGet H2 a y o/\Q (.bl (!o.isSome)) H2
def Kp(td ty tv:TE):TS:=λD σ H=>tv σ H λv H1=>td σ H1 λx H2=>ty σ H2 λy H3=>∃a H4,x=.ref a/\DPut H3 a y v H4/\D.nx σ H4
section
variable{X:Cx}{o i e value:Expr}{pos pos' tpos:Pos}{td ty tv:TE}
theorem AV(hu:X.A.units+1<cLine)(ho:PE X o td)(hi:PE X i ty)(hs:NoSl i):PE X (.Subscript o i pos) (IV td ty):=by intro pins s σ H Q I h;refine HU PySem.F.slot_dict_getitem.lookup hs (thn (ho pins s σ H _ I h) λu s1 ⟨x,H1,I1,rx,q1⟩=>thn (hi pins s1 σ H1 _ I1 q1) λiv s2 ⟨y,H2,I2,ry,a,v,ex,g,q2⟩=>?_);subst ex;obtain rfl:u=Value.ref a:=rx;exact⟨AN I2 g,EF hu I2 g ry λw' s3 I3 rw'=>⟨v,H2,I3,rw',q2⟩⟩
theorem CK(hu:X.A.units+1<cLine)(hi:PE X i ty)(ho:PE X o td):PC X .NotIn i o (D7 ty td):=by intro pins s σ H Q I h;refine thn (hi pins s σ H _ I h) λiv s1 ⟨y,H1,I1,ry,q1⟩=>thn (ho pins s1 σ H1 _ I1 q1) λu s2 ⟨x,H2,I2,rx,a,ov,ex,g,q2⟩=>?_;subst ex;obtain rfl:u=Value.ref a:=rx;exact Is hu I2 g ry λs3 I3=>⟨.bl (!ov.isSome),H2,I3,rfl,q2⟩
theorem vM(hu:X.A.units+1<cLine)(ho:PE X o td)(hi:PE X i ty)(hv:PE X value tv)(hs:swapsWith value (some (.Subscript o i pos')) pos.line X.env=pure false): PS X (.Assign [.Subscript o i pos'] value pos) (Kp td ty tv):=by intro pins s σ H D I h;refine wpAny_Assign_Subscript (thn (hv pins s σ H _ I h) λr s1 ⟨v,H1,I1,rv,q1⟩=>thn (ho pins s1 σ H1 _ I1 q1) λu s2 ⟨x,H2,I2,rx,q2⟩=>thn (hi pins s2 σ H2 _ I2 q2) λiv s3 ⟨y,H3,I3,ry,a,H4,ex,g,q3⟩=>?_) hs;subst ex;obtain rfl:u=Value.ref a:=rx;exact Do hu I3 g ry rv λs4 I4=>⟨σ,H4,I4,q3⟩
end
variable{X:Cx}{pos:Pos}
structure M1(X:Cx)(o:Expr)(m:Str)(apos:Pos)(e:Expr)(cpos:Pos):Prop where
 base:attributeBase o m X.env (eval o X.env)=eval o X.env
 few:((backTo cpos (starEach [e] X.env)).all (λx=>!x.1) && (backToKw cpos (keywordEach [] X.env)).all (λx=>x.1.isSome)
  && decide (([e]:List Expr).length+([]:List Keyword).length+(if ([]:List Keyword).isEmpty then 0 else 1)<30))=true
 line:(apos.endLine==cpos.line)=true
 trees:backTo cpos (starEach [e] X.env)=[(false,eval e X.env)]
def IsD(H:Hp)(a:Addr):Prop:=(∃kvs,Rd H a (.dK kvs))\/∃kvs,Rd H a (.dT kvs)
theorem Kc{σ:St}{s:Shared}(I:Inv X pins σ H s)(d:IsD H a): s.TypeIs (.ref a) "dict"/\(∀b,Value.ref a=.ref b->∃ob,s.heap.get? b=some ob/\ob.dict=none)/\(a==sysModules)=false:=by
 rcases d with⟨kvs,e⟩|⟨kvs,e⟩
 .obtain⟨_,hd,vs,_,dd⟩:=DZ I.hok e;refine⟨dd.typeIs,λb q=>?_,hd⟩;cases q
  obtain⟨ob,_,_,h1,h2,_⟩:=dd;exact⟨ob,h1,h2.2.1⟩
 .obtain⟨_,hd,xs,_,dd⟩:=DU I.hok e;refine⟨dd.typeIs,λb q=>?_,hd⟩;cases q
  obtain⟨ob,_,_,h1,h2,_⟩:=dd;exact⟨ob,h1,h2.2.1⟩
section
variable{pins:List (Addr×Obj)}{σ:St}{s:Shared}{y d:V}{u r:Value}{o:Option V}{A:Around}{E:Value->Shared->Prop}
end
def F4(td ty:TE):TE:=λσ H Q=>td σ H λx H1=>∃a,x=.ref a/\IsD H1 a/\ty σ H1 λy H2=>∃kvs k v,H2 a=some (.dK kvs)/\y=kV k/\valV kvs k=some v/\Q v (upd H2 a (.dK (Ae kvs k)))
section
variable{o e f:Expr}{apos cpos:Pos}{td ty tx:TE}
theorem BF(ho:PE X o td)(he:PE X e ty)(m:M1 X o "pop" apos e cpos):PE X (.Call (.Attribute o "pop" apos) [e] [] cpos) (F4 td ty):=by intro pins s σ H Q I h;refine wpAny_Call_method m.base m.few m.line PySem.F.plainAttrs_dict iz PySem.F.type_dict_pop (thn (ho pins s σ H _ I h) λu s1 ⟨x,H1,I1,rx,a,ex,d,q1⟩=>?_);subst ex;obtain rfl:u=Value.ref a:=rx;obtain⟨t1,t2,_⟩:=Kc I1 d;refine⟨t1,t2,?_⟩;rw[m.trees];refine Calls.callWith_builtin rfl (Calls.evalArgs_plain (Calls.spliced_cons (thn (he pins s1 σ H1 _ I1 q1) λiv s2 ⟨y,H2,I2,ry,kvs,k,v,ea,ey,l,q2⟩=>Calls.spliced_nil ?_)));subst ey;exact KG I2 ea ry l (.inl rfl) λw' s3 I3 rw'=>⟨v,_,I3,rw',q2⟩
end
section
variable{pins:List (Addr×Obj)}{σ:St}{s:Shared}{kvs:List (Key×V)}{A:Around}{E:Value->Shared->Prop}
end
section
variable{pins:List (Addr×Obj)}{σ:St}{s:Shared}{y:V}{u:Value}{A:Around}{E:Value->Shared->Prop}
end
end L2
namespace Att
open PySem PySem.W PySem.Calls PyProof.Rows
end Att
namespace L2
open PySem PySem.Spec PyProof.Rows
variable{X:Cx}
variable{κ:Type}[DecidableEq κ]
end L2
namespace Bg
theorem FE(a b:Int):Int.gcd b (a.fmod b)=Int.gcd a b:=by rw[Int.fmod_def,av,gv,dn]
theorem Fb(a b:Int):Int.gcd b (a % b)=Int.gcd a b:=by rw[Int.emod_def,av,gv,dn]
variable{a:Int}
theorem Hl{b:Int}(h:b≠0):(a.fmod b).natAbs<b.natAbs:=by
 rw[Int.fmod_eq_emod];have h1:=cX a h;have h2:=Int.emod_lt a h;by_cases c:0<=b\/b∣a
 .rw[iU c];omega
 .rw[iV c];have hb:b<0:=by
   rcases iA b 0 with z|z
   .exact z
   .exact absurd (Or.inl z) c
  have hd:¬ b∣a:=λz=>c (Or.inr z);have hn:a % b≠0:=λz=>hd (Int.dvd_of_emod_eq_zero z);omega
def Bd(k:Nat)(x:Int):Prop:=x.natAbs<2 ^ k
instance {k:Nat} {x:Int}:Decidable (Bd k x):=inferInstanceAs (Decidable (x.natAbs<2 ^ k))
variable{x:Int}
theorem Bd.mono{j k:Nat}(h:Bd j x)(l:j<=k):Bd k x:=aQ h (Nat.pow_le_pow_right (by decide) l)
theorem Bd.neg{k:Nat}(h:Bd k x):Bd k (-x):=by unfold Bd at*;rw[Int.natAbs_neg];exact h
variable{y:Int}
theorem Bd.mul{j k:Nat}(h:Bd j x)(g:Bd k y):Bd (j+k) (x*y):=by
 unfold Bd at*
 rw[cC,Nat.pow_add];exact Nat.mul_lt_mul_of_lt_of_lt h g
theorem Bd.add{k:Nat}(h:Bd k x)(g:Bd k y):Bd (k+1) (x+y):=by
 unfold Bd at*
 rw[Nat.pow_succ];omega
theorem Bd.sub{k:Nat}(h:Bd k x)(g:Bd k y):Bd (k+1) (x - y):=by
 unfold Bd at*
 rw[Nat.pow_succ];omega
theorem Bd.of_le{k:Nat}(h:Bd k y)(l:x.natAbs<=y.natAbs):Bd k x:=a9 l h
theorem Bd.abs{k:Nat}(h:Bd k x):Bd k (if x<0 then -x else x):=by
 split
 .exact h.neg
 .exact h
theorem vV(a b:Int):(a.fdiv b).natAbs<=a.natAbs:=by
 by_cases hb:b=0
 .subst hb;simp
 have key:∀a b:Int,0<b->(a.fdiv b).natAbs<=a.natAbs:=λa b hb=>by
  rw[d9 a (by omega)];have h1:b*(a / b)+a % b=a:=fR a b;have h2:=cX a (show b≠0 by omega);have h3:=dC a hb;rcases iA (a / b) 0 with q|q
  .have e:a<=a / b:=by
    have:b*(a / b)<=1*(a / b) - (b - 1):=by
     have z:(b - 1)*(a / b)<=(b - 1)*(-1):=dk (by omega) (by omega);have z2:b*(a / b)=(b - 1)*(a / b)+a / b:=by rw[hW];omega
     omega
    omega
   omega
  .have e:a / b<=a:=by
    have z:1*(a / b)<=b*(a / b):=Int.mul_le_mul_of_nonneg_right (by omega) q;omega
   omega
 rcases iA b 0 with h|h
 .have e:a.fdiv b=(-a).fdiv (-b):=by rw[Int.neg_fdiv_neg]
  rw[e];have:=key (-a) (-b) (by omega);omega
 .exact key a b (by omega)
theorem Bd.fdiv{k:Nat}{x:Int}(h:Bd k x)(y:Int):Bd k (x.fdiv y):=h.of_le (vV x y)
theorem Bd.emod{k:Nat}(h:Bd k y)(hy:y≠0)(x:Int):Bd k (x % y):=by refine h.of_le ?_;have h1:=cX x hy;have h2:=Int.emod_lt x hy;omega
theorem Bd.log{k:Nat}(h:Bd k x):x.natAbs.log2<=k:=by
 by_cases z:x.natAbs=0
 .rw[z];simp
 .exact bU ((iJ z).mpr h)
def g3(a b n:Int):Nat:=Int.gcd (Int.gcd n a) b
def gd(a b n:Int):Int:=if n<0 then -(g3 a b n:Int) else (g3 a b n:Int)
theorem g3_n(a b n:Int):(g3 a b n:Int)∣n:=bI (b7 ..) (b7 ..)
theorem g3_a(a b n:Int):(g3 a b n:Int)∣a:=bI (b7 ..) (ce ..)
theorem g3_b(a b n:Int):(g3 a b n:Int)∣b:=ce ..
theorem Dr{b n:Int}(h:n≠0):0<g3 a b n:=by
 rcases Nat.eq_zero_or_pos (g3 a b n) with z|z
 .have:=g3_n a b n;rw[z]at this;exact absurd (Int.zero_dvd.mp (by simpa using this)) h
 .exact z
theorem La(a b n:Int):Int.gcd (Int.gcd a b) n=g3 a b n:=by unfold g3;rw[dn,<-Int.gcd_assoc]
theorem GU{b n:Int}(h:n≠0):gd a b n≠0:=by have:=Dr (a:=a) (b:=b) h;unfold gd;split<;>omega
theorem GE(a b n:Int):(gd a b n).natAbs=g3 a b n:=by unfold gd;split<;>simp
theorem Dt{b n:Int}(h:(g3 a b n:Int)∣x):gd a b n∣x:=by
 unfold gd;split
 .exact Int.neg_dvd.mpr h
 .exact h
theorem Hv{k:Nat}{b n:Int}(hn:n≠0)(h:Bd k n):Bd k (gd a b n):=by refine h.of_le ?_;rw[GE];exact iO (by omega) (by have:=cu.mpr (g3_n a b n);simpa using this)
def lA(a b n:Int):Int:=a.fdiv (gd a b n)
def lB(a b n:Int):Int:=b.fdiv (gd a b n)
def lN(a b n:Int):Int:=n.fdiv (gd a b n)
theorem F3{b n:Int}:lA a b n*gd a b n=a:=gx (Dt (g3_a a b n))
theorem GJ{b n:Int}:lB a b n*gd a b n=b:=gx (Dt (g3_b a b n))
theorem lN_mul{b n:Int}:lN a b n*gd a b n=n:=gx (Dt (g3_n a b n))
theorem l_a{b n:Int}:lA a b n*n=a*lN a b n:=by
 have h1:=F3 (a:=a) (b:=b) (n:=n);have h2:=lN_mul (a:=a) (b:=b) (n:=n)
 calc lA a b n*n=lA a b n*(lN a b n*gd a b n):=by rw[h2]
  _=lA a b n*gd a b n*lN a b n:=by rw[ar,av (gd a b n)]
  _=a*lN a b n:=by rw[h1]
theorem l_b{b n:Int}:lB a b n*n=b*lN a b n:=by
 have h1:=GJ (a:=a) (b:=b) (n:=n);have h2:=lN_mul (a:=a) (b:=b) (n:=n)
 calc lB a b n*n=lB a b n*(lN a b n*gd a b n):=by rw[h2]
  _=lB a b n*gd a b n*lN a b n:=by rw[ar,av (gd a b n)]
  _=b*lN a b n:=by rw[h1]
theorem l_n{b n:Int}(h:n≠0):1<=lN a b n:=by
 have h2:=lN_mul (a:=a) (b:=b) (n:=n);have hp:=Dr (a:=a) (b:=b) h;have hs:0<lN a b n:=by
  by_cases c:n<0
  .have e:gd a b n=-(g3 a b n:Int):=iU c;rw[e]at h2;refine fW λz=>?_;have:0<=lN a b n*-(g3 a b n:Int):=dz z (by omega);omega
  .have e:gd a b n=(g3 a b n:Int):=iV c;rw[e]at h2;refine fW λz=>?_;have:lN a b n*(g3 a b n:Int)<=0:=dA z (by omega);omega
 omega
theorem xj{b n:Int}(h:n≠0):g3 (lA a b n) (lB a b n) (lN a b n)=1:=by
 have hp:=Dr (a:=a) (b:=b) h;have e:g3 a b n=g3 (lA a b n) (lB a b n) (lN a b n)*(gd a b n).natAbs:=by
  have h1:=F3 (a:=a) (b:=b) (n:=n);have h2:=GJ (a:=a) (b:=b) (n:=n);have h3:=lN_mul (a:=a) (b:=b) (n:=n);have:g3 (lA a b n*gd a b n) (lB a b n*gd a b n) (lN a b n*gd a b n)=g3 (lA a b n) (lB a b n) (lN a b n)*(gd a b n).natAbs:=by
   unfold g3;rw[Int.gcd_mul_right];have e1:((Int.gcd (lN a b n) (lA a b n)*(gd a b n).natAbs:Nat):Int).gcd (lB a b n*gd a b n)=Int.gcd ((Int.gcd (lN a b n) (lA a b n):Int)*gd a b n) (lB a b n*gd a b n):=by rw[bK,bK];congr 1;rw[cC,cr,cr]
   rw[e1,Int.gcd_mul_right]
  rw[h1,h2,h3]at this;exact this
 rw[GE]at e;have:1*g3 a b n=g3 (lA a b n) (lB a b n) (lN a b n)*g3 a b n:=by omega
 exact(Nat.eq_of_mul_eq_mul_right hp this).symm
end Bg
namespace L2
open PySem PySem.Spec PyProof.Rows Bg
set_option tactic.hygienic true in
theorem Ee{k:Nat}{x:Int}(h:Bd k x):Builtin.Int.intBits x<=k:=by
 unfold Builtin.Int.intBits;split
 .exact cJ _
 .rename_i z;have z':x≠0:=by simpa using z
  exact(iJ (by omega)).mpr h
variable{y:Int}
theorem Bd.ok{j k:Nat}{x:Int}(h:Bd j x)(g:Bd k y)(l:j+k<=134217728):IntMulOk x y:=by
 have h1:=Ee h;have h2:=Ee g;unfold IntMulOk;have:Builtin.Int.intTooBig (Builtin.Int.intBits x+Builtin.Int.intBits y)=false:=by
  unfold Builtin.Int.intTooBig bitsLine;simp only[decide_eq_false_iff_not,gq,gt_iff_lt];have:(2 ^ 27:Nat)=134217728:=by decide
  omega
 rw[this];simp
variable{X:Cx}
theorem zj:OpR X (binaryOp .Mult) (rI IntMulOk λi j=>.int (i*j)):=opI λ_ _ _ _ _ _ _ hc q=>mul_int q hc
abbrev CFd(_ j:Int):Prop:=j≠0/\j.natAbs.log2<9000
abbrev CFp(_ j:Int):Prop:=0<j/\j.natAbs.log2<9000
abbrev CPw(i j:Int):Prop:=0<=j/\(Builtin.Int.intBits i:Int)*j<=2 ^ 27
theorem zM:OpR X (binaryOp .FloorDiv) (rI CFd λi j=>.int (i.fdiv j)):=opI λ_ _ _ _ _ _ _ hc q=>floordiv_int hc.1 q (.inl (gZ hc.2))
theorem zL:OpR X (binaryOp .FloorDiv) (rI CFp λi j=>.int (i / j)):=opI λi j _ _ _ _ _ hc q=>by have h1:(0:Int)<j:=hc.1;exact floordiv_int (by omega) (by rw[d9 i (by omega)];exact q) (.inl (gZ hc.2))
theorem Ep:OpR X (binaryOp .Pow) (rI CPw λi j=>.int (i ^ j.toNat)):=opI λ_ _ _ _ _ _ _ hc q=>pow_int hc.1 hc.2 q
def rIs(K:jj):List V->Hp->VK->Prop:=λxs H Q=>∃x T t b,xs=[x,.ty T]/\TyOf K H x t/\W.kitOne K t (.type T)=some b/\Q (.bl b) H
theorem zY:yZ X (.builtin "isinstance") (rIs X.K):=by
 intro pins s σ H xs us Q I r h;obtain⟨x,T,t,b,rfl,ty,e,q⟩:=h;obtain⟨u,c,rfl,ru,rc⟩:=J8 r;cases (show c=Value.type T from rc)
 exact EK I ru ty e λtk=>⟨.bl b,H,I.tok tk,rfl,q⟩
theorem uZ(K:jj)(T:String):W.kitOne K (.type T) (.type T)=some true:=by unfold W.kitOne;rw[iU];simp
theorem Ac(K:jj):W.kitOne K (.type "int") (.type "bool")=some false:=by unfold W.kitOne;rw[iV (by decide)];show(if W.kitMeta "bool"=true then W.subIn K (.type "int") (.type "bool") else none)=some false;rw[iU (by decide+kernel)];show(fastBuiltinMro "int").map (·.contains (Value.type "bool"))=some false;decide+kernel
section
variable{K:jj}{H:Hp}{Q:VK}
theorem i_is_int{i:Int}(h:Q (.bl true) H):rIs K [.int i,.ty "int"] H Q:=⟨_,_,_,_,rfl,.int i,uZ K _,h⟩
theorem i_is_intb{i:Int}(h:Q (.bl false) H):rIs K [.int i,.ty "bool"] H Q:=⟨_,_,_,_,rfl,.int i,Ac K,h⟩
theorem i_is_tup{a:Addr}{xs:List V}(e:H a=some (.tup xs))(h:Q (.bl true) H):rIs K [.ref a,.ty "tuple"] H Q:=⟨_,_,_,_,rfl,.tup e,uZ K _,h⟩
end
def Own(P:Program)(w:World)(K:jj)(mg:Str->Option Value)(base:Heap)(k:Nat)(x:Str)(ps:List Str)(dvs:List V)(sp:Sp):Prop :=
 ∃ (f:Addr) (fd:FuncData) (ds:List Value),FnOk P w K mg base CX0 k f fd ps sp/\mg x=some (.ref f)/\W.keepIn K (.ref f)=true/\Binds K fd ps ds/\Vals dvs ds
variable{ps:List Str}{dvs:List V}{sp:Sp}{x:Str}{t:TA}
theorem ze{k j:Nat}{p pos:Pos}{e:Expr}{es:List Expr}(O:Own X.prog X.w X.K X.mg X.base k x ps dvs sp)(hr:Room j X.A)(hg:Gl X x)(ha:PA X (e::es) t)(hk:k<=j:=by decide)(hdb:(x==("__debug__":Str))=false:=by decide)(he:starEach (e::es) X.env=(false,eval e X.env)::starEach es X.env:=by rfl)(hpl:(backTo pos (starEach es X.env)).any (·.1)=false:=by rfl):
  PE X (.Call (.Name x p) (e::es) [] pos) (HI sp dvs E0 t):=by
 obtain⟨f,fd,ds,F,hm,kp,hb,hd⟩:=O;exact Ir F (hr.mono hk) hg hm kp hb hd uP ha hdb he hpl
structure FunD(K:jj)(x qual:Str)(st:Stmt)(f:Addr)(fd:FuncData)(its:List Value):Prop where
 ex:∃ (oc:Value) (od:Option Addr) (T:Addr) (kV doc pm:Value) (an:Option Addr) (cdv ct:Value) (osl:Array (Option Value)) (to:Obj) (n:Nat),
  fd=W.fnOf x qual (defArgs st) (defBody st) (defScope st) (.ref T) kV doc pm an cdv ct/\K.lookup f=some ⟨oc,od,.func fd,osl⟩/\W.codeIn K cdv qual=true/\K.lookup T=some to/\to.data=.seq its.toArray n
 kp:W.keepIn K (.ref f)=true
variable{f:Addr}{fd:FuncData}{its:List Value}{qual:Str}
section
variable{P:Program}{w:World}{K:jj}{mg:Str->Option Value}{base:Heap}
theorem FunD.ok{st:Stmt}{N:List Str}{k:Nat}(F:FunD K x qual st f fd its)(S:FnScope N ps (defScope st))(len:∀vs H Q E,sp vs H Q E->vs.length=ps.length)(hbody:∀(cdv:Value)(A:Around)(outer:List Env)(s:Shared)(H:Hp)(vs:List V)(Q:VK)(E:XK),Room k (A.deeper (envOfC qual (defScope st) s.heap.objs.size f cdv))->sp vs H Q E ->
   ∃t,PSs (cxOf CX0 P w K mg base N qual (defScope st) f cdv A outer s H E).nox (defBody st) t/\t { nx:=λ_ H'=>Q .non H',rt:=Q } (start N vs) H):FnOk P w K mg base CX0 (k+1) f fd ps sp:=by
 obtain⟨oc,od,T,kV,doc,pm,an,cdv,ct,osl,to,n,rfl,lk,hcd,_⟩:=F.ex;refine J9 lk hcd S len λA outer s H vs Q E hr hsp=>?_;obtain⟨t,h,q⟩:=hbody cdv A outer s H vs Q E hr hsp;exact⟨t,h.nox,q⟩
end
def Top(K:jj)(mg:Str->Option Value)(x:Str)(st:Stmt):Prop:=∃ (f:Addr) (fd:FuncData),Fun K x x st f fd/\mg x=some (.ref f)
def TopD(K:jj)(mg:Str->Option Value)(x:Str)(st:Stmt)(its:List Value):Prop:=∃ (f:Addr) (fd:FuncData),FunD K x x st f fd its/\mg x=some (.ref f)
variable{osl:Array (Option Value)}{h:Heap}{an od:Option Addr}{mg:Str->Option Value}{cdv ct doc oc pm:Value}
theorem top_mk{K:jj}{st:Stmt}{kV:Value}(X:K.In h)(G:h.Ns mainGlobals mg)(a:W.nsIn K mainGlobals x=some (some (.ref f)))(l:K.lookup f=some ⟨oc,od,.func (W.fnOf x x (defArgs st) (defBody st) (defScope st) .none kV doc pm an cdv ct),osl⟩)(c:W.codeIn K cdv x=true)(k:W.keepIn K (.ref f)=true):Top K mg x st:=⟨f,_,Ge l c k,d8 X G a⟩
theorem topD_mk{K:jj}{st:Stmt}{T:Addr}{kV:Value}{n:Nat}{to:Obj}(X:K.In h)(G:h.Ns mainGlobals mg)(a:W.nsIn K mainGlobals x=some (some (.ref f)))(l:K.lookup f=some ⟨oc,od,.func (W.fnOf x x (defArgs st) (defBody st) (defScope st) (.ref T) kV doc pm an cdv ct),osl⟩)(c:W.codeIn K cdv x=true)(k:W.keepIn K (.ref f)=true)(t:K.lookup T=some to)(d:to.data=.seq its.toArray n):TopD K mg x st its:=⟨f,_,⟨⟨oc,od,T,kV,doc,pm,an,cdv,ct,osl,_,n,rfl,l,c,t,d⟩,k⟩,d8 X G a⟩
theorem Top.own{P:Program}{w:World}{K:jj}{base:Heap}{k:Nat}{st:Stmt}(T:Top K mg x st)(hb:∀(kV doc pm:Value)(an:Option Addr)(cdv ct:Value)(us:List Value),us.length=ps.length->bindArgs (W.fnOf x x (defArgs st) (defBody st) (defScope st) .none kV doc pm an cdv ct) ⟨us,[]⟩=pure (ps.zip us))(h:∀f fd,Fun K x x st f fd->FnOk P w K mg base CX0 k f fd ps sp):Own P w K mg base k x ps [] sp:=by obtain⟨f,fd,F,m⟩:=T;exact⟨f,fd,[],h f fd F,m,F.kp,F.binds hb,.nil⟩
def NewL(xs:List V)(H:Hp)(Q:VK):Prop:=xs.length<=sizeLine/\∀p,H p=none->Q (.ref p) (upd H p (.lst xs))
def NewT(xs:List V)(H:Hp)(Q:VK):Prop:=xs.length<=sizeLine/\∀p,H p=none->Q (.ref p) (upd H p (.tup xs))
def rLen(K:jj):List V->Hp->VK->Prop:=λxs H Q=>∃p ys,xs=[.ref p]/\(SqL K H p ys\/SqT K H p ys)/\Q (.int ys.length) H
def rAbs:List V->Hp->VK->Prop:=λxs H Q=>∃i,xs=[.int i]/\Q (.int (if i<0 then -i else i)) H
theorem zx:yZ X (.builtin "len") (rLen X.K):=tM
theorem wo:yZ X (.builtin "abs") rAbs:=FG
variable{g:Int->Int->V}{ta te:TE}{c:TT}
section
variable{σ:St}{H:Hp}{Q:VK}{B:Bool->Hp->Prop}{D:Ends}{K:jj}
theorem KD{t u:TS}(h:t { D with nx:=u D } σ H):tSeq t u D σ H:=h
theorem i_next(h:D.nx σ H):J5 D σ H:=h
theorem i_asg{g:TG}(h:te σ H λx H1=>g x σ H1 D.nx):tAsg te g D σ H:=h
theorem i_gname{i:Nat}{v:V}{R:St->Hp->Prop}(h:R (σ.set i (some v)) H):Cv i v σ H R:=h
theorem i_ret(h:te σ H D.rt):tRet te D σ H:=h
theorem i_drop(h:te σ H λ_ H1=>D.nx σ H1):Km te D σ H:=h
theorem i_ifS{t u:TS}(h:c σ H λb H1=>if b=true then t D σ H1 else u D σ H1):tIfS c t u D σ H:=h
theorem i_var{i:Nat}{v:V}(e:σ[i]?=some (some v))(h:Q v H):tVar i σ H Q:=⟨v,e,h⟩
theorem i_un{r:V->Hp->VK->Prop}(h:ta σ H λx H1=>r x H1 Q):tUn r ta σ H Q:=h
theorem i_I0{i j:Int}(h:Q (g i j) H):rI0 g (.int i) (.int j) H Q:=⟨i,j,rfl,rfl,h⟩
theorem i_I{C:Int->Int->Prop}{i j:Int}(h:Q (g i j) H)(c:C i j):rI C g (.int i) (.int j) H Q:=⟨i,j,rfl,rfl,c,h⟩
theorem i_U{g:Int->V}{i:Int}(h:Q (g i) H):rU g (.int i) H Q:=⟨i,rfl,h⟩
theorem i_eqI{i j:Int}(h:Q (.bl (decide (i=j))) H):rEq (.int i) (.int j) H Q:=⟨rfl,by
 have e:decide (V.int i=V.int j)=decide (i=j):=by rw[u9];exact iB i j
 rw[e];exact h⟩
theorem i_neI{i j:Int}(h:Q (.bl (!decide (i=j))) H):rNe (.int i) (.int j) H Q:=⟨rfl,by
 have e:decide (V.int i=V.int j)=decide (i=j):=by rw[u9];exact iB i j
 rw[e];exact h⟩
theorem i_test{t:TE}(h:t σ H λx H'=>∃k,x=.bl k/\B k H'):Jc t σ H B:=h
theorem i_tB{t:TE}(h:t σ H λx H'=>∃k,x=.bl k/\B k H'):tB t σ H B:=h
theorem i_bl{k:Bool}{R:Bool->Prop}(h:R k):∃k',V.bl k=.bl k'/\R k':=⟨k,rfl,h⟩
theorem i_and{t u:TT}(h:t σ H λc H1=>if c=true then u σ H1 B else B false H1):tAnd t u σ H B:=h
theorem i_or{t u:TT}(h:t σ H λc H1=>if c=true then B true H1 else u σ H1 B):tOr t u σ H B:=h
theorem i_not{t:TT}(h:t σ H λc H1=>B (!c) H1):tNot t σ H B:=h
theorem i_andV{t u:TE}(h:t σ H λx H1=>∃c,x=.bl c/\if c=true then u σ H1 Q else Q (.bl false) H1):Jh t u σ H Q:=h
theorem i_orV{t u:TE}(h:t σ H λx H1=>∃c,x=.bl c/\if c=true then Q (.bl true) H1 else u σ H1 Q):tOrV t u σ H Q:=h
theorem i_notV{t:TE}(h:t σ H λx H1=>∃c,x=.bl c/\Q (.bl (!c)) H1):Jm t σ H Q:=h
theorem i_ifE{tb:TE}(h:c σ H λb H1=>if b=true then ta σ H1 Q else tb σ H1 Q):tIf c ta tb σ H Q:=h
theorem i_call{E:XK}(h:t σ H λvs H1=>sp (vs++dvs) H1 Q E):HI sp dvs E t σ H Q:=h
theorem i_cb{r:List V->Hp->VK->Prop}(h:t σ H λvs H1=>r vs H1 Q):tCB r t σ H Q:=h
theorem i_tup(h:t σ H λxs H1=>NewT xs H1 Q):tTup t σ H Q:=h
theorem i_lst(h:t σ H λxs H1=>NewL xs H1 Q):tLst t σ H Q:=h
theorem yI{n:Nat}(h:n<=1000):n<=sizeLine:=bU (CT h)
theorem uN{p:Addr}{xs:List V}{i:Int}{v:V}(h:H p=some (.tup xs))(e:atI xs i=some v)(q:Q v H):rIxT K (.ref p) (.int i) H Q:=⟨p,xs,i,v,rfl,rfl,SqT.of h,e,q⟩
theorem xb{p:Addr}{xs:List V}{i:Int}{v:V}(h:H p=some (.lst xs))(e:atI xs i=some v)(q:Q v H):rIxL K (.ref p) (.int i) H Q:=⟨p,xs,i,v,rfl,rfl,SqL.of h,e,q⟩
theorem i_lenT{p:Addr}{xs:List V}(h:H p=some (.tup xs))(q:Q (.int xs.length) H):rLen K [.ref p] H Q:=⟨p,xs,rfl,.inr (SqT.of h),q⟩
theorem i_lenL{p:Addr}{xs:List V}(h:H p=some (.lst xs))(q:Q (.int xs.length) H):rLen K [.ref p] H Q:=⟨p,xs,rfl,.inl (SqL.of h),q⟩
theorem i_abs{i:Int}(q:Q (.int (if i<0 then -i else i)) H):rAbs [.int i] H Q:=⟨i,rfl,q⟩
theorem i_par{i j:Nat}{ta:TA}(h:ta σ H λvs H1=>∃v w,vs=[v,w]/\D.nx ((σ.set i (some v)).set j (some w)) H1):tPar i j ta D σ H:=h
theorem i_par2{v w:V}{R:V->V->Prop}(h:R v w):∃v' w',[v,w]=[v',w']/\R v' w':=⟨v,w,rfl,h⟩
end
theorem if_d{p A B:Prop}[Decidable p](h1:p->A)(h2:¬ p->B):if decide p=true then A else B:=by
 by_cases h:p
 .rw[iU (jg h)];exact h1 h
 .rw[iV (by simp[h])];exact h2 h
theorem AS{p A B:Prop}[Decidable p](h1:¬ p->A)(h2:p->B):if (!decide p)=true then A else B:=by
 by_cases h:p
 .rw[iV (by simp[h])];exact h2 h
 .rw[iU (by simp[h])];exact h1 h
theorem Ct{α:Type}{x y:α}{A B:Prop}[Decidable (x=y)](e:x=y)(h:B):if (!decide (x=y))=true then A else B:=AS (λc=>absurd e c) λ_=>h
theorem if_t{A B:Prop}(h:A):if true=true then A else B:=by rw[iU rfl];exact h
theorem if_f{A B:Prop}(h:B):if false=true then A else B:=by rw[iV aX];exact h
theorem if_nt{A B:Prop}(h:B):if (!true)=true then A else B:=by rw[iV (by decide)];exact h
theorem if_nf{A B:Prop}(h:A):if (!false)=true then A else B:=by rw[iU (by decide)];exact h
theorem zF{H:Hp}{p:Addr}(h:H p=none)(o:HO):Same H (upd H p o):=λb u q=>by rw[zl (zb q h)];exact q
theorem zr(x:Int):Bd (x.natAbs.log2+1) x:=by unfold Bd;exact Nat.lt_log2_self
theorem Ig{j k:Nat}{x:Int}(h:Bd j x)(g:Bd k y):Bd (j+k+1) (x - y):=(h.mono (dP ..)).sub (g.mono (Nat.le_add_left ..))
variable{ds:List Value}
section
variable{P:Program}{w:World}{K:jj}{mg:Str->Option Value}{base:Heap}
theorem FunD.binds{st:Stmt}(F:FunD K x qual st f fd its)(h:∀(T:Addr)(kV doc pm:Value)(an:Option Addr)(cdv ct:Value)(us:List Value),(us++ds).length=ps.length->∃k:Option (Array Value)->Sem (List (Str×Value)),
   bindArgs (W.fnOf x qual (defArgs st) (defBody st) (defScope st) (.ref T) kV doc pm an cdv ct) ⟨us,[]⟩=seqItems? (.ref T) >>= k/\k (some its.toArray)=pure (ps.zip (us++ds))):Binds K fd ps ds:=by
 obtain⟨oc,od,T,kV,doc,pm,an,cdv,ct,osl,to,n,rfl,lk,hcd,lT,hs⟩:=F.ex;intro s us KX hl;obtain⟨k,h1,h2⟩:=h T kV doc pm an cdv ct us hl;exact BindsTo.of_defaults rfl (KX _ _ lT) hs h1 h2
theorem TopD.own{k:Nat}{st:Stmt}(T:TopD K mg x st its)(hb:∀(T:Addr)(kV doc pm:Value)(an:Option Addr)(cdv ct:Value)(us:List Value),(us++ds).length=ps.length->∃k:Option (Array Value)->Sem (List (Str×Value)),
   bindArgs (W.fnOf x x (defArgs st) (defBody st) (defScope st) (.ref T) kV doc pm an cdv ct) ⟨us,[]⟩=seqItems? (.ref T) >>= k/\k (some its.toArray)=pure (ps.zip (us++ds)))(hd:Vals dvs ds)(h:∀f fd,FunD K x x st f fd its->FnOk P w K mg base CX0 k f fd ps sp):Own P w K mg base k x ps dvs sp:=by
 obtain⟨f,fd,F,m⟩:=T;exact⟨f,fd,ds,h f fd F,m,F.kp,F.binds hb,hd⟩
end
end L2
namespace Att
open PySem PySem.W PySem.Calls PyProof.Rows Bg
theorem vA{x:WData}:∀{xs:List WData},x∈xs->WData.weight x<=WData.weightAll xs
 |[],h=>absurd h (by simp)
 |y::ys,h=>by
  simp only[WData.weightAll];rcases aW.mp h with e|e
  .subst e;omega
  .have:=vA e;omega
theorem Ff{ns:List Int}(h:WData.layableAll [WData.list (ns.map WData.int)]=true):∀x∈ns,Bd 1048576 x:=λx hx=>by
 have h1:WData.layable (WData.list (ns.map WData.int))=true:=by simpa [WData.layableAll] using h
 unfold WData.layable at h1;rw[dj]at h1;have h2:WData.weight (WData.list (ns.map WData.int))<=2 ^ 20:=of_decide_eq_true h1.2;simp only[WData.weight]at h2;have h3:WData.weight (WData.int x)<=WData.weightAll (ns.map WData.int):=vA (bV.mpr ⟨x,hx,rfl⟩);simp only[WData.weight]at h3;unfold Bd;by_cases z:x=0
 .subst z;exact Nat.pow_pos (by decide)
 .rw[iV (by simpa using z)]at h3;have e:(2:Nat) ^ 20=1048576:=by decide
  exact(iJ (by omega)).mp (by omega)
theorem attach_callB{l:OpenLaw}{n:Nat}{q:Program}{loose:List Str}{XP:(Str->Option Value)->Heap->Prop}{YP:World->Heap->Prop}{d:DefRec}(hn:l.most=some n)(hdf:d.params.defaults=[])(call:∀(w:World)(s₀ s₁:Shared)(mg mb:Str->Option Value)(fa:Addr)(a:Addr)(vs:List Value)(ns:List Int),
   Ground q loose [] XP w s₀ mg mb s₁.heap->YP w s₁.heap->mg d.name=some (.ref fa) ->
   s₁.heap.get? a=some { cls:=.type "list",data:=.seq vs.toArray }->IntsAre vs ns->ns.length<=n->(∀x∈ns,Bd 1048576 x)->s₁.gens=#[] ->
   codeAny (model l.prog w) callerA (.call (.ref fa) ⟨[.ref a],[]⟩) (λr s'=>r=.ok (.ret (.bool true))/\OldK s₁.heap s'.heap/\s'.os=s₁.os/\AllBare s'.gens) s₁):
  WalkO q loose XP YP l.row.toRowW d [] (λf vs=>PySem.call f vs):=by
 intro w s₀ s₁ mg mb G Y fa o pm cd doc dV kV ho hd hcd hD hmg hg args vals as hpre hlay hrd hwl hlo;obtain⟨a,vs,ns,rfl,rfl,hobj,hints,hlen⟩:=Er hn hpre hwl;refine enter_call (jc (call w s₀ s₁ mg mb fa a vs ns G Y hmg hobj hints hlen (Ff hlay) hg) λr s' hq=>?_);obtain⟨rfl,h2,h3,h4⟩:=hq;exact⟨.inl ⟨.bool true,.bool true,[],rfl,λ_=>rfl,.bool true,DW l _,λ_=>⟨List.Pairwise.nil,λ_ hm=>(nomatch hm)⟩⟩,h2,h3,h4⟩
end Att
namespace L2
open PySem PySem.Spec PyProof.Rows Bg
def ER(K:jj):Sp:=λvs H Q _=>∃ (a:Addr) (ns:List Int),vs=[.ref a]/\SqL K H a (ns.map V.int)/\ns.length<=63/\(∀x∈ns,Bd 1048576 x)/\∀H',Q (.bl true) H'
variable{x:Str}
theorem walk_B{l:PySem.W.OpenLaw}{k:Nat}{q:Program}{loose:List Str}{XP:(Str->Option Value)->Heap->Prop}{YP:World->Heap->Prop}{d:DefRec}{K:Params->jj}(hn:l.most=some 63)(hdf:d.params.defaults=[])(hr:Room k callerA)(hY:∀(w:World)(h:Heap),YP w h->(K w.params).In h)(F:∀(w:World)(mg:Str->Option Value)(fa:Addr)(h:Heap),(K w.params).In h->h.Ns mainGlobals mg->mg d.name=some (.ref fa) ->
   ∃fd:FuncData,(∀(s:Shared)(u:Value),BindsTo s fd ⟨[u],[]⟩ [(x,u)]) /\
    ∀base:Heap,(K w.params).In base->base.Ns mainGlobals mg->FnOk l.prog w (K w.params) mg base CX0 k fa fd [x] (ER (K w.params))):
  PySem.W.WalkO q loose XP YP l.row.toRowW d [] (λf vs=>PySem.call f vs):=by
 refine Att.attach_callB hn hdf λw s₀ s₁ mg mb fa a vs ns G Y hmg hobj hints hlen hbd hg=>?_;have KX:=hY w _ Y;obtain⟨fd,hb,hF⟩:=F w mg fa _ KX G.T.g hmg;exact Fc KX G.T.g G.T.b G.T.builtins G.T.nolimit hg hobj hints (cf hlen (by decide)) hr hF hb (λH hO hS=>⟨a,ns,rfl,hS,hlen,hbd,λ_=>rfl⟩) λH e s' z=>z
theorem law_mk{P:Program}{w:World}{K:jj}{mg:Str->Option Value}{fa:Addr}{k:Nat}{st:Stmt}(T:Top K mg "law" st)(hfa:mg "law"=some (.ref fa))(hb:∀(kV doc pm:Value)(an:Option Addr)(cdv ct:Value)(v:Value),bindArgs (W.fnOf "law" "law" (defArgs st) (defBody st) (defScope st) .none kV doc pm an cdv ct) ⟨[v],[]⟩=pure [(x,v)])(h:∀base f fd,Fun K "law" "law" st f fd->FnOk P w K mg base CX0 k f fd [x] (ER K)): ∃fd:FuncData,(∀(s:Shared)(u:Value),BindsTo s fd ⟨[u],[]⟩ [(x,u)])/\∀base:Heap,K.In base->base.Ns mainGlobals mg->FnOk P w K mg base CX0 k fa fd [x] (ER K):=by
 obtain⟨f,fd,F,m⟩:=T;have e:=hfa.symm.trans m;cases e
 obtain⟨oc,od,kV,doc,pm,an,cdv,ct,osl,e1,lk,hcd⟩:=id F.ex;refine⟨fd,λs u=>?_,λbase _ _=>h base _ _ F⟩;rw[e1];exact .of_eq (hb kV doc pm an cdv ct u)
end L2
namespace Bg
def fg(t b:Int):Int:=if b<0 then -((Int.gcd t b:Nat):Int) else ((Int.gcd t b:Nat):Int)
def fT(t b:Int):Int:=t.fdiv (fg t b)
def fB(t b:Int):Int:=b.fdiv (fg t b)
theorem Fd(t b:Int):fg t b=gd t t b:=by
 have e:g3 t t b=Int.gcd t b:=by unfold g3;rw[dn b t];have h:((Int.gcd t b:Nat):Int)∣t:=b7 ..;rw[dn];have:=Int.gcd_eq_right_iff_dvd (a:=t) (b:=((Int.gcd t b:Nat):Int));rw[bK];rw[Nat.gcd_eq_right (cu.mpr h)];simp
 unfold fg gd;rw[e]
theorem Jk(t b:Int):fT t b=lA t t b:=by unfold fT lA;rw[Fd]
theorem HR(t b:Int):fB t b=lN t t b:=by unfold fB lN;rw[Fd]
variable{t:Int}
theorem f_b{b:Int}(h:b≠0):1<=fB t b:=by rw[HR];exact l_n h
theorem f_t{b:Int}:fT t b*b=t*fB t b:=by rw[Jk,HR];exact l_a
theorem KW{b:Int}(h:b≠0):Int.gcd (fT t b) (fB t b)=1:=by have:=xj (a:=t) (b:=t) (n:=b) h;rw[Jk,HR];unfold g3 at this;have e:lB t t b=lA t t b:=rfl;rw[e]at this;have d:((Int.gcd (lN t t b) (lA t t b):Nat):Int)∣lA t t b:=ce ..;rw[bK,Nat.gcd_eq_left (cu.mpr d),cr]at this;rw[dn];exact this
theorem Lq{b:Int}(h:b≠0):fg t b≠0:=by rw[Fd];exact GU h
theorem Lf{k:Nat}{b:Int}(h:b≠0)(hb:Bd k b):Bd k (fg t b):=by rw[Fd];exact Hv h hb
theorem Gi(c x y z:Int):g3 (c*x) (c*y) (c*z)=c.natAbs*g3 x y z:=by
 unfold g3;rw[gf];have e1:((c.natAbs*Int.gcd z x:Nat):Int).gcd (c*y)=Int.gcd (c*(Int.gcd z x:Nat)) (c*y):=by rw[bK,bK];congr 1;rw[cC,cr,cr]
 rw[e1,gf]
variable{x y z:Int}
theorem BM{d:Int}(hx:d∣x)(hy:d∣y)(hz:d∣z):d∣(g3 x y z:Int):=eZ (eZ hz hx) hy
variable{x' y' z':Int}
theorem Az(hg:g3 x y z=1)(hx:x*z'=x'*z)(hy:y*z'=y'*z):z∣z':=by
 have h1:z∣z'*x:=⟨x',by rw[av z',hx,av]⟩
 have h2:z∣z'*y:=⟨y',by rw[av z',hy,av]⟩
 have h3:z∣z'*z:=⟨z',by rw[av]⟩
 have h:=BM h1 h2 h3;rw[Gi,hg,h7]at h;exact Int.dvd_natAbs.mp h
theorem GG(h1:1<=z)(h2:1<=z')(g1:g3 x y z=1)(g2:g3 x' y' z'=1)(hx:x*z'=x'*z)(hy:y*z'=y'*z):x=x'/\y=y'/\z=z':=by
 have d1:z∣z':=Az g1 hx hy;have d2:z'∣z:=Az g2 hx.symm hy.symm;have e:z=z':=by have a1:=iP (by omega) d1;have a2:=iP (by omega) d2;omega
 subst e;exact⟨aK (by omega) hx,aK (by omega) hy,rfl⟩
theorem yh{a b n:Int}(h1:1<=z)(g1:g3 x y z=1)(hn:n≠0)(hx:x*n=a*z)(hy:y*n=b*z):x=lA a b n/\y=lB a b n/\z=lN a b n:=by
 refine GG h1 (l_n hn) g1 (xj hn) ?_ ?_
 .have e:=l_a (a:=a) (b:=b) (n:=n);refine aK hn ?_
  calc x*lN a b n*n=x*n*lN a b n:=by rw[ar,av (lN a b n),ar]
   _=a*z*lN a b n:=by rw[hx]
   _=a*lN a b n*z:=by rw[ar,av z,ar]
   _=lA a b n*n*z:=by rw[e]
   _=lA a b n*z*n:=by rw[ar,av n,ar]
 .have e:=l_b (a:=a) (b:=b) (n:=n);refine aK hn ?_
  calc y*lN a b n*n=y*n*lN a b n:=by rw[ar,av (lN a b n),ar]
   _=b*z*lN a b n:=by rw[hy]
   _=b*lN a b n*z:=by rw[ar,av z,ar]
   _=lB a b n*n*z:=by rw[e]
   _=lB a b n*z*n:=by rw[ar,av n,ar]
theorem Ic(h1:1<=z)(h2:1<=z')(g1:Int.gcd x z=1)(g2:Int.gcd x' z'=1)(hx:x*z'=x'*z):x=x'/\z=z':=by
 have k:∀{a b:Int},Int.gcd a b=1->g3 a a b=1:=λ{a b} h=>by unfold g3;rw[dn b a,h];simp
 have:=GG h1 h2 (k g1) (k g2) hx hx;exact⟨this.1,this.2.2⟩
theorem Df{k:Nat}(h:Bd k x):Bd k (x / y):=h.of_le (Int.natAbs_ediv_le_natAbs x y)
theorem CL{k:Nat}(h:Bd k y)(hy:0<y):Bd k (x % y):=h.emod (by omega) x
theorem zE{k:Nat}{B:Int}(h0:0<=x)(h1:x<=B)(hB:B.natAbs<2 ^ k):Bd k x:=by unfold Bd;omega
theorem FR(a b:Int):Int.gcd (if a<0 then -a else a) (if b<0 then -b else b)=Int.gcd a b:=by
 have e:∀x:Int,(if x<0 then -x else x)=(x.natAbs:Int):=λx=>by split<;>omega
 rw[e,e,bK,bK,cr,cr]
end Bg
namespace L2
open PySem PySem.Spec PyProof.Rows Bg
variable{a l:Addr}{X:Cx}{g:TG}{t:TS}
section
variable{σ:St}{H:Hp}{Q:VK}{D:Ends}{K:jj}
def tCut(t:TS):TS:=λD σ H=>∃T:St->Hp->Prop,(∀σ' H',T σ' H'->D.nx σ' H')/\t { D with nx:=T } σ H
theorem BU{st:Stmt}(h:PS X st t):PS X st (tCut t):=by
 intro pins s σ H D I hw;obtain⟨T,hT,hw⟩:=hw;refine thn (h pins s σ H _ I hw) λf s' q=>?_;cases f with
 |next=>obtain⟨σ',H',I',q⟩:=q;exact⟨σ',H',I',hT _ _ q⟩
 |brk=>exact q
 |cont=>exact q
 |ret v=>exact q
theorem FJ{T:St->Hp->Prop}(h:t { D with nx:=T } σ H)(hT:∀σ' H',T σ' H'->D.nx σ' H'):tCut t D σ H:=⟨T,hT,h⟩
theorem zt{xs:List V}(hl:xs.length<=1000)(h:∀p H2,Same H H2->H2 p=some (.tup xs)->Q (.ref p) H2):NewT xs H Q :=
 ⟨yI hl,λp hp=>h p _ (zF hp _) zg⟩
theorem Ku{xs:List V}(hl:xs.length<=1000)(h:∀p H2,Same H H2->H2 p=some (.lst xs)->Q (.ref p) H2):NewL xs H Q :=
 ⟨yI hl,λp hp=>h p _ (zF hp _) zg⟩
theorem zB{xs:List V}(hl:xs.length<=1000)(h:∀p H2,H p=none->Same H H2->H2 p=some (.lst xs)->Q (.ref p) H2):NewL xs H Q :=
 ⟨yI hl,λp hp=>h p _ hp (zF hp _) zg⟩
theorem IZ{b:Addr}{xs zs:List V}(h1:H l=some (.lst xs))(h2:H b=some (.lst zs))(hz:xs.length+zs.length<=1000)(h:∀p H2,Same H H2->H2 p=some (.lst (xs++zs))->Q (.ref p) H2):rCat (.ref l) (.ref b) H Q :=
 ⟨l,b,xs,zs,rfl,rfl,h1,h2,yI hz,λp hp=>h p _ (zF hp _) zg⟩
theorem ES(ns:List Int)(lo hi:Option Int):∃ms:List Int,cutV (ns.map V.int) lo hi=ms.map V.int/\(∀x∈ms,x∈ns)/\ms.length<=ns.length:=by
 refine⟨(ns.drop (HT.sIx (ns.map V.int).length 0 lo)).take (HT.sIx (ns.map V.int).length (ns.map V.int).length hi - HT.sIx (ns.map V.int).length 0 lo),?_,λx hx=>dH (bW hx),?_⟩
 .unfold cutV;rw[h8,h9]
 .rw[aU,dO];omega
theorem Lc{ns:List Int}{lo hi:Option Int}(hS:SqL K H a (ns.map V.int))(h:∀(p:Addr)(H2:Hp)(ms:List Int),(∀x∈ms,x∈ns)->ms.length<=ns.length->Same H H2->H2 p=some (.lst (ms.map V.int))->Q (.ref p) H2):rSlL K (.ref a) lo hi H Q:=by obtain⟨ms,e,h1,h2⟩:=ES ns lo hi;refine⟨a,_,rfl,hS,λp hp=>?_⟩;rw[e];exact h p _ ms h1 h2 (zF hp _) zg
theorem i_sl{r:V->Option Int->Option Int->Hp->VK->Prop}{te:TE}{tl th:TO}(h:te σ H λx H1=>tl σ H1 λl H2=>th σ H2 λu H3=>r x l u H3 Q):tSl r te tl th σ H Q:=h
theorem i_noPart{R:Option Int->Hp->Prop}(h:R none H):DM σ H R:=h
theorem i_part{t:TE}{R:Option Int->Hp->Prop}(h:t σ H λx H1=>∃i,x=.int i/\R (some i) H1):Jy t σ H R:=h
theorem i_int{k:Int}{R:Int->Prop}(h:R k):∃k',V.int k=.int k'/\R k':=⟨k,rfl,h⟩
theorem yX{tl:TE}{tb:TS}(h:tl σ H λx H1=>∃a,x=.ref a/\(∃xs,SqL K H1 a xs)/\∃W:Nat->Nat->St->Hp->Prop,(∃m,W 0 m σ H1)/\∀i m σ H,W i m σ H ->
 ((Itl K a).stop i H/\D.nx σ H)\/((Itl K a).go i H/\∃N:St->Hp->Prop,(∀σ' H',N σ' H'->∃m',m'<m/\W (i+1) m' σ' H')/\∀x H',(Itl K a).yld i H x H'->g x σ H' λσ2 H2=>tb { D with nx:=N,ct:=N,bk:=D.nx } σ2 H2)):
 tFor (GZ K tl) g tb D σ H:=h
end
def EqV(X:Cx)(n:Nat)(H:Hp)(x y:V)(b:Bool):Prop :=
 ∀(pins:List (Addr×Obj))(σ:St)(s:Shared)(v u:Value)(A:Around),Inv X pins σ H s->RelV x v->RelV y u->A.units+4*n<cLine->SeqAt.EqAt A s v u b
theorem EqV.int{X:Cx}{n:Nat}{H:Hp}(i j:Int):EqV X n H (.int i) (.int j) (i==j):=λ_ _ s v u A _ rv ru _=>by obtain⟨t,rfl⟩:=rv;obtain⟨t',rfl⟩:=ru;exact SeqAt.EqAt.int_int i t j t'
inductive EqVs(X:Cx)(n:Nat)(H:Hp):List V->List V->List Bool->Prop
 |nil:EqVs X n H [] [] []
 |cons {x y:V} {b:Bool} {xs ys:List V} {bs:List Bool}:EqV X n H x y b->EqVs X n H xs ys bs->EqVs X n H (x::xs) (y::ys) (b::bs)
theorem EqVs.at{X:Cx}{n:Nat}{H:Hp}:∀{xs ys:List V}{bs:List Bool},EqVs X n H xs ys bs->∀{j:Nat}{x y:V},xs[j]?=some x->ys[j]?=some y->EqV X n H x y (bs.getD j false)
 |_,_,_,.nil,j,x,y,h,_=>by simp at h
 |_,_,_,.cons e _,0,x,y,h1,h2=>by simp at h1 h2;subst h1;subst h2;exact e
 |_,_,_,.cons _ r,j+1,x,y,h1,h2=>by have:=EqVs.at r (j:=j) (x:=x) (y:=y) (by simpa using h1) (by simpa using h2);simpa using this
theorem EqVs.len{X:Cx}{n:Nat}{H:Hp}:∀{xs ys:List V}{bs:List Bool},EqVs X n H xs ys bs->xs.length=bs.length/\ys.length=bs.length
 |_,_,_,.nil=>⟨rfl,rfl⟩
 |_,_,_,.cons _ r=>by have:=r.len;simp only[au];omega
theorem BC(bs:List Bool):((List.range bs.length).all λj=>bs.getD j false)=bs.all id:=by
 rw[cP];simp only[eK,ca,id];constructor
 .intro h b hb;obtain⟨j,hj,e⟩:=List.mem_iff_getElem.mp hb;have:=h j hj;rw[dB,ag hj]at this;rw[<-e];exact this
 .intro h j hj;rw[dB,ag hj];exact h _ (db hj)
variable{H:Hp}
theorem GC{n:Nat}{b:Addr}{xs ys:List V}{bs:List Bool}{pins:List (Addr×Obj)}{σ:St}{s:Shared}{A:Around}(ha:SqT X.K H a xs)(hb:SqT X.K H b ys)(he:EqVs X n H xs ys bs)(I:Inv X pins σ H s)(hu:A.units+4*(n+1)<cLine): ∃ (is js:Array Value),s.heap.IsTuple a is/\s.heap.IsTuple b js/\(∀j (h1:j<is.size) (h2:j<js.size),SeqAt.EqAt A.in1 s is[j] js[j] (bs.getD j false))/\((List.range (min is.size js.size)).all (λj=>bs.getD j false) && is.size==js.size)=bs.all id:=by
 obtain⟨is,r1,p1,_⟩:=I.tuple ha;obtain⟨js,r2,p2,_⟩:=I.tuple hb;obtain⟨l1,l2⟩:=he.len;have q1:=r1.length;have q2:=r2.length;refine⟨is.toArray,js.toArray,(show s.heap.IsTuple a is.toArray from p1),(show s.heap.IsTuple b js.toArray from p2),λj h1 h2=>?_,?_⟩
 .have hj1:j<xs.length:=by rw[q1];simpa using h1
  have hj2:j<ys.length:=by rw[q2];simpa using h2
  obtain⟨v,ev,rv⟩:=r1.get (ag hj1);obtain⟨u,eu,ru⟩:=r2.get (ag hj2);have e1:is.toArray[j]=v:=by have:is[j]?=some v:=ev;rw[ag (by simpa using h1)]at this;simpa using aJ this
  have e2:js.toArray[j]=u:=by have:js[j]?=some u:=eu;rw[ag (by simpa using h2)]at this;simpa using aJ this
  rw[e1,e2];exact he.at (ag hj1) (ag hj2) pins σ s v u A.in1 I rv ru (by show A.units+1+4*n<cLine;omega)
 .have e1:is.toArray.size=bs.length:=by rw[aZ];omega
  have e2:js.toArray.size=bs.length:=by rw[aZ];omega
  rw[e1,e2,Nat.min_self,BC];simp
def rEqT(X:Cx):R2:=λx y H Q=>∃a b xs ys bs n,x=.ref a/\y=.ref b/\n<=9/\SqT X.K H a xs/\SqT X.K H b ys/\EqVs X n H xs ys bs/\Q (.bl (bs.all id)) H
def rNeT(X:Cx):R2:=λx y H Q=>∃a b xs ys bs n,x=.ref a/\y=.ref b/\n<=9/\SqT X.K H a xs/\SqT X.K H b ys/\EqVs X n H xs ys bs/\Q (.bl (!(bs.all id))) H
theorem GM(hu:X.A.units+64<cLine):OpR X (compareOp .Eq) (rEqT X):=by
 intro pins s σ H x y v u Q I rx ry h;obtain⟨a,b,xs,ys,bs,n,rfl,rfl,hn,ha,hb,he,q⟩:=h;cases rx
 cases ry
 obtain⟨is,js,p1,p2,hj,e⟩:=GC (A:=X.A) ha hb he I (by omega);refine SeqAt.eq_tupleAt p1 p2 (by omega) hj ?_;rw[e];exact⟨.bl _,H,I,rfl,q⟩
theorem GR(hu:X.A.units+64<cLine):OpR X (compareOp .NotEq) (rNeT X):=by
 intro pins s σ H x y v u Q I rx ry h;obtain⟨a,b,xs,ys,bs,n,rfl,rfl,hn,ha,hb,he,q⟩:=h;cases rx
 cases ry
 obtain⟨is,js,p1,p2,hj,e⟩:=GC (A:=X.A) ha hb he I (by omega);refine SeqAt.RcNeAt.tuples p1 p2 (by omega) hj X.prog X.w X.xe _ ?_;rw[e];exact⟨.bl _,H,I,rfl,q⟩
variable{x x' y y' z z':Int}
theorem Lv{Q:VK}{b:Addr}(ha:H a=some (.tup [.int x,.int y,.int z]))(hb:H b=some (.tup [.int x',.int y',.int z']))(q:Q (.bl (decide (x=x'/\y=y'/\z=z'))) H):rEqT X (.ref a) (.ref b) H Q:=by
 refine⟨a,b,_,_,_,0,rfl,rfl,cJ _,SqT.of ha,SqT.of hb,.cons (.int x x') (.cons (.int y y') (.cons (.int z z') .nil)),?_⟩;have e:([x==x',y==y',z==z']:List Bool).all id=decide (x=x'/\y=y'/\z=z'):=by rw[cP];simp
 rw[e];exact q
theorem Le{Q:VK}{b:Addr}(ha:H a=some (.tup [.int x,.int y,.int z]))(hb:H b=some (.tup [.int x',.int y',.int z']))(q:Q (.bl (!decide (x=x'/\y=y'/\z=z'))) H):rNeT X (.ref a) (.ref b) H Q:=by
 refine⟨a,b,_,_,_,0,rfl,rfl,cJ _,SqT.of ha,SqT.of hb,.cons (.int x x') (.cons (.int y y') (.cons (.int z z') .nil)),?_⟩;have e:([x==x',y==y',z==z']:List Bool).all id=decide (x=x'/\y=y'/\z=z'):=by rw[cP];simp
 rw[e];exact q
theorem KP{Q:VK}{b:Addr}(ha:H a=some (.tup [.int x,.int z]))(hb:H b=some (.tup [.int x',.int z']))(q:Q (.bl (!decide (x=x'/\z=z'))) H):rNeT X (.ref a) (.ref b) H Q:=by
 refine⟨a,b,_,_,_,0,rfl,rfl,cJ _,SqT.of ha,SqT.of hb,.cons (.int x x') (.cons (.int z z') .nil),?_⟩;have e:([x==x',z==z']:List Bool).all id=decide (x=x'/\z=z'):=by rw[cP];simp
 rw[e];exact q
def SameX(l:Addr)(H H':Hp):Prop:=∀b o,H b=some o->b≠l->H' b=some o
theorem Same.sameX{H':Hp}(s:Same H H')(l:Addr):SameX l H H':=λb o e _=>s b o e
theorem SameX.trans{H1 H2:Hp}(a:SameX l H H1)(b:SameX l H1 H2):SameX l H H2:=λc o e n=>b c o (a c o e n) n
theorem SameX.tup{l p:Addr}{H H':Hp}{xs ys:List V}(s:SameX l H H')(h:H p=some (.tup xs))(hl:H l=some (.lst ys)):H' p=some (.tup xs):=s _ _ h (zX h hl (λz=>nomatch z))
section
variable{σ:St}{H:Hp}{Q:VK}{D:Ends}{K:jj}
theorem zq{xs:List V}{y:V}(h:H l=some (.lst xs))(hz:xs.length<1000)(q:∀H2,SameX l H H2->H2 l=some (.lst (xs++[y]))->Q .non H2):z7 (.ref l) [y] H Q :=
 ⟨l,xs,y,rfl,rfl,h,aQ hz (yI (ak _)),q _ (λb o e n=>by rw[zl n];exact e) zg⟩
theorem i_bm{T:String}{r:V->List V->Hp->VK->Prop}{to:TE}{t:TA}(h:to σ H λx H1=>tyV K T x H1/\t σ H1 λxs H2=>r x xs H2 Q):tBM K T r to t σ H Q:=h
theorem i_tyL{xs:List V}{R:Prop}(h:H l=some (.lst xs))(q:R):tyV K "list" (.ref l) H/\R:=⟨.inl ⟨rfl,_,SqL.of h⟩,q⟩
theorem uO{ta:TA}{tb:TS}(h:ta σ H λvs H1=>∃j:Int,vs=[.int j]/\-(2 ^ 62)<=j/\j<2 ^ 62/\∃W:Nat->Nat->St->Hp->Prop,(∃m,W 0 m σ H1)/\∀i m σ H,W i m σ H ->
 ((Itr 0 j.toNat).stop i H/\D.nx σ H)\/((Itr 0 j.toNat).go i H/\∃N:St->Hp->Prop,(∀σ' H',N σ' H'->∃m',m'<m/\W (i+1) m' σ' H')/\∀x H',(Itr 0 j.toNat).yld i H x H'->g x σ H' λσ2 H2=>tb { D with nx:=N,ct:=N,bk:=D.nx } σ2 H2)):
 tFor (Hj ta) g tb D σ H:=h
end
end L2
namespace Bg
local macro_rules | `(!4)=>`(by omega)
structure Rt(d:Int):Prop where
 lo:2<=d
 hi:d<=99
 ns:∀k:Nat,((k*k:Nat):Int)≠d
variable{d:Int}
theorem Lh(h:2<=d/\d<=99)(n:d≠4/\d≠9/\d≠16/\d≠25/\d≠36/\d≠49/\d≠64/\d≠81):Rt d:=by
 refine⟨h.1,h.2,λk e=>?_⟩;have hk:k<10:=by refine Nat.lt_of_not_le λz=>?_;have:10*10<=k*k:=Nat.mul_le_mul z z;omega
 have:k=0\/k=1\/k=2\/k=3\/k=4\/k=5\/k=6\/k=7\/k=8\/k=9:=by omega
 rcases this with q|q|q|q|q|q|q|q|q|q<;>subst q<;>omega
theorem irrN{D A B:Nat}(ns:∀k:Nat,k*k≠D)(e:A*A=D*B*B):B=0:=by
 rcases Nat.eq_zero_or_pos B with z|hB
 .exact z
 exfalso;have hg:0<Nat.gcd A B:=Nat.gcd_pos_of_pos_right A hB;have hc:=Nat.coprime_div_gcd_div_gcd hg;obtain⟨a,ha⟩:=Nat.gcd_dvd_left A B;obtain⟨b,hb⟩:=Nat.gcd_dvd_right A B;have ea:A / Nat.gcd A B=a:=by rw[gy hg (Nat.gcd_dvd_left A B)];exact ha
 have eb:B / Nat.gcd A B=b:=by rw[gy hg (Nat.gcd_dvd_right A B)];exact hb
 rw[ea,eb]at hc;generalize Nat.gcd A B=g at*
 have e2:a*a=D*b*b:=by
  have h1:g*g*(a*a)=g*g*(D*b*b):=by
   rw[ha,hb]at e
   calc g*g*(a*a)=g*a*(g*a):=by simp only[iQ,Nat.mul_left_comm]
    _=D*(g*b)*(g*b):=e
    _=g*g*(D*b*b):=by simp only[iQ,Nat.mul_left_comm]
  exact em (Nat.mul_pos hg hg) h1
 have d1:b∣a*a:=⟨D*b,by rw[e2,Nat.mul_comm b]⟩
 have d2:b∣a:=hc.symm.dvd_of_dvd_mul_left d1;have d3:b=1:=by have:b∣Nat.gcd a b:=Nat.dvd_gcd d2 (Nat.dvd_refl b);rw[show Nat.gcd a b=1 from hc]at this;exact Nat.dvd_one.mp this
 rw[d3,h7,h7]at e2;exact ns a e2
variable{a:Int}
theorem irr{b:Int}(h:Rt d)(e:a*a=d*b*b):b=0:=by
 have hd:(d.toNat:Int)=d:=Int.toNat_of_nonneg (by have:=h.lo;omega);have:=irrN (D:=d.toNat) (A:=a.natAbs) (B:=b.natAbs) (λk q=>h.ns k (by rw[q];exact hd)) (by
  have h1:((a.natAbs*a.natAbs:Nat):Int)=((d.toNat*b.natAbs*b.natAbs:Nat):Int):=by have ea:((a.natAbs*a.natAbs:Nat):Int)=a*a:=Int.natAbs_mul_self;have eb:((b.natAbs*b.natAbs:Nat):Int)=b*b:=Int.natAbs_mul_self;rw[ea,iQ,Int.natCast_mul,eb,hd,<-ar];exact e
  exact fh h1)
 omega
def sgn(d a b:Int):Int:=if 0<=a/\0<=b then (if 0<a+b then 1 else 0) else if a<=0/\b<=0 then -1 else if 0<a then (if d*b*b<a*a then 1 else -1) else (if a*a<d*b*b then 1 else -1)
theorem CQ{b:Int}(h:b≠0):0<b*b:=by
 rcases Int.lt_or_gt_of_ne h with q|q
 .exact eI q q
 .exact aM q q
theorem Im{b:Int}(h:2<=d)(hb:b≠0):0<d*b*b:=by rw[ar];exact aM (!4) (CQ hb)
def nrm(d a b:Int):Int:=a*a - d*b*b
theorem wY{b:Int}(h:Rt d)(e:nrm d a b=0):a=0/\b=0:=by
 unfold nrm at e;have hb:=irr (a:=a) (b:=b) h (!4);subst hb;rw[cK]at e;refine⟨?_,rfl⟩;rcases Int.lt_trichotomy a 0 with q|q|q
 .have:=eI q q;omega
 .exact q
 .have:=aM q q;omega
def sg(x:Int):Int:=if 0<x then 1 else if x<0 then -1 else 0
theorem yM{b:Int}(h:Rt d)(n:0<nrm d a b):sgn d a b=sg a:=by
 unfold nrm at n;have ha:a≠0:=λz=>by
  subst z;by_cases hb:b=0
  .subst hb;simp at n
  .have:=Im h.lo hb;omega
 unfold sgn sg
 repeat' split
 all_goals omega
theorem yt{b:Int}(h:Rt d)(n:nrm d a b<0):sgn d a b=sg b:=by
 unfold nrm at n;have hb:b≠0:=λz=>by
  subst z;rw[cK]at n;by_cases ha:a=0
  .subst ha;simp at n
  .have:=CQ ha;omega
 unfold sgn sg
 repeat' split
 all_goals omega
theorem zO(d:Int):sgn d 0 0=0:=by simp[sgn]
theorem nrm_tri{b:Int}(h:Rt d):(0<nrm d a b)\/(nrm d a b<0)\/(a=0/\b=0):=by
 rcases Int.lt_trichotomy (nrm d a b) 0 with q|q|q
 .exact .inr (.inl q)
 .exact .inr (.inr (wY h q))
 .exact .inl q
theorem sg_neg(x:Int):sg (-x)=- sg x:=by unfold sg;repeat' split<;>omega
theorem Ex(d a b:Int):nrm d (-a) (-b)=nrm d a b:=by unfold nrm;rw[cR,ar,cR,<-ar]
theorem xT(h:Rt d)(a b:Int):sgn d (-a) (-b)=- sgn d a b:=by
 rcases nrm_tri (a:=a) (b:=b) h with q|q|⟨rfl,rfl⟩
 .rw[yM h q,yM h (by rw[Ex];exact q),sg_neg]
 .rw[yt h q,yt h (by rw[Ex];exact q),sg_neg]
 .rfl
theorem sg_cases(x:Int):(0<x/\sg x=1)\/(x<0/\sg x=-1)\/(x=0/\sg x=0):=by unfold sg;repeat' split<;>omega
theorem uf{k:Int}(hk:0<k)(x:Int):sg (k*x)=sg x:=by
 rcases sg_cases x with⟨q,e⟩|⟨q,e⟩|⟨q,e⟩
 .have:=aM hk q;rw[e];unfold sg;rw[iU this]
 .have:=dF hk q;rw[e];unfold sg;rw[iV (!4),iU this]
 .subst q;simp
theorem EO(d k a b:Int):nrm d (k*a) (k*b)=k*k*nrm d a b:=by
 unfold nrm;rw[fG];congr 1
 .simp only[ar,bO]
 .simp only[ar,bO,av d]
theorem yE{k:Int}(h:Rt d)(hk:0<k)(a b:Int):sgn d (k*a) (k*b)=sgn d a b:=by
 have kk:0<k*k:=aM hk hk;rcases nrm_tri (a:=a) (b:=b) h with q|q|⟨rfl,rfl⟩
 .rw[yM h q,yM h (by rw[EO];exact aM kk q),uf hk]
 .rw[yt h q,yt h (by rw[EO];exact dF kk q),uf hk]
 .simp
variable{a' b':Int}
theorem xz{k m b:Int}(h:Rt d)(hk:0<k)(hm:0<m)(ea:k*a=m*a')(eb:k*b=m*b'):sgn d a b=sgn d a' b':=by rw[<-yE h hk a b,<-yE h hm a' b',ea,eb]
theorem FN(d a b a' b':Int):nrm d (a*a'+d*b*b') (a*b'+b*a')=nrm d a b*nrm d a' b':=by
 unfold nrm;simp only[iK,iL,fG,hW];have e1:a*a'*(a*a')=a*a*(a'*a'):=by simp only[ar,bO]
 have e2:d*b*b'*(d*b*b')=d*b*b*(d*b'*b'):=by simp only[ar,bO]
 have e3:d*(a*b')*(a*b')=a*a*(d*b'*b'):=by simp only[ar,bO]
 have e4:d*(b*a')*(b*a')=d*b*b*(a'*a'):=by simp only[ar,bO,av]
 have e5:d*b*b'*(a*a')=d*(b*a')*(a*b'):=by simp only[ar,bO,av]
 have e6:a*a'*(d*b*b')=d*(a*b')*(b*a'):=by simp only[ar,bO,av]
 omega
theorem wl{x y:Int}(hx:0<x)(h:y*y<x*x):-x<y/\y<x:=by
 constructor
 .refine fW λz=>?_;have:x*x<=(-y)*(-y):=dq (!4) (!4) (!4) (!4);rw[cR]at this;omega
 .refine fW λz=>?_;have:x*x<=y*y:=dq z z (!4) (!4);omega
variable{r:Int}
theorem y6{p q s:Int}(h1:p<q)(h2:r<s)(hp:0<=p)(hr:0<=r):p*r<q*s:=by have a1:p*r<=p*s:=dk (!4) hp;have a2:p*s<q*s:=Int.mul_lt_mul_of_pos_right h1 (!4);omega
theorem AB(x:Int):0<=x*x:=by
 by_cases h:x=0
 .subst h;simp
 .exact Int.le_of_lt (CQ h)
theorem ug(h:2<=d)(x:Int):0<=d*x*x:=by rw[ar];exact fJ (!4) (AB x)
theorem Aq{b:Int}(h:Rt d)(h1:sgn d a b=1)(h2:sgn d a' b'=1):sgn d (a*a'+d*b*b') (a*b'+b*a')=1:=by
 have hd:=h.lo;have np:=FN d a b a' b';rcases nrm_tri (a:=a) (b:=b) h with q|q|⟨rfl,rfl⟩
 .have sa:0<a:=by rw[yM h q]at h1;unfold sg at h1;split at h1<;>omega
  rcases nrm_tri (a:=a') (b:=b') h with q' | q' | ⟨rfl,rfl⟩
  .have sa':0<a':=by rw[yM h q']at h2;unfold sg at h2;split at h2<;>omega
   have n:0<nrm d (a*a'+d*b*b') (a*b'+b*a'):=by rw[np];exact aM q q'
   rw[yM h n];unfold nrm at q q';have k:=y6 (p:=d*b*b) (q:=a*a) (r:=d*b'*b') (s:=a'*a') (!4) (!4) (ug hd b) (ug hd b');have e1:d*b*b*(d*b'*b')=(d*b*b')*(d*b*b'):=by simp only[ar,bO]
   have e2:a*a*(a'*a')=a*a'*(a*a'):=by simp only[ar,bO]
   rw[e1,e2]at k;have:=(wl (aM sa sa') k).1;unfold sg;rw[iU (!4)]
  .have sb':0<b':=by rw[yt h q']at h2;unfold sg at h2;split at h2<;>omega
   have n:nrm d (a*a'+d*b*b') (a*b'+b*a')<0:=by rw[np];exact dF q q'
   rw[yt h n];unfold nrm at q q';have k:=y6 (p:=d*b*b) (q:=a*a) (r:=a'*a') (s:=d*b'*b') (!4) (!4) (ug hd b) (AB a');have e1:d*b*b*(a'*a')=d*(b*a'*(b*a')):=by simp only[ar,bO]
   have e2:a*a*(d*b'*b')=d*(a*b'*(a*b')):=by simp only[ar,bO]
   rw[e1,e2]at k;have k':=gR k (!4);have:=(wl (aM sa sb') k').1;unfold sg;rw[iU (!4)]
  .rw[zO]at h2;omega
 .have sb:0<b:=by rw[yt h q]at h1;unfold sg at h1;split at h1<;>omega
  rcases nrm_tri (a:=a') (b:=b') h with q' | q' | ⟨rfl,rfl⟩
  .have sa':0<a':=by rw[yM h q']at h2;unfold sg at h2;split at h2<;>omega
   have n:nrm d (a*a'+d*b*b') (a*b'+b*a')<0:=by rw[np];exact Int.mul_neg_of_neg_of_pos q q'
   rw[yt h n];unfold nrm at q q';have k:=y6 (p:=a*a) (q:=d*b*b) (r:=d*b'*b') (s:=a'*a') (!4) (!4) (AB a) (ug hd b');have e1:a*a*(d*b'*b')=d*(a*b'*(a*b')):=by simp only[ar,bO]
   have e2:d*b*b*(a'*a')=d*(b*a'*(b*a')):=by simp only[ar,bO]
   rw[e1,e2]at k;have k':=gR k (!4);have:=(wl (aM sb sa') k').1;unfold sg;rw[iU (!4)]
  .have sb':0<b':=by rw[yt h q']at h2;unfold sg at h2;split at h2<;>omega
   have n:0<nrm d (a*a'+d*b*b') (a*b'+b*a'):=by rw[np];exact eI q q'
   rw[yM h n];unfold nrm at q q';have k:=y6 (p:=a*a) (q:=d*b*b) (r:=a'*a') (s:=d*b'*b') (!4) (!4) (AB a) (AB a');have e1:a*a*(a'*a')=a*a'*(a*a'):=by simp only[ar,bO]
   have e2:d*b*b*(d*b'*b')=(d*b*b')*(d*b*b'):=by simp only[ar,bO]
   rw[e1,e2]at k;have:=(wl (aM (aM (!4) sb) sb') k).1;unfold sg;rw[iU (!4)]
  .rw[zO]at h2;omega
 .rw[zO]at h1;omega
theorem sgn_tri(h:Rt d)(a b:Int):sgn d a b=1\/sgn d a b=-1\/(a=0/\b=0):=by
 rcases nrm_tri (a:=a) (b:=b) h with q|q|q
 .have ha:a≠0:=λz=>by
   subst z;unfold nrm at q;have:=ug h.lo b;omega
  rw[yM h q];rcases sg_cases a with⟨_,e⟩|⟨_,e⟩|⟨e,_⟩
  .exact .inl e
  .exact .inr (.inl e)
  .exact absurd e ha
 .have hb:b≠0:=λz=>by
   subst z;unfold nrm at q;rw[cK]at q;have:=AB a;omega
  rw[yt h q];rcases sg_cases b with⟨_,e⟩|⟨_,e⟩|⟨e,_⟩
  .exact .inl e
  .exact .inr (.inl e)
  .exact absurd e hb
 .exact .inr (.inr q)
theorem uE{b:Int}(h:Rt d):sgn d (a*a'+d*b*b') (a*b'+b*a')=sgn d a b*sgn d a' b':=by
 have neg1:∀a b,sgn d a b=-1->sgn d (-a) (-b)=1:=λa b e=>by rw[xT h,e];rfl
 rcases sgn_tri h a b with p|p|⟨rfl,rfl⟩
 .rcases sgn_tri h a' b' with q|q|⟨rfl,rfl⟩
  .rw[Aq h p q,p,q];rfl
  .have:=Aq h p (neg1 _ _ q);have e1:a*-a'+d*b*-b'=-(a*a'+d*b*b'):=by rw[ia,ia,iM]
   have e2:a*-b'+b*-a'=-(a*b'+b*a'):=by rw[ia,ia,iM]
   rw[e1,e2,xT h]at this;rw[p,q];omega
  .simp[zO]
 .rcases sgn_tri h a' b' with q|q|⟨rfl,rfl⟩
  .have:=Aq h (neg1 _ _ p) q;have e1:-a*a'+d*-b*b'=-(a*a'+d*b*b'):=by rw[d5,ia,d5,iM]
   have e2:-a*b'+-b*a'=-(a*b'+b*a'):=by rw[d5,d5,iM]
   rw[e1,e2,xT h]at this;rw[p,q];omega
  .have:=Aq h (neg1 _ _ p) (neg1 _ _ q);have e1:-a*-a'+d*-b*-b'=a*a'+d*b*b':=by rw[cR,ar d,cR,<-ar]
   have e2:-a*-b'+-b*-a'=a*b'+b*a':=by rw[cR,cR]
   rw[e1,e2]at this;rw[this,p,q];rfl
  .simp[zO]
 .simp[zO]
def rpart(b r:Int):Int:=if b<0 then -r - 1 else r
variable{c:Int}
theorem Fx{b:Int}(h:Rt d)(r0:0<=r)(r1:r*r<=d*b*b)(r2:d*b*b<(r+1)*(r+1))(hc:0<=c+rpart b r):0<=sgn d c b:=by
 unfold rpart at hc;have ir:=irr (a:=c) (b:=b) h;unfold sgn;split at hc
 .have:(r+1)*(r+1)<=c*c:=dq (!4) (!4) (!4) (!4)
  repeat' split
  all_goals omega
 .by_cases c0:0<=c
  .rw[iU ⟨c0,by omega⟩];split<;>omega
  .have:(-c)*(-c)<=r*r:=dq (!4) (!4) (!4) (!4);rw[cR]at this;have hb:b≠0:=λz=>by
    subst z;rw[cK]at r1;have:0<r*r:=aM (!4) (!4);omega
   have:c*c≠d*b*b:=λz=>hb (ir z)
   repeat' split
   all_goals omega
theorem FX{b:Int}(h:Rt d)(r0:0<=r)(r1:r*r<=d*b*b)(r2:d*b*b<(r+1)*(r+1))(hc:c+rpart b r+1<=0):sgn d c b<0:=by
 unfold rpart at hc;unfold sgn;split at hc
 .by_cases c0:c<=0
  .rw[iV (!4),iU ⟨c0,by omega⟩];omega
  .have:c*c<=r*r:=dq (!4) (!4) (!4) (!4)
   repeat' split
   all_goals omega
 .have:(r+1)*(r+1)<=(-c)*(-c):=dq (!4) (!4) (!4) (!4);rw[cR]at this
  repeat' split
  all_goals omega
theorem Kt{n g:Int}(hg:0<g)(hn:0<=n):n<((g+n / g) / 2+1)*((g+n / g) / 2+1):=by
 have h1:=fR n g;have h2:=cX n (show g≠0 by omega);have h3:=dC n hg;have h4:0<=n / g:=Int.ediv_nonneg hn (!4);generalize n / g=q at*
 obtain⟨t,ht,t0,t1⟩:∃t,(g+q) / 2=t/\g+q<=2*t+1/\0<=t:=⟨_,rfl,by omega,by omega⟩
 rw[ht];have k:g*(q+1)<=(t+1)*(t+1):=by
  have e:4*(g*(q+1))+(g - (q+1))*(g - (q+1))=(g+(q+1))*(g+(q+1)):=by simp only[fG,hW,iK,iL,dg,gA,av q g];omega
  have s:=AB (g - (q+1));have m:(g+(q+1))*(g+(q+1))<=(2*(t+1))*(2*(t+1)):=dq (!4) (!4) (!4) (!4);have e2:(2*(t+1))*(2*(t+1))=4*((t+1)*(t+1)):=by rw[show(2:Int)*(t+1)*(2*(t+1))=2*2*((t+1)*(t+1)) from by simp only[ar,bO]];rfl
  omega
 have e3:g*(q+1)=g*q+g:=by rw[iK,dg]
 omega
theorem wO{b:Int}(h:0<=a)(k:0<=b):sgn d a b=if 0<a+b then 1 else 0:=by unfold sgn;rw[iU ⟨h,k⟩]
theorem Am{b:Int}(n:¬ (0<=a/\0<=b))(h:a<=0)(k:b<=0):sgn d a b=-1:=by unfold sgn;rw[iV n,iU ⟨h,k⟩]
theorem BG{b:Int}(h:0<a)(k:b<0):sgn d a b=if d*b*b<a*a then 1 else -1:=by unfold sgn;rw[iV (!4),iV (!4),iU h]
theorem BI{b:Int}(h:a<0)(k:0<b):sgn d a b=if a*a<d*b*b then 1 else -1:=by unfold sgn;rw[iV (!4),iV (!4),iV (!4)]
end Bg
namespace L2
open PySem PySem.Spec PyProof.Rows Bg
set_option tactic.hygienic true in
theorem xQ(env:Env):∀(names:List (Str×NameKind))(acc:List (Str×Addr)),(∀y∈names,y.2=.free->∃c,env.cells.lookup y.1=some c)->(∀x c,acc.lookup x=some c->env.cells.lookup x=some c) -> ∃cl, (forIn names acc (fun (x : Str × NameKind) (r : List (Str × Addr)) => if (x.snd == NameKind.free) = true then do
         let a <-cellOf env x.fst
         pure (ForInStep.yield ((x.fst,a)::r))
        else pure (ForInStep.yield r)):Sem (List (Str×Addr)))=pure cl/\(∀x c,cl.lookup x=some c->env.cells.lookup x=some c) /\
   ∀x,((∃c,acc.lookup x=some c)\/∃y∈names,y.1=x/\y.2=.free)->∃c,cl.lookup x=some c
 |[],acc,_,ha=>⟨acc,rfl,ha,λx h=>by
   rcases h with h|⟨y,hy,_⟩
   .exact h
   .simp at hy⟩
 |y::r,acc,hn,ha=>by
  by_cases hf:y.2=.free
  .obtain⟨c,hc⟩:=hn y aH hf;obtain⟨cl,e,h1,h2⟩:=xQ env r ((y.1,c)::acc) (λz hz=>hn z (aC _ hz)) (λx d hx=>by
    rw[cS]at hx;split at hx
    .rename_i q;have q':x=y.1:=by simpa using q
     rw[q',hc];exact hx
    .exact ha x d hx)
   refine⟨cl,?_,h1,λx h=>h2 x ?_⟩
   .rw[List.forIn_cons,iU (by rw[hf];rfl)];unfold cellOf;rw[hc];exact e
   .by_cases q:x=y.1
    .exact .inl ⟨c,by rw[cS,q];simp⟩
    .rcases h with⟨d,hd⟩|⟨z,hz,e1,e2⟩
     .exact .inl ⟨d,by
       rw[cS];have:(x==y.1)=false:=by simpa using q
       rw[this];exact hd⟩
     .rcases aW.mp hz with e3|e3
      .subst e3;exact absurd e1.symm q
      .exact .inr ⟨z,e3,e1,e2⟩
  .obtain⟨cl,e,h1,h2⟩:=xQ env r acc (λz hz=>hn z (aC _ hz)) ha;refine⟨cl,?_,h1,λx h=>h2 x ?_⟩
   .rw[List.forIn_cons,iV (by simpa using hf)];exact e
   .rcases h with h|⟨z,hz,e1,e2⟩
    .exact .inl h
    .rcases aW.mp hz with e3|e3
     .subst e3;exact absurd e2 hf
     .exact .inr ⟨z,e3,e1,e2⟩
variable{scope:Scope}
theorem Ck{env:Env}(h:∀y∈scope.names,y.2=.free->∃c,env.cells.lookup y.1=some c): ∃cl,closureFor scope env=pure cl/\(∀x c,cl.lookup x=some c->env.cells.lookup x=some c)/\∀y∈scope.names,y.2=.free->∃c,cl.lookup y.1=some c:=by obtain⟨cl,e,h1,h2⟩:=xQ env scope.names [] h (λx c q=>by simp at q);refine⟨cl,?_,h1,λy hy hf=>h2 y.1 (.inr ⟨y,hy,rfl,hf⟩)⟩;exact congrArg (λz:Sem (List (Str×Addr))=>z >>= λcs=>pure cs) e
variable{elt iter:Expr}{ifs:List Expr}{pos:Pos}
section
variable{prog:Program}{w:World}{A:Around}{R:Result->Shared->Prop}{s:Shared}
abbrev NoX:Value->Shared->Prop:=λ_ _=>False
theorem xS{target:Expr}{it acc:Value}{env:Env}(I:Nat->Shared->Prop)(turn:∀n s,I n s->wpAny (model prog w) A (pyNext it) (λr s₁=>match r with
   |none=>R (.ok .next) s₁
   |some v=>wpAny (model prog w) A (letOwnedTupleGo target it v) (λ_ s₁'=>wpAny (model prog w) A (assign target env v) (λ_ s₂ =>
     wpAny (model prog w) A (forIn ifs true λc r=>if r=true then do let ok <-isTrue c env (eval c env);pure (ForInStep.yield ok) else pure (ForInStep.yield r)) (λok s₃ =>
      if ok=true then wpAny (model prog w) A (eval elt env) (λx s₄ =>
       wpAny (model prog w) A (call (.builtin "list.append") [acc,x]) (λ_ s₅=>∃m,m<n/\I m s₅) NoX s₄) NoX s₃
      else ∃m,m<n/\I m s₃) NoX s₂) NoX s₁') NoX s₁) NoX s)(n:Nat)(h:I n s):
  codeAny (model prog w) A (.compLoop (.ListComp elt [⟨target,iter,ifs,0⟩] scope pos) 0 it acc env) R s:=by
 refine codeAny_loop rfl I (λn s hI=>?_) n h;show wpAny _ A ((compTurn (.ListComp elt [⟨target,iter,ifs,0⟩] scope pos) 0 it acc env).onRaise (λx=>do noteFrame x env;theTreesLotGoes x)) _ _ s;refine wpAny_noted ?_;rw[compTurn_list];refine i4 (i5 (i4 (iW (turn n s hI) (λr s₁ h₁=>?_) λ_ _ h'=>h'.elim)));cases r with
 |none=>exact i6 h₁
 |some v =>
  refine i4 (iW h₁ (λ_ s₁' h₁'=>?_) λ_ _ h'=>h'.elim);refine i4 (iW h₁' (λ_ s₂ h₂=>i4 (iW h₂ (λok s₃ h₃=>?_) λ_ _ h'=>h'.elim)) λ_ _ h'=>h'.elim);cases ok with
  |false=>exact i6 ⟨rfl,h₃⟩
  |true =>
   exact i4 (i4 (iW h₃ (λx s₄ h₄=>i4 (iW h₄ (λ_ s₅ h₅=>i6 (i6 ⟨rfl,h₅⟩)) λ_ _ h'=>h'.elim)) λ_ _ h'=>h'.elim))
end
theorem yG{env:Env}(hk:env.scope.kind=.function):∀{names:List (Str×NameKind)}{x:Str},names.lookup x=some .free->env.kindOf x=some .cell -> (names.map λ(n,k)=>if (k==NameKind.free && env.scope.kind==.function && env.kindOf n==some .cell) then (n,NameKind.cell) else (n,k)).lookup x=some .cell
 |[],_,h,_=>by simp at h
 |(n,k)::r,x,h,he=>by
  have ih:=@yG env hk r x;show List.lookup x ((if (k==NameKind.free && env.scope.kind==.function && env.kindOf n==some .cell)=true then (n,NameKind.cell) else (n,k))::_)=_;cases hx:x==n with
  |true =>
   simp only[cS,hx]at h;cases h
   have hxn:x=n:=by simpa using hx
   subst hxn;have hc:(NameKind.free==NameKind.free && env.scope.kind==.function && env.kindOf x==some .cell)=true:=by rw[hk,he];rfl
   rw[iU hc];simp[cS]
  |false =>
   simp only[cS,hx]at h;by_cases hc:(k==NameKind.free && env.scope.kind==.function && env.kindOf n==some .cell)=true
   .rw[iU hc];simp only[cS,hx];exact ih h he
   .rw[iV hc];simp only[cS,hx];exact ih h he
theorem uo{env:Env}:∀{names:List (Str×NameKind)}{x:Str}{k:NameKind},(∀y∈names,y.2≠.cell)->(k=.cell\/k=.free) -> (names.map λ(n,k)=>if (k==NameKind.free && env.scope.kind==.function && env.kindOf n==some .cell) then (n,NameKind.cell) else (n,k)).lookup x=some k->∃y∈names,y.1=x/\y.2=.free
 |[],_,_,_,_,h=>by simp at h
 |(n,k)::r,x,k',hn,hk,h=>by
  have h':List.lookup x ((if (k==NameKind.free && env.scope.kind==.function && env.kindOf n==some .cell)=true then (n,NameKind.cell) else (n,k))::_)=some k':=h;have ih:=@uo env r x k' (λy hy=>hn y (aC _ hy)) hk;have kn:k≠.cell:=hn (n,k) aH;by_cases hc:(k==NameKind.free && env.scope.kind==.function && env.kindOf n==some .cell)=true
  .rw[iU hc,cS]at h';have kf:k=.free:=by
    rw[dj,dj]at hc;simpa using hc.1.1
   cases hx:x==n with
   |true =>
    have hxn:x=n:=by simpa using hx
    exact⟨(n,k),aH,hxn.symm,kf⟩
   |false =>
    rw[hx]at h';obtain⟨y,hy,q⟩:=ih h';exact⟨y,aC _ hy,q⟩
  .rw[iV hc,cS]at h';cases hx:x==n with
   |true =>
    have hxn:x=n:=by simpa using hx
    rw[hx]at h';have e:k=k':=aJ h';refine⟨(n,k),aH,hxn.symm,?_⟩;rcases hk with q|q
    .exact absurd (e.trans q) kn
    .exact e.trans q
   |false =>
    rw[hx]at h';obtain⟨y,hy,q⟩:=ih h';exact⟨y,aC _ hy,q⟩
variable{ns:List (Str×NameKind)}
theorem A1(h:(scope.names.all λy=>y.2 != .free || ns.lookup y.1==some .cell)=true):∀y∈scope.names,y.2=.free->ns.lookup y.1=some .cell:=λy hy hf=>by have:=eK.mp h y hy;rw[hf]at this;simpa using this
variable{js:List Nat}
theorem Ii{N:List Str}(h:(js.all λj=>scope.names.lookup (N.getD j Str.empty)==some .free && ns.lookup (N.getD j Str.empty)==some .cell)=true):∀j∈js,scope.names.lookup (N.getD j Str.empty)=some .free/\ns.lookup (N.getD j Str.empty)=some .cell:=λj hj=>by have:=eK.mp h j hj;rw[dj]at this;exact⟨eq_of_beq this.1,eq_of_beq this.2⟩
theorem AT(h:(scope.names.all λy=>y.2 != .cell)=true):∀y∈scope.names,y.2≠.cell:=λy hy=>by have:=eK.mp h y hy;simpa using this
theorem uH(h:(scope.names.all λy=>y.2 != .local || scope.names.lookup y.1==some .local)=true):∀y∈scope.names,y.2=.local->scope.names.lookup y.1=some .local:=λy hy hf=>by have:=eK.mp h y hy;rw[hf]at this;simpa using this
def ua(n:Nat)(js:List Nat)(σ:St):St:=List.replicate n none++js.map λj=>(σ[j]?).join
def zW(X:Cx)(scope:Scope)(cl:List (Str×Addr))(own:List Str)(js:List Nat)(fp:List Addr)(C:Addr)(s3:Shared)(H3:Hp):Cx :=
 { X with N:=own++js.map (λj=>X.N.getD j Str.empty),s₀:=s3,H₀:=H3,env:=compEnvC scope cl C X.env,outer:=X.stack,ex:=fp,fn:=λ_=>false,pn:=[],xe:=λ_ _=>False }
def PIfs(X:Cx)(ifs:List Expr)(t:TT):Prop:=∀(pins:List (Addr×Obj))(s:Shared)(σ:St)(H:Hp)(Q:Bool->Hp->Prop),Inv X pins σ H s->t σ H Q ->
 wpAny (model X.prog X.w) X.A (forIn ifs true λc r=>if r=true then do let ok <-isTrue c X.env (eval c X.env);pure (ForInStep.yield ok) else pure (ForInStep.yield r)) (TP X pins σ Q) X.xe s
def tAll:TT:=λ_ H B=>B true H
variable{X:Cx}
theorem zD:PIfs X [] tAll:=λ_ _ _ H _ I h=>wpAny_tests_nil ⟨H,I,h⟩
theorem BO{c:Expr}{t:TT}(h:PT X c t):PIfs X [c] t:=λpins s σ H Q I q=>wpAny_tests_one (h pins s σ H Q I q)
def tJ(wi:TI)(g:TG)(tc:TT)(te:TE)(n:Nat)(js:List Nat):TE:=λσ H Q=>wi σ H λJ H1=>∀D,H1 D=none->∃W:Nat->Nat->St->Hp->Prop,(∃m,W 0 m (ua n js σ) (upd H1 D (.lst []))) /\
 ∀i m σ' H',W i m σ' H'->(J.stop i H'/\Q (.ref D) H')\/(J.go i H'/\∀x H2,J.yld i H' x H2->g x σ' H2 λσ3 H3=>tc σ3 H3 λb H4 =>
  if b=true then te σ3 H4 λv H5=>z7 (.ref D) [v] H5 λ_ H6=>∃m',m'<m/\W (i+1) m' σ3 H6 else ∃m',m'<m/\W (i+1) m' σ3 H4)
section
variable{X:Cx}{pins:List (Addr×Obj)}{σ:St}{H:Hp}{s:Shared}{scope:Scope}{cl:List (Str×Addr)}{own:List Str}{js:List Nat}{fp:List Addr}
theorem Dy(I:Inv X pins σ H s)(hkind:scope.kind=.function)(hcell:∀y∈scope.names,y.2≠.cell)(cl1:∀x c,cl.lookup x=some c->X.env.cells.lookup x=some c)(cl2:∀y∈scope.names,y.2=.free->∃c,cl.lookup y.1=some c)(hf:∀b∈fp,FpOk X pins H b)(hl:∀b∈fp,b<s.heap.objs.size):(zW X scope cl own js fp s.heap.objs.size s H).Ok:=by
 have hno:∀b o,X.base.get? b=some o->b∉fp:=λb o e hb=>by
  rcases (hf b hb).2.2.2.1 with z|z
  .exact I.ok.noex b o e z
  .exact absurd (aQ (Heap.lt_size e) (cf I.ok.bsz z)) (dm _)
 have hex:∀b∈fp,b∉frs X.stack:=λb hb z=>by
  rcases aW.mp (I.stkSub b z) with e|e
  .exact(hf b hb).2.1 e
  .exact(hf b hb).2.2.1 e
 exact⟨I.ok.mod,hkind,I.ok.glob,I.ok.blt,ak _,λx y c h1 h2=>I.ok.inj x y c (cl1 x c h1) (cl1 y c h2),
  λx hx=>by
   have hx':(∃k,(k=NameKind.cell\/k=.free)/\(relabel scope X.env).names.lookup x=some k):=by
    rcases hx with z|z
    .exact⟨_,.inl rfl,z⟩
    .exact⟨_,.inr rfl,z⟩
   obtain⟨k,hk,z⟩:=hx';obtain⟨y,hy,e1,e2⟩:=uo hcell hk z;obtain⟨c,hc⟩:=cl2 y hy e2;exact⟨c,by rw[<-e1];exact hc⟩,
  λx c h _=>absurd h (by show ¬ (false=true);decide),I.ok.hd,I.ok.frames,.inl rfl,
  λb hb=>⟨aR (hl b hb),λx c e=>(hf b hb).2.2.2.2.1 x c (cl1 x c e)⟩,
  I.bs,cf I.ok.bsz I.sz,hno,hex,I.stack,I.stkFree⟩
theorem FP{h₁:Heap}{m:Str->Option Value}{t':Nat}(I:Inv X pins σ H s)(hkind:scope.kind=.function)(hcell:∀y∈scope.names,y.2≠.cell)(cl1:∀x c,cl.lookup x=some c->X.env.cells.lookup x=some c)(cl2:∀y∈scope.names,y.2=.free->∃c,cl.lookup y.1=some c)(hjs:∀j∈js,scope.names.lookup (X.N.getD j Str.empty)=some .free/\X.env.scope.names.lookup (X.N.getD j Str.empty)=some .cell)(hf:∀b∈fp,FpOk X pins H b)(hl:∀b∈fp,b<s.heap.objs.size)(hn:h₁.Ns s.heap.objs.size m)(k:∀b o,s.heap.get? b=some o->h₁.get? b=some o): Inv (zW X scope cl own js fp s.heap.objs.size s H) [] (ua own.length js σ) H { s with heap:=h₁,toks:=t' }:=by
 refine⟨Dy I hkind hcell cl1 cl2 hf hl,rfl,I.bare,Un.kept k,⟨m,hn,λi x v h1 h2 h3=>?_⟩,λx c e=>?_,I.hok.fresh (ak _),λx c e=>I.freeC x c (cl1 x c e),λp hp=>absurd (show p∈([]:List (Addr×Obj)) from hp) (by simp),I.hok.kept k,?_⟩
 .have hi:own.length<=i:=by
   unfold ua at h2;by_cases z:i<own.length
   .rw[aT (by simpa using z),hU,iU z]at h2;cases h2
   .omega
  unfold ua at h2;rw[aP (by simpa using hi),iy,ao]at h2;have h1':(own++js.map (λj=>X.N.getD j Str.empty))[i]?=some x:=h1;rw[aP hi,ao]at h1';cases ej:js[i - own.length]? with
  |none=>rw[ej]at h2;cases h2
  |some j =>
   rw[ej]at h2 h1';have ex:X.N.getD j Str.empty=x:=aJ h1';have ev:(σ[j]?).join=some v:=aJ h2;have ev':σ[j]?=some (some v):=by
    cases q:σ[j]? with
    |none=>rw[q]at ev;cases ev
    |some z=>rw[q]at ev;rw[show z=some v from ev]
   have hjl:j<X.N.length:=by rw[<-I.len];exact(af.mp ev').1
   have eN:X.N[j]?=some x:=by rw[<-ex,dB,ag hjl];rfl
   obtain⟨f1,f2⟩:=hjs j (ay ej);rw[ex]at f1 f2;obtain⟨mm,hnn,hll⟩:=I.loc;obtain⟨u,r,lk⟩:=hll j x v eN ev' (.inr (.inl f2));refine⟨u,r,?_⟩;rcases lk with⟨q,_⟩|⟨_,c,e,ic⟩
   .rw[show X.env.kindOf x=some .cell from f2]at q;cases q
   .obtain⟨y,hy,e1,e2⟩:∃y∈scope.names,y.1=x/\y.2=.free:=⟨_,dy f1,rfl,rfl⟩
    obtain⟨c',hc'⟩:=cl2 y hy e2;rw[e1]at hc';have:c'=c:=by have:=cl1 x c' hc';rw[e]at this;exact(aJ this).symm
    subst this;obtain⟨o,ho,hd⟩:=ic;exact .inr ⟨.inl (yG I.ok.kind f1 f2),c',hc',⟨o,k _ _ ho,hd⟩⟩
 .obtain⟨v,o,ho,hd⟩:=I.cell x c (cl1 x c e);exact⟨v,o,k _ _ ho,hd⟩
 .show _=(own++js.map _).length;unfold ua;simp
theorem vD{H':Hp}{σ':St}{s':Shared}{h':Heap}(I:Inv X pins σ H s)(hf:∀b∈fp,FpOk X pins H b)(I':Inv (zW X scope cl own js fp s.heap.objs.size s H) [] σ' H' s')(sb:Heap.SameBut s.heap.objs.size s'.heap h'):Inv X pins σ H' { s' with heap:=h' }:=by
 have u:=I'.base;have ne:∀b o,s.heap.get? b=some o->b≠s.heap.objs.size:=λb o e=>aR (Heap.lt_size e);refine I.call' (ch:=fp) I'.os ⟨λb o e n hb hx=>?_,λb o e n hb hx=>?_,u.free,λb o e hx=>?_,λb xs e=>⟨(u.tups b xs e).1,λo q=>(sb.2 b (ne b o q)).trans ((u.tups b xs e).2 o q)⟩,u.frzs,u.tbls⟩ (λb o e=>?_) I'.bare λb hb=>⟨(hf b hb).2.2.2.1,(hf b hb).2.1,(hf b hb).2.2.2.2.1,(hf b hb).2.2.2.2.2⟩
 .exact(sb.2 b (ne b o e)).trans (u.keep b o e n hb hx)
 .obtain⟨sl,z⟩:=u.slot b o e n hb hx;exact⟨sl,(sb.2 b (ne b o e)).trans z⟩
 .obtain⟨o',z⟩:=u.there b o e hx;exact⟨o',(sb.2 b (ne b o e)).trans z⟩
 .have hfr:H' s.heap.objs.size=none:=I'.free;refine(I'.hok b o e).stay (λc v hc q=>(sb.2 c ?_).trans q) (λ_ q=>q) λ_ _ q=>q;rintro rfl;rcases hc with rfl|hc
  .rw[hfr]at e;cases e
  .rw[hfr]at hc;cases hc
end
variable{tgt:Expr}{H:Hp}{te:TE}{g:TG}{wi:TI}{tc:TT}
theorem uT{use:Option (Value->Sem Unit)}{R:Value->Shared->Prop}{pins:List (Addr×Obj)}{σ:St}{s:Shared}{Q:VK}(own:List Str)(js:List Nat)(hc:X.calm=true)(hi:PI X tgt iter wi)(hg:∀cl fp C s3 H3,PG (zW X scope cl own js fp C s3 H3) tgt g)(ht:∀cl fp C s3 H3,PIfs (zW X scope cl own js fp C s3 H3) ifs tc)(he:∀cl fp C s3 H3,PE (zW X scope cl own js fp C s3 H3) elt te)(hfree:∀y∈scope.names,y.2=.free->X.env.scope.names.lookup y.1=some .cell)(hjs:∀j∈js,scope.names.lookup (X.N.getD j Str.empty)=some .free/\X.env.scope.names.lookup (X.N.getD j Str.empty)=some .cell)(hcell:∀y∈scope.names,y.2≠.cell)(hnames:∀y∈scope.names,y.2=.local->scope.names.lookup y.1=some .local)(hkind:scope.kind=.function)(hs:∀x,foldedSetIterable iter X.env x=pure x)(I:Inv X pins σ H s)(h:tJ wi g tc te own.length js σ H Q)(hend:∀(D:Addr)(H3 H5:Hp)(σ5:St)(s3 s6:Shared)(fp:List Addr)(cl:List (Str×Addr)),Inv X pins σ H3 s3->(∀b∈fp,FpOk X pins H3 b)->Inv (zW X scope cl own js fp s3.heap.objs.size s3 H3) [] σ5 H5 s6->Q (.ref D) H5 ->
   compPost (model X.prog X.w) X.A X.xe use R (.ref D) s3.heap.objs.size (.ok .next) s6):
  wpAny (model X.prog X.w) X.A (comprehension (.ListComp elt [⟨tgt,iter,ifs,0⟩] scope pos) scope X.env (firstIterPos [⟨tgt,iter,ifs,0⟩] pos) (newList []) false (eval iter X.env) use) R X.xe s:=by
 have hk:=I.ok.kind;obtain⟨cl,hcl,cl1,cl2⟩:=Ck (scope:=scope) (env:=X.env) λy hy hf=>I.ok.has y.1 (.inl (hfree y hy hf));refine wpAny_comprehension_free rfl hs hcl hkind hnames (thn (hi pins s σ H _ I h) λv s1 h1=>thn h1 λitv s2 h2=>?_);obtain⟨it,fp,tn,J,H2,e,I2,T,st2,f2,q2⟩:=h2;subst e;obtain⟨W,⟨m0,w0⟩,turn⟩:=q2 s2.heap.objs.size I2.fresh;have I3:=I2.lnew (ys:=[]) (its:=[]) (t':=s2.toks) .nil (cJ _);refine i7 (wpAny_newFunctionEnv hcell (by intro y hy;simp at hy) (λh₁ hns₁ hsb₁=>?_) hkind);have hl3:∀b∈fp,b<(s2.heap.push ({ cls:=.type "list",data:=.seq ([]:List Value).toArray }:Obj)).objs.size:=λb hb=>by obtain⟨o,e,_⟩:=T.obj _ _ st2 b hb;rw[Heap.size_push];exact Nat.lt_succ_of_lt (Heap.lt_size e)
 have f3:∀b∈fp,FpOk X pins (upd H2 s2.heap.objs.size (.lst [])) b:=λb hb=>by obtain⟨o,e,_⟩:=T.obj _ _ st2 b hb;refine⟨?_,(f2 b hb).2⟩;rw[zl (aR (Heap.lt_size e))];exact(f2 b hb).1
 have I4:=FP (own:=own) (js:=js) (h₁:=h₁) (t':=s2.toks+([]:List (Str×Value)).length) I3 hkind hcell cl1 cl2 hjs f3 hl3 hns₁ (λb o e=>(hsb₁.2 b (aR (Heap.lt_size e))).trans (Heap.get?_push_of_some _ e));have st4:tn 0 h₁:=T.keep _ _ _ st2 λb hb o e=>(hsb₁.2 b (aR (hl3 b hb))).trans (Heap.get?_push_of_some _ (Heap.get?_push_of_some _ e));have loop:codeAny (model X.prog X.w) X.A (.compLoop (.ListComp elt [⟨tgt,iter,ifs,0⟩] scope pos) 0 (.ref it) (.ref s2.heap.objs.size) (compEnvC scope cl (s2.heap.push ({ cls:=.type "list",data:=.seq ([]:List Value).toArray }:Obj)).objs.size X.env))
   (compPost (model X.prog X.w) X.A X.xe use R (.ref s2.heap.objs.size) (s2.heap.push ({ cls:=.type "list",data:=.seq ([]:List Value).toArray }:Obj)).objs.size) { s2 with heap:=h₁,toks:=s2.toks+([]:List (Str×Value)).length }:=by
  refine xS (λn s'=>∃i σ' H',Inv (zW X scope cl own js fp _ _ _) [] σ' H' s'/\tn i s'.heap/\(∀b∈fp,H' b=none)/\W i n σ' H') ?_ m0 ⟨0,_,_,I4,st4,λb hb=>(f3 b hb).1,w0⟩;rintro n s5 ⟨i,σ5,H5,I5,st5,fr5,w5⟩;have stat:∀{H':Hp},(∀b∈fp,H' b=none)->∀b∈fp,FpOk (zW X scope cl own js fp _ _ _) [] H' b:=λhn b hb =>
   ⟨hn b hb,(I4.ok.exf b hb).1,I4.ok.exfs b hb,.inl hb,(I4.ok.exf b hb).2,λp hp=>absurd (show p∈([]:List (Addr×Obj)) from hp) (by simp)⟩
  rcases turn i n σ5 H5 w5 with⟨stop,qn⟩|⟨go,step⟩
  .refine thn (T.done (zW X scope cl own js fp _ _ _) rfl rfl rfl hc i [] s5 σ5 H5 NoX I5 (stat fr5) st5 stop) λr s6 ⟨hr,I6⟩=>?_;subst hr;exact hend _ _ _ _ _ _ _ _ I3 f3 I6 qn
  .refine thn (T.item (zW X scope cl own js fp _ _ _) rfl rfl rfl hc i [] s5 σ5 H5 NoX I5 (stat fr5) st5 go) λr s6 ⟨u,hr,h6⟩=>?_;subst hr;refine thn h6 λ_ s7 ⟨x,H7,I7,r7,y7,st7,fr7⟩=>?_;have I7':=I7.pinned (stat fr7) (T.obj _ _ st7);refine thn (hg cl fp _ _ _ _ s7 σ5 H7 x u _ I7' r7 (step x H7 y7)) λ_ s8 ⟨σ8,H8,I8,q8⟩=>?_;have again:∀{C3:Addr}{s3:Shared}{H3:Hp}{σ9:St}{H9:Hp}{s9:Shared}{m':Nat},Inv (zW X scope cl own js fp C3 s3 H3) ([]++Al fp s7.heap) σ9 H9 s9->m'<n->W (i+1) m' σ9 H9->∃m,m<n/\∃i σ' H',Inv (zW X scope cl own js fp C3 s3 H3) [] σ' H' s9/\tn i s9.heap/\(∀b∈fp,H' b=none)/\W i m σ' H':=λ{C3 s3 H3 σ9 H9 s9 m'} I9 hm w9=>by
    refine⟨m',hm,i+1,σ9,H9,I9.unpinned,T.keep _ _ _ st7 λb hb o e=>(I9.pin (b,o) (a7 _ (a7 _ (xE hb e)))).1,λb hb=>?_,w9⟩;obtain⟨o,e,d⟩:=T.obj _ _ st7 b hb;exact(I9.pin (b,o) (a7 _ (a7 _ (xE hb e)))).2.1
   refine thn (ht cl fp _ _ _ _ s8 σ8 H8 _ I8 q8) λb s9 ⟨H9,I9,q9⟩=>?_;cases b with
   |false =>
    rw[iV aX]at q9 ⊢;obtain⟨m',hm,w9⟩:=q9;exact again I9 hm w9
   |true =>
    rw[iU rfl]at q9 ⊢;refine thn (he cl fp _ _ _ _ s9 σ8 H9 _ I9 q9) λy s10 ⟨v,H10,I10,r10,q10⟩=>?_;exact thn (zJ (X:=zW X scope cl own js fp _ _ _) _ s10 σ8 H10 (.ref s2.heap.objs.size) [v] (.ref s2.heap.objs.size) [y] _ I10 rfl (.cons r10 .nil) q10) λ_ s11 ⟨_,H11,I11,_,m',hm,w11⟩=>again I11 hm w11
 exact codeAny_compStart_list loop (T.self _ 0 _ _ _ st4 loop)
theorem zR(own:List Str)(js:List Nat)(hc:X.calm=true)(hi:PI X tgt iter wi)(hg:∀cl fp C s3 H3,PG (zW X scope cl own js fp C s3 H3) tgt g)(ht:∀cl fp C s3 H3,PIfs (zW X scope cl own js fp C s3 H3) ifs tc)(he:∀cl fp C s3 H3,PE (zW X scope cl own js fp C s3 H3) elt te)(hfree':(scope.names.all λy=>y.2 != .free || X.env.scope.names.lookup y.1==some .cell)=true:=by rfl)(hjs':(js.all λj=>scope.names.lookup (X.N.getD j Str.empty)==some .free && X.env.scope.names.lookup (X.N.getD j Str.empty)==some .cell)=true:=by rfl)(hcell':(scope.names.all λy=>y.2 != .cell)=true:=by rfl)(hnames':(scope.names.all λy=>y.2 != .local || scope.names.lookup y.1==some .local)=true:=by rfl)(hkind:scope.kind=.function:=by rfl)(hs:∀x,foldedSetIterable iter X.env x=pure x:=by intro _;rfl):
  PE X (.ListComp elt [⟨tgt,iter,ifs,0⟩] scope pos) (tJ wi g tc te own.length js):=by
 have hfree:∀y∈scope.names,y.2=.free->X.env.scope.names.lookup y.1=some .cell:=A1 hfree';have hjs:∀j∈js,scope.names.lookup (X.N.getD j Str.empty)=some .free/\X.env.scope.names.lookup (X.N.getD j Str.empty)=some .cell:=Ii hjs';have hcell:∀y∈scope.names,y.2≠.cell:=AT hcell';have hnames:∀y∈scope.names,y.2=.local->scope.names.lookup y.1=some .local:=uH hnames';intro pins s σ H Q I h;rw[eval_ListComp];refine uT own js hc hi hg ht he hfree hjs hcell hnames hkind hs I h λD H3 H5 σ5 s3 s6 fp cl I3 f3 I6 qn=>?_;obtain⟨m,hm,_⟩:=id I6.loc;exact⟨m,hm,λh' sb=>⟨.ref D,H5,vD I3 f3 I6 sb,rfl,qn⟩⟩
variable{x:Str}
theorem EC{i:Nat}{spos px:Pos}(hN:X.N.Nodup)(hiN:X.N[i]?=some x)(hx:X.env.scope.names.lookup x=some .local)(own:List Str)(js:List Nat)(hc:X.calm=true)(hi:PI X tgt iter wi)(hg:∀cl fp C s3 H3,PG (zW X scope cl own js fp C s3 H3) tgt g)(ht:∀cl fp C s3 H3,PIfs (zW X scope cl own js fp C s3 H3) ifs tc)(he:∀cl fp C s3 H3,PE (zW X scope cl own js fp C s3 H3) elt te)(hfree':(scope.names.all λy=>y.2 != .free || X.env.scope.names.lookup y.1==some .cell)=true:=by rfl)(hjs':(js.all λj=>scope.names.lookup (X.N.getD j Str.empty)==some .free && X.env.scope.names.lookup (X.N.getD j Str.empty)==some .cell)=true:=by rfl)(hcell':(scope.names.all λy=>y.2 != .cell)=true:=by rfl)(hnames':(scope.names.all λy=>y.2 != .local || scope.names.lookup y.1==some .local)=true:=by rfl)(hkind:scope.kind=.function:=by rfl)(hs:∀x,foldedSetIterable iter X.env x=pure x:=by intro _;rfl)(hsw:swapsWith (.ListComp elt [⟨tgt,iter,ifs,0⟩] scope pos) (some (.Name x px)) spos.line X.env=pure true:=by rfl):
  PS X (.Assign [.Name x px] (.ListComp elt [⟨tgt,iter,ifs,0⟩] scope pos) spos) (tAsg (tJ wi g tc te own.length js) (Cv i)):=by
 have hfree:∀y∈scope.names,y.2=.free->X.env.scope.names.lookup y.1=some .cell:=A1 hfree';have hjs:∀j∈js,scope.names.lookup (X.N.getD j Str.empty)=some .free/\X.env.scope.names.lookup (X.N.getD j Str.empty)=some .cell:=Ii hjs';have hcell:∀y∈scope.names,y.2≠.cell:=AT hcell';have hnames:∀y∈scope.names,y.2=.local->scope.names.lookup y.1=some .local:=uH hnames';intro pins s σ H D I h;rw[exec_Assign_Name_used _ _ _ _ hsw];refine i4 (i5 (i4 ?_));show wpAny _ X.A (do let _ <-comprehension (.ListComp elt [⟨tgt,iter,ifs,0⟩] scope pos) scope X.env _ (newList []) false (eval iter X.env) (some (assign (.Name x px) X.env))) _ _ s;refine i4 (thn (uT (use:=some (assign (.Name x px) X.env)) (R:=λ_ s'=>SP X pins D .next s') own js hc hi hg ht he hfree hjs hcell hnames hkind hs I h λD' H3 H5 σ5 s3 s6 fp cl I3 f3 I6 qn=>?_) λ_ s' hq=>i6 (i6 hq));have I7:Inv X pins σ H5 s6:=vD I3 f3 I6 (Heap.SameBut.refl ..);have hlt:X.env.locals<s3.heap.objs.size:=I3.lt;have hcl:∀y c,X.env.cells.lookup y=some c->c≠s3.heap.objs.size:=λy c e z=>by obtain⟨v,q⟩:=I3.cell y c e;exact absurd q.lt (by rw[z];exact dm _)
 refine wpAny_assign_Name (tR I7 hN hiN (.inl hx) (v:=.ref D') (u:=.ref D') rfl (λs7 I8 hch=>?_) (.inr hx));obtain⟨m,hm,_⟩:=id I6.loc;have hne:s3.heap.objs.size≠X.env.locals:=iu hlt;have hm7:s7.heap.Ns s3.heap.objs.size m:=by
  obtain⟨a,sb,ha⟩:=hch;refine Heap.Ns.sameBut hm sb ?_;rcases ha with ha|ha
  .rw[ha];exact hne
  .exact λz=>hcl x a ha z.symm
 refine⟨m,hm7,λh' sb=>?_⟩;refine⟨_,H5,I8.turned (t':=s7.toks) (it:=s3.heap.objs.size) (λb o hb e=>(sb.2 b hb).trans e) I6.free hne (.inr I3.sz) hcl (λp hp z=>?_),qn⟩;exact absurd (Heap.lt_size (I3.pin p hp).1) (by rw[z];exact dm _)
def uQ(n:Nat)(Pv:Nat->List V->St->Hp->Prop)(i:Nat)(σ:St)(H:Hp):Prop:=∃m',m'<n - i/\m'=n - (i+1)/\i+1<=n/\∃xs,Pv (i+1) xs σ H
theorem yx{n:Nat}{Pv:Nat->List V->St->Hp->Prop}{i:Nat}{xs:List V}{σ:St}(h:i<n)(p:Pv (i+1) xs σ H):uQ n Pv i σ H:=⟨n - (i+1),by omega,rfl,h,xs,p⟩
variable{a:Addr}{ys:List V}{ta:TA}{tl:TE}
section
variable{g:TG}{tc:TT}{te:TE}{D:Addr}{H1:Hp}{σ0:St}{Q:VK}
theorem yj{R:Hp->Prop}{lo:Int}{n:Nat}(Pv:Nat->List V->St->Hp->Prop)(h0:Pv 0 [] σ0 (upd H1 D (.lst [])))(hs:∀i xs σ H,i<n->Pv i xs σ H->g (.int (lo+i)) σ H λσ3 H3=>tc σ3 H3 λb H4=>if b=true then te σ3 H4 λv H5=>z7 (.ref D) [v] H5 λ_ H6=>uQ n Pv i σ3 H6 else uQ n Pv i σ3 H4)(hd:∀xs σ H,Pv n xs σ H->R H): ∃W:Nat->Nat->St->Hp->Prop,(∃m,W 0 m σ0 (upd H1 D (.lst [])))/\∀i m σ' H',W i m σ' H'->((Itr lo n).stop i H'/\R H')\/((Itr lo n).go i H'/\∀x H2,(Itr lo n).yld i H' x H2->g x σ' H2 λσ3 H3=>tc σ3 H3 λb H4 =>
   if b=true then te σ3 H4 λv H5=>z7 (.ref D) [v] H5 λ_ H6=>∃m',m'<m/\W (i+1) m' σ3 H6 else ∃m',m'<m/\W (i+1) m' σ3 H4):=by
 refine⟨λi m σ H=>m=n - i/\i<=n/\∃xs,Pv i xs σ H,⟨n,by simp,cJ _,[],h0⟩,?_⟩;rintro i m σ H ⟨rfl,hi,xs,p⟩;by_cases hlt:i<n
 .refine .inr ⟨hlt,λx H' y=>?_⟩;obtain⟨e,y⟩:=y;subst e y;exact hs i xs σ _ hlt p
 .have e:i=n:=by omega
  subst e;exact .inl ⟨ak _,hd xs σ H p⟩
theorem ya{R:Hp->Prop}{K:jj}(Pv:Nat->List V->St->Hp->Prop)(h0:Pv 0 [] σ0 (upd H1 D (.lst [])))(hl:∀i xs σ H,i<=ys.length->Pv i xs σ H->SqL K H a ys)(hs:∀i x xs σ H,ys[i]?=some x->Pv i xs σ H->g x σ H λσ3 H3=>tc σ3 H3 λb H4=>if b=true then te σ3 H4 λv H5=>z7 (.ref D) [v] H5 λ_ H6=>uQ ys.length Pv i σ3 H6 else uQ ys.length Pv i σ3 H4)(hd:∀xs σ H,Pv ys.length xs σ H->R H): ∃W:Nat->Nat->St->Hp->Prop,(∃m,W 0 m σ0 (upd H1 D (.lst [])))/\∀i m σ' H',W i m σ' H'->((Itl K a).stop i H'/\R H')\/((Itl K a).go i H'/\∀x H2,(Itl K a).yld i H' x H2->g x σ' H2 λσ3 H3=>tc σ3 H3 λb H4 =>
   if b=true then te σ3 H4 λv H5=>z7 (.ref D) [v] H5 λ_ H6=>∃m',m'<m/\W (i+1) m' σ3 H6 else ∃m',m'<m/\W (i+1) m' σ3 H4):=by
 refine⟨λi m σ H=>m=ys.length - i/\i<=ys.length/\∃xs,Pv i xs σ H,⟨ys.length,by simp,cJ _,[],h0⟩,?_⟩;rintro i m σ H ⟨rfl,hi,xs,p⟩;have q:=hl i xs σ H hi p;by_cases hlt:i<ys.length
 .refine .inr ⟨⟨ys,ys[i],q,by simp[hlt]⟩,λx H' y=>?_⟩;obtain⟨e,y⟩:=y;subst e;exact hs i x xs σ _ (y ys q) p
 .have e:i=ys.length:=by omega
  subst e;exact .inl ⟨⟨ys,q,ak _⟩,hd xs σ H p⟩
theorem BY{R:Hp->Prop}{K:jj}(Pv:Nat->List V->St->Hp->Prop)(h0:Pv 0 [] σ0 (upd H1 D (.lst [])))(hl:∀i xs σ H,i<=ys.length->Pv i xs σ H->SqT K H a ys)(hs:∀i x xs σ H,ys[i]?=some x->Pv i xs σ H->g x σ H λσ3 H3=>tc σ3 H3 λb H4=>if b=true then te σ3 H4 λv H5=>z7 (.ref D) [v] H5 λ_ H6=>uQ ys.length Pv i σ3 H6 else uQ ys.length Pv i σ3 H4)(hd:∀xs σ H,Pv ys.length xs σ H->R H): ∃W:Nat->Nat->St->Hp->Prop,(∃m,W 0 m σ0 (upd H1 D (.lst [])))/\∀i m σ' H',W i m σ' H'->((Itt K a).stop i H'/\R H')\/((Itt K a).go i H'/\∀x H2,(Itt K a).yld i H' x H2->g x σ' H2 λσ3 H3=>tc σ3 H3 λb H4 =>
   if b=true then te σ3 H4 λv H5=>z7 (.ref D) [v] H5 λ_ H6=>∃m',m'<m/\W (i+1) m' σ3 H6 else ∃m',m'<m/\W (i+1) m' σ3 H4):=by
 refine⟨λi m σ H=>m=ys.length - i/\i<=ys.length/\∃xs,Pv i xs σ H,⟨ys.length,by simp,cJ _,[],h0⟩,?_⟩;rintro i m σ H ⟨rfl,hi,xs,p⟩;have q:=hl i xs σ H hi p;by_cases hlt:i<ys.length
 .refine .inr ⟨⟨ys,ys[i],q,by simp[hlt]⟩,λx H' y=>?_⟩;obtain⟨e,y⟩:=y;subst e;exact hs i x xs σ _ (y ys q) p
 .have e:i=ys.length:=by omega
  subst e;exact .inl ⟨⟨ys,q,ak _⟩,hd xs σ H p⟩
theorem BB{σ:St}{n:Nat}(h:ta σ H λvs H1=>∃i j:Int,vs=[.int i,.int j]/\(-(2 ^ 62)<=i/\i<2 ^ 62/\-(2 ^ 62)<=j/\j<2 ^ 62)/\∀D,H1 D=none->∃W:Nat->Nat->St->Hp->Prop,(∃m,W 0 m (ua n js σ) (upd H1 D (.lst []))) /\
 ∀i_1 m σ' H',W i_1 m σ' H'->((Itr i (j - i).toNat).stop i_1 H'/\Q (.ref D) H')\/((Itr i (j - i).toNat).go i_1 H'/\∀x H2,(Itr i (j - i).toNat).yld i_1 H' x H2->g x σ' H2 λσ3 H3=>tc σ3 H3 λb H4 =>
  if b=true then te σ3 H4 λv H5=>z7 (.ref D) [v] H5 λ_ H6=>∃m',m'<m/\W (i_1+1) m' σ3 H6 else ∃m',m'<m/\W (i_1+1) m' σ3 H4)):tJ (Iv ta) g tc te n js σ H Q:=h
theorem xA{σ:St}{n:Nat}(h:ta σ H λvs H1=>∃j:Int,vs=[.int j]/\-(2 ^ 62)<=j/\j<2 ^ 62/\∀D,H1 D=none->∃W:Nat->Nat->St->Hp->Prop,(∃m,W 0 m (ua n js σ) (upd H1 D (.lst []))) /\
 ∀i m σ' H',W i m σ' H'->((Itr 0 j.toNat).stop i H'/\Q (.ref D) H')\/((Itr 0 j.toNat).go i H'/\∀x H2,(Itr 0 j.toNat).yld i H' x H2->g x σ' H2 λσ3 H3=>tc σ3 H3 λb H4 =>
  if b=true then te σ3 H4 λv H5=>z7 (.ref D) [v] H5 λ_ H6=>∃m',m'<m/\W (i+1) m' σ3 H6 else ∃m',m'<m/\W (i+1) m' σ3 H4)):tJ (Hj ta) g tc te n js σ H Q:=h
theorem yL{K:jj}{σ:St}{n:Nat}(h:tl σ H λx H1=>∃a,x=.ref a/\(∃xs,SqL K H1 a xs)/\∀D,H1 D=none->∃W:Nat->Nat->St->Hp->Prop,(∃m,W 0 m (ua n js σ) (upd H1 D (.lst []))) /\
 ∀i m σ' H',W i m σ' H'->((Itl K a).stop i H'/\Q (.ref D) H')\/((Itl K a).go i H'/\∀x H2,(Itl K a).yld i H' x H2->g x σ' H2 λσ3 H3=>tc σ3 H3 λb H4 =>
  if b=true then te σ3 H4 λv H5=>z7 (.ref D) [v] H5 λ_ H6=>∃m',m'<m/\W (i+1) m' σ3 H6 else ∃m',m'<m/\W (i+1) m' σ3 H4)):tJ (GZ K tl) g tc te n js σ H Q:=h
theorem EJ{K:jj}{σ:St}{n:Nat}(h:tl σ H λx H1=>∃a,x=.ref a/\(∃xs,SqT K H1 a xs)/\∀D,H1 D=none->∃W:Nat->Nat->St->Hp->Prop,(∃m,W 0 m (ua n js σ) (upd H1 D (.lst []))) /\
 ∀i m σ' H',W i m σ' H'->((Itt K a).stop i H'/\Q (.ref D) H')\/((Itt K a).go i H'/\∀x H2,(Itt K a).yld i H' x H2->g x σ' H2 λσ3 H3=>tc σ3 H3 λb H4 =>
  if b=true then te σ3 H4 λv H5=>z7 (.ref D) [v] H5 λ_ H6=>∃m',m'<m/\W (i+1) m' σ3 H6 else ∃m',m'<m/\W (i+1) m' σ3 H4)):tJ (iTup K tl) g tc te n js σ H Q:=h
theorem i_all{B:Bool->Hp->Prop}{σ:St}(h:B true H):tAll σ H B:=h
theorem EU{K:jj}{p:Addr}{x:V}(h:H p=some (.tup ys))(fx:vX x=true)(fs:ys.all vX=true)(q:Q (.bl (!inV x ys)) H):rIn K true x (.ref p) H Q:=⟨p,ys,rfl,.inr (SqT.of h),fx,fs,q⟩
theorem Kz{K:jj}{p:Addr}{xs:List V}{i:Int}{v:V}(h:SqT K H p xs)(e:atI xs i=some v)(q:Q v H):rIxT K (.ref p) (.int i) H Q:=⟨p,xs,i,v,rfl,rfl,h,e,q⟩
theorem Jq{b:Addr}{x y z x' y' z':Int}(ha:SqT X.K H a [.int x,.int y,.int z])(hb:SqT X.K H b [.int x',.int y',.int z'])(q:Q (.bl (decide (x=x'/\y=y'/\z=z'))) H):rEqT X (.ref a) (.ref b) H Q:=by
 refine⟨a,b,_,_,_,0,rfl,rfl,cJ _,ha,hb,.cons (.int x x') (.cons (.int y y') (.cons (.int z z') .nil)),?_⟩;have e:([x==x',y==y',z==z']:List Bool).all id=decide (x=x'/\y=y'/\z=z'):=by rw[cP];simp
 rw[e];exact q
theorem En{σ:St}{E:Ends}{tb:TS}(h:ta σ H λvs H1=>∃i j:Int,vs=[.int i,.int j]/\(-(2 ^ 62)<=i/\i<2 ^ 62/\-(2 ^ 62)<=j/\j<2 ^ 62)/\∃W:Nat->Nat->St->Hp->Prop,(∃m,W 0 m σ H1)/\∀k m σ H,W k m σ H ->
 ((Itr i (j - i).toNat).stop k H/\E.nx σ H)\/((Itr i (j - i).toNat).go k H/\∃N:St->Hp->Prop,(∀σ' H',N σ' H'->∃m',m'<m/\W (k+1) m' σ' H')/\∀x H',(Itr i (j - i).toNat).yld k H x H'->g x σ H' λσ2 H2=>tb { E with nx:=N,ct:=N,bk:=E.nx } σ2 H2)):
 tFor (Iv ta) g tb E σ H:=h
end
variable{t:TGs}
section
variable{σ:St}{H:Hp}{K:jj}{R:St->Hp->Prop}
theorem F8{n:Nat}{xs:List V}(h:H a=some (.tup xs))(hn:xs.length=n)(q:t xs σ H R):gTup K n t (.ref a) σ H R:=⟨a,xs,rfl,SqT.of h,hn,q⟩
theorem i_gcons{t:TG}{u:TGs}{v:V}{r:List V}(q:t v σ H λσ' H'=>u r σ' H' R):Jr t u (v::r) σ H R:=⟨v,r,rfl,q⟩
theorem i_gnil(q:R σ H):gNil [] σ H R:=⟨rfl,q⟩
end
def TopI(mg:Str->Option Value)(x:Str)(i:Int):Prop:=∃u,mg x=some u/\RelV (.int i) u
def TopT(K:jj)(mg:Str->Option Value)(x:Str)(xs:List V):Prop:=∃a,mg x=some (.ref a)/\∀H:Hp,SqT K H a xs
variable{h:Heap}{mg:Str->Option Value}
theorem topT_mk{K:jj}{o:Obj}{its:Array Value}{n:Nat}{xs:List V}(X:K.In h)(G:h.Ns mainGlobals mg)(e:W.nsIn K mainGlobals x=some (some (.ref a)))(l:K.lookup a=some o)(c:o.cls=.type "tuple")(d:o.data=.seq its n)(z:its.size<=sizeLine)(v:Vals xs its.toList):TopT K mg x xs:=⟨a,d8 X G e,λ_=>.inr ⟨o,its,n,l,c,d,z,v⟩⟩
theorem topI_mk{K:jj}{i:Int}{t:Tok}(X:K.In h)(G:h.Ns mainGlobals mg)(e:W.nsIn K mainGlobals x=some (some (.int i t))):TopI mg x i:=⟨_,d8 X G e,⟨t,rfl⟩⟩
def WGo(Pv:St->Hp->Prop)(μ:St->Hp->Nat)(tb:TS)(D:Ends)(σ0:St)(H0:Hp)(σ:St)(H:Hp):Prop :=
 ∃N:St->Hp->Prop,(∀σ' H',N σ' H'->∃m',m'<μ σ0 H0/\(m'=μ σ' H'/\Pv σ' H'))/\tb { D with nx:=N,ct:=N,bk:=D.nx } σ H
variable{D:Ends}
theorem wgo{Pv:St->Hp->Prop}{μ:St->Hp->Nat}{tb:TS}{σ0:St}{H0:Hp}{σ:St}(h:tb { D with nx:=λσ' H'=>Pv σ' H'/\μ σ' H'<μ σ0 H0,ct:=λσ' H'=>Pv σ' H'/\μ σ' H'<μ σ0 H0,bk:=D.nx } σ H):WGo Pv μ tb D σ0 H0 σ H :=
 ⟨_,λ_ _ ⟨p,l⟩=>⟨_,l,rfl,p⟩,h⟩
theorem AG{c:TT}{tb:TS}{σ:St}(Pv:St->Hp->Prop)(μ:St->Hp->Nat)(h0:Pv σ H)(hs:∀σ H,Pv σ H->c σ H λb H1=>if b=true then WGo Pv μ tb D σ H σ H1 else D.nx σ H1):Cd c tb D σ H:=by refine⟨λm σ H=>m=μ σ H/\Pv σ H,⟨_,rfl,h0⟩,?_⟩;rintro m σ H ⟨rfl,p⟩;exact hs σ H p
theorem bl_q{Q:VK}{x y:Bool}(e:x=y)(q:Q (.bl y) H):Q (.bl x) H:=by rw[e];exact q
def JX:R2:=λx y H Q=>y=.non/\Q (.bl (!decide (x=.non))) H
theorem B8:OpR X (compareOp .IsNot) JX:=HZ
theorem i_notN{Q:VK}{x:V}(q:Q (.bl (!decide (x=.non))) H):JX x .non H Q:=⟨rfl,q⟩
theorem Ix{K:jj}{es:List Expr}{k:Nat}{n:Nat}(hK:X.K=K)(hc:X.calm=true)(h:PGs X es t)(hn:(assignEach es X.env).length=n:=by rfl)(hst:(assignEach es X.env).findIdx? (·.1)=none:=by rfl):PG X (.Tuple es k pos) (gTup K n t):=by subst hK;exact xZ hc h hn hst
def sqs:List Int:=[4,9,16,25,36,49,64,81]
def yF(n:Nat):List Int:=((List.range n).map λ(i:Nat)=>(2:Int)+i).filter λd=>!sqs.contains d
theorem wL(n:Nat):yF (n+1)=yF n++(if sqs.contains ((2:Int)+n) then [] else [(2:Int)+n]):=by unfold yF;rw[fi,aj,fj];congr 1;simp only[a6,dc,c9,List.filter_nil];cases sqs.contains ((2:Int)+n)<;>rfl
theorem Cf{n:Nat}(hn:n<=98){d:Int}(h:d∈yF n):Rt d:=by unfold yF at h;rw[eU,bV]at h;obtain⟨⟨i,hi,rfl⟩,hc⟩:=h;rw[ca]at hi;refine Lh ⟨by omega,by omega⟩ ?_;simp only[sqs,List.contains_cons,List.contains_nil,Bool.or_false,Bool.not_eq_true',Bool.or_eq_false_iff,beq_eq_false_iff_ne,ne_eq]at hc;exact hc
theorem tL:(yF 98).length=90:=by decide+kernel
theorem Hn(d:Int):inV (.int d) [.int 4,.int 9,.int 16,.int 25,.int 36,.int 49,.int 64,.int 81]=sqs.contains d:=by simp only[inV,eV,List.any_nil,eqV,sqs,List.contains_cons,List.contains_nil,Bool.or_false];simp only[BEq.comm (b:=d)]
theorem GN{xs:List Int}{i:Int}(h0:0<=i)(h1:i<xs.length):∃d∈xs,atI (xs.map V.int) i=some (.int d):=by
 have hi:i.toNat<xs.length:=by omega
 refine⟨xs[i.toNat],db hi,?_⟩;have e:=yl (xs:=xs.map V.int) (j:=i.toNat) (v:=.int xs[i.toNat]) (by rw[ao,ag hi];rfl);rw[show((i.toNat:Nat):Int)=i by omega]at e;exact e
end L2
namespace Bg
local macro_rules | `(⋯)=>`(by decide)
local macro_rules | `(!4)=>`(by omega)
variable{a d:Int}
theorem KB{b:Int}(h:Rt d)(z:¬ (a=0/\b=0)):a*a - d*b*b≠0:=λe=>z (wY h e)
theorem tE{b k:Int}(hk:k≠0)(h:a*k=b*k):a=b:=aK hk h
variable{x y z:Int}
theorem Fv(h1:1<=z)(g:g3 x y z=1):lA x y z=x/\lB x y z=y/\lN x y z=z:=by have:=yh (x:=x) (y:=y) (z:=z) (a:=x) (b:=y) (n:=z) h1 g (!4) rfl rfl;exact⟨this.1.symm,this.2.1.symm,this.2.2.symm⟩
variable{t:Int}
theorem xN{b:Int}(h1:1<=z)(g:Int.gcd x z=1)(hb:b≠0)(e:x*b=t*z):x=fT t b/\z=fB t b:=by
 refine Ic h1 (f_b hb) g (KW hb) ?_;have f1:=f_t (t:=t) (b:=b);generalize fT t b=u at*
 generalize fB t b=v at*
 refine aK hb ?_;grind
theorem vL{b:Int}(h:Int.gcd x a=1)(k:Int.gcd x b=1):Int.gcd x (a*b)=1:=by
 rw[bK]at*
 rw[cC];exact Nat.Coprime.mul_right h k
theorem uW{b:Int}(h:Int.gcd a x=1)(k:Int.gcd b x=1):Int.gcd (a*b) x=1:=by
 rw[dn]at*
 exact vL h k
theorem wG{b:Int}(h:Int.gcd x a=1)(hy:y∣x)(hb:b∣a):Int.gcd y b=1:=by
 have h1:((Int.gcd y b:Nat):Int)∣x:=bI (b7 ..) hy;have h2:((Int.gcd y b:Nat):Int)∣a:=bI (ce ..) hb;have h3:=eZ h1 h2;rw[h]at h3;have:=iP ⋯ h3;have h4:Int.gcd y b≠0:=λz=>by rw[z]at h3;exact absurd (Int.zero_dvd.mp h3) ⋯
 omega
theorem ym{b:Int}(h:1<=b):(0:Int)<(Int.gcd a b:Nat):=by have:=(Int.gcd_pos_iff (a:=a) (b:=b)).mpr (.inr (show b≠0 by omega));omega
theorem wc{b:Int}(ha:1<=a)(hb:0<b)(h:b∣a):1<=a / b:=by
 have e:=cv h;rcases iA (a / b) 1 with z|z
 .have:a / b*b<=0:=dA (!4) (!4);omega
 .exact z
theorem vi{b:Int}(h:1<=b):Int.gcd (a / (Int.gcd a b:Nat)) (b / (Int.gcd a b:Nat))=1:=Int.gcd_ediv_gcd_ediv_gcd (by have:=ym (a:=a) h;omega)
def plT(t b t' b':Int):Int:=t*(b' / (Int.gcd b b':Nat))+t'*(b / (Int.gcd b b':Nat))
variable{b' t':Int}
theorem Fi{b:Int}(hb:1<=b)(hb':1<=b')(g:Int.gcd t b=1)(g':Int.gcd t' b'=1): plT t b t' b' / (Int.gcd (plT t b t' b') (Int.gcd b b':Nat):Nat)=fT (t*b'+t'*b) (b*b')/\b / (Int.gcd b b':Nat)*(b' / (Int.gcd (plT t b t' b') (Int.gcd b b':Nat):Nat))=fB (t*b'+t'*b) (b*b'):=by
 have hs:=ym (a:=b) hb';have hsb:((Int.gcd b b':Nat):Int)∣b:=b7 ..;have hsb':((Int.gcd b b':Nat):Int)∣b':=ce ..;have hq:=vi (a:=b) hb';have htop:plT t b t' b'=t*(b' / (Int.gcd b b':Nat))+t'*(b / (Int.gcd b b':Nat)):=rfl;generalize ((Int.gcd b b':Nat):Int)=s at*
 have eb:=cv hsb;have eb':=cv hsb';have p1:=wc hb hs hsb;have p2:=wc hb' hs hsb';have c1:Int.gcd t (b / s)=1:=wG g (eR _) ⟨s,eb.symm⟩;have c2:Int.gcd t' (b' / s)=1:=wG g' (eR _) ⟨s,eb'.symm⟩;generalize b / s=B at*
 generalize b' / s=B' at*
 generalize plT t b t' b'=T at*
 have hl:=ym (a:=T) (b:=s) (!4);have hlT:((Int.gcd T s:Nat):Int)∣T:=b7 ..;have hls:((Int.gcd T s:Nat):Int)∣s:=ce ..;have hq2:=vi (a:=T) (b:=s) (!4);generalize ((Int.gcd T s:Nat):Int)=l at*
 have eT:=cv hlT;have es:=cv hls;have p3:=wc (!4) hl hls;have e1:b' / l=s / l*B':=by refine aK (show l≠0 by omega) ?_;rw[cv (bI hls hsb'),<-eb'];grind
 rw[e1];generalize T / l=U at*
 generalize s / l=S at*
 have d1:Int.gcd T B=1:=by rw[htop,av t' B,gS];exact uW c1 (by rw[dn];exact hq)
 have d2:Int.gcd T B'=1:=by rw[htop,gJ,av t B',gS];exact uW c2 hq
 have u1:Int.gcd U B=1:=wG d1 ⟨l,eT.symm⟩ (eR _);have u2:Int.gcd U B'=1:=wG d2 ⟨l,eT.symm⟩ (eR _);have pos:0<B*(S*B'):=aM (!4) (aM (!4) (!4));refine xN (!4) (vL u1 (vL hq2 u2)) (aI (!4) (!4)) ?_;subst eb eb' eT es;clear hs hsb hsb' hq p1 p2 c1 c2 hl hlT hls hq2 p3 e1 d1 d2 u1 u2 pos hb hb' g g';grind
theorem DK{b:Int}(hb:1<=b)(hb':1<=b')(g:Int.gcd t b=1)(g':Int.gcd t' b'=1): t / (Int.gcd t b':Nat)*(t' / (Int.gcd t' b:Nat))=fT (t*t') (b*b')/\b / (Int.gcd t' b:Nat)*(b' / (Int.gcd t b':Nat))=fB (t*t') (b*b'):=by
 have hf:=ym (a:=t) hb';have hs:=ym (a:=t') hb;have f1:((Int.gcd t b':Nat):Int)∣t:=b7 ..;have f2:((Int.gcd t b':Nat):Int)∣b':=ce ..;have s1:((Int.gcd t' b:Nat):Int)∣t':=b7 ..;have s2:((Int.gcd t' b:Nat):Int)∣b:=ce ..;have q1:=vi (a:=t) hb';have q2:=vi (a:=t') hb;generalize ((Int.gcd t b':Nat):Int)=f at*
 generalize ((Int.gcd t' b:Nat):Int)=s at*
 have et:=cv f1;have eb':=cv f2;have et':=cv s1;have eb:=cv s2;have p1:=wc hb hs s2;have p2:=wc hb' hf f2;have c1:Int.gcd (t / f) (b / s)=1:=wG g ⟨f,et.symm⟩ ⟨s,eb.symm⟩;have c2:Int.gcd (t' / s) (b' / f)=1:=wG g' ⟨s,et'.symm⟩ ⟨f,eb'.symm⟩;generalize t / f=T at*
 generalize t' / s=T' at*
 generalize b / s=B at*
 generalize b' / f=B' at*
 have pos:0<B*B':=aM (!4) (!4);refine xN (!4) (uW (vL c1 q1) (vL q2 c2)) (aI (!4) (!4)) ?_;subst et eb et' eb';clear hf hs f1 f2 s1 s2 q1 q2 p1 p2 c1 c2 pos hb hb' g g';grind
theorem Ja{k:Nat}{b:Int}(h:Bd k t):Bd k (fT t b):=h.fdiv _
theorem J3{k:Nat}{b:Int}(h:Bd k b):Bd k (fB t b):=h.fdiv _
theorem den_pos(q:Rat):(1:Int)<=(q.den:Int):=by have:=q.den_pos;omega
theorem xg(q:Rat):(q.den:Int)≠0:=by have:=q.den_pos;omega
theorem red(q:Rat):Int.gcd q.num q.den=1:=by have:=q.reduced;rw[bK,cr];exact this
theorem we(q:Rat):Rat.divInt q.num q.den=q:=dR q
theorem rf{b:Int}(hb:b≠0):fT t b=(Rat.divInt t b).num/\fB t b=((Rat.divInt t b).den:Int):=by
 have e:(Rat.divInt t b).num*b=t*((Rat.divInt t b).den:Int):=by have:=we (Rat.divInt t b);exact(bP (xg _) hb).mp this
 have:=xN (den_pos (Rat.divInt t b)) (red _) hb e;exact⟨this.1.symm,this.2.symm⟩
theorem AX{b:Int}(hb:b≠0)(hb':b'≠0):Rat.divInt (t*b'+t'*b) (b*b')=Rat.divInt t b+Rat.divInt t' b':=(Rat.divInt_add_divInt t t' hb hb').symm
theorem xt{b:Int}:Rat.divInt (t*t') (b*b')=Rat.divInt t b*Rat.divInt t' b':=(Rat.divInt_mul_divInt t t').symm
theorem Ls(q q':Rat):Rat.divInt (q.num*q'.den+q'.num*q.den) (q.den*q'.den)=q+q':=by rw[AX (xg q) (xg q'),we,we]
theorem JG(q q':Rat):Rat.divInt (q.num*q'.num) (q.den*q'.den)=q*q':=by rw[xt,we,we]
def Bq(k:Nat)(q:Rat):Prop:=Bd k q.num/\Bd k (q.den:Int)
theorem Bq.mono{j k:Nat}{q:Rat}(h:Bq j q)(l:j<=k):Bq k q:=⟨h.1.mono l,h.2.mono l⟩
theorem Bq.neg{k:Nat}{q:Rat}(h:Bq k q):Bq k (-q):=⟨by rw[Rat.neg_num];exact h.1.neg,by rw[Rat.neg_den];exact h.2⟩
theorem GA{k:Nat}{b:Int}(hb:b≠0)(h1:Bd k t)(h2:Bd k b):Bq k (Rat.divInt t b):=⟨by rw[<-(rf hb).1];exact Ja h1,by rw[<-(rf hb).2];exact J3 h2⟩
theorem F5(q q':Rat):plT q.num q.den q'.num q'.den / (Int.gcd (plT q.num q.den q'.num q'.den) (Int.gcd q.den q'.den:Nat):Nat)=(q+q').num/\(q.den:Int) / (Int.gcd q.den q'.den:Nat)*((q'.den:Int) / (Int.gcd (plT q.num q.den q'.num q'.den) (Int.gcd q.den q'.den:Nat):Nat))=((q+q').den:Int):=by have h:=Fi (den_pos q) (den_pos q') (red q) (red q');have e:=rf (t:=q.num*q'.den+q'.num*q.den) (b:=q.den*q'.den) (aI (xg _) (xg _));rw[Ls]at e;exact⟨h.1.trans e.1,h.2.trans e.2⟩
theorem Dp(q q':Rat):q.num / (Int.gcd q.num q'.den:Nat)*(q'.num / (Int.gcd q'.num q.den:Nat))=(q*q').num/\(q.den:Int) / (Int.gcd q'.num q.den:Nat)*((q'.den:Int) / (Int.gcd q.num q'.den:Nat))=((q*q').den:Int):=by have h:=DK (den_pos q) (den_pos q') (red q) (red q');have e:=rf (t:=q.num*q'.num) (b:=q.den*q'.den) (aI (xg _) (xg _));rw[JG]at e;exact⟨h.1.trans e.1,h.2.trans e.2⟩
theorem BN{k:Nat}{b:Int}(hb:b≠0)(h:Bd k b):Bd k ((Int.gcd a b:Nat):Int):=h.of_le (by have h1:=cu.mpr (ce a b);exact iO (!4) h1)
def Br(j k:Nat)(q:Rat):Prop:=Bd j q.num/\Bd k (q.den:Int)
theorem Br.mono{j k j' k':Nat}{q:Rat}(h:Br j k q)(l:j<=j')(l':k<=k'):Br j' k' q:=⟨h.1.mono l,h.2.mono l'⟩
theorem Br.bq{j k n:Nat}{q:Rat}(h:Br j k q)(l:j<=n)(l':k<=n):Bq n q:=⟨h.1.mono l,h.2.mono l'⟩
theorem xI{j k:Nat}{b:Int}(hb:b≠0)(h1:Bd j t)(h2:Bd k b):Br j k (Rat.divInt t b):=⟨by rw[<-(rf hb).1];exact Ja h1,by rw[<-(rf hb).2];exact J3 h2⟩
theorem Br.mul{j k j' k':Nat}{q q':Rat}(h:Br j k q)(h':Br j' k' q'):Br (j+j') (k+k') (q*q'):=by rw[<-JG];exact xI (aI (xg _) (xg _)) (h.1.mul h'.1) (h.2.mul h'.2)
structure Tb where
 a:Rat
 b:Rat
 c:Rat
 e:Rat
theorem Tb.ext{s t:Tb}(h1:s.a=t.a)(h2:s.b=t.b)(h3:s.c=t.c)(h4:s.e=t.e):s=t:=by
 cases s
 cases t
 simp_all
def Tb.zero:Tb:=⟨0,0,0,0⟩
def Tb.add(s t:Tb):Tb:=⟨s.a+t.a,s.b+t.b,s.c+t.c,s.e+t.e⟩
def Tb.sub(s t:Tb):Tb:=⟨s.a - t.a,s.b - t.b,s.c - t.c,s.e - t.e⟩
def Tb.tr(s:Tb):Tb:=⟨s.a,s.c,s.b,s.e⟩
structure Tb.Bt(j k:Nat)(t:Tb):Prop where
 a:Br j k t.a
 b:Br j k t.b
 c:Br j k t.c
 e:Br j k t.e
theorem Tb.Bt.mono{j k j' k':Nat}{t:Tb}(h:t.Bt j k)(l:j<=j')(l':k<=k'):t.Bt j' k':=⟨h.a.mono l l',h.b.mono l l',h.c.mono l l',h.e.mono l l'⟩
theorem Tb.add_comm(s t:Tb):s.add t=t.add s:=Tb.ext (gL ..) (gL ..) (gL ..) (gL ..)
theorem Tb.add_assoc(s t u:Tb):(s.add t).add u=s.add (t.add u):=Tb.ext (ib ..) (ib ..) (ib ..) (ib ..)
theorem Tb.zero_add(t:Tb):Tb.zero.add t=t:=Tb.ext (iC _) (iC _) (iC _) (iC _)
structure Sd where
 x:Int
 y:Int
 z:Int
structure Sd.Ok(d:Int)(s:Sd):Prop where
 z1:1<=s.z
 g:g3 s.x s.y s.z=1
 bx:Bd 120 s.x
 bY:Bd 120 s.y
 bz:Bd 30 s.z
 up:sgn d s.x s.y=1
def Sd.p(s:Sd):Rat:=Rat.divInt s.x s.z
def Sd.q(s:Sd):Rat:=Rat.divInt s.y s.z
structure Bo where
 w:Sd
 h:Sd
def Bo.Ok(d:Int)(b:Bo):Prop:=b.w.Ok d/\b.h.Ok d
def Bo.tb(b:Bo):Tb:=⟨b.w.p*b.h.p,b.w.p*b.h.q,b.w.q*b.h.p,b.w.q*b.h.q⟩
def tbs:List Bo->Tb
 |[]=>Tb.zero
 |b::l=>b.tb.add (tbs l)
theorem yU(l m:List Bo):tbs (l++m)=(tbs l).add (tbs m):=by
 induction l with
 |nil=>exact(Tb.zero_add _).symm
 |cons b l ih =>
  show b.tb.add (tbs (l++m))=(b.tb.add (tbs l)).add (tbs m);rw[ih,Tb.add_assoc]
theorem wA(b:Bo):tbs [b]=b.tb:=by show b.tb.add Tb.zero=b.tb;rw[Tb.add_comm,Tb.zero_add]
theorem FH(l:List Bo)(b:Bo):tbs (l++[b])=(tbs l).add b.tb:=by rw[yU,wA]
structure Ms where
 f:Rat
 g:Rat
def Ms.Ok(m:Ms):Prop:=Br 90 10 m.f/\Br 90 10 m.g
def Sd.ms(s:Sd):Ms:=⟨s.p,s.q⟩
theorem Fh{n p q:Int}(hR:Rt d)(hn:0<n)(h:sgn d p q=1):sgn d (n+p) q=1:=by
 have d2:=hR.lo;by_cases hp:0<=p
 .by_cases hq:0<=q
  .rw[wO (!4) hq,iU (!4)]
  .have p0:0<p:=by
    rcases Int.lt_or_eq_of_le hp with z|z
    .exact z
    .subst z;rw[Am (!4) (!4) (!4)]at h;exact absurd h ⋯
   rw[BG p0 (!4)]at h;rw[BG (!4) (!4)];have h1:d*q*q<p*p:=by
    by_cases z:d*q*q<p*p
    .exact z
    .rw[iV z]at h;exact absurd h ⋯
   have h2:p*p<=(n+p)*(n+p):=dq (!4) (!4) (!4) (!4);rw[iU (!4)]
 .by_cases hq:0<q
  .rw[BI (!4) hq]at h;have h1:p*p<d*q*q:=by
    by_cases z:p*p<d*q*q
    .exact z
    .rw[iV z]at h;exact absurd h ⋯
   by_cases hs:0<=n+p
   .rw[wO hs (!4),iU (!4)]
   .rw[BI (!4) hq];have h2:(-(n+p))*(-(n+p))<=(-p)*(-p):=dq (!4) (!4) (!4) (!4);rw[cR,cR]at h2;rw[iU (!4)]
  .rw[Am (!4) (!4) (!4)]at h;exact absurd h ⋯
variable{a':Int}
theorem vN{b:Int}(hR:Rt d)(h:sgn d a b=1)(h':sgn d a' b'=1):sgn d (a+a') (b+b')=1:=by
 have hN:a*a - d*b*b≠0:=by refine KB hR λz=>?_;rw[z.1,z.2,zO]at h;exact absurd h ⋯
 obtain⟨k,w,v,hk,e1,e2,e3,e4⟩:∃k w v:Int,0<k/\k*a'=w*a+d*v*b/\k*b'=w*b+v*a/\k*(a+a')=(k+w)*a+d*v*b/\k*(b+b')=(k+w)*b+v*a:=by
  rcases Int.lt_or_gt_of_ne hN with z|z
  .refine⟨-(a*a - d*b*b),-(a'*a - d*b'*b),-(b'*a - a'*b),by omega,?_,?_,?_,?_⟩<;>grind
  .refine⟨a*a - d*b*b,a'*a - d*b'*b,b'*a - a'*b,z,?_,?_,?_,?_⟩<;>grind
 have s1:=yE hR hk a' b';rw[e1,e2,uE hR,h,dg,h']at s1;have s2:=Fh hR hk s1;have s3:=yE hR hk (a+a') (b+b');rw[e3,e4,uE hR,h,s2]at s3;rw[<-s3];rfl
def Tb.A(d:Int)(t:Tb):Rat:=t.a+(d:Rat)*t.e
def Tb.B(t:Tb):Rat:=t.b+t.c
variable{e:Int}
theorem z8{v:Int}(h:e∣x*v)(g:Int.gcd e v=1):e∣x:=by
 have h1:e∣x*v:=h;have h2:e∣x*e:=⟨x,av ..⟩
 have h3:e∣(Int.gcd (x*e) (x*v):Nat):=eZ h2 h1;rw[gf,g,h7]at h3;exact Int.dvd_natAbs.mp h3
theorem yT{b:Int}(h:∀e:Int,e∣a->e∣b->e∣1):Int.gcd a b=1:=by have:=h (Int.gcd a b:Nat) (b7 ..) (ce ..);have h2:=cu.mpr this;simpa using h2
theorem ww{b:Int}(h:Int.gcd a b=1)(ha:e∣a)(hb:e∣b):e∣1:=by have:=eZ ha hb;rw[h]at this;exact this
theorem xp{b:Int}(h:Int.gcd a b=1)(ha:e∣a):Int.gcd e b=1 :=
 yT λ_ h1 h2=>ww h (bI h1 ha) h2
variable{c:Int}
theorem vJ{b:Int}(h1:Int.gcd a b=1)(h2:Int.gcd a c=1):Int.gcd a (b*c)=1 :=
 yT λe ha hb=>by have e1:Int.gcd e c=1:=xp h2 ha;exact ww h1 ha (z8 hb e1)
variable{z':Int}
theorem Db(h1:1<=z)(h2:1<=z'):∃s u v:Int,s=(Int.gcd z z':Nat)/\1<=s/\1<=u/\1<=v/\z=s*u/\z'=s*v/\z.fdiv s=u/\z'.fdiv s=v/\Int.gcd u v=1:=by
 have d1:((Int.gcd z z':Nat):Int)∣z:=b7 ..;have d2:((Int.gcd z z':Nat):Int)∣z':=ce ..;have hp:0<Int.gcd z z':=cZ _ (!4);obtain⟨u,hu⟩:=d1;obtain⟨v,hv⟩:=d2;have hs:(1:Int)<=(Int.gcd z z':Nat):=by omega
 have hg:Int.gcd u v=1:=by
  have e:Int.gcd z z'=Int.gcd ((Int.gcd z z':Nat)*u) ((Int.gcd z z':Nat)*v):=by rw[<-hu,<-hv]
  rw[gf,cr]at e;exact(em hp (by rw[h7];exact e)).symm
 generalize ((Int.gcd z z':Nat):Int)=s at*
 subst hu;subst hv;refine⟨s,u,v,rfl,hs,?_,?_,rfl,rfl,de _ (!4),de _ (!4),hg⟩
 .refine gq.mp λq=>?_;have:=cb (show(0:Int)<=s by omega) (show u<=0 by omega);omega
 .refine gq.mp λq=>?_;have:=cb (show(0:Int)<=s by omega) (show v<=0 by omega);omega
def aS(z z':Int):Int:=(Int.gcd z z':Nat)
def aA(x z x' z':Int):Int:=x*z'.fdiv (aS z z')+x'*z.fdiv (aS z z')
def aL(x y z x' y' z':Int):Int:=(Int.gcd (Int.gcd (aS z z') (aA x z x' z'):Nat) (aA y z y' z'):Nat)
theorem Hy{x' y':Int}(h1:1<=z)(h2:1<=z')(g1:g3 x y z=1)(g2:g3 x' y' z'=1): 1<=aS z z'/\1<=aL x y z x' y' z'/\(aA x z x' z').fdiv (aL x y z x' y' z')=lA (x*z'+x'*z) (y*z'+y'*z) (z*z')/\(aA y z y' z').fdiv (aL x y z x' y' z')=lB (x*z'+x'*z) (y*z'+y'*z) (z*z') /\ z.fdiv (aS z z')*z'.fdiv (aL x y z x' y' z')=lN (x*z'+x'*z) (y*z'+y'*z) (z*z'):=by
 obtain⟨s,u,v,hs,s1,u1,v1,ez,ez',fu,fv,guv⟩:=Db h1 h2;have eS:aS z z'=s:=hs.symm;have eA:∀p q,aA p z q z'=p*v+q*u:=λp q=>by unfold aA;rw[eS,fu,fv]
 have eL:aL x y z x' y' z'=(Int.gcd (Int.gcd s (x*v+x'*u):Nat) (y*v+y'*u):Nat):=by unfold aL;rw[eS,eA,eA]
 rw[eS,eA,eA,fu];generalize hl:aL x y z x' y' z'=l at*
 generalize ha:x*v+x'*u=a at*
 generalize hb:y*v+y'*u=b at*
 have l1:1<=l:=by
  have:0<Int.gcd (Int.gcd s a:Nat) b:=cZ _ (by have:=cZ a (show s≠0 by omega);omega)
  omega
 have dls:l∣s:=by rw[eL];exact bI (b7 ..) (b7 ..)
 have dla:l∣a:=by rw[eL];exact bI (b7 ..) (ce ..)
 have dlb:l∣b:=by rw[eL];exact ce ..
 obtain⟨m,hm⟩:=dls;obtain⟨X,hX⟩:=dla;obtain⟨Y,hY⟩:=dlb;have l0:l≠0:=by omega
 have fX:a.fdiv l=X:=by rw[hX];exact de _ l0
 have fY:b.fdiv l=Y:=by rw[hY];exact de _ l0
 have fZ:z'.fdiv l=m*v:=by rw[ez',hm,ar];exact de _ l0
 rw[fX,fY,fZ];have m1:1<=m:=by refine gq.mp λq=>?_;have:=cb (show(0:Int)<=l by omega) (show m<=0 by omega);omega
 refine⟨s1,l1,?_⟩;have gm:g3 X Y m=1:=by
  have e:(g3 (l*X) (l*Y) (l*m):Int)=l:=by unfold g3;rw[<-hX,<-hY,<-hm,<-eL]
  rw[Gi]at e;have e2:l.natAbs*g3 X Y m=l.natAbs*1:=by omega
  exact em (!4) e2
 have cop:∀e:Int,e∣X->e∣Y->Int.gcd e u=1/\Int.gcd e v=1/\Int.gcd e m=1:=λe eX eY=>by
  have ea:e∣a:=by rw[hX];exact bI eX (cT ..)
  have eb:e∣b:=by rw[hY];exact bI eY (cT ..)
  refine⟨yT λf f1 f2=>?_,yT λf f1 f2=>?_,yT λf f1 f2=>?_⟩
  .have fv1:Int.gcd f v=1:=xp guv f2;have k1:f∣x*v:=by
    have:=iN (bI f1 ea) (bI f2 (cT x' u));rw[<-ha,fk]at this;exact this
   have k2:f∣y*v:=by have:=iN (bI f1 eb) (bI f2 (cT y' u));rw[<-hb,fk]at this;exact this
   have:=BM (z8 k1 fv1) (z8 k2 fv1) (bI f2 (show u∣z by rw[ez];exact cT ..));rw[g1]at this;exact this
  .have fu1:Int.gcd f u=1:=xp (dn u v ▸ guv) f2;have k1:f∣x'*u:=by
    have:=iN (bI f1 ea) (bI f2 (cT x v));rw[<-ha,gJ,fk]at this;exact this
   have k2:f∣y'*u:=by have:=iN (bI f1 eb) (bI f2 (cT y v));rw[<-hb,gJ,fk]at this;exact this
   have:=BM (z8 k1 fu1) (z8 k2 fu1) (bI f2 (show v∣z' by rw[ez'];exact cT ..));rw[g2]at this;exact this
  .have:=BM (bI f1 eX) (bI f1 eY) f2;rw[gm]at this;exact this
 have gX:g3 X Y (u*(m*v))=1:=by have dX:=g3_a X Y (u*(m*v));have dY:=g3_b X Y (u*(m*v));have dZ:=g3_n X Y (u*(m*v));obtain⟨c1,c2,c3⟩:=cop _ dX dY;have c4:=vJ c1 (vJ c3 c2);have:=ww c4 (eR _) dZ;have:=cu.mpr this;simpa using this
 refine yh ?_ gX (aI (!4) (!4)) ?_ ?_
 .exact aM (!4) (aM (!4) (!4))
 .subst ez ez';refine eJ l0 ?_;clear cop gX gm eL hl eA hs fu fv fX fY fZ guv g1 g2;have e1:l*(X*(s*u*(s*v)))=a*(s*u*(s*v)):=by rw[hX,ar l X]
  have e2:l*((x*(s*v)+x'*(s*u))*(u*(m*v)))=(x*v+x'*u)*s*(u*(l*m*v)):=by grind
  rw[e1,e2,<-hm,ha];grind
 .subst ez ez';refine eJ l0 ?_;clear cop gX gm eL hl eA hs fu fv fX fY fZ guv g1 g2;have e1:l*(Y*(s*u*(s*v)))=b*(s*u*(s*v)):=by rw[hY,ar l Y]
  have e2:l*((y*(s*v)+y'*(s*u))*(u*(m*v)))=(y*v+y'*u)*s*(u*(l*m*v)):=by grind
  rw[e1,e2,<-hm,hb];grind
theorem uI{k:Nat}(h:z≠0)(hb:Bd k z):Bd k ((Int.gcd z a:Nat):Int):=hb.of_le (by rw[cr];exact iO (!4) (by simpa using cu.mpr (b7 z a)))
theorem JC(x y z:Int):g3 (-x) (-y) z=g3 x y z:=by unfold g3;rw[Int.gcd_neg,Int.gcd_neg]
theorem Dg{b n n':Int}(hn:n≠0)(hn':n'≠0)(ea:a*n'=a'*n)(eb:b*n'=b'*n):lA a b n=lA a' b' n'/\lB a b n=lB a' b' n'/\lN a b n=lN a' b' n':=by
 refine yh (l_n hn) (xj hn) hn' ?_ ?_
 .have e:=l_a (a:=a) (b:=b) (n:=n);refine aK hn ?_;generalize lA a b n=u at*
  generalize lN a b n=v at*
  have h1:u*n'*n=u*n*n':=by rw[ar,av n',ar]
  have h2:a'*v*n=a'*n*v:=by rw[ar,av v,ar]
  rw[h1,h2,e,<-ea,ar,av v,ar]
 .have e:=l_b (a:=a) (b:=b) (n:=n);refine aK hn ?_;generalize lB a b n=u at*
  generalize lN a b n=v at*
  have h1:u*n'*n=u*n*n':=by rw[ar,av n',ar]
  have h2:b'*v*n=b'*n*v:=by rw[ar,av v,ar]
  rw[h1,h2,e,<-eb,ar,av v,ar]
structure B4 where
 a:Int
 b:Int
 c:Int
 e:Int
def B4.nx(d:Int)(s:B4):B4:=if 0<sgn d (s.a - s.c) (s.b - s.e) then ⟨s.a - s.c,s.b - s.e,s.c,s.e⟩ else ⟨s.a,s.b,s.c - s.a,s.e - s.b⟩
def b4:B4:=⟨0,1,1,0⟩
structure GB(d:Int)(k:Nat)(s:B4):Prop where
 det:s.a*s.e - s.b*s.c=1\/s.a*s.e - s.b*s.c=-1
 p1:sgn d s.a s.b=1
 q1:sgn d s.c s.e=1
 ba:Bd k s.a
 bb:Bd k s.b
 bc:Bd k s.c
 be:Bd k s.e
theorem GB.mono{d:Int}{j k:Nat}{s:B4}(g:GB d j s)(l:j<=k):GB d k s:=⟨g.det,g.p1,g.q1,g.ba.mono l,g.bb.mono l,g.bc.mono l,g.be.mono l⟩
theorem w8(d:Int):GB d 1 b4:=⟨.inr ⋯,by rw[show b4.a=0 from rfl,show b4.b=1 from rfl,wO ⋯ ⋯];rfl,by rw[show b4.c=1 from rfl,show b4.e=0 from rfl,wO ⋯ ⋯];rfl,by decide,by decide,by decide,by decide⟩
theorem GB.next{k:Nat}{s:B4}(hR:Rt d)(g:GB d k s):GB d (k+1) (s.nx d):=by
 obtain⟨a,b,c,e⟩:=s;obtain⟨det,p1,q1,ba,bb,bc,be⟩:=g;simp only at*
 have key:sgn d (a - c) (b - e)=1\/sgn d (a - c) (b - e)=-1:=by
  rcases sgn_tri hR (a - c) (b - e) with h|h|⟨h1,h2⟩
  .exact .inl h
  .exact .inr h
  .have e1:a=c:=by omega
   have e2:b=e:=by omega
   subst e1;subst e2;have:a*b - b*a=0:=by rw[av];omega
   omega
 unfold B4.nx;simp only;by_cases z:0<sgn d (a - c) (b - e)
 .rw[iU z];refine⟨?_,by show sgn d (a - c) (b - e)=1;omega,q1,ba.sub bc,bb.sub be,bc.mono (!4),be.mono (!4)⟩;show(a - c)*e - (b - e)*c=1\/(a - c)*e - (b - e)*c=-1;have:(a - c)*e - (b - e)*c=a*e - b*c:=by rw[hW,hW,av e c];omega
  omega
 .rw[iV z];refine⟨?_,p1,?_,ba.mono (!4),bb.mono (!4),bc.sub ba,be.sub bb⟩
  .show a*(e - b) - b*(c - a)=1\/a*(e - b) - b*(c - a)=-1;have:a*(e - b) - b*(c - a)=a*e - b*c:=by rw[fG,fG,av b a];omega
   omega
  .show sgn d (c - a) (e - b)=1;have:=xT hR (a - c) (b - e);rw[show -(a - c)=c - a by omega,show -(b - e)=e - b by omega]at this;omega
theorem xC{N p0 p2 q0 q2:Int}(h1:p0*N=a*p2)(h2:q0*N=c*q2):N*(p0*q2 - q0*p2)=p2*q2*(a - c):=by
 have e1:N*(p0*q2)=p2*q2*a:=by rw[<-ar,av N,h1,av a,ar,ar,av a]
 have e2:N*(q0*p2)=p2*q2*c:=by rw[<-ar,av N,h2,av c,ar,av c,<-ar,av q2]
 rw[fG,fG,e1,e2]
theorem Fo{b N:Int}(hR:Rt d)(hN:1<=N):sgn d (lA a b N*lN c e N - lA c e N*lN a b N) (lB a b N*lN c e N - lB c e N*lN a b N)=sgn d (a - c) (b - e):=by
 have n0:N≠0:=by omega
 refine xz hR (k:=N) (m:=lN a b N*lN c e N) (!4) (aM (l_n n0) (l_n n0)) ?_ ?_
 .exact xC l_a l_a
 .exact xC l_b l_b
theorem BA{b N:Int}(hN:1<=N):lA (lA a b N*lN c e N - lA c e N*lN a b N) (lB a b N*lN c e N - lB c e N*lN a b N) (lN a b N*lN c e N)=lA (a - c) (b - e) N/\lB (lA a b N*lN c e N - lA c e N*lN a b N) (lB a b N*lN c e N - lB c e N*lN a b N) (lN a b N*lN c e N)=lB (a - c) (b - e) N/\lN (lA a b N*lN c e N - lA c e N*lN a b N) (lB a b N*lN c e N - lB c e N*lN a b N) (lN a b N*lN c e N)=lN (a - c) (b - e) N:=by
 have n0:N≠0:=by omega
 have h1:=l_n (a:=a) (b:=b) n0;have h2:=l_n (a:=c) (b:=e) n0;refine Dg (aI (!4) (!4)) n0 ?_ ?_
 .rw[av,xC l_a l_a,av]
 .rw[av,xC l_b l_b,av]
theorem ve(x y z w:Int):x*y+-z*w=x*y - z*w:=by rw[d5];omega
theorem AM{b N:Int}:(lA a b N*lB c e N - lB a b N*lA c e N)*N*N=lN a b N*lN c e N*(a*e - b*c):=by
 have h1:=l_a (a:=a) (b:=b) (n:=N);have h2:=l_b (a:=a) (b:=b) (n:=N);have h3:=l_a (a:=c) (b:=e) (n:=N);have h4:=l_b (a:=c) (b:=e) (n:=N);generalize lA a b N=p0 at*
 generalize lB a b N=p1 at*
 generalize lN a b N=p2 at*
 generalize lA c e N=q0 at*
 generalize lB c e N=q1 at*
 generalize lN c e N=q2 at*
 calc (p0*q1 - p1*q0)*N*N=(p0*N)*(q1*N) - (p1*N)*(q0*N):=by grind
  _=(a*p2)*(e*q2) - (b*p2)*(c*q2):=by rw[h1,h2,h3,h4]
  _=p2*q2*(a*e - b*c):=by grind
theorem yC{b N:Int}(hR:Rt d)(hN:1<=N):sgn d (lA a b N) (lB a b N)=sgn d a b:=by
 have n0:N≠0:=by omega
 have h1:=l_n (a:=a) (b:=b) n0;refine xz hR (k:=N) (m:=lN a b N) (!4) (!4) ?_ ?_
 .rw[av,l_a,av]
 .rw[av,l_b,av]
def B4.det(s:B4):Int:=s.a*s.e - s.b*s.c
def B4.i(s:B4)(x y:Int):Int:=s.det*(x*s.e - y*s.c)
def B4.j(s:B4)(x y:Int):Int:=s.det*(s.a*y - s.b*x)
theorem GI{k:Nat}{s:B4}(g:GB d k s):s.det*s.det=1:=by unfold B4.det;rcases g.det with h|h<;>rw[h]<;>decide
theorem AF{k:Nat}{s:B4}(g:GB d k s)(x y:Int):s.i x y*s.a+s.j x y*s.c=x/\s.i x y*s.b+s.j x y*s.e=y:=by
 have h:=GI g;unfold B4.i B4.j B4.det at*
 generalize s.a=a at*
 generalize s.b=b at*
 generalize s.c=c at*
 generalize s.e=e at*
 clear g;constructor
 .have:(a*e - b*c)*(x*e - y*c)*a+(a*e - b*c)*(a*y - b*x)*c=(a*e - b*c)*(a*e - b*c)*x:=by grind
  rw[this,h,gA]
 .have:(a*e - b*c)*(x*e - y*c)*b+(a*e - b*c)*(a*y - b*x)*e=(a*e - b*c)*(a*e - b*c)*y:=by grind
  rw[this,h,gA]
theorem GS(d:Int)(s:B4):(s.nx d).det=s.det:=by unfold B4.nx;split<;>unfold B4.det<;>dsimp only<;>grind
theorem Gu(d:Int)(s:B4)(x y:Int):(0<sgn d (s.a - s.c) (s.b - s.e)->(s.nx d).i x y=s.i x y/\(s.nx d).j x y=s.i x y+s.j x y)/\(¬ 0<sgn d (s.a - s.c) (s.b - s.e)->(s.nx d).i x y=s.i x y+s.j x y/\(s.nx d).j x y=s.j x y):=by
 have h:=GS d s;constructor
 .intro z;unfold B4.i B4.j;rw[h];generalize s.det=D;unfold B4.nx;rw[iU z];dsimp only;clear h z;grind
 .intro z;unfold B4.i B4.j;rw[h];generalize s.det=D;unfold B4.nx;rw[iV z];dsimp only;clear h z;grind
theorem EH{b q:Int}(hb:b≠0)(h:t=q*b):t.fdiv b=q:=by rw[h];exact Int.mul_fdiv_cancel _ hb
theorem Ld{k:Nat}{s:B4}{N:Int}(g:GB d k s)(hN:1<=N): lN x y N*(lA s.a s.b N*lB s.c s.e N - lB s.a s.b N*lA s.c s.e N)≠0 /\ ((lA x y N*lB s.c s.e N - lB x y N*lA s.c s.e N)*lN s.a s.b N).fdiv (lN x y N*(lA s.a s.b N*lB s.c s.e N - lB s.a s.b N*lA s.c s.e N))=s.i x y /\ ((lA s.a s.b N*lB x y N - lB s.a s.b N*lA x y N)*lN s.c s.e N).fdiv (lN x y N*(lA s.a s.b N*lB s.c s.e N - lB s.a s.b N*lA s.c s.e N))=s.j x y:=by
 have n0:N≠0:=by omega
 have z1:=l_n (a:=s.a) (b:=s.b) n0;have z2:=l_n (a:=s.c) (b:=s.e) n0;have z3:=l_n (a:=x) (b:=y) n0;have D:=AM (a:=s.a) (b:=s.b) (c:=s.c) (e:=s.e) (N:=N);have D1:=AM (a:=x) (b:=y) (c:=s.c) (e:=s.e) (N:=N);have D2:=AM (a:=s.a) (b:=s.b) (c:=x) (e:=y) (N:=N);have sq:=GI g;have hd:s.a*s.e - s.b*s.c=s.det:=rfl;have hi:s.i x y=s.det*(x*s.e - y*s.c):=rfl;have hj:s.j x y=s.det*(s.a*y - s.b*x):=rfl;rw[hd]at D;rw[hi,hj];generalize x*s.e - y*s.c=U at*
 generalize s.a*y - s.b*x=V at*
 generalize hE:lA s.a s.b N*lB s.c s.e N - lB s.a s.b N*lA s.c s.e N=E at*
 generalize lA x y N*lB s.c s.e N - lB x y N*lA s.c s.e N=F at*
 generalize lA s.a s.b N*lB x y N - lB s.a s.b N*lA x y N=G at*
 generalize lN s.a s.b N=p at*
 generalize lN s.c s.e N=q at*
 generalize lN x y N=r at*
 generalize s.det=t at*
 have NN:N*N≠0:=aI n0 n0;have t0:t≠0:=λz=>by rw[z]at sq;exact absurd sq ⋯
 have E0:E≠0:=λz=>by rw[z,cG,cG]at D;exact aI (aI (!4) (!4)) t0 D.symm
 have b0:r*E≠0:=aI (!4) E0;refine⟨b0,EH b0 (aK NN ?_),EH b0 (aK NN ?_)⟩
 .calc F*p*(N*N)=F*N*N*p:=by grind
   _=r*q*U*p:=by rw[D1]
   _=1*(p*q*r*U):=by grind
   _=t*t*(p*q*r*U):=by rw[sq]
   _=t*U*r*(p*q*t):=by grind
   _=t*U*r*(E*N*N):=by rw[D]
   _=t*U*(r*E)*(N*N):=by grind
 .calc G*q*(N*N)=G*N*N*q:=by grind
   _=p*r*V*q:=by rw[D2]
   _=1*(p*q*r*V):=by grind
   _=t*t*(p*q*r*V):=by rw[sq]
   _=t*V*r*(p*q*t):=by grind
   _=t*V*r*(E*N*N):=by rw[D]
   _=t*V*(r*E)*(N*N):=by grind
structure Sg(s:B4):Prop where
 a:s.a<=0
 b:0<=s.b
 c:0<=s.c
 e:s.e<=0
theorem Sg.nx{s:B4}(d:Int)(h:Sg s):Sg (s.nx d):=by
 obtain⟨h1,h2,h3,h4⟩:=h;unfold B4.nx;split
 .exact⟨by dsimp only;omega,by dsimp only;omega,h3,h4⟩
 .exact⟨h1,h2,by dsimp only;omega,by dsimp only;omega⟩
def B4.srv(s:B4)(x y:Int):Prop:=0<=s.i x y/\0<=s.j x y
instance {s:B4} {x y:Int}:Decidable (s.srv x y):=inferInstanceAs (Decidable (0<=s.i x y/\0<=s.j x y))
theorem Ga{s:B4}(d:Int)(h:s.srv x y):(s.nx d).srv x y:=by
 obtain⟨h1,h2⟩:=h;obtain⟨n1,n2⟩:=Gu d s x y;unfold B4.srv;by_cases c:0<sgn d (s.a - s.c) (s.b - s.e)
 .rw[(n1 c).1,(n1 c).2];exact⟨h1,by omega⟩
 .rw[(n2 c).1,(n2 c).2];exact⟨by omega,h2⟩
theorem AC{k:Nat}{s:B4}(hR:Rt d)(g:GB d k s)(h:sgn d x y=1):0<s.i x y\/0<s.j x y:=by
 obtain⟨cx,cy⟩:=AF g x y;generalize s.i x y=i at*
 generalize s.j x y=j at*
 refine dG λn=>?_;have hi:i<=0:=by omega
 have hj:j<=0:=by omega
 have p1:=g.p1;have q1:=g.q1;have e1:sgn d ((-i)*s.a+(-j)*s.c) ((-i)*s.b+(-j)*s.e)=-1:=by rw[show(-i)*s.a+(-j)*s.c=-x by rw[<-cx,d5,d5];omega,show(-i)*s.b+(-j)*s.e=-y by rw[<-cy,d5,d5];omega,xT hR,h]
 have sc:∀(t a b:Int),0<=t->sgn d a b=1->(t=0\/sgn d (t*a) (t*b)=1):=λt a b ht hs=>by
  by_cases z:t=0
  .exact .inl z
  .right;rw[yE hR (!4)];exact hs
 rcases sc (-i) s.a s.b (!4) p1 with z1|z1
 .rcases sc (-j) s.c s.e (!4) q1 with z2|z2
  .rw[z1,z2,cG,cG,cG,cG,cM,zO]at e1;exact absurd e1 ⋯
  .rw[z1,cG,cG,d6,d6,z2]at e1;exact absurd e1 ⋯
 .rcases sc (-j) s.c s.e (!4) q1 with z2|z2
  .rw[z2,cG,cG,cM,cM,z1]at e1;exact absurd e1 ⋯
  .have:=vN hR z1 z2;rw[this]at e1;exact absurd e1 ⋯
theorem yk{i u:Int}(h:i≠0):u.natAbs<=(i*u).natAbs:=by rw[cC];exact fD _ (!4)
theorem Ek{i u:Int}(h:i<=0)(k:0<=u):i*u<=0:=dA h k
theorem Ds{i u:Int}(h:i<=0)(k:u<=0):0<=i*u:=dz h k
theorem Bm{i u:Int}(h:0<=i)(k:u<=0):i*u<=0:=cb h k
theorem Bz{k:Nat}{s:B4}(hR:Rt d)(g:GB d k s)(z:Sg s)(h:sgn d x y=1)(n:¬ s.srv x y): s.a.natAbs<=x.natAbs/\s.c.natAbs<=x.natAbs/\s.b.natAbs<=y.natAbs/\s.e.natAbs<=y.natAbs:=by
 have hp:=AC hR g h;obtain⟨cx,cy⟩:=AF g x y;unfold B4.srv at n;obtain⟨h1,h2,h3,h4⟩:=z;generalize s.i x y=i at*
 generalize s.j x y=j at*
 by_cases c:i<0
 .have hj:0<j:=by omega
  have a1:=yk (i:=i) (u:=s.a) (!4);have a2:=yk (i:=j) (u:=s.c) (!4);have a3:=yk (i:=i) (u:=s.b) (!4);have a4:=yk (i:=j) (u:=s.e) (!4);have p1:=Ds (i:=i) (u:=s.a) (!4) h1;have p2:=fJ (a:=j) (b:=s.c) (!4) h3;have p3:=Ek (i:=i) (u:=s.b) (!4) h2;have p4:=Bm (i:=j) (u:=s.e) (!4) h4;omega
 .have hj:j<0:=by omega
  have hi:0<i:=by omega
  have a1:=yk (i:=i) (u:=s.a) (!4);have a2:=yk (i:=j) (u:=s.c) (!4);have a3:=yk (i:=i) (u:=s.b) (!4);have a4:=yk (i:=j) (u:=s.e) (!4);have p1:=Bm (i:=i) (u:=s.a) (!4) h1;have p2:=Ek (i:=j) (u:=s.c) (!4) h3;have p3:=fJ (a:=i) (b:=s.b) (!4) h2;have p4:=Ds (i:=j) (u:=s.e) (!4) h4;omega
def st(d:Int):Nat->B4
 |0=>b4
 |k+1=>(st d k).nx d
theorem AQ(d:Int)(k:Nat):st d (k+1)=(st d k).nx d:=rfl
theorem tU{d:Int}(hR:Rt d):∀k,GB d (k+1) (st d k)
 |0=>w8 d
 |k+1=>(tU hR k).next hR
theorem Co(d:Int):∀k,Sg (st d k)
 |0=>⟨show b4.a<=0 by decide,show 0<=b4.b by decide,show 0<=b4.c by decide,show b4.e<=0 by decide⟩
 |k+1=>(Co d k).nx d
variable{m:Nat}
theorem DQ{k:Nat}(h:(st d k).srv x y)(l:k<=m):(st d m).srv x y:=by
 induction m with
 |zero => have : k = 0 := (by omega);subst this;exact h
 |succ m ih =>
  by_cases c:k=m+1
  .subst c;exact h
  .exact Ga d (ih (!4))
theorem Jn(hR:Rt d)(h:sgn d x y=1):∀(m k:Nat),((st d k).i x y).natAbs+((st d k).j x y).natAbs<=m->∃K,(st d K).srv x y:=by
 intro m;induction m with
 |zero =>
  intro k hk;exact⟨k,by omega,by omega⟩
 |succ m ih =>
  intro k hk;by_cases c:(st d k).srv x y
  .exact⟨k,c⟩
  by_cases c2:(st d (k+1)).srv x y
  .exact⟨_,c2⟩
  refine ih (k+1) ?_;have g1:=AC hR (tU hR k) h;have g2:=AC hR (tU hR (k+1)) h;obtain⟨n1,n2⟩:=Gu d (st d k) x y;rw[AQ]at*
  unfold B4.srv at c c2;by_cases cc:0<sgn d ((st d k).a - (st d k).c) ((st d k).b - (st d k).e)
  .obtain⟨e1,e2⟩:=n1 cc;rw[e1,e2]at*
   omega
  .obtain⟨e1,e2⟩:=n2 cc;rw[e1,e2]at*
   omega
theorem Fe(hR:Rt d)(h:sgn d x y=1):∃K,(st d K).srv x y:=Jn hR h _ 0 (ak _)
theorem F9{d:Int}(hR:Rt d):∀(L:List (Int×Int)),(∀u∈L,sgn d u.1 u.2=1)->∃K,∀u∈L,(st d K).srv u.1 u.2
 |[],_=>⟨0,λu h=>absurd h (by simp)⟩
 |v::L,h=>by
  obtain⟨K,hK⟩:=F9 hR L λu hu=>h u (aC _ hu);obtain⟨K',hK'⟩:=Fe hR (h v aH);refine⟨max K K',λu hu=>?_⟩;rcases aW.mp hu with z|z
  .subst z;exact DQ hK' (Nat.le_max_right ..)
  .exact DQ (hK u z) (Nat.le_max_left ..)
def Fst(d:Int)(L:List (Int×Int))(K:Nat):Prop:=(∀u∈L,(st d K).srv u.1 u.2)/\∀k,k<K->∃u∈L,¬ (st d k).srv u.1 u.2
theorem Fst.unique{L L':List (Int×Int)}{K K':Nat}(hL:∀u,u∈L↔u∈L')(h:Fst d L K)(h':Fst d L' K'):K=K':=by
 rcases Nat.lt_trichotomy K K' with c|c|c
 .obtain⟨u,hu,n⟩:=h'.2 K c;exact absurd (h.1 u ((hL u).mpr hu)) n
 .exact c
 .obtain⟨u,hu,n⟩:=h.2 K' c;exact absurd (h'.1 u ((hL u).mp hu)) n
theorem Fst.gb(hR:Rt d){L:List (Int×Int)}{K k:Nat}(hk:1<=k)(h:Fst d L K)(hp:∀u∈L,sgn d u.1 u.2=1)(hb:∀u∈L,Bd k u.1/\Bd k u.2):GB d (k+1) (st d K):=by
 cases K with
 |zero=>exact(w8 d).mono (!4)
 |succ m =>
  obtain⟨u,hu,n⟩:=h.2 m (!4);have g:=tU hR m;obtain⟨b1,b2,b3,b4⟩:=Bz hR g (Co d m) (hp u hu) n;obtain⟨c1,c2⟩:=hb u hu;have g':GB d k (st d m):=⟨g.det,g.p1,g.q1,c1.of_le b1,c2.of_le b3,c1.of_le b2,c2.of_le b4⟩
  exact g'.next hR
theorem Fst.gb_le(hR:Rt d){L:List (Int×Int)}{K k:Nat}(hk:1<=k)(h:Fst d L K)(hm:m<=K)(hp:∀u∈L,sgn d u.1 u.2=1)(hb:∀u∈L,Bd k u.1/\Bd k u.2):GB d (k+1) (st d m):=by
 cases m with
 |zero=>exact(w8 d).mono (!4)
 |succ m =>
  obtain⟨u,hu,n⟩:=h.2 m (!4);have g:=tU hR m;obtain⟨b1,b2,b3,b4⟩:=Bz hR g (Co d m) (hp u hu) n;obtain⟨c1,c2⟩:=hb u hu;have g':GB d k (st d m):=⟨g.det,g.p1,g.q1,c1.of_le b1,c2.of_le b3,c1.of_le b2,c2.of_le b4⟩
  exact g'.next hR
theorem tZ(s:B4)(t x y:Int):s.i (t*x) (t*y)=t*s.i x y/\s.j (t*x) (t*y)=t*s.j x y:=by unfold B4.i B4.j;constructor<;>grind
theorem DV{s:B4}(ht:1<=t):s.srv (t*x) (t*y)↔s.srv x y:=by
 unfold B4.srv;rw[(tZ s t x y).1,(tZ s t x y).2];have k:∀u:Int,0<=t*u↔0<=u:=λu=>by
  constructor
  .intro h;refine gq.mp λn=>?_;have:t*u<0:=dF (!4) n;omega
  .exact λh=>fJ (!4) h
 rw[k,k]
def lcmI(f z:Int):Int:=f.fdiv (Int.gcd f z:Nat)*z
theorem wD{f:Int}(hf:1<=f)(hz:1<=z):1<=lcmI f z/\f∣lcmI f z/\z∣lcmI f z/\(lcmI f z).natAbs<=(f*z).natAbs:=by obtain⟨s,u,v,hs,s1,u1,v1,ez,ez',fu,fv,guv⟩:=Db hf hz;unfold lcmI;rw[<-hs,fu];refine⟨aM (!4) (!4),⟨v,by rw[ez',ez,av s u,ar]⟩,cT ..,?_⟩;rw[cC,cC];refine Nat.mul_le_mul_right _ ?_;rw[ez,cC];exact fD _ (!4)
def cbs(zs:List Int):Int:=zs.foldl lcmI 1
theorem Fp(zs:List Int)(z:Int):cbs (zs++[z])=lcmI (cbs zs) z:=by unfold cbs;rw[dL];rfl
theorem BW:∀(zs:List Int)(f:Int)(k n:Nat),1<=f->(∀z∈zs,1<=z/\Bd k z)->Bd n f->1<=zs.foldl lcmI f/\f∣zs.foldl lcmI f/\(∀z∈zs,z∣zs.foldl lcmI f)/\Bd (n+k*zs.length) (zs.foldl lcmI f)
 |[],f,k,n,hf,_,hb=>⟨hf,eR _,λz h=>absurd h (by simp),hb⟩
 |z::zs,f,k,n,hf,h,hb=>by
  have hz:=h z aH;obtain⟨a1,a2,a3,a4⟩:=wD hf hz.1;obtain⟨b1,b2,b3,b4⟩:=BW zs (lcmI f z) k (n+k) a1 (λu hu=>h u (aC _ hu)) ((hb.mul hz.2).of_le a4);refine⟨b1,bI a2 b2,λu hu=>?_,?_⟩
  .rcases aW.mp hu with e|e
   .subst e;exact bI a3 b2
   .exact b3 u e
  .rw[List.foldl_cons,au,Nat.mul_succ,Nat.add_comm (k*zs.length),<-gj];exact b4
theorem DR{zs:List Int}{k:Nat}(h:∀z∈zs,1<=z/\Bd k z):1<=cbs zs/\(∀z∈zs,z∣cbs zs)/\Bd (1+k*zs.length) (cbs zs):=by obtain⟨a,_,b,c⟩:=BW zs 1 k 1 ⋯ h ⋯;exact⟨a,b,c⟩
theorem Lr{P:Nat->Prop}:∀n,P n->∃m,P m/\∀k,k<m->¬ P k:=by
 intro n;induction n using Nat.strongRecOn with
 |ind n ih =>
  intro h;by_cases c:∃k,k<n/\P k
  .obtain⟨k,hk,hp⟩:=c;exact ih k hk hp
  .exact⟨n,h,λk hk hp=>c ⟨k,hk,hp⟩⟩
theorem Gv(hR:Rt d){L:List (Int×Int)}(h:∀u∈L,sgn d u.1 u.2=1):∃K,Fst d L K:=by obtain⟨K,hK⟩:=F9 hR L h;obtain⟨m,hm,hn⟩:=Lr (P:=λK=>∀u∈L,(st d K).srv u.1 u.2) K hK;refine⟨m,hm,λk hk=>?_⟩;have:=hn k hk;refine a8 λc=>this λu hu=>?_;exact a8 λz=>c ⟨u,hu,z⟩
theorem IQ(hR:Rt d):∀k,((st d k).b - (st d k).a)+((st d k).c - (st d k).e)<((st d (k+1)).b - (st d (k+1)).a)+((st d (k+1)).c - (st d (k+1)).e):=λk=>by
 have g:=tU hR k;have z:=Co d k;have h1:0<(st d k).b - (st d k).a:=by
  have:=z.a;have:=z.b;refine dG λn=>?_;have e1:(st d k).a=0:=by omega
  have e2:(st d k).b=0:=by omega
  have:=g.p1;rw[e1,e2,zO]at this;exact absurd this ⋯
 have h2:0<(st d k).c - (st d k).e:=by
  have:=z.c;have:=z.e;refine dG λn=>?_;have e1:(st d k).c=0:=by omega
  have e2:(st d k).e=0:=by omega
  have:=g.q1;rw[e1,e2,zO]at this;exact absurd this ⋯
 rw[AQ];unfold B4.nx;split<;>dsimp only<;>omega
def BsE(s s':B4)(N:Int):Prop:=(lA s.a s.b N=lA s'.a s'.b N/\lB s.a s.b N=lB s'.a s'.b N/\lN s.a s.b N=lN s'.a s'.b N)/\(lA s.c s.e N=lA s'.c s'.e N/\lB s.c s.e N=lB s'.c s'.e N/\lN s.c s.e N=lN s'.c s'.e N)
instance {s s':B4} {N:Int}:Decidable (BsE s s' N):=inferInstanceAs (Decidable (_/\_))
theorem vG(x y:Int):lA x y 1=x/\lB x y 1=y/\lN x y 1=1:=by
 have e:g3 x y 1=1:=by unfold g3;rw[Int.one_gcd];exact Int.one_gcd
 have:=yh (x:=x) (y:=y) (z:=1) (a:=x) (b:=y) (n:=1) ⋯ e ⋯ rfl rfl;exact⟨this.1.symm,this.2.1.symm,this.2.2.symm⟩
def tmS(m:Int)(s:Sd):Sd:=⟨lA (m*s.x) (m*s.y) s.z,lB (m*s.x) (m*s.y) s.z,lN (m*s.x) (m*s.y) s.z⟩
def adS(s t:Sd):Sd:=⟨lA (s.x*t.z+t.x*s.z) (s.y*t.z+t.y*s.z) (s.z*t.z),lB (s.x*t.z+t.x*s.z) (s.y*t.z+t.y*s.z) (s.z*t.z),lN (s.x*t.z+t.x*s.z) (s.y*t.z+t.y*s.z) (s.z*t.z)⟩
structure SK(k j:Nat)(s:Sd):Prop where
 z1:1<=s.z
 g:g3 s.x s.y s.z=1
 bx:Bd k s.x
 by':Bd k s.y
 bz:Bd j s.z
theorem SK.mono{k j k' j':Nat}{s:Sd}(h:SK k j s)(l:k<=k')(l':j<=j'):SK k' j' s:=⟨h.z1,h.g,h.bx.mono l,h.by'.mono l,h.bz.mono l'⟩
theorem SK.ne{k j:Nat}{s:Sd}(h:SK k j s):s.z≠0:=by have:=h.z1;omega
theorem wp{b n:Int}(hn:n≠0):Rat.divInt (lA a b n) (lN a b n)=Rat.divInt a n/\Rat.divInt (lB a b n) (lN a b n)=Rat.divInt b n:=by have z:=l_n (a:=a) (b:=b) hn;exact⟨(bP (!4) hn).mpr l_a,(bP (!4) hn).mpr l_b⟩
def nul:Sd:=⟨0,0,1⟩
def mny(s:B4)(N:Int)(pl:Nat)(w:Sd):Int:=if pl=0 then s.i (N / w.z*w.x) (N / w.z*w.y) else s.j (N / w.z*w.x) (N / w.z*w.y)
def hg(s:B4)(N:Int)(pl:Nat):List Bo->Sd:=λL=>L.foldl (λa b=>adS a (tmS (mny s N pl b.w) b.h)) nul
structure B5(d N:Int)(b:Bo):Prop where
 w:SK 20 12 b.w
 h:SK 20 12 b.h
 wu:sgn d b.w.x b.w.y=1
 hu:sgn d b.h.x b.h.y=1
 dv:b.w.z∣N
theorem JN{k n:Nat}{s:B4}(g:GB d k s)(bx:Bd n x)(by':Bd n y):Bd (1+(n+k+1)) (s.i x y)/\Bd (1+(n+k+1)) (s.j x y):=by
 have hd:Bd 1 s.det:=by unfold B4.det;rcases g.det with h|h<;>rw[h]<;>decide
 refine⟨hd.mul ((bx.mul g.be).sub (by'.mul g.bc)),hd.mul (Bd.mono ((g.ba.mul by').sub (g.bb.mul bx)) (!4))⟩
def bw1(s:B4)(N:Int):Sd:=⟨lA s.a s.b N,lB s.a s.b N,lN s.a s.b N⟩
def bw2(s:B4)(N:Int):Sd:=⟨lA s.c s.e N,lB s.c s.e N,lN s.c s.e N⟩
end Bg
namespace L2
open PySem PySem.Spec PyProof.Rows Bg
def rSum(K:jj):List V->Hp->VK->Prop:=λxs H Q=>∃ (a:Addr) (ns:List Int),xs=[.ref a]/\SqL K H a (ns.map V.int)/\Q (.int ns.sum) H
def IF(K:jj):List V->Hp->VK->Prop:=λxs H Q=>∃ (a:Addr) (bs:List Bool),xs=[.ref a]/\SqL K H a (bs.map V.bl)/\Q (.bl (bs.all id)) H
theorem xD:∀{ns:List Int}{us:List Value},Vals (ns.map V.int) us->∃xs:Array (Int×Tok),us.toArray=intItems xs/\xs.toList.map (·.1)=ns
 |[],us,h=>by rw[Vals.zero h];exact⟨#[],by simp[intItems],rfl⟩
 |n::ns,u::us,.cons r t=>by
   obtain⟨tk,rfl⟩:=r;obtain⟨xs,e1,e2⟩:=xD t;refine⟨#[(n,tk)]++xs,?_,by simp[e2]⟩;have e3:(Value.int n tk::us).toArray=#[Value.int n tk]++us.toArray:=by simp
   rw[e3,e1];simp[intItems]
theorem AO{xs:Array (Int×Tok)}:preSum (numAt xs) xs.size=(xs.toList.map (·.1)).sum:=by rw[preSum_eq,bT (by simp)]
variable{X:Cx}
theorem Au(hc:X.calm=true):yZ X (.builtin "sum") (rSum X.K):=by
 intro pins s σ H xs us Q I r h;obtain⟨a,ns,rfl,hq,q⟩:=h;obtain⟨u,rfl,ru⟩:=Vals.one r;cases ru
 obtain⟨its,rv,p,hz⟩:=I.list hq;obtain⟨ys,e1,e2⟩:=xD rv;have hl:s.heap.IsList a (intItems ys):=by rw[<-e1];exact p.isList
 refine sum_intListG (I.ok.hd hc) hl λh' tk t' hk=>?_;rw[AO,e2];exact⟨.int ns.sum,H,I.kept (t':=tk) hk,⟨t',rfl⟩,q⟩
theorem Ej(hc:X.calm=true):yZ X (.builtin "all") (IF X.K):=by
 intro pins s σ H xs us Q I r h;obtain⟨a,bs,rfl,hq,q⟩:=h;obtain⟨u,rfl,ru⟩:=Vals.one r;cases ru
 obtain⟨its,rv,p,hz⟩:=I.list hq;have hlt:a<s.heap.objs.size:=by obtain⟨o,_,e,_⟩:=p;exact Heap.lt_size e
 refine call_all_walk (jb p.isList ?_);refine⟨_,_,_,_,_,_,(λi=>bs.getD i false),rfl,Walks.list (A:=X.A.in1) (show X.A.in1.handled=none from I.ok.hd hc) _ a (aR hlt) its.toArray,⟨⟨_,Heap.get?_push_size _ rfl,rfl,rfl⟩,p.isList.push _⟩,?_,λh' tk hk=>?_⟩
 .intro i v s' Q' E' hP hQ;have hP':its[i]?=some v:=by simpa using hP
  have hi:i<bs.length:=by have:=rv.length;rw[aa]at this;have:=(af.mp hP').1;omega
  obtain⟨u,hu,ru⟩:=rv.get (i:=i) (x:=.bl bs[i]) (by rw[ao,ag hi];rfl);rw[hP']at hu;cases hu
  cases ru
  have e:bs.getD i false=bs[i]:=by rw[dB,ag hi];rfl
  have hQ':Q' (bs.getD i false) s':=hQ;rw[e]at hQ';exact iX hQ'
 .have e:(List.range its.toArray.size).all (λi=>bs.getD i false)=bs.all id:=by
   have:=rv.length;rw[aa]at this;rw[aZ,<-this,BC]
  rw[e];refine⟨.bl _,H,I.kept (t':=tk) λb o e'=>hk b o ?_ (Heap.get?_push_of_some _ e'),rfl,q⟩;intro hb;have e2:b=s.heap.objs.size:=by simpa using hb
  exact absurd (Heap.lt_size e') (by rw[e2];exact dm _)
variable{a:Addr}{H:Hp}
theorem Js{K:jj}{Q:VK}{ns:List Int}(h:SqL K H a (ns.map V.int))(q:Q (.int ns.sum) H):rSum K [.ref a] H Q:=⟨a,ns,rfl,h,q⟩
theorem IE{K:jj}{Q:VK}{bs:List Bool}(h:SqL K H a (bs.map V.bl))(q:Q (.bl (bs.all id)) H):IF K [.ref a] H Q:=⟨a,bs,rfl,h,q⟩
inductive T0 where
 |flat (x:V)
 |tup (xs:List V)
 |lst (xs:List V)
section
variable{H0 H:Hp}{Q:VK}{ls:List (Addr×HO)}
end
variable{tg:Expr}
abbrev Fq(H:Hp)(p:Addr)(x:Rat):Prop:=H p=some (.tup [.int x.num,.int (x.den:Int)])
abbrev Fs(K:jj)(H:Hp)(p:Addr)(x:Rat):Prop:=SqT K H p [.int x.num,.int (x.den:Int)]
theorem FI{p:Addr}{t b:Int}(hb:b≠0)(e:H p=some (.tup [.int (fT t b),.int (fB t b)])):Fq H p (Rat.divInt t b):=by rw[(rf hb).1,(rf hb).2]at e;exact e
variable{y:Rat}
theorem IP{p:Addr}(e:H p=some (.tup [.int (-y.num),.int (y.den:Int)])):Fq H p (-y):=by unfold Fq;rw[Rat.neg_num,Rat.neg_den];exact e
variable{x:Rat}
theorem HS{p:Addr}(e:H p=some (.tup [.int (plT x.num x.den y.num y.den / (Int.gcd (plT x.num x.den y.num y.den) (Int.gcd x.den y.den:Nat):Nat)),.int ((x.den:Int) / (Int.gcd x.den y.den:Nat)*((y.den:Int) / (Int.gcd (plT x.num x.den y.num y.den) (Int.gcd x.den y.den:Nat):Nat)))])):Fq H p (x+y):=by rw[(F5 x y).1,(F5 x y).2]at e;exact e
theorem EY{p:Addr}(e:H p=some (.tup [.int (x.num / (Int.gcd x.num y.den:Nat)*(y.num / (Int.gcd y.num x.den:Nat))),.int ((x.den:Int) / (Int.gcd y.num x.den:Nat)*((y.den:Int) / (Int.gcd x.num y.den:Nat)))])):Fq H p (x*y):=by rw[(Dp x y).1,(Dp x y).2]at e;exact e
theorem KC{p:Addr}(e:Fq H p x)(h:x=y):Fq H p y:=h ▸ e
variable{H':Hp}
theorem Same.sqT{K:jj}{xs:List V}(e:Same H H')(h:SqT K H a xs):SqT K H' a xs:=by
 rcases h with h|h
 .rcases h with h|⟨o,h⟩
  .exact .inl (.inl (e _ _ h))
  .exact .inl (.inr ⟨o,e _ _ h⟩)
 .exact .inr h
abbrev SdAt(H:Hp)(p:Addr)(s:Sd):Prop:=H p=some (.tup [.int s.x,.int s.y,.int s.z])
structure Cell where
 p:Addr
 pw:Addr
 ph:Addr
 b:Bo
def Cell.v(c:Cell):V:=.ref c.p
structure Cell.At(H:Hp)(c:Cell):Prop where
 t:H c.p=some (.tup [.ref c.pw,.ref c.ph])
 w:SdAt H c.pw c.b.w
 h:SdAt H c.ph c.b.h
variable{c:Cell}
theorem Cell.At.same(h:c.At H)(s:Same H H'):c.At H':=⟨s _ _ h.t,s _ _ h.w,s _ _ h.h⟩
theorem Cell.At.sameX{D:Addr}{xs:List V}(h:c.At H)(s:SameX D H H')(e:H D=some (.lst xs)):c.At H':=⟨s.tup h.t e,s.tup h.w e,s.tup h.h e⟩
theorem xX{L:List Cell}{i:Nat}{y:V}(h:(L.map Cell.v)[i]?=some y):∃c,y=.ref c.p/\c∈L/\L[i]?=some c:=by
 rw[ao]at h;cases e:L[i]? with
 |none=>rw[e]at h;cases h
 |some c =>
  rw[e]at h;exact⟨c,(aJ h).symm,ay e,rfl⟩
theorem CD{L:List Cell}{i:Nat}(h:L[i]?=some c):(L.take (i+1)).map Cell.b=(L.take i).map Cell.b++[c.b]:=by rw[bQ,h,aj];rfl
structure TbS(K:jj)(H:Hp)(p r0 r1 f0 f1 f2 f3:Addr)(t:Tb):Prop where
 p:SqT K H p [.ref r0,.ref r1]
 r0:SqT K H r0 [.ref f0,.ref f1]
 r1:SqT K H r1 [.ref f2,.ref f3]
 f0:Fs K H f0 t.a
 f1:Fs K H f1 t.b
 f2:Fs K H f2 t.c
 f3:Fs K H f3 t.e
variable{f1 f2 f3 r0 r1:Addr}{t:Tb}
theorem TbS.same{K:jj}{p f0:Addr}(h:TbS K H p r0 r1 f0 f1 f2 f3 t)(s:Same H H'):TbS K H' p r0 r1 f0 f1 f2 f3 t:=⟨s.sqT h.p,s.sqT h.r0,s.sqT h.r1,s.sqT h.f0,s.sqT h.f1,s.sqT h.f2,s.sqT h.f3⟩
structure TbH(H:Hp)(p r0 r1 f0 f1 f2 f3:Addr)(t:Tb):Prop where
 p:H p=some (.tup [.ref r0,.ref r1])
 r0:H r0=some (.tup [.ref f0,.ref f1])
 r1:H r1=some (.tup [.ref f2,.ref f3])
 f0:Fq H f0 t.a
 f1:Fq H f1 t.b
 f2:Fq H f2 t.c
 f3:Fq H f3 t.e
theorem TbH.same{p f0:Addr}(h:TbH H p r0 r1 f0 f1 f2 f3 t)(s:Same H H'):TbH H' p r0 r1 f0 f1 f2 f3 t:=⟨s _ _ h.p,s _ _ h.r0,s _ _ h.r1,s _ _ h.f0,s _ _ h.f1,s _ _ h.f2,s _ _ h.f3⟩
theorem TbH.s{K:jj}{p f0:Addr}(h:TbH H p r0 r1 f0 f1 f2 f3 t):TbS K H p r0 r1 f0 f1 f2 f3 t:=⟨.of h.p,.of h.r0,.of h.r1,.of h.f0,.of h.f1,.of h.f2,.of h.f3⟩
def TbAt(H:Hp)(p:Addr)(t:Tb):Prop:=∃r0 r1 f0 f1 f2 f3:Addr,TbH H p r0 r1 f0 f1 f2 f3 t
theorem TbAt.same{H H':Hp}{p:Addr}{t:Tb}(h:TbAt H p t)(s:Same H H'):TbAt H' p t:=by obtain⟨r0,r1,f0,f1,f2,f3,h⟩:=h;exact⟨r0,r1,f0,f1,f2,f3,h.same s⟩
theorem TbAt.eq{p:Addr}{u:Tb}(h:TbAt H p t)(e:t=u):TbAt H p u:=e ▸ h
section
variable{K:jj}{H:Hp}{Q:VK}{σ:St}{D:Ends}
end
def TopE(K:jj)(mg:Str->Option Value)(x:Str):Prop:=∃a,mg x=some (.ref a)/\∀H:Hp,∃r0 r1 f0 f1 f2 f3:Addr,TbS K H a r0 r1 f0 f1 f2 f3 Tb.zero
structure TupIn(K:jj)(a:Addr)(xs:List V):Prop where
 h:∃ (o:Obj) (its:Array Value) (n:Nat),K.lookup a=some o/\o.cls=.type "tuple"/\o.data=.seq its n/\its.size<=sizeLine/\Vals xs its.toList
theorem tupIn_mk{K:jj}{o:Obj}{its:Array Value}{n:Nat}{xs:List V}(l:K.lookup a=some o)(c:o.cls=.type "tuple")(d:o.data=.seq its n)(z:its.size<=sizeLine)(v:Vals xs its.toList):TupIn K a xs:=⟨o,its,n,l,c,d,z,v⟩
theorem topE_mk{K:jj}{h:Heap}{mg:Str->Option Value}{x:Str}{f0:Addr}(X:K.In h)(G:h.Ns mainGlobals mg)(e:W.nsIn K mainGlobals x=some (some (.ref a)))(t:TupIn K a [.ref r0,.ref r1])(t0:TupIn K r0 [.ref f0,.ref f1])(t1:TupIn K r1 [.ref f2,.ref f3])(u0:TupIn K f0 [.int 0,.int 1])(u1:TupIn K f1 [.int 0,.int 1])(u2:TupIn K f2 [.int 0,.int 1])(u3:TupIn K f3 [.int 0,.int 1]):TopE K mg x :=
 ⟨a,d8 X G e,λ_=>⟨r0,r1,f0,f1,f2,f3,.inr t.h,.inr t0.h,.inr t1.h,.inr u0.h,.inr u1.h,.inr u2.h,.inr u3.h⟩⟩
def rTup(K:jj):List V->Hp->VK->Prop:=λxs H Q=>∃p ys,xs=[.ref p]/\((SqL K H p ys/\∀l,H l=none->Q (.ref l) (upd H l (.tup ys)))\/(SqT K H p ys/\Q (.ref p) H))
theorem D3:yZ X (.type "tuple") (rTup X.K):=u8
def rLst(K:jj):List V->Hp->VK->Prop:=λxs H Q=>∃p ys,xs=[.ref p]/\(SqL K H p ys\/SqT K H p ys)/\∀l,H l=none->Q (.ref l) (upd H l (.lst ys))
theorem Ar:yZ X (.type "list") (rLst X.K):=tK
theorem Jl{K:jj}{Q:VK}{p:Addr}{ys:List V}(h:H p=some (.lst ys))(q:∀l H2,Same H H2->H2 l=some (.tup ys)->Q (.ref l) H2):rTup K [.ref p] H Q:=⟨p,ys,rfl,.inl ⟨SqL.of h,λl hl=>q l _ (zF hl _) zg⟩⟩
variable{l:Addr}{us:Array Value}
section
variable{prog:Program}{w:World}{A:Around}{E:Value->Shared->Prop}
theorem FW{it:Addr}(ne:l≠it)(n:Nat):∀(i:Nat)(s:Shared)(R:List Value->Shared->Prop),s.heap.IsListIter it l i->s.heap.IsList l us->i+n<=us.size -> (∀h2,h2.IsListIter it l (i+n)->Heap.SameBut it s.heap h2->R ((us.toList.drop i).take n) { s with heap:=h2 })->wpAny (model prog w) A (draw (.ref it) n) R E s:=by
 induction n with
 |zero =>
  intro i s R st _ _ q;show wpAny _ _ (pure []) R E s;exact i6 (by simpa using q s.heap st (Heap.SameBut.refl ..))
 |succ n ih =>
  intro i s R st hl le q;have lt:i<us.size:=by omega
  show wpAny _ _ (pyNext (.ref it) >>= _) R E s;refine i4 (i9 st hl (x:=us[i]) (by simp[lt]) λh1 st1 sb1=>?_);refine i4 (je (ih (i+1) _ _ st1 (hl.extBut sb1.extBut ne) (by omega) λh2 st2 sb2=>i6 ?_));have e:us.toList.drop i=us[i]::us.toList.drop (i+1):=by simp[List.drop_eq_getElem_cons,lt]
  have z:=q h2 (by rw[show i+(n+1)=i+1+n by omega];exact st2) (sb1.trans sb2);rw[e,List.take_succ_cons]at z;exact z
theorem CA{s:Shared}{R:List Value->Shared->Prop}(hh:A.handled=none)(hl:s.heap.IsList l us)(q:∀h2,Heap.ExtBut s.heap.objs.size s.heap h2->R us.toList { s with heap:=h2 }):wpAny (model prog w) A (unpackItems (.ref l) us.size none) R E s:=by
 have ne:l≠s.heap.objs.size:=by obtain⟨o,ho,_⟩:=id hl;exact aR (Heap.lt_size ho)
 unfold unpackItems;refine i4 ?_
 .unfold notIterableAtAll;refine i4 (wpAny_specialOf hl.typeIs PySem.F.slot_list_iter.lookup (i6 ?_));simp only[Bool.false_eq_true,if_false];refine i4 (je (jb hl ?_));refine i4 (je (FW ne us.size 0 _ _ ⟨_,Heap.get?_push_size _ rfl,rfl,rfl⟩ (hl.push _) (by omega) λh1 st1 sb1=>?_));rw[show List.take us.size (List.drop 0 us.toList)=us.toList from by rw[iI];exact bT (by simp),iV (by simp)];refine i4 (je (ja hh st1 ((hl.push _).extBut sb1.extBut ne) (by simp) λh2 eb=>?_));simp only[Option.isSome_none,Bool.false_eq_true,if_false];exact i6 (q h2 λb o hb e=>eb b o hb (sb1.extBut b o hb (Heap.get?_push_of_some _ e)))
end
def gLst(K:jj)(n:Nat)(t:TGs):TG:=λv σ H Q=>∃a xs,v=.ref a/\SqL K H a xs/\xs.length=n/\t xs σ H Q
theorem Ky{es:List Expr}{k:Nat}{t:TGs}{n:Nat}{pos:Pos}(hc:X.calm=true)(h:PGs X es t)(hn:(assignEach es X.env).length=n:=by rfl)(hst:(assignEach es X.env).findIdx? (·.1)=none:=by rfl):PG X (.Tuple es k pos) (gLst X.K n t):=by
 intro pins s σ H v u Q I r hw;obtain⟨a,xs,rfl,hq,hl,hw⟩:=hw;cases r
 obtain⟨its,rv,p,hz⟩:=I.list hq;rw[assign_Tuple];refine i4 (i5 ?_);unfold unpack;rw[show(assignEach es X.env).length=its.toArray.size by simp[hn,<-hl,rv.length],hst];refine i4 (je (CA (I.ok.hd hc) p.isList λh2 hx=>?_));have I1:Inv X pins σ H { s with heap:=h2 }:=I.kept (t':=s.toks) λb o e=>hx b o (aR (Heap.lt_size e)) e;exact h pins _ σ H xs _ Q I1 (by simpa using rv) hw
theorem Iu{K:jj}{σ:St}{R:St->Hp->Prop}{n:Nat}{t:TGs}{xs:List V}(h:H a=some (.lst xs))(hn:xs.length=n)(q:t xs σ H R):gLst K n t (.ref a) σ H R:=⟨a,xs,rfl,SqL.of h,hn,q⟩
section
variable{K:jj}{σ:St}{H:Hp}{Q:VK}
theorem CW{n:Nat}(h:n<=1000):n<=sizeLine:=yI h
theorem i_bm0{T:String}{r:V->List V->Hp->VK->Prop}{to:TE}(h:to σ H λx H1=>tyV K T x H1/\r x [] H1 Q):tBM0 K T r to σ H Q:=h
theorem i_eqS{i j:Str}(h:Q (.bl (decide (i=j))) H):rEq (.str i) (.str j) H Q:=⟨rfl,by
 have e:decide (V.str i=V.str j)=decide (i=j):=by rw[cP];simp
 rw[e];exact h⟩
theorem i_neS{i j:Str}(h:Q (.bl (!decide (i=j))) H):rNe (.str i) (.str j) H Q:=⟨rfl,by
 have e:decide (V.str i=V.str j)=decide (i=j):=by rw[cP];simp
 rw[e];exact h⟩
theorem i_is_str{z:Str}(h:Q (.bl true) H):rIs K [.str z,.ty "str"] H Q:=⟨_,_,_,_,rfl,.str z,uZ K _,h⟩
end
section
variable{prog:Program}{w:World}{A:Around}{E:Value->Shared->Prop}{s:Shared}{R:Result->Shared->Prop}
variable{I:Addr}{fp wr:List Addr}{G:Array GenState->Array GenState->Prop}{n:Nat}{P:Nat->Value->Prop}{St:Nat->Shared->Prop}
end
variable{e:Expr}{te:TE}{p1 p2 pos pos2:Pos}
end L2
namespace Bg
end Bg
namespace L2
local macro_rules | `(!4)=>`(by omega)
open PySem PySem.Spec PyProof.Rows Bg
structure BsAt(H:Hp)(p r1 r2:Addr)(s:B4)(N:Int):Prop where
 t:H p=some (.tup [.ref r1,.ref r2])
 f:H r1=some (.tup [.int (lA s.a s.b N),.int (lB s.a s.b N),.int (lN s.a s.b N)])
 g:H r2=some (.tup [.int (lA s.c s.e N),.int (lB s.c s.e N),.int (lN s.c s.e N)])
variable{H:Hp}
theorem BsAt.same{H':Hp}{p r1 r2:Addr}{s:B4}{N:Int}(h:BsAt H p r1 r2 s N)(z:Same H H'):BsAt H' p r1 r2 s N:=⟨z _ _ h.t,z _ _ h.f,z _ _ h.g⟩
def WGn(Pv:Nat->St->Hp->Prop)(m:Nat)(tb:TS)(D:Ends)(σ:St)(H:Hp):Prop :=
 ∃N:St->Hp->Prop,(∀σ' H',N σ' H'->∃m',m'<m/\Pv m' σ' H')/\tb { D with nx:=N,ct:=N,bk:=D.nx } σ H
variable{D:Ends}
theorem wgn{Pv:Nat->St->Hp->Prop}{m:Nat}{tb:TS}{σ:St}(h:tb { D with nx:=λσ' H'=>∃m',m'<m/\Pv m' σ' H',ct:=λσ' H'=>∃m',m'<m/\Pv m' σ' H',bk:=D.nx } σ H):WGn Pv m tb D σ H :=
 ⟨_,λ_ _ z=>z,h⟩
theorem Eg{c:TT}{tb:TS}{σ:St}(Pv:Nat->St->Hp->Prop)(h0:∃m,Pv m σ H)(hs:∀m σ H,Pv m σ H->c σ H λb H1=>if b=true then WGn Pv m tb D σ H1 else D.nx σ H1):Cd c tb D σ H :=
 ⟨Pv,h0,hs⟩
theorem ux(f:Nat->Int):∀k,argBest (λi j=>decide (f i<f j)) k<=k/\∀i,i<=k->f (argBest (λi j=>decide (f i<f j)) k)<=f i
 |0=>⟨ak _,λi hi=>by have:i=0:=(!4);subst this;exact Int.le_refl _⟩
 |k+1=>by
  obtain⟨h1,h2⟩:=ux f k;unfold argBest;by_cases c:f (k+1)<f (argBest (λi j=>decide (f i<f j)) k)
  .rw[iU (jg c)];refine⟨ak _,λi hi=>?_⟩;by_cases e:i=k+1
   .subst e;exact Int.le_refl _
   .have:=h2 i (!4);omega
  .rw[iV (by simpa using c)];refine⟨by omega,λi hi=>?_⟩;by_cases e:i=k+1
   .subst e;omega
   .exact h2 i (!4)
def Jd(K:jj):List V->Hp->VK->Prop:=λxs H Q=>∃ (a:Addr) (ns:List Int),xs=[.ref a]/\(SqL K H a (ns.map V.int)\/SqT K H a (ns.map V.int))/\ns≠[]/\∀m∈ns,(∀x∈ns,m<=x)->Q (.int m) H
variable{ys:Array (Int×Tok)}{ns:List Int}
theorem BR(e2:ys.toList.map (·.1)=ns){i:Nat}(hi:i<ns.length):numAt ys i=ns[i]:=by
 subst e2;have hi':i<ys.size:=by simpa using hi
 unfold numAt;rw[Array.getElem?_eq_getElem hi'];simp
theorem Ai(e2:ys.toList.map (·.1)=ns)(hne:ns≠[]){v:Value}(h:(intItems ys)[argBest (λi j=>decide (numAt ys i<numAt ys j)) (ys.size - 1)]?=some v):∃m t,v=.int m t/\m∈ns/\∀x∈ns,m<=x:=by
 have hl:ys.size=ns.length:=by rw[<-e2];simp
 have hp:0<ns.length:=cB.mpr hne;obtain⟨h1,h2⟩:=ux (numAt ys) (ys.size - 1);obtain⟨t,rfl⟩:=intItems_at h;generalize argBest (λi j=>decide (numAt ys i<numAt ys j)) (ys.size - 1)=b at*
 have hb:b<ns.length:=by omega
 refine⟨_,t,rfl,?_,λx hx=>?_⟩
 .rw[BR e2 hb];exact db hb
 .obtain⟨i,hi,e⟩:=List.getElem_of_mem hx;have:=h2 i (!4);rw[BR e2 hi,e]at this;exact this
variable{X:Cx}
theorem Dx(hc:X.calm=true):yZ X (.builtin "min") (Jd X.K):=by
 intro pins s σ H xs us Q I r h;obtain⟨a,ns,rfl,hq,hne,q⟩:=h;obtain⟨u,rfl,ru⟩:=Vals.one r;cases ru
 rcases hq with hq|hq
 .obtain⟨its,rv,p,hz⟩:=I.list hq;obtain⟨ys,e1,e2⟩:=xD rv;have hl:s.heap.IsList a (intItems ys):=by rw[<-e1];exact p.isList
  have hn:0<ys.size:=by
   have:ys.size=ns.length:=by rw[<-e2];simp
   have:=cB.mpr hne;omega
  refine min_intList (I.ok.hd hc) hl hn λv h' tk hv hk=>?_;obtain⟨m,t,rfl,hm,hle⟩:=Ai e2 hne hv;exact⟨.int m,H,I.kept (t':=tk) hk,⟨t,rfl⟩,q m hm hle⟩
 .obtain⟨its,rv,p,hz⟩:=I.tuple hq;obtain⟨ys,e1,e2⟩:=xD rv;have hl:s.heap.IsTuple a (intItems ys):=by rw[<-e1];exact p
  have hn:0<ys.size:=by
   have:ys.size=ns.length:=by rw[<-e2];simp
   have:=cB.mpr hne;omega
  have hlt:a<s.heap.objs.size:=by obtain⟨_,e,_⟩:=hl;exact Heap.lt_size e
  refine call_min_walk (wpAny_pyIter_tuple hl ?_);refine⟨_,[_,a],[_],_,_,_,_,rfl,Walks.tuple (A:=X.A.in1) (show X.A.in1.handled=none from I.ok.hd hc) _ a (aR hlt) (intItems ys),⟨⟨_,Heap.get?_push_size _ rfl,rfl,rfl⟩,hl.push _⟩,λb hb=>?_,by simpa [intItems] using hn,CmpOf.ints_lt (numAt ys) (λ_ _=>intItems_at),λv h' tk hP hk=>?_⟩
  .show b<(s.heap.push _).objs.size;rw[Heap.size_push];rcases aW.mp hb with rfl|hb
   .exact fV _
   .rcases aW.mp hb with rfl|hb
    .exact Nat.lt_succ_of_lt hlt
    .cases hb
  .obtain⟨m,t,rfl,hm,hle⟩:=Ai e2 hne (by simpa [intItems] using hP);refine⟨.int m,H,I.kept (t':=tk) λb o e'=>hk b o ?_ (Heap.get?_push_of_some _ e'),⟨t,rfl⟩,q m hm hle⟩;intro hb;have e2:b=s.heap.objs.size:=by simpa using hb
   exact absurd (Heap.lt_size e') (by rw[e2];exact dm _)
variable{a:Addr}
section
variable{K:jj}{H:Hp}{Q:VK}{σ:St}{D:Ends}
theorem J2{i j:Int}(h:H a=some (.tup [.int i,.int j]))(q:∀m:Int,(m=i\/m=j)->m<=i->m<=j->Q (.int m) H):Jd K [.ref a] H Q :=
 ⟨a,[i,j],rfl,.inr (SqT.of h),by simp,λm hm hl=>q m (by simpa using hm) (hl i (by simp)) (hl j (by simp))⟩
end
structure Ln where
 p:Addr
 s:Sd
def Ln.v(c:Ln):V:=.ref c.p
def Ln.u(c:Ln):Int×Int:=(c.s.x,c.s.y)
theorem Ko{L:List Ln}{i:Nat}{y:V}(h:(L.map Ln.v)[i]?=some y):∃c,y=.ref c.p/\c∈L/\L[i]?=some c:=by
 rw[ao]at h;cases e:L[i]? with
 |none=>rw[e]at h;cases h
 |some c =>
  rw[e]at h;refine⟨c,?_,ay e,rfl⟩;have:Ln.v c=y:=by simpa using h
  exact this.symm
theorem A9{α:Type}{f:Ln->α}{L:List Ln}{i:Nat}{c:Ln}(h:L[i]?=some c):(L.take (i+1)).map f=(L.take i).map f++[f c]:=by rw[g5,h,aj];rfl
variable{tg:Expr}
section
variable{K:jj}{H:Hp}{Q:VK}
theorem Ki{i j:Nat}(hS:SqL K H a (ns.map V.int))(q:∀(p:Addr)(H2:Hp),Same H H2->H2 p=some (.lst (((ns.drop i).take (j - i)).map V.int))->Q (.ref p) H2):rSlL K (.ref a) (some (i:Int)) (some (j:Int)) H Q:=by
 refine⟨a,_,rfl,hS,λp hp=>?_⟩;refine q p _ (zF hp _) ?_;rw[zg];unfold cutV;rw[HT.sIx_nat,HT.sIx_nat,h8,h9];congr 2;generalize ns.map V.int=xs;rcases iD i xs.length with z|z
 .rw[fq z];rcases iD j xs.length with y|y
  .rw[fq y]
  .rw[gi y,bT (by rw[dO];omega),bT (by rw[dO];omega)]
 .rw[gi z,dQ (ak _),dQ z,iR,iR]
end
theorem Inv.turnedL{pins:List (Addr×Obj)}{σ:St}{s:Shared}{h':Heap}{t':Nat}{its:List Addr}(I:Inv X pins σ H s)(k:∀b o,b∉its->s.heap.get? b=some o->h'.get? b=some o)(hf:∀b∈its,FpOk X pins H b):Inv X pins σ H { s with heap:=h',toks:=t' }:=by
 have nit:∀b u,H b=some u->b∉its:=λb u e z=>by have:=(hf b z).1;rw[this]at e;cases e
 refine I.step (g':=s.gens) (d':=s.drawn) (ch:=its) (λb hb=>?_) (λb o _ _ hc e _=>k b o hc e) (λb o _ _ hc e _=>⟨o.slots,k b o hc e⟩) (λ_ _ _ _ n=>n)
  (λb o hc e=>⟨o,k b o hc e⟩) (λb _ e=>⟨e,λo=>k b o (nit b _ e)⟩) (λ_ _ _ e=>e) (λb ps e=>⟨#[],by rw[e];simp⟩) (λm hm=>?_) (λb u e=>?_) I.bare
 .obtain⟨f0,f1,f2,f3,f4,f5⟩:=hf b hb;exact⟨f3,f1,f4,f5⟩
 .obtain⟨o,es,ep,ho,r⟩:=hm;exact⟨o,es,ep,k _ o (λz=>(hf _ z).2.1 rfl) ho,r⟩
 .refine(I.hok b u e).stay (λc v hc q=>k c v ?_ q) (λ_ q=>q) λ_ _ q=>q;rcases hc with z|z
  .rw[z];exact nit b u e
  .exact nit c _ z
variable{h:Heap}{o:Obj}
theorem Ax{c:Addr}{o':Obj}(hc:c≠h.objs.size)(e:(h.push o).get? c=some o'):h.get? c=some o':=by
 obtain⟨e1,e2⟩:=Heap.get?_some_iff.mp e;refine Heap.get?_some_iff.mpr ⟨?_,e2⟩;cases h
 simpa [Heap.push,Array.getElem?_push,hc] using e1
def IM:V->List V->Hp->VK->Prop:=λx vs H Q=>∃i:Int,x=.int i/\vs=[]/\Q (.int ((Builtin.Int.intBits i:Nat):Int)) H
theorem Ie:MtR X "int.bit_length" IM:=by intro pins s σ H x xs v us Q I rx rv h;obtain⟨i,rfl,rfl,q⟩:=h;obtain⟨t,rfl⟩:=rx;have hus:=rv.zero;subst hus;exact call_int_bit_length ⟨.int _,H,I.tok _,⟨_,rfl⟩,q⟩
theorem i_bits{i:Int}{Q:VK}(q:Q (.int ((Builtin.Int.intBits i:Nat):Int)) H):IM (.int i) [] H Q:=⟨i,rfl,rfl,q⟩
theorem i_tyI{K:jj}{z:Int}{R:Prop}(q:R):tyV K "int" (.int z) H/\R:=⟨rfl,q⟩
theorem IC{k:Nat}{i:Int}(h:Bd k i):¬ ((k:Int)<((Builtin.Int.intBits i:Nat):Int)):=by
 unfold Builtin.Int.intBits;by_cases c:i=0
 .subst c;rw[iU (by decide)];omega
 .rw[iV (by simpa using c)];have h1:i.natAbs.log2<k:=(iJ (!4)).mpr h;omega
variable{x' y y':Int}
theorem KQ{j k:Nat}{d x:Int}(hd:Bd 64 d)(b1:Bd j x)(b2:Bd j y)(b4:Bd k x')(b5:Bd k y')(hk:j+k+65<=8192):Bd 8192 (x*x'+d*y*y'):=
 (Bd.add (k:=64+j+k) ((b1.mul b4).mono (!4)) ((hd.mul b2).mul b5)).mono (!4)
theorem Lj{j k:Nat}{x:Int}(b1:Bd j x)(b2:Bd j y)(b4:Bd k x')(b5:Bd k y')(hk:j+k+65<=8192):Bd 8192 (x*y'+y*x'):=
 (Bd.add (k:=j+k) (b1.mul b5) (b2.mul b4)).mono (!4)
section
variable{g:TG}{tc:TT}{te:TE}{σ0:St}{H1:Hp}{D:Addr}
end
def Ju:List V->Hp->VK->Prop:=λxs H Q=>∃i j:Int,xs=[.int i,.int j]/\Q (.int (if j > i then j else i)) H
theorem uu(hc:X.calm=true):yZ X (.builtin "max") Ju:=CV hc
def TopS(mg:Str->Option Value)(x:Str)(z:Str):Prop:=∃u,mg x=some u/\RelV (.str z) u
variable{x:Str}{mg:Str->Option Value}
theorem topS_mk{K:jj}{z:Str}{t:Tok}(X:K.In h)(G:h.Ns mainGlobals mg)(e:W.nsIn K mainGlobals x=some (some (.str z t))):TopS mg x z:=⟨_,d8 X G e,⟨t,rfl⟩⟩
section
variable{K:jj}{σ:St}{H:Hp}{Q:VK}
theorem Gw{i j:Int}(q:Q (.int (if j > i then j else i)) H):Ju [.int i,.int j] H Q:=⟨i,j,rfl,q⟩
end
open Builtin Builtin.Str
section
variable{H:Hp}{Q:VK}
end
open PySem.W PySem.Calls PySem.Builtin PySem.Builtin.ObjectAttr PySem.Builtin.Getset_descriptor
section
variable{prog:Program}{w:World}{A:Around}{E:Value->Shared->Prop}{K:Frag}{x C:Addr}{h:Heap}{g:Array GenState}{d:Drawn}{t:Nat}{os:OsState}
end
section
variable{pins:List (Addr×Obj)}{σ:St}{H:Hp}{s:Shared}
end
section
variable{P:Program}{w:World}{K:jj}{mg:Str->Option Value}{base:Heap}{N:List Str}{qual:Str}{scope:Scope}{f:Addr}{cd:Value}{A:Around}{outer:List Env}{s0:Shared}{H0:Hp}{E:XK}
end
section
variable{pl pins:List (Addr×Obj)}{σ:St}{H:Hp}{s:Shared}{EE:St->XK}{a:Addr}
end
section
variable{k j:Nat}{x:Str}{ps:List Str}{dvs:List V}{sp:Sp}{p pos:Pos}{e:Expr}{es:List Expr}{t:TA}{E:XK}
end
section
variable{P:Program}{w:World}{K:jj}{mg:Str->Option Value}{base:Heap}
end
variable{P:Program}{w:World}
section
variable{pins:List (Addr×Obj)}{σ:St}{H:Hp}{s:Shared}{pos:Pos}
theorem Kd(I:Inv X pins σ H s):sysModules<s.heap.objs.size:=gI (by decide) (show mainGlobals<s.heap.objs.size from (I.mod.glob.keeps I.bk).lt)
theorem dnew(h:Heap)(hb:sysModules<h.objs.size):ObjOk P w H (h.push { cls:=.type "dict",data:=.dict #[] }) h.objs.size (.dK []):=
 ⟨cJ _,beq_eq_false_iff_ne.mpr (cH (aR hb)),[],.nil,Heap.DictOf.new h⟩
def Gh:TE:=λ_ H Q=>∀p H',H p=none->Same H H'->H' p=some (.dK [])->Q (.ref p) H'
theorem Bn:PE X (.Dict [] [] pos) Gh:=λpins s σ H Q I h =>
 wpAny_Dict_empty ⟨.ref s.heap.objs.size,_,I.laid (a:=s.heap.objs.size) (o:=.dK []) (t':=s.toks) (λ_ _ q=>Heap.get?_push_of_some _ q) (ak _) (dnew s.heap (Kd I)),rfl,
  h _ _ (I.hok.fresh (ak _)) (zF (I.hok.fresh (ak _)) _) zg⟩
theorem EA{σ:St}{Q:VK}(q:∀p H',H p=none->Same H H'->H' p=some (.dK [])->Q (.ref p) H'):Gh σ H Q:=q
end
structure WE(X:Cx)(e:Expr)(t:TE):Prop where
 w:PE X e t
structure WA(X:Cx)(es:List Expr)(t:TA):Prop where
 w:PA X es t
def Gg:Expr->Bool
 | .Starred _ _=>true
 |_=>false
variable{es:List Expr}
theorem IB{e:Expr}{env:Env}(h:Gg e=false):starEach (e::es) env=(false,eval e env)::starEach es env:=by cases e<;>first|rfl|exact absurd (show true=false from h) (by decide)
theorem wT{e:Expr}{t:TE}(h:PE X e t):WE X e t:=⟨h⟩
theorem wK:WA X [] tNil:=⟨yq⟩
variable{t:TA}
theorem zV{e:Expr}{te:TE}(ha:WE X e te)(hr:WA X es t)(h:Gg e=false:=by rfl):WA X (e::es) (tCons te t):=⟨zu ha.w hr.w (IB h)⟩
theorem tY{x1:Nat}{pos:Pos}(h:WA X es t):WE X (.Tuple es x1 pos) (tTup t):=⟨zo h.w⟩
theorem Ev{pos:Pos}(h:WA X es t):WE X (.List es pos) (tLst t):=⟨zP h.w⟩
structure H5(d N:Int)(H:Hp)(p:Addr)(C:List Cell):Prop where
 l:H p=some (.lst (C.map Cell.v))
 at':∀c∈C,c.At H
 ok:∀c∈C,B5 d N c.b
section
variable{M:Model}{A:Around}{E:Value->Shared->Prop}{s:Shared}
end
section
variable{pins:List (Addr×Obj)}{σ:St}{H:Hp}{s:Shared}
end
section
variable{pins:List (Addr×Obj)}{σ:St}{H:Hp}{s:Shared}{scope:Scope}{cl:List (Str×Addr)}{own:List Str}{js:List Nat}{fp:List Addr}{C:Addr}{s3:Shared}{H3:Hp}{E:XK}
end
section
variable{pins:List (Addr×Obj)}{σ:St}{H:Hp}{s:Shared}{scope:Scope}{cl:List (Str×Addr)}{own:List Str}{js:List Nat}{fp:List Addr}{E:XK}
end
variable{d:Addr}
theorem Inv.retrack{pins:List (Addr×Obj)}{σ:St}{s:Shared}{u u':HO}(I:Inv X pins σ H s)(e:H d=some u)(nf:∀o v,X.H₀ d≠some (.frz o v))(nt:∀xs,u≠.tup xs)(nb:∀ps,u≠.tbl ps)(no:∀y,u≠.own y)(new:ObjOk X.prog X.w H s.heap d u')(no':∀y,u'≠.own y):Inv X pins σ (upd H d u') s:=by
 have ne:∀{b},H b=none->b≠d:=λ{b} q z=>by rw[z,e]at q;cases q
 have st:∀b v,ObjOk X.prog X.w H s.heap b v->ObjOk X.prog X.w (upd H d u') s.heap b v:=λb v x=>x.stay (λc w' _ q=>q)
  (λc q=>by rw[zl (λz=>no _ (by rw[z,e]at q;exact aJ q))];exact q)
  (λc xs q=>by rw[zl (λz=>nt _ (by rw[z,e]at q;exact aJ q))];exact q)
 refine⟨I.ok,I.os,I.bare,⟨I.base.keep,I.base.slot,λb o q n hx=>?_,I.base.there,λb xs q=>?_,λb o v q=>?_,λb ps q=>?_⟩,I.loc,I.cell,?_,λx c q=>?_,λp hp=>?_,λb v q=>?_,I.len⟩
 .have k:=I.base.free b o q n hx;rw[zl (ne k)];exact k
 .obtain⟨k,k2⟩:=I.base.tups b xs q;rw[zl (λz=>nt xs (by rw[z,e]at k;exact aJ k))];exact⟨k,k2⟩
 .have k:=I.base.frzs b o v q;rw[zl (λz=>nf o v (by rw[<-z];exact q))];exact k
 .obtain⟨more,k⟩:=I.base.tbls b ps q;exact⟨more,by rw[zl (λz=>nb _ (by rw[z,e]at k;exact aJ k))];exact k⟩
 .rw[zl (ne I.free)];exact I.free
 .rw[zl (ne (I.freeC x c q))];exact I.freeC x c q
 .obtain⟨k1,k2,k3⟩:=I.pin p hp;exact⟨k1,by rw[zl (ne k2)];exact k2,k3⟩
 .by_cases z:b=d
  .subst z;rw[zg]at q;cases q
   exact st _ _ new
  .rw[zl z]at q;exact st _ _ (I.hok b v q)
def Itd(d:Addr)(ob:Obj)(kvs:List (Key×V)):It :=
 ⟨λi H=>H d=some (.frz ob (.dK kvs))/\i<kvs.length,λi H x H'=>H'=H/\∃kv,kvs[i]?=some kv/\x=kV kv.1,λi H=>H d=some (.frz ob (.dK kvs))/\kvs.length<=i⟩
theorem Et{k:Key}{u:Value}(h:(zS P w).is k u=true):RelV (kV k) u:=by
 cases k with
 |inl i =>
  have h:Value.isInt i u=true:=h;unfold Value.isInt at h;split at h
  .exact⟨_,by rw[show i=_ from (beq_iff_eq.mp h).symm]⟩
  .cases h
 |inr x =>
  have h:Value.isStrOf x u=true:=h;unfold Value.isStrOf at h;split at h
  .exact⟨_,by rw[show x=_ from (beq_iff_eq.mp h).symm]⟩
  .cases h
variable{kvs:List (Key×V)}{ep:Nat}
theorem BX{ob:Obj}{es:Array DictEntry}(hdat:ob.data=.dict es ep)(ok:HOk P w H h)(e:H d=some (.frz ob (.dK kvs))):∃vs,KV kvs vs/\h.DictAt (zS P w) d vs ep:=by
 obtain⟨g,_,_,vs,r,o,es',ep',g',c,dd,r2⟩:=ok d _ e;have:o=ob:=by rw[g]at g';exact(aJ g').symm
 subst this;rw[hdat]at dd;cases dd
 exact⟨vs,r,o,es,g,c,hdat,r2⟩
theorem Dm{K:jj}(d it:Addr){ob:Obj}{es:Array DictEntry}(hdat:ob.data=.dict es ep):Turn P w K tg (Itd d ob kvs) [it] it (λi h=>h.IsKeyIter it d i kvs.length ep) where
 mem:=by simp
 obj:=λi h st b hb=>by
  have e:b=it:=by simpa using hb
  subst e;obtain⟨o,e,c,dd⟩:=st;exact⟨o,e,λv z=>by rw[dd]at z;cases z⟩
 keep:=λi h h' st k=>st.at λo e=>k it (by simp) o e
 item:=by
  intro X hP hw hK hc i pins s σ H E I hf st hg;subst hP hw hK;obtain⟨hfz,hi⟩:=hg;obtain⟨vs,r,da⟩:=BX hdat I.hok hfz;have hl:=r.length;obtain⟨f0,f1,f2,f3,f4,f5⟩:=hf it (by simp);obtain⟨⟨k,v⟩,hk⟩:∃p,vs[i]?=some p:=⟨vs[i]'(!4),by simp⟩
  have hkk:kvs[i]?.map (·.1)=some k:=by have:=congrArg (·[i]?) r.keys;simp only[ao,hk]at this;exact this
  obtain⟨kv,hkv,ekv⟩:∃kv,kvs[i]?=some kv/\kv.1=k:=by
   cases q:kvs[i]? with
   |none=>rw[q]at hkk;cases hkk
   |some kv=>rw[q]at hkk;exact⟨kv,rfl,aJ hkk⟩
  rw[hl]at st ⊢;refine wpAny_pyNext_dict_item st da hk λkey h' hkey st' sb=>?_;have I1:Inv X pins σ H { s with heap:=h' }:=I.turned (t':=s.toks) (λb o hb e=>(sb.2 b hb).trans e) f0 f1 f3 f4 f5;obtain⟨o,e,c,dd⟩:=id st';exact⟨key,rfl,Dl (s:={ s with heap:=h' }) e c dd (by decide) ⟨kV k,H,I1,Et hkey,⟨rfl,kv,hkv,by rw[ekv]⟩,st',λb hb=>(hf b hb).1⟩⟩
 done:=by intro X hP hw hK hc i pins s σ H E I hf st hg;subst hP hw hK;obtain⟨hfz,hi⟩:=hg;obtain⟨vs,r,da⟩:=BX hdat I.hok hfz;have hl:=r.length;obtain⟨f0,f1,f2,f3,f4,f5⟩:=hf it (by simp);rw[hl]at st;exact wpAny_pyNext_dict_end (I.ok.hd hc) st da (dD (!4)) λh' eb=>⟨rfl,I.turned (t':=s.toks) (λb o hb e=>eb b o hb e) f0 f1 f3 f4 f5⟩
 self:=λ_ _ _ _ _ st h=>wpAny_pyIter_keyiter st h
def NoFz(H₀:Hp)(d:Addr):Prop:=∀o v,H₀ d≠some (.frz o v)
def HN(H₀:Hp)(td:TE):TI:=λσ H R=>td σ H λx H1=>∃d kvs,x=.ref d/\H1 d=some (.dK kvs)/\∀ob,NoFz H₀ d->R (Itd d ob kvs) (upd H1 d (.frz ob (.dK kvs)))
theorem Inv.nofrz{pins:List (Addr×Obj)}{σ:St}{s:Shared}(I:Inv X pins σ H s)(e:H d=some (.dK kvs)):∀o v,X.H₀ d≠some (.frz o v):=λo v q=>by have k:=I.base.frzs d o v q;rw[e]at k;cases k
theorem Inv.freeze{pins:List (Addr×Obj)}{σ:St}{s:Shared}{ob:Obj}(I:Inv X pins σ H s)(e:H d=some (.dK kvs))(g:s.heap.get? d=some ob):Inv X pins σ (upd H d (.frz ob (.dK kvs))) s :=
 I.retrack e (I.nofrz e) (λ_ z=>by cases z) (λ_ z=>by cases z) (λ_ z=>by cases z) ⟨g,I.hok d _ e⟩ (λ_ z=>by cases z)
theorem Inv.thaw{pins:List (Addr×Obj)}{σ:St}{s:Shared}{ob:Obj}(I:Inv X pins σ H s)(nf:∀o v,X.H₀ d≠some (.frz o v))(e:H d=some (.frz ob (.dK kvs))):Inv X pins σ (upd H d (.dK kvs)) s :=
 I.retrack e nf (λ_ z=>by cases z) (λ_ z=>by cases z) (λ_ z=>by cases z) (I.hok d _ e).2 (λ_ z=>by cases z)
theorem D9{e:Expr}{td:TE}(hd:PE X e td):PI X tg e (HN X.H₀ td):=by
 intro pins s σ H R I h;refine thn (hd pins s σ H _ I h) λv s1 ⟨x,H1,I1,r1,q1⟩=>?_;obtain⟨d,kvs,ex,hq,q⟩:=q1;subst ex;cases r1
 obtain⟨z,y,vs,r,dof⟩:=id (I1.hok d _ hq);obtain⟨ep,o,es,ho,r2⟩:=dof.dictAt;obtain⟨c,hdat,r3⟩:=id r2;refine wpAny_pyIter_dict y ⟨o,es,ho,r2⟩ ?_;have I2:=(I1.kept (h':=s1.heap.push { cls:=.type "dict_keyiterator",data:=.fields #[.ref d,.int 0 0,.int vs.length 0,.int ep 0] }) (t':=s1.toks) λb o e=>Heap.get?_push_of_some _ e).freeze hq (Heap.get?_push_of_some _ ho);refine⟨s1.heap.objs.size,[s1.heap.objs.size],_,_,_,rfl,I2,Dm d _ hdat,?_,λb hb=>?_,q o (I1.nofrz hq)⟩
 .rw[r.length];exact⟨_,Heap.get?_push_size _ rfl,rfl,rfl⟩
 .have e:b=s1.heap.objs.size:=by simpa using hb
  subst e;have hn:=I1.hok.fresh (ak s1.heap.objs.size);exact I1.fpOk (ak _) (by rw[zl (λz=>by rw[z,hq]at hn;cases hn)];exact hn)
def Gk(H₀:Hp)(td:TE)(g:TG)(tc:TT)(te:TE)(n:Nat)(js:List Nat):TE:=λσ H Q=>tJ (HN H₀ td) g tc te n js σ H λv H2=>∃d ob kvs,NoFz H₀ d/\H2 d=some (.frz ob (.dK kvs))/\Q v (upd H2 d (.dK kvs))
variable{g:TG}
theorem Bb{elt iter tgt:Expr}{ifs:List Expr}{scope:Scope}{pos:Pos}{td:TE}{tc:TT}{te:TE}(own:List Str)(js:List Nat)(hc:X.calm=true)(hi:PI X tgt iter (HN X.H₀ td))(hg:∀cl fp C s3 H3,PG (zW X scope cl own js fp C s3 H3) tgt g)(ht:∀cl fp C s3 H3,PIfs (zW X scope cl own js fp C s3 H3) ifs tc)(he:∀cl fp C s3 H3,PE (zW X scope cl own js fp C s3 H3) elt te)(hfree':(scope.names.all λy=>y.2 != .free || X.env.scope.names.lookup y.1==some .cell)=true:=by rfl)(hjs':(js.all λj=>scope.names.lookup (X.N.getD j Str.empty)==some .free && X.env.scope.names.lookup (X.N.getD j Str.empty)==some .cell)=true:=by rfl)(hcell':(scope.names.all λy=>y.2 != .cell)=true:=by rfl)(hnames':(scope.names.all λy=>y.2 != .local || scope.names.lookup y.1==some .local)=true:=by rfl)(hkind:scope.kind=.function:=by rfl)(hs:∀x,foldedSetIterable iter X.env x=pure x:=by intro _;rfl):
  PE X (.ListComp elt [⟨tgt,iter,ifs,0⟩] scope pos) (Gk X.H₀ td g tc te own.length js):=by
 intro pins s σ H Q I h;rw[eval_ListComp];refine uT own js hc hi hg ht he (A1 hfree') (Ii hjs') (AT hcell') (uH hnames') hkind hs I h λD H3 H5 σ5 s3 s6 fp cl I3 f3 I6 qn=>?_;obtain⟨d,ob,kvs,nf,e,qn⟩:=qn;obtain⟨m,hm,_⟩:=id I6.loc;exact⟨m,hm,λh' sb=>⟨.ref D,_,(vD I3 f3 I6 sb).thaw nf e,rfl,qn⟩⟩
section
variable{g:TG}{tc:TT}{te:TE}{D:Addr}{H1:Hp}{σ0:St}{Q:VK}
theorem t6{R:Hp->Prop}{ob:Obj}(Pv:Nat->List V->St->Hp->Prop)(h0:Pv 0 [] σ0 (upd H1 D (.lst [])))(hl:∀i xs σ H,i<=kvs.length->Pv i xs σ H->H d=some (.frz ob (.dK kvs)))(hs:∀i kv xs σ H,kvs[i]?=some kv->Pv i xs σ H->g (kV kv.1) σ H λσ3 H3=>tc σ3 H3 λb H4=>if b=true then te σ3 H4 λv H5=>z7 (.ref D) [v] H5 λ_ H6=>uQ kvs.length Pv i σ3 H6 else uQ kvs.length Pv i σ3 H4)(hd:∀xs σ H,Pv kvs.length xs σ H->R H): ∃W:Nat->Nat->St->Hp->Prop,(∃m,W 0 m σ0 (upd H1 D (.lst [])))/\∀i m σ' H',W i m σ' H'->((Itd d ob kvs).stop i H'/\R H')\/((Itd d ob kvs).go i H'/\∀x H2,(Itd d ob kvs).yld i H' x H2->g x σ' H2 λσ3 H3=>tc σ3 H3 λb H4 =>
   if b=true then te σ3 H4 λv H5=>z7 (.ref D) [v] H5 λ_ H6=>∃m',m'<m/\W (i+1) m' σ3 H6 else ∃m',m'<m/\W (i+1) m' σ3 H4):=by
 refine⟨λi m σ H=>m=kvs.length - i/\i<=kvs.length/\∃xs,Pv i xs σ H,⟨kvs.length,by simp,cJ _,[],h0⟩,?_⟩;rintro i m σ H ⟨rfl,hi,xs,p⟩;have q:=hl i xs σ H hi p;by_cases hlt:i<kvs.length
 .refine .inr ⟨⟨q,hlt⟩,λx H' y=>?_⟩;obtain⟨e,kv,hkv,ex⟩:=y;subst e ex;exact hs i kv xs σ _ hkv p
 .have e:i=kvs.length:=by omega
  subst e;exact .inl ⟨⟨q,ak _⟩,hd xs σ H p⟩
theorem DY{H₀:Hp}{td:TE}{σ:St}{n:Nat}{js:List Nat}(h:td σ H λx H1=>∃d kvs,x=.ref d/\H1 d=some (.dK kvs)/\∀ob,NoFz H₀ d->∀D,(upd H1 d (.frz ob (.dK kvs))) D=none->∃W:Nat->Nat->St->Hp->Prop,(∃m,W 0 m (ua n js σ) (upd (upd H1 d (.frz ob (.dK kvs))) D (.lst []))) /\
 ∀i m σ' H',W i m σ' H'->((Itd d ob kvs).stop i H'/\∃d' ob' kvs',NoFz H₀ d'/\H' d'=some (.frz ob' (.dK kvs'))/\Q (.ref D) (upd H' d' (.dK kvs')))\/((Itd d ob kvs).go i H'/\∀x H2,(Itd d ob kvs).yld i H' x H2->g x σ' H2 λσ3 H3=>tc σ3 H3 λb H4 =>
  if b=true then te σ3 H4 λv H5=>z7 (.ref D) [v] H5 λ_ H6=>∃m',m'<m/\W (i+1) m' σ3 H6 else ∃m',m'<m/\W (i+1) m' σ3 H4)):Gk H₀ td g tc te n js σ H Q:=h
end
def OwnM(P:Program)(w:World)(K:jj)(mg:Str->Option Value)(base:Heap)(CX:CXT)(C:Addr)(k:Nat)(m:Str)(ps:List Str)(dvs:List V)(sp:Sp):Prop :=
 ∃ (f:Addr) (fd:FuncData) (ds:List Value),FnOk P w K mg base CX k f fd ps sp/\Cls K C/\Meth K C m f/\Binds K fd ps ds/\Vals dvs ds
def OwnI(P:Program)(w:World)(K:jj)(mg:Str->Option Value)(base:Heap)(CX:CXT)(C:Addr)(k:Nat)(x:Str)(ps:List Str)(dvs:List V)(sp:Sp):Prop :=
 ∃ (f:Addr) (fd:FuncData) (ds:List Value),FnOk P w K mg base CX k f fd ps sp/\Mk K C f/\mg x=some (.ref C)/\Binds K fd ps ds/\Vals dvs ds
section
variable{CX:CXT}{k j:Nat}{C:Addr}{x m:Str}{ps ks:List Str}{dvs:List V}{sp:Sp}{E:XK}{p pos apos:Pos}{e o:Expr}{es:List Expr}{ta:TE}{t tk:TA}{pl:Sem Bool}{kws:List Keyword}{gV:List V->List V->List V}
theorem vC(O:OwnM X.prog X.w X.K X.mg X.base CX C k m ps dvs sp)(hx:xH CX X E)(hr:Room j X.A)(he:PE X o ta)(ha:PA X (e::es) t)(hk:k<=j:=by decide)(hst:starEach (e::es) X.env=(false,eval e X.env)::starEach es X.env:=by rfl)(hpl:(backTo pos (starEach es X.env)).any (·.1)=false:=by rfl)(ht:eval (.Call (.Attribute o m apos) (e::es) [] pos) X.env=(do
   let ov <-eval o X.env
   standAt apos.atName
   let (f,first) <-holding [ov] (getMethod ov m pl)
   callWith pos f first (backTo pos (starEach (e::es) X.env)) (backToKw pos (keywordEach [] X.env))):=by rfl):PE X (.Call (.Attribute o m apos) (e::es) [] pos) (CU C m sp dvs E ta t):=by
 obtain⟨f,fd,ds,F,c,hm,hb,hd⟩:=O;exact GX he c hm F (hr.mono hk) hb hd hx ha hst hpl ht
theorem Bf(O:OwnM X.prog X.w X.K X.mg X.base CX C k m ps dvs sp)(hx:xH CX X E)(hr:Room j X.A)(he:PE X o ta)(hk:k<=j:=by decide)(ht:eval (.Call (.Attribute o m apos) [] [] pos) X.env=(do
   let ov <-eval o X.env
   standAt apos.atName
   let (f,first) <-holding [ov] (getMethod ov m pl)
   callWith pos f first (backTo pos (starEach [] X.env)) (backToKw pos (keywordEach [] X.env))):=by rfl):PE X (.Call (.Attribute o m apos) [] [] pos) (CU C m sp dvs E ta tNil):=by
 obtain⟨f,fd,ds,F,c,hm,hb,hd⟩:=O;exact FC he c hm F (hr.mono hk) hb hd hx ht
theorem Ih(O:OwnI X.prog X.w X.K X.mg X.base CX C k x ps dvs sp)(hx:xH CX X E)(hr:Room j X.A)(hg:Gl X x)(ha:PA X (e::es) t)(hk:k+1<=j:=by decide)(hdb:(x==("__debug__":Str))=false:=by decide)(he:starEach (e::es) X.env=(false,eval e X.env)::starEach es X.env:=by rfl)(hpl:(backTo pos (starEach es X.env)).any (·.1)=false:=by rfl):PE X (.Call (.Name x p) (e::es) [] pos) (GV C sp dvs E t):=by obtain⟨f,fd,ds,F,M,hm,hb,hd⟩:=O;exact IA M F (hr.mono hk) hg hm hb hd hx ha hdb he hpl
end
def TopM(K:jj)(C:Addr)(m qual:Str)(st:Stmt):Prop:=∃ (f:Addr) (fd:FuncData),Fun K m qual st f fd/\Meth K C m f
def TopIn(K:jj)(mg:Str->Option Value)(C:Addr)(x qual:Str)(st:Stmt)(its:List Value):Prop:=∃ (f:Addr) (fd:FuncData),FunD K "__init__" qual st f fd its/\Mk K C f/\mg x=some (.ref C)
section
variable{P:Program}{w:World}{K:jj}{mg:Str->Option Value}{base:Heap}{CX:CXT}{C:Addr}{k:Nat}{x m qual:Str}{st:Stmt}{ps ks:List Str}{dvs:List V}{its ds:List Value}{sp:Sp}
theorem TopM.own(T:TopM K C m qual st)(c:Cls K C)(hb:∀(kV doc pm:Value)(an:Option Addr)(cdv ct:Value)(us:List Value),us.length=ps.length->bindArgs (W.fnOf m qual (defArgs st) (defBody st) (defScope st) .none kV doc pm an cdv ct) ⟨us,[]⟩=pure (ps.zip us))(h:∀f fd,Fun K m qual st f fd->FnOk P w K mg base CX k f fd ps sp):OwnM P w K mg base CX C k m ps [] sp:=by obtain⟨f,fd,F,hm⟩:=T;exact⟨f,fd,[],h f fd F,c,hm,F.binds hb,.nil⟩
theorem TopIn.own(T:TopIn K mg C x qual st its)(hb:∀(T:Addr)(kV doc pm:Value)(an:Option Addr)(cdv ct:Value)(us:List Value),(us++ds).length=ps.length->∃k:Option (Array Value)->Sem (List (Str×Value)),
   bindArgs (W.fnOf "__init__" qual (defArgs st) (defBody st) (defScope st) (.ref T) kV doc pm an cdv ct) ⟨us,[]⟩=seqItems? (.ref T) >>= k/\k (some its.toArray)=pure (ps.zip (us++ds)))(hd:Vals dvs ds)(h:∀f fd,FunD K "__init__" qual st f fd its->FnOk P w K mg base CX k f fd ps sp):OwnI P w K mg base CX C k x ps dvs sp:=by
 obtain⟨f,fd,F,M,hm⟩:=T;exact⟨f,fd,ds,h f fd F,M,hm,F.binds hb,hd⟩
end
variable{C f:Addr}{osl:Array (Option Value)}{an od:Option Addr}{qual:Str}{cdv ct doc oc pm:Value}
theorem topM_mk{K:jj}{m:Str}{st:Stmt}{kV:Value}(l:K.lookup f=some ⟨oc,od,.func (W.fnOf m qual (defArgs st) (defBody st) (defScope st) .none kV doc pm an cdv ct),osl⟩)(c:W.codeIn K cdv qual=true)(k:W.keepIn K (.ref f)=true)(a:W.findIn K (.ref C) m=some (some (.ref f)))(n:W.isFn K (.ref f)=true):TopM K C m qual st:=⟨f,_,Ge l c k,⟨a,n,k⟩⟩
variable{its:List Value}
theorem topIn_mk{K:jj}{st:Stmt}{T:Addr}{kV:Value}{n:Nat}{to:Obj}(X:K.In h)(G:h.Ns mainGlobals mg)(l:K.lookup f=some ⟨oc,od,.func (W.fnOf "__init__" qual (defArgs st) (defBody st) (defScope st) (.ref T) kV doc pm an cdv ct),osl⟩)(c:W.codeIn K cdv qual=true)(k:W.keepIn K (.ref f)=true)(t:K.lookup T=some to)(d:to.data=.seq its.toArray n)(m:W.makesIn K C=true)(i:W.findIn K (.ref C) "__init__"=some (some (.ref f)))(nf:W.isFn K (.ref f)=true)(kc:W.keepIn K (.ref C)=true)(a:W.nsIn K mainGlobals x=some (some (.ref C))):TopIn K mg C x qual st its :=
 ⟨f,_,⟨⟨oc,od,T,kV,doc,pm,an,cdv,ct,osl,_,n,rfl,l,c,t,d⟩,k⟩,⟨m,i,nf,kc⟩,d8 X G a⟩
section
variable{prog:Program}{w:World}{κ:Type}[DecidableEq κ]{knd:KeyKind prog w κ}{A:Around}{E:Value->Shared->Prop}
theorem xr:entryFor table "dict.update.loop"=some Builtin.«dict.update.loop»:=entryFor_of_tree (by kernel_rfl)
theorem vU:typeLookup (.type "list") "keys"=pure none:=by rw[typeLookup_type,builtinLookup_eq_fast];kernel_rfl
theorem tG{s:Shared}{xs:Array Value}{k:Nat}{Q:Option Value->Shared->Prop}(hx:s.heap.get? a=some o)(hc:o.cls=.type "list")(hdat:o.data=.seq xs k)(hd:o.dict=none)(hA:A.handled=none)(q:∀h' tk e,Heap.NewExcOf s.heap h' e "AttributeError"->Q none { s with heap:=h',toks:=tk }):wpAny (model prog w) A (getAttr? (.ref a) "keys") Q E s:=by
 obtain⟨c,dct,dat,sl⟩:=o;simp only at hc hdat hd;subst hc hdat hd;obtain⟨hp,g,d,tk,os⟩:=s;have tT:∀tk',(⟨hp,g,d,tk',os⟩:Shared).TypeIs (.ref a) "list":=λ_=>⟨_,hx,rfl⟩
 have k1:=sub_AttributeError;have k3:=F.slot_list_getattribute.lookup;have k4:=F.slot_list_getattribute.bind (.ref a);have k5:=am_list_getattr_none;unfold getAttr? getAttrBy? getAttrBy;repeat (any_goals (first|assumption|exact tT _|((with_reducible show wpAny _ _ (call (Value.builtin "list.__getattribute__") _ _) _ _ _);refine call_meets F.slot_list_getattribute (tT _) am_entry_list_getattribute (F.args_list_getattribute_2 _ _) (meets_getattribute_miss_list a xs k sl "keys" _ vU (by decide+kernel)) ⟨hx,hA,λh' tk' e hx'=>?_⟩)|wp_step))
 obtain⟨t',u',he⟩:=hx'.there;show wpAny _ _ (getattributeRaised _ _ _ _ _ _ _) _ _ _;unfold getattributeRaised;repeat (any_goals (first|assumption|wp_step))
 exact q _ _ _ hx'.of
theorem tV(hh:A.handled=none){R:Result->Shared->Prop}{d it l:Addr}(hdi:d≠it)(hdl:l≠d)(hli:l≠it){items:List Value}{rs:List (κ×Value)}{s0:Shared} (hit0:∀(i:Nat)(x:Value),items[i]?=some x->∃ (p:Addr) (k:κ) (v key:Value),x=.ref p/\p≠d/\p≠it/\s0.heap.IsTuple p #[key,v]/\rs[i]?=some (k,v)/\knd.is k key=true) (hlen:rs.length=items.length) (hnd:(rs.map (·.1)).Nodup) (hsz:rs.length<=sizeLine) (hl0:s0.heap.IsList l items.toArray) (hR:∀h' tk,h'.DictOf knd d rs->(∀b o,b≠it->b≠d->s0.heap.get? b=some o->h'.get? b=some o)->R (.ok (.ret .none)) { s0 with heap:=h',toks:=tk }):
  ∀(n i:Nat)(h:Heap)(tk:Nat),items.length=i+n->h.IsListIter it l i->h.DictOf knd d (rs.take i)->(∀b o,b≠it->b≠d->s0.heap.get? b=some o->h.get? b=some o) ->
   codeAny (model prog w) A (.builtin "dict.update.loop" ⟨[.ref d,.ref it,rawInt i,.none],[]⟩) R { s0 with heap:=h,toks:=tk }
 |0,i,h,tk,e,hi,hd,hk=>by
  have hl:h.IsList l items.toArray:=by obtain⟨o,g,c⟩:=hl0;exact⟨o,hk l o hli hdl g,c⟩
  refine codeAny_builtin xr ?_;unfold Builtin.«dict.update.loop»;refine i4 (ja (A:=A.under _) hh hi hl (by simp;omega) λh' eb=>?_);have hd':h'.DictOf knd d rs:=by
   have:=hd.extBut eb hdi
   rwa[bT (!4)]at this
  exact i4 (i6 (i6 (hR h' tk hd' λb o n1 n2 g=>eb b o n1 (hk b o n1 n2 g))))
 |n+1,i,h,tk,e,hi,hd,hk=>by
  have hl:h.IsList l items.toArray:=by obtain⟨o,g,c⟩:=hl0;exact⟨o,hk l o hli hdl g,c⟩
  obtain⟨x,hx⟩:∃x,items[i]?=some x:=⟨items[i]'(!4),by simp⟩
  obtain⟨p,k,v,key,rfl,np,npi,⟨o,go,oc,m,od⟩,hr,hkey⟩:=hit0 i x hx;refine codeAny_builtin xr ?_;unfold Builtin.«dict.update.loop»;refine i4 (i9 hi hl (by simpa using hx) λh' hi' sb=>?_);have gp:h'.get? p=some o:=(sb.2 p npi).trans (hk p o npi np go);refine i4 (je ?_);refine i4 (wpAny_tryCatch ?_);unfold Builtin.Dict.pairItems;refine i4 (jf (s:={ s0 with heap:=h',toks:=tk }) (T:="tuple") ⟨o,gp,oc⟩ ?_);rw[iU (by decide)];refine i4 (wpAny_seqItems (s:={ s0 with heap:=h',toks:=tk }) gp od (i6 ?_));show wpAny _ _ (holding [key,v] (dictSet d key v)) _ _ _;refine je (wpAny_dictSet_pairs (s:={ s0 with heap:=h',toks:=tk }) (hsz:=by rw[aU];omega) hkey (hd.sameBut sb hdi) λh2 hd2 sb2=>?_);refine i6 ⟨Code.quiet_builtin _ (by decide+kernel),?_⟩;have est:stored (rs.take i) k v=rs.take (i+1):=by
   rw[g5,hr];unfold stored;rw[iV]
   .rfl
   .intro z;obtain⟨y,hy,ey⟩:=List.any_eq_true.mp z;have ey:y.1=k:=of_decide_eq_true ey;obtain⟨j,hj,rfl⟩:=List.getElem_of_mem hy;rw[aU]at hj;have hi2:=(af.mp hr)
    obtain⟨hi3,hi4⟩:=hi2;refine gU.mp hnd j i (by rw[aa];omega) (by rw[aa];omega) (!4) ?_;simp only[eM];rw[hi4];simpa using ey
  rw[est]at hd2;have:=tV hh hdi hdl hli hit0 hlen hnd hsz hl0 hR n (i+1) h2 (tk+1) (!4) (hi'.at λo g=>(sb2.2 it (cH hdi)).trans g) hd2 λb o n1 n2 g=>(sb2.2 b n2).trans ((sb.2 b n1).trans (hk b o n1 n2 g));exact this
theorem vp{s:Shared}{Q:Value->Shared->Prop}{l:Addr}{ol:Obj}{n:Nat}{items:List Value}{rs:List (κ×Value)}(hh:A.handled=none)(hl:s.heap.get? l=some ol)(hc:ol.cls=.type "list")(hdat:ol.data=.seq items.toArray n)(hdd:ol.dict=none)(hit0:∀(i:Nat)(x:Value),items[i]?=some x->∃ (p:Addr) (k:κ) (v key:Value),x=.ref p/\s.heap.IsTuple p #[key,v]/\rs[i]?=some (k,v)/\knd.is k key=true)(hlen:rs.length=items.length)(hnd:(rs.map (·.1)).Nodup)(hsz:rs.length<=sizeLine)(q:∀h' tk,h'.DictOf knd s.heap.objs.size rs->(∀b o,s.heap.get? b=some o->h'.get? b=some o)->Q (.ref s.heap.objs.size) { s with heap:=h',toks:=tk }):
  wpAny (model prog w) A (call (.type "dict") [.ref l]) Q E s:=by
 refine callType_codes (Q₁:=λobj s₁=>obj=.ref s.heap.objs.size/\s₁={ s with heap:=s.heap.push { cls:=.type "dict",data:=.dict #[] } }) F.kt_called_dict (F.kt_typeCall_dict_1 _) F.entry_dict_init (kt_code_dict_new _ ⟨rfl,rfl⟩) ?_;rintro obj s₁ ⟨rfl,rfl⟩;have hnew:(s.heap.push { cls:=.type "dict",data:=.dict #[] }).DictOf knd s.heap.objs.size []:=Heap.DictOf.new s.heap;have hl1:=Heap.get?_push_of_some { cls:=.type "dict",data:=.dict #[] } hl;refine⟨hnew.typeIs,F.args_dict_init_2 _ _,?_⟩;unfold Builtin.«dict.__init__»;refine i4 ?_;unfold Builtin.Dict.selfAndRest;refine i4 (wpAny_notOrdered_dict hnew.typeIs ?_);show wpAny _ _ (pure (s.heap.objs.size,[Value.ref l])) _ _ _;refine i6 ?_;show wpAny _ _ (Builtin.Dict.updateFrom "dict.__init__" s.heap.objs.size (.ref l) [] .none) _ _ _;unfold Builtin.Dict.updateFrom;refine i4 (jf (s:={ s with heap:=s.heap.push { cls:=.type "dict",data:=.dict #[] } }) (T:="list") ⟨ol,hl1,hc⟩ ?_);rw[iU (by decide)];refine i4 (tG (s:={ s with heap:=s.heap.push { cls:=.type "dict",data:=.dict #[] } }) hl1 hc hdat hdd (show A.in1.in1.handled=none from hh) λh1 tk1 e1 new=>?_);simp only[Option.isNone_none,if_true];have kp:∀b o,(s.heap.push { cls:=.type "dict",data:=.dict #[] }).get? b=some o->h1.get? b=some o:=new.keeps;have hl2:=kp _ _ hl1;refine i4 (wpAny_rule ?_);refine i4 (jb (s:={ s with heap:=h1,toks:=tk1 }) ⟨ol,hl2,hc,n,hdat⟩ ?_);refine i6 ⟨Code.quiet_builtin _ (by decide+kernel),?_⟩;have lt:∀{b o},s.heap.get? b=some o->b<s.heap.objs.size:=λg=>Heap.lt_size g;obtain⟨od,_,_,god,_⟩:=id hnew;have ltd:s.heap.objs.size<h1.objs.size:=Heap.lt_size (kp _ _ god);have up:∀b o,s.heap.get? b=some o->(h1.push { cls:=.type "list_iterator",data:=.fields #[.ref l,.int 0 0] }).get? b=some o:=λb o g=>Heap.get?_push_of_some _ (kp b o (Heap.get?_push_of_some _ g));have hd0:(h1.push { cls:=.type "list_iterator",data:=.fields #[.ref l,.int 0 0] }).DictOf knd s.heap.objs.size (rs.take 0):=by obtain⟨o,es,ep,g,r⟩:=hnew;exact⟨o,es,ep,Heap.get?_push_of_some _ (kp _ _ g),r⟩
 refine tV (s0:={ s with heap:=h1.push { cls:=.type "list_iterator",data:=.fields #[.ref l,.int 0 0] },toks:=tk1 }) (A:=A.in1) (show A.in1.handled=none from hh) (d:=s.heap.objs.size) (it:=h1.objs.size) (l:=l) (aR ltd) (aR (lt hl)) (aR (gI (lt hl) ltd)) (items:=items) (rs:=rs) (λi x hx=>?_) hlen hnd hsz ⟨ol,up _ _ hl,hc,n,hdat⟩ (λh' tk dd kk=>⟨rfl,?_⟩) items.length 0 _ tk1 (by simp) ⟨_,Heap.get?_push_size _ rfl,rfl,rfl⟩ hd0 λb o _ _ g=>g
 .obtain⟨p,k,v,key,e,⟨o,g,c⟩,r,hk⟩:=hit0 i x hx;exact⟨p,k,v,key,e,aR (lt g),aR (gI (lt g) ltd),⟨o,up _ _ g,c⟩,r,hk⟩
 .exact q h' tk dd λb o g=>kk b o (aR (gI (lt g) ltd)) (aR (lt g)) (up b o g)
end
def Gj:List V->Hp->VK->Prop:=λxs H Q=>∃ (l:Addr) (ps:List Addr) (kvs:List (Key×V)),xs=[.ref l]/\H l=some (.lst (ps.map V.ref))/\ps.length=kvs.length/\(∀(i:Nat)(p:Addr)(kv:Key×V),ps[i]?=some p->kvs[i]?=some kv->H p=some (.tup [kV kv.1,kv.2]))/\(kvs.map (·.1)).Nodup/\kvs.length<=sizeLine/\∀p,H p=none->Q (.ref p) (upd H p (.dK kvs))
theorem Cc{P:Program}{w:World}{H:Hp}{h:Heap}(ok:HOk P w H h):∀{ps:List Addr}{kvs:List (Key×V)},ps.length=kvs.length->(∀(i:Nat)(p:Addr)(kv:Key×V),ps[i]?=some p->kvs[i]?=some kv->H p=some (.tup [kV kv.1,kv.2])) -> ∃rs:List (Key×Value),KV kvs rs/\∀(i:Nat)(x:Value),(ps.map Value.ref)[i]?=some x->∃ (p:Addr) (k:Key) (v key:Value),x=.ref p/\h.IsTuple p #[key,v]/\rs[i]?=some (k,v)/\(zS P w).is k key=true
 |[],[],_,_=>⟨[],.nil,λi x e=>by simp at e⟩
 |[],_::_,e,_=>by cases e
 |_::_,[],e,_=>by cases e
 |p::ps,kv::kvs,e,hp=>by
  obtain⟨rs,r,hr⟩:=Cc ok (ps:=ps) (kvs:=kvs) (by simpa using e) λi p' kv' h1 h2=>hp (i+1) p' kv' h1 h2;obtain⟨_,its,rv,tp⟩:=ok p _ (hp 0 p kv rfl rfl);obtain⟨key,v,rfl,rk,rv⟩:=Vals.two rv;refine⟨(kv.1,v)::rs,.cons ⟨rfl,rv⟩ r,λi x hx=>?_⟩;cases i with
  |zero =>
   have:x=.ref p:=(aJ hx).symm;subst this;exact⟨p,kv.1,v,key,rfl,tp,rfl,Ci rk⟩
  |succ i=>exact hr i x hx
theorem Ei:∀{ps:List Addr}{its:List Value},Vals (ps.map V.ref) its->its=ps.map Value.ref
 |[],_,r=>by cases r;rfl
 |p::ps,_,r=>by
  cases r with
  |cons r1 r2 =>
   cases r1
   rw[Ei r2];rfl
theorem ue(hc:X.calm=true):yZ X (.type "dict") Gj:=by
 intro pins s σ H xs us Q I r h;obtain⟨l,ps,kvs,rfl,el,hlen,hps,hnd,hsz,q⟩:=h;obtain⟨u,rfl,ru⟩:=Vals.one r;cases ru
 obtain⟨_,its,n,rv,gl⟩:=id (I.hok l _ el);have:=Ei rv;subst this;obtain⟨rs,rr,hr⟩:=Cc I.hok hlen hps;have hl:=rr.length;refine vp (I.ok.hd hc) gl rfl rfl rfl hr (by rw[aa];omega) (by rw[<-rr.keys];exact hnd) (!4) λh' tk dd kk=>?_;refine⟨.ref s.heap.objs.size,_,I.laid (a:=s.heap.objs.size) (o:=.dK kvs) (t':=tk) kk (ak _) (Ew hsz (beq_eq_false_iff_ne.mpr (cH (aR I.big))) rr dd),rfl,q _ (I.hok.fresh (ak _))⟩
section
variable{prog:Program}{w:World}{κ:Type}[DecidableEq κ]{knd:KeyKind prog w κ}{A:Around}{E:Value->Shared->Prop}
theorem u7:typeLookup (.type "dict") "__len__"=pure (some (.builtin "dict.__len__")):=by rw[typeLookup_type,builtinLookup_eq_fast];kernel_rfl
theorem uj:∀{l:List Value}{ns:List Int},l.length=ns.length->(∀(j:Nat)(v:Value)(n:Int),l[j]?=some v->ns[j]?=some n->∃t,v=.int n t)->IntsAre l ns
 |[],[],_,_=>.nil
 |[],_::_,e,_=>by cases e
 |_::_,[],e,_=>by cases e
 |v::l,n::ns,e,h=>by obtain⟨t,rfl⟩:=h 0 v n rfl rfl;exact .cons n t (uj (by simpa using e) λj v' n' h1 h2=>h (j+1) v' n' h1 h2)
theorem uB{kvs:List (Key×Value)}{acc:Array Value}(hk:kvs.map (·.1)=ns.map Sum.inl)(h:ItemsOf (λi v=>∃k x,kvs[i]?=some (k,x)/\(zS prog w).is k v=true) acc kvs.length):IntsAre acc.toList ns:=by
 have hl:kvs.length=ns.length:=by
  have:=congrArg List.length hk
  rwa[aa,aa]at this
 refine uj (by rw[eP,h.1,hl]) λj v n h1 h2=>?_;obtain⟨k,x,e1,e2⟩:=h.2 j v (by rw[<-Array.getElem?_toList];exact h1);have:k=.inl n:=by have z:=congrArg (·[j]?) hk;simp only[ao,e1,h2,eW,Option.some.injEq]at z;exact z
 subst this;exact Et e2
end
theorem xq:∀{vs:List Value}{ns:List Int},IntsAre vs ns->Vals (ns.map V.int) vs
 |_,_,.nil=>.nil
 |_,_,.cons n t r=>.cons ⟨t,rfl⟩ (xq r)
def Ite(K:jj)(a:Addr):It :=
 ⟨λi H=>∃xs x,SqL K H a xs/\xs[i]?=some x,
  λi H v H'=>∃T,H T=none/\v=.ref T/\∀xs,SqL K H a xs->∃x,xs[i]?=some x/\H'=upd H T (.tup [.int (i:Int),x]),
  λi H=>∃xs,SqL K H a xs/\xs.length<=i⟩
theorem EM{K:jj}{k:Nat}{pos:Pos}(a e it:Addr)(ne:e≠it):Turn P w K (.Tuple es k pos) (Ite K a) [e,it] e (λi h=>(∃old,IsEnum h e it (i:Int) old)/\h.IsListIter it a i) where
 mem:=by simp
 obj:=λi h st c hc=>by
  obtain⟨⟨old,he⟩,⟨o1,e1,c1,d1⟩⟩:=st;have hc':c=e\/c=it:=by simpa using hc
  rcases hc' with rfl|rfl
  .exact⟨_,he,λv q=>by cases q⟩
  .exact⟨o1,e1,λv q=>by rw[d1]at q;cases q⟩
 keep:=λi h h' st kk=>by obtain⟨⟨old,he⟩,h1⟩:=st;exact⟨⟨old,kk e (by simp) _ he⟩,h1.at λo q=>kk it (by simp) o q⟩
 item:=by
  intro X hP hw hK hc i pins s σ H E I hf st hg;subst hP hw hK;obtain⟨xs,x,hq,hx⟩:=hg;obtain⟨⟨old,he⟩,h1⟩:=st;obtain⟨its,rv,p1,hz1⟩:=I.list hq;obtain⟨u,hu,ru⟩:=rv.get hx;refine wpAny_pyNext_enum_item he h1 p1.isList (x:=u) (by simpa using hu) ne λh' a1 a2 a3 a4 hk=>?_;refine⟨_,rfl,?_⟩;have lt:∀{c o},s.heap.get? c=some o->s.heap.objs.size≠c:=λq=>iu (Heap.lt_size q);refine wpAny_letOwnedTupleGo_enum (s:={ s with heap:=h',toks:=s.toks+1 }) a1 λh2' he' hs'=>?_;have hs':Heap.SameBut e h' h2':=hs';have hT:H s.heap.objs.size=none:=I.hok.fresh (ak _);have I0:Inv X pins σ (upd H s.heap.objs.size (.tup [.int (i:Int),x])) { s with heap:=s.heap.push { cls:=.type "tuple",data:=.seq #[.int (i:Int) s.toks,u] },toks:=s.toks+1 } :=
   I.laid (t':=s.toks+1) (λb u e=>Heap.get?_push_of_some _ e) (ak _) ⟨show [V.int (i:Int),x].length<=sizeLine from yI (by simp),[.int (i:Int) s.toks,u],.cons ⟨_,rfl⟩ (.cons ru .nil),⟨_,Heap.get?_push_size _ rfl,rfl,_,rfl⟩⟩
  have hne:∀c∈[e,it],c≠s.heap.objs.size:=λc hc=>by
   have hc':c=e\/c=it:=by simpa using hc
   rcases hc' with rfl|rfl
   .exact(lt he).symm
   .obtain⟨_,q,_⟩:=h1;exact(lt q).symm
  have hf':∀c∈[e,it],FpOk X pins (upd H s.heap.objs.size (.tup [.int (i:Int),x])) c:=λc hc=>by obtain⟨f0,f1,f2,f3,f4,f5⟩:=hf c hc;exact⟨by rw[zl (hne c hc)];exact f0,f1,f2,f3,f4,f5⟩
  have I1:=Inv.turnedL (s:={ s with heap:=s.heap.push { cls:=.type "tuple",data:=.seq #[.int (i:Int) s.toks,u] },toks:=s.toks+1 }) (h':=h2') (t':=s.toks+1) (its:=[e,it]) I0 (λc o hc q=>by
   have c1:c≠e:=λq=>hc (by simp[q]);have c3:c≠it:=λq=>hc (by simp[q]);refine hs'.extBut _ _ c1 ?_;by_cases hcs:c=s.heap.objs.size
   .subst hcs;have e':some ({ cls:=.type "tuple",data:=.seq #[.int (i:Int) s.toks,u] }:Obj)=some o:=(Heap.get?_push_size s.heap rfl).symm.trans q;rw[<-e'];exact a3
   .exact hk c o c1 c3 (Ax hcs q)) hf'
  refine⟨.ref s.heap.objs.size,_,I1,rfl,⟨_,hT,rfl,λxs' q1=>⟨x,by rw[I.list_inj q1 hq];exact hx,rfl⟩⟩,⟨⟨_,by simpa using he'⟩,a2.extBut hs'.extBut (cH ne)⟩,λc hc=>?_⟩;rw[zl (hne c hc)];exact(hf c hc).1
 done:=by intro X hP hw hK hc i pins s σ H E I hf st hg;subst hP hw hK;obtain⟨xs,hq,hx⟩:=hg;obtain⟨⟨old,he⟩,h1⟩:=st;obtain⟨its,rv,p1,hz1⟩:=I.list hq;have l1:=rv.length;obtain⟨f0,f1,f2,f3,f4,f5⟩:=hf it (by simp);refine wpAny_pyNext_enum_end (I.ok.hd hc) he h1 p1.isList (by simp;omega) λh' hk=>⟨rfl,I.turned (t':=s.toks) (it:=it) (λc o hc q=>hk c o hc q) f0 f1 f3 f4 f5⟩
 self:=λ_ _ _ _ _ st h=>by obtain⟨⟨old,he⟩,_⟩:=st;exact wpAny_pyIter_enum he h
def Itv(K:jj)(a:Addr)(n:Nat):It :=
 ⟨λi H=>i<n/\∃xs x,SqL K H a xs/\xs[n - 1 - i]?=some x,λi H x H'=>H'=H/\∀xs,SqL K H a xs->xs[n - 1 - i]?=some x,λi _=>i=n⟩
theorem Eu{K:jj}(a it:Addr)(n:Nat):Turn P w K tg (Itv K a n) [it] it (λi h=>h.IsRevIter it a ((n:Int) - 1 - (i:Int))) where
 mem:=by simp
 obj:=λi h st b hb=>by
  have e:b=it:=by simpa using hb
  subst e;obtain⟨o,e,c,d⟩:=st;exact⟨o,e,λv z=>by rw[d]at z;cases z⟩
 keep:=λi h h' st k=>st.at λo e=>k it (by simp) o e
 item:=by
  intro X hP hw hK hc i pins s σ H E I hf st hg;subst hP hw hK;obtain⟨hi,xs,x,hq,hx⟩:=hg;obtain⟨its,rv,p,hz⟩:=I.list hq;obtain⟨u,hu,ru⟩:=rv.get hx;obtain⟨f0,f1,f2,f3,f4,f5⟩:=hf it (by simp);have e1:(n:Int) - 1 - (i:Int)=((n - 1 - i:Nat):Int):=by omega
  rw[e1]at st;refine wpAny_pyNext_rev_item st p.isList (x:=u) (by simpa using hu) λh' st' sb=>?_;have I1:Inv X pins σ H { s with heap:=h' }:=I.turned (t':=s.toks) (λb o hb e=>(sb.2 b hb).trans e) f0 f1 f3 f4 f5;obtain⟨o,e,c,d⟩:=id st';have e2:((n - 1 - i:Nat):Int) - 1=(n:Int) - 1 - ((i+1:Nat):Int):=by omega
  rw[e2]at st';exact⟨u,rfl,Dl (s:={ s with heap:=h' }) e c d (by decide) ⟨x,H,I1,ru,⟨rfl,λys hy=>by rw[I.list_inj hy hq];exact hx⟩,st',λb hb=>(hf b hb).1⟩⟩
 done:=by
  intro X hP hw hK hc i pins s σ H E I hf st hg;subst hP hw hK;have hg:i=n:=hg;subst hg;obtain⟨f0,f1,f2,f3,f4,f5⟩:=hf it (by simp);have e1:(i:Int) - 1 - (i:Int)=-1:=by omega
  rw[e1]at st;exact wpAny_pyNext_rev_end (I.ok.hd hc) st λh' hk=>⟨rfl,I.turned (t':=s.toks) (it:=it) (λc o hc q=>hk c o hc q) f0 f1 f3 f4 f5⟩
 self:=λ_ _ _ _ _ st h=>wpAny_pyIter_revIter st h
theorem vY:bootBuiltins "enumerate"=some (.type "enumerate"):=by first|rfl|decide+kernel
def Jt(K:jj)(ta:TA):TI:=λσ H R=>ta σ H λvs H1=>∃a xs,vs=[.ref a]/\SqL K H1 a xs/\R (Ite K a) H1
variable{ta:TA}
theorem uF{k:Nat}{tpos:Pos}{a:Expr}{p pos:Pos}(hg:Gl X "enumerate")(hm:X.mg "enumerate"=none)(ha:PA X [a] ta)(hs:starEach [a] X.env=[(false,eval a X.env)]:=by rfl):
  PI X (.Tuple es k tpos) (.Call (.Name "enumerate" p) [a] [] pos) (Jt X.K ta):=by
 intro pins s σ H R I h;refine Call_ (vw I hg hm vY (cW (thn (ha pos pins s σ H _ I h) λus s1 ⟨vs,H1,I1,r1,q1⟩=>?_) hs rfl));obtain⟨l1,xs,e,q1,q⟩:=q1;subst e;cases r1 with
 |cons r rr =>
  cases rr
  cases r
  obtain⟨its1,rv1,p1,hz1⟩:=I1.list q1;refine call_enumerate_list p1.isList λh' he hit hsz hk=>?_;refine wpAny_pyIter_enum (s:={ s1 with heap:=h' }) he ?_;refine⟨_,[_,_],_,_,H1,rfl,I1.kept (t':=s1.toks) hk,EM l1 _ _ (iu (fV s1.heap.objs.size)),⟨⟨_,he⟩,hit⟩,λc hc=>?_,q⟩;have hc':c=s1.heap.objs.size+1\/c=s1.heap.objs.size:=by simpa using hc
  have hge:s1.heap.objs.size<=c:=by
   rcases hc' with rfl|rfl
   .exact dP ..
   .exact ak _
  exact I1.fpOk hge (I1.hok.fresh hge)
def KA(K:jj)(ta:TA):TI:=λσ H R=>ta σ H λvs H1=>∃a xs,vs=[.ref a]/\SqL K H1 a xs/\R (Itv K a xs.length) H1
theorem Hq{a:Expr}{p pos:Pos}(hg:Gl X "reversed")(hm:X.mg "reversed"=none)(ha:PA X [a] ta)(hs:starEach [a] X.env=[(false,eval a X.env)]:=by rfl):
  PI X tg (.Call (.Name "reversed" p) [a] [] pos) (KA X.K ta):=by
 intro pins s σ H R I h;refine Call_ (vw I hg hm boot_reversed (cW (thn (ha pos pins s σ H _ I h) λus s1 ⟨vs,H1,I1,r1,q1⟩=>?_) hs rfl));obtain⟨l1,xs,e,q1,q⟩:=q1;subst e;cases r1 with
 |cons r rr =>
  cases rr
  cases r
  obtain⟨its1,rv1,p1,hz1⟩:=I1.list q1;have hl:=rv1.length;refine call_reversed_list p1.isList ?_;have hit:(s1.heap.push (revObj l1 ((its1.toArray.size:Int) - 1))).IsRevIter s1.heap.objs.size l1 ((xs.length:Int) - 1 - ((0:Nat):Int)):=⟨_,Heap.get?_push_size _ rfl,rfl,by simp[revObj,hl]⟩
  refine wpAny_pyIter_revIter (s:={ s1 with heap:=_ }) hit ?_;refine⟨_,[_],_,_,H1,rfl,I1.kept (t':=s1.toks) λb o e=>Heap.get?_push_of_some _ e,Eu l1 _ xs.length,hit,λb hb=>?_,q⟩;have e:b=s1.heap.objs.size:=by simpa using hb
  subst e;exact I1.fpOk (ak _) (I1.hok.fresh (ak _))
variable{E:Ends}
theorem Bw{K:jj}{σ:St}{tb:TS}(h:ta σ H λvs H1=>∃a xs,vs=[.ref a]/\SqL K H1 a xs/\∃W:Nat->Nat->St->Hp->Prop,(∃m,W 0 m σ H1)/\∀i m σ H,W i m σ H ->
 ((Ite K a).stop i H/\E.nx σ H)\/((Ite K a).go i H/\∃N:St->Hp->Prop,(∀σ' H',N σ' H'->∃m',m'<m/\W (i+1) m' σ' H')/\∀x H',(Ite K a).yld i H x H'->g x σ H' λσ2 H2=>tb { E with nx:=N,ct:=N,bk:=E.nx } σ2 H2)):
 tFor (Jt K ta) g tb E σ H:=h
theorem IH{K:jj}{σ:St}{tb:TS}(h:ta σ H λvs H1=>∃a xs,vs=[.ref a]/\SqL K H1 a xs/\∃W:Nat->Nat->St->Hp->Prop,(∃m,W 0 m σ H1)/\∀i m σ H,W i m σ H ->
 ((Itv K a xs.length).stop i H/\E.nx σ H)\/((Itv K a xs.length).go i H/\∃N:St->Hp->Prop,(∀σ' H',N σ' H'->∃m',m'<m/\W (i+1) m' σ' H')/\∀x H',(Itv K a xs.length).yld i H x H'->g x σ H' λσ2 H2=>tb { E with nx:=N,ct:=N,bk:=E.nx } σ2 H2)):
 tFor (KA K ta) g tb E σ H:=h
theorem wV{K:jj}{xs:List V}{tb:TS}{σ:St}(Pv:Nat->St->Hp->Prop)(h0:Pv 0 σ H)(hl:∀i σ H,i<=xs.length->Pv i σ H->SqL K H a xs)(hs:∀i x T σ H,xs[i]?=some x->H T=none->Pv i σ H->g (.ref T) σ (upd H T (.tup [.int (i:Int),x])) λσ2 H2=>tb { D with nx:=Pv (i+1),ct:=Pv (i+1),bk:=D.nx } σ2 H2)(hd:∀σ H,Pv xs.length σ H->D.nx σ H):
  ∃W:Nat->Nat->St->Hp->Prop,(∃m,W 0 m σ H)/\∀i m σ H,W i m σ H ->
   ((Ite K a).stop i H/\D.nx σ H)\/((Ite K a).go i H/\∃N:St->Hp->Prop,(∀σ' H',N σ' H'->∃m',m'<m/\W (i+1) m' σ' H')/\∀x H',(Ite K a).yld i H x H'->g x σ H' λσ2 H2=>tb { D with nx:=N,ct:=N,bk:=D.nx } σ2 H2):=by
 refine⟨λi m σ H=>m=xs.length - i/\i<=xs.length/\Pv i σ H,⟨xs.length,by simp,cJ _,h0⟩,?_⟩;rintro i m σ H ⟨rfl,hi,p⟩;have q1:=hl i σ H hi p;by_cases hlt:i<xs.length
 .refine .inr ⟨⟨xs,xs[i],q1,by simp[hlt]⟩,Pv (i+1),λσ' H' p'=>⟨xs.length - (i+1),by omega,rfl,hlt,p'⟩,λv H' yy=>?_⟩;obtain⟨T,hT,rfl,yy⟩:=yy;obtain⟨x,hx,rfl⟩:=yy xs q1;exact hs i x T σ H hx hT p
 .have e:i=xs.length:=by omega
  subst e;exact .inl ⟨⟨xs,q1,ak _⟩,hd σ H p⟩
theorem FV{K:jj}{xs:List V}{tb:TS}{σ:St}(Pv:Nat->St->Hp->Prop)(h0:Pv 0 σ H)(hl:∀i σ H,i<=xs.length->Pv i σ H->SqL K H a xs)(hs:∀i x σ H,i<xs.length->xs[xs.length - 1 - i]?=some x->Pv i σ H->g x σ H λσ2 H2=>tb { D with nx:=Pv (i+1),ct:=Pv (i+1),bk:=D.nx } σ2 H2)(hd:∀σ H,Pv xs.length σ H->D.nx σ H):
  ∃W:Nat->Nat->St->Hp->Prop,(∃m,W 0 m σ H)/\∀i m σ H,W i m σ H ->
   ((Itv K a xs.length).stop i H/\D.nx σ H)\/((Itv K a xs.length).go i H/\∃N:St->Hp->Prop,(∀σ' H',N σ' H'->∃m',m'<m/\W (i+1) m' σ' H')/\∀x H',(Itv K a xs.length).yld i H x H'->g x σ H' λσ2 H2=>tb { D with nx:=N,ct:=N,bk:=D.nx } σ2 H2):=by
 refine⟨λi m σ H=>m=xs.length - i/\i<=xs.length/\Pv i σ H,⟨xs.length,by simp,cJ _,h0⟩,?_⟩;rintro i m σ H ⟨rfl,hi,p⟩;have q:=hl i σ H hi p;by_cases hlt:i<xs.length
 .have hj:xs.length - 1 - i<xs.length:=by omega
  refine .inr ⟨⟨hlt,xs,xs[xs.length - 1 - i],q,by simp[hj]⟩,Pv (i+1),λσ' H' p'=>⟨xs.length - (i+1),by omega,rfl,hlt,p'⟩,λx H' y=>?_⟩;obtain⟨e,y⟩:=y;subst e;exact hs i x σ _ hlt (y xs q) p
 .have e:i=xs.length:=by omega
  subst e;exact .inl ⟨rfl,hd σ H p⟩
def F7(K:jj):List V->Hp->VK->Prop:=λxs H Q=>∃ (a:Addr) (ns ms:List Int),xs=[.ref a]/\SqL K H a (ns.map V.int)/\ms.Perm ns/\ms.Pairwise (·<=·)/\ns.length<64/\∀p,H p=none->Q (.ref p) (upd H p (.lst (ms.map V.int)))
theorem wM:∀{vs:List Value}{ns:List Int},Vals (ns.map V.int) vs->IntsAre vs ns
 |_,[],.nil=>.nil
 |_,n::ns,.cons ⟨t,e⟩ r=>by rw[e];exact .cons n t (wM r)
theorem Cz:yZ X (.builtin "sorted") (F7 X.K):=by
 intro pins s σ H xs us Q I r h;obtain⟨a,ns,ms,rfl,hq,hp,hs,h64,q⟩:=h;obtain⟨u,rfl,ru⟩:=Vals.one r;cases ru
 obtain⟨its,rv,p1,hz1⟩:=I.list hq;have hl:=rv.length;rw[aa]at hl;refine sorted_ints p1.isList (wM rv) (!4) λout ns' a1 a2 a3=>?_;have e:ns'=ms:=g6 (λa b _ _ h k=>Int.le_antisymm h k) a3 hs (a2.trans hp.symm);subst e;obtain⟨ep,he⟩:=sortedAll_at s.heap its out;have hl2:(ns'.map V.int).length<=sizeLine:=by rw[aa,a2.length_eq];exact cf (bU h64) (by rw[sizeLine_eq];decide)
 exact⟨.ref _,_,I.laid (a:=s.heap.objs.size+1) (o:=.lst (ns'.map V.int)) (t':=s.toks) (λ_ _=>sortedAll_old) (fF _) ⟨hl2,out.toList,ep,xq a1,by simpa using he⟩,rfl,q _ (I.hok.fresh (fF _))⟩
theorem Ho{K:jj}{Q:VK}{ms:List Int}(h:H a=some (.lst (ns.map V.int)))(hp:ms.Perm ns)(hs:ms.Pairwise (·<=·))(hl:ns.length<64)(q:∀p H2,H p=none->Same H H2->H2 p=some (.lst (ms.map V.int))->Q (.ref p) H2):F7 K [.ref a] H Q :=
 ⟨a,ns,ms,rfl,SqL.of h,hp,hs,hl,λp hn=>q p _ hn (zF hn _) zg⟩
variable{e:Expr}{te:TE}{p1 p2 pos pos2:Pos}
abbrev vR(p:Addr):Option V:=some (.ref p)
abbrev vI(n:Int):Option V:=some (.int n)
theorem st_of{t:TS}{σ σ':St}(e:σ=σ')(h:t D σ' H):t D σ H:=e ▸ h
theorem JY{t u:TS}{σ:St}(h:∀N:St->Hp->Prop,(∀σ' H',u D σ' H'->N σ' H')->t { D with nx:=N } σ H):tSeq t u D σ H:=h (u D) λ_ _ h=>h
theorem ps_s(i:Nat){pos':Pos}(hN:X.N.Nodup)(he:PE X e te)(hi:X.N[i]?=some x:=by rfl)(hx:Loc X.env.scope x:=by first|exact Or.inl rfl|exact Or.inr rfl)(hs:swapsWith e (some (.Name x pos')) pos.line X.env=pure false:=by rfl)(hf:X.fn x=true\/X.env.scope.names.lookup x=some .local:=by first|exact .inl rfl|exact .inr rfl|assumption):PS X (.Assign [.Name x pos'] e pos) (tAsg te (Cv i)):=IX hN hi hx he hs hf
theorem pg_n(i:Nat)(hN:X.N.Nodup)(hi:X.N[i]?=some x:=by rfl)(hx:Loc X.env.scope x:=by first|exact Or.inl rfl|exact Or.inr rfl)(hf:X.fn x=true\/X.env.scope.names.lookup x=some .local:=by first|exact .inl rfl|exact .inr rfl|assumption):PG X (.Name x pos) (Cv i):=Hs hN hi hx hf
theorem pe_i{a b:Expr}{ta tb:TE}{r:R2}(hr:IxR X r)(ha:PE X a ta)(hb:PE X b tb)(hs:uG b:=by exact λ_ _=>rfl):PE X (.Subscript a b pos) (tOp r ta tb):=Hw hr ha hb hs
theorem pa1(ha:PE X e te)(hs:starEach [e] X.env=(false,eval e X.env)::starEach [] X.env:=by rfl):PA X [e] (tCons te tNil):=zu ha yq hs
variable{tf:TE}
theorem pa2{f:Expr}(ha:PE X e te)(hb:PE X f tf)(hs:starEach [e,f] X.env=(false,eval e X.env)::starEach [f] X.env:=by rfl)(ht:starEach [f] X.env=(false,eval f X.env)::starEach [] X.env:=by rfl):PA X [e,f] (tCons te (tCons tf tNil)):=zu ha (pa1 hb ht) hs
theorem pa3{f g:Expr}{tg:TE}(ha:PE X e te)(hb:PE X f tf)(hc:PE X g tg)(hs:starEach [e,f,g] X.env=(false,eval e X.env)::starEach [f,g] X.env:=by rfl)(ht:starEach [f,g] X.env=(false,eval f X.env)::starEach [g] X.env:=by rfl)(hu:starEach [g] X.env=(false,eval g X.env)::starEach [] X.env:=by rfl):PA X [e,f,g] (tCons te (tCons tf (tCons tg tNil))):=zu ha (pa2 hb hc ht hu) hs
variable{fd:FuncData}{base:Heap}{ps:List Str}{sp:Sp}
theorem Fun.okA{K:jj}{st:Stmt}{N:List Str}{k:Nat}(F:Fun K x qual st f fd)(S:FnScope N ps (defScope st))(hbody:∀(cdv:Value)(A:Around)(outer:List Env)(s:Shared)(H:Hp)(vs:List V)(Q:VK)(E:XK),Room k (A.deeper (envOfC qual (defScope st) s.heap.objs.size f cdv))->sp vs H Q E->∃t,PSs (cxOf CX0 P w K mg base N qual (defScope st) f cdv A outer s H E).nox (defBody st) t/\t { nx:=λ_ H'=>Q .non H',rt:=Q } (start N vs) H)(len:∀vs H Q E,sp vs H Q E->vs.length=ps.length:=by intro vs H Q E h;cases h;subst_vars;rfl):FnOk P w K mg base CX0 (k+1) f fd ps sp:=F.ok S len hbody
theorem FunD.okA{K:jj}{st:Stmt}{N:List Str}{k:Nat}(F:FunD K x qual st f fd its)(S:FnScope N ps (defScope st))(hbody:∀(cdv:Value)(A:Around)(outer:List Env)(s:Shared)(H:Hp)(vs:List V)(Q:VK)(E:XK),Room k (A.deeper (envOfC qual (defScope st) s.heap.objs.size f cdv))->sp vs H Q E->∃t,PSs (cxOf CX0 P w K mg base N qual (defScope st) f cdv A outer s H E).nox (defBody st) t/\t { nx:=λ_ H'=>Q .non H',rt:=Q } (start N vs) H)(len:∀vs H Q E,sp vs H Q E->vs.length=ps.length:=by intro vs H Q E h;cases h;subst_vars;rfl):FnOk P w K mg base CX0 (k+1) f fd ps sp:=F.ok S len hbody
theorem ifn{A B:Prop}{p:Prop}[Decidable p](q:B)(h:¬ p:=by decide+kernel):if decide p=true then A else B:=by rw[iT h];exact q
variable{p':Pos}
theorem pit(k:Nat){n:Int}{j:Nat}{p:Pos}(hN:X.N[k]?=some x:=by rfl)(hv:Vis X.env.scope x:=by first|exact Or.inl rfl|exact Or.inr (Or.inl rfl)|exact Or.inr (Or.inr rfl))(hd:(x==("__debug__":Str))=false:=by decide)(hcd:(x==("__classdict__":Str))=false:=by decide)(hs:uG (.Constant (.int n) j p'):=by exact λ_ _=>rfl):PE X (.Subscript (.Name x p) (.Constant (.int n) j p') pos) (tOp (rIxT X.K) (tVar k) (tC (.int n))):=Hw zI (pv k hN hv hd hcd) zd hs
theorem pil(k:Nat){n:Int}{j:Nat}{p:Pos}(hN:X.N[k]?=some x:=by rfl)(hv:Vis X.env.scope x:=by first|exact Or.inl rfl|exact Or.inr (Or.inl rfl)|exact Or.inr (Or.inr rfl))(hd:(x==("__debug__":Str))=false:=by decide)(hcd:(x==("__classdict__":Str))=false:=by decide)(hs:uG (.Constant (.int n) j p'):=by exact λ_ _=>rfl):PE X (.Subscript (.Name x p) (.Constant (.int n) j p') pos) (tOp (rIxL X.K) (tVar k) (tC (.int n))):=Hw zQ (pv k hN hv hd hcd) zd hs
variable{S:Addr}{n0:Nat}{res:Value}
section
variable{prog:Program}{w:World}{κ:Type}[DecidableEq κ]{knd:KeyKind prog w κ}{A:Around}{E:Value->Shared->Prop}
theorem Cm{s:Shared}{I:Addr}{kvs:List (κ×Value)}{R:Result->Shared->Prop}(hh:A.handled=none)(hn:kvs.length<=sizeLine)(g1:s.heap.get? S=some { cls:=.type "list",data:=.seq #[] n0 })(hI:s.heap.IsKeyIter I d 0 kvs.length ep)(hm:s.heap.DictAt knd d kvs ep)(nSI:S≠I)(nSd:S≠d)(ndI:d≠I)(hR:∀(s':Shared)(acc:Array Value)(c:Nat),(∀b o,b≠S->b≠I->s.heap.get? b=some o->s'.heap.get? b=some o)->s'.gens=s.gens->s'.drawn=s.drawn->s'.os=s.os->s'.heap.get? S=some { cls:=.type "list",dict:=none,data:=.seq acc c,slots:=#[] }->ItemsOf (λi v=>∃k x,kvs[i]?=some (k,x)/\knd.is k v=true) acc kvs.length->R (.ok (.ret res)) s'):
  wpAny (model prog w) A.in1 (rule "list.extend.makes-room" >>= λ_=>Builtin.List.listTouch (.ref S) >>= λ_=>again (.builtin "list.extend.loop" ⟨[.ref S,.ref I,res],[]⟩))
   (λfin s'=>match fin with | .done f=>R (.ok f) s' | .again c'=>c'.quiet=true/\codeAny (model prog w) A c' R s') (λe s'=>R (.error e) s') s:=by
 refine i4 (wpAny_rule ?_);refine i4 ?_;show wpAny _ A.in1 (updateSeq S (·.push .none) >>= λ_=>updateSeq S (·.pop)) _ _ _;refine i4 (wpAny_updateSeq g1 rfl ?_);have g2:=Heap.get?_update_self (Obj.mapSeq (·.push Value.none)) g1 rfl;refine wpAny_updateSeq g2 rfl ?_;have g3:=Heap.get?_update_self (Obj.mapSeq (·.pop)) g2 rfl;have oth:∀(b:Addr)(o:Obj),b≠S->s.heap.get? b=some o->((s.heap.update S (Obj.mapSeq (·.push Value.none))).update S (Obj.mapSeq (·.pop))).get? b=some o :=
  λb o nb g=>(Heap.get?_update_other _ _ nb.symm).trans ((Heap.get?_update_other _ _ nb.symm).trans g)
 have W:=(Walks.dictKeys (knd:=knd) (A:=A.in1) (show A.in1.handled=none from hh) I d ndI kvs ep).toS;refine i6 ⟨plainId_quiet F.plain_extend_loop _,codeAny_extend_loopS W hn S ?_ _ kvs.length 0 _ _ _ rfl (cJ _) ⟨hI.at λo g=>oth I o nSI.symm g,hm.at' λo g=>oth d o nSd.symm g⟩ g3 (ItemsOf.nil _) λs' acc' c' hmv hS' hacc=>?_⟩
 .intro z;rcases aW.mp z with z|z
  .exact nSI z
  .exact nSd (by simpa using z)
 .refine hR s' acc' c' (λb o n1 n2 g=>hmv.heap b o (λz=>?_) (oth b o n1 g)) hmv.gens hmv.drawn hmv.os hS' hacc;rcases aW.mp z with z|z
  .exact n1 z
  .exact n2 (by simpa using z)
theorem AK{s:Shared}{kvs:List (κ×Value)}{R:Result->Shared->Prop}(hh:A.handled=none)(hds:(d==sysModules)=false)(hn:kvs.length<=sizeLine)(g1:s.heap.get? S=some { cls:=.type "list",data:=.seq #[] n0 })(hm:s.heap.DictAt knd d kvs ep)(nSd:S≠d)(hR:∀(s':Shared)(acc:Array Value)(c:Nat),(∀b o,b≠S->s.heap.get? b=some o->s'.heap.get? b=some o)->s'.gens=s.gens->s'.drawn=s.drawn->s'.os=s.os->s'.heap.get? S=some { cls:=.type "list",dict:=none,data:=.seq acc c,slots:=#[] }->ItemsOf (λi v=>∃k x,kvs[i]?=some (k,x)/\knd.is k v=true) acc kvs.length->R (.ok (.ret res)) s'):
  wpAny (model prog w) A.in1 (Builtin.List.listExtendWith (.ref S) (.ref d) res)
   (λfin s'=>match fin with | .done f=>R (.ok f) s' | .again c'=>c'.quiet=true/\codeAny (model prog w) A c' R s') (λe s'=>R (.error e) s') s:=by
 have h1:Builtin.List.listSameRef (.ref S) (.ref d)=false:=by simp[Builtin.List.listSameRef,nSd]
 unfold Builtin.List.listExtendWith;refine i4 (jf hm.dictOf.typeIs ?_);rw[iV (by rw[h1];decide)];refine i4 (wpAny_pyIter_dict hds hm ?_);have hm2:=hm.keep (h':=s.heap.push { cls:=.type "dict_keyiterator",data:=.fields #[.ref d,.int 0 0,.int kvs.length 0,.int ep 0] }) λb o e=>Heap.get?_push_of_some _ e;refine i4 (je ?_);unfold Builtin.List.listLengthHint;refine i4 (wpAny_specialOf hm2.dictOf.typeIs u7 ?_)
 (generalize hid:("dict.__len__":String)=id0;(fail_if_success (clear hid id0));wp_delta;rw[show splitId id0=some ("dict","__len__") from by subst hid;decide+kernel];subst hid)
 refine i4 (wpAny_isInstance (b:=true) hm2.dictOf.typeIs (by rw[isSubtype_type];kernel_rfl) ?_);rw[iV (by decide)];refine wpAny_ite ?_;rw[iU (by decide)];refine i4 (jf hm2.dictOf.typeIs ?_);refine i6 ?_;rw[iU (by decide)];have ltS:=Heap.lt_size g1;refine Cm (s:={ s with heap:=s.heap.push { cls:=.type "dict_keyiterator",data:=.fields #[.ref d,.int 0 0,.int kvs.length 0,.int ep 0] } }) (R:=R) hh hn (S:=S) (I:=s.heap.objs.size) (Heap.get?_push_of_some _ g1) ⟨_,Heap.get?_push_size _ rfl,rfl,rfl⟩ hm2 (aR ltS) nSd (aR hm.lt_size) λs' acc c kk e1 e2 e3 hS' hacc=>?_;exact hR s' acc c (λb o n g=>kk b o n (aR (Heap.lt_size g)) (Heap.get?_push_of_some _ g)) e1 e2 e3 hS' hacc
theorem ub{s:Shared}{kvs:List (κ×Value)}{Q:Value->Shared->Prop}(hh:A.handled=none)(hds:(d==sysModules)=false)(hn:kvs.length<=sizeLine)(hm:s.heap.DictAt knd d kvs ep)(hQ:∀(s':Shared)(acc:Array Value)(c:Nat),(∀b o,s.heap.get? b=some o->s'.heap.get? b=some o)->s'.gens=s.gens->s'.drawn=s.drawn->s'.os=s.os->s'.heap.get? s.heap.objs.size=some { cls:=.type "list",dict:=none,data:=.seq acc c,slots:=#[] }->ItemsOf (λi v=>∃k x,kvs[i]?=some (k,x)/\knd.is k v=true) acc kvs.length->Q (.ref s.heap.objs.size) s'):
  wpAny (model prog w) A (call (.type "list") [.ref d]) Q E s:=by
 refine callType_codes (Q₁:=λobj s₁=>obj=.ref s.heap.objs.size/\s₁={ s with heap:=s.heap.push { cls:=.type "list",data:=.seq #[] } }) F.called_list (F.typeCall_list_1 _) F.entry_list_init
  (code_list_new _ ⟨rfl,rfl⟩) λobj s₁ h₁=>?_
 obtain⟨rfl,rfl⟩:=h₁;have hS:(s.heap.push { cls:=.type "list",data:=.seq #[] }).get? s.heap.objs.size=some { cls:=.type "list",data:=.seq #[] }:=Heap.get?_push_size _ rfl;have hm1:=hm.keep (h':=s.heap.push { cls:=.type "list",data:=.seq #[] }) λb o e=>Heap.get?_push_of_some _ e;have nSd:s.heap.objs.size≠d:=cH (aR hm.lt_size);refine⟨⟨_,hS,rfl⟩,F.args_list_init_2 _ _,?_⟩;show wpAny _ _ (do let old <-Builtin.List.listItems (.ref s.heap.objs.size);Builtin.List.listUpdate (.ref s.heap.objs.size) (λ_=>#[]);letGo old.toList.reverse;Builtin.List.listExtendWith (.ref s.heap.objs.size) (.ref d) .none) _ _ _;refine i4 ?_;unfold Builtin.List.listItems;refine i4 (wpAny_seqItems hS rfl (i6 ?_));show wpAny _ _ (updateSeq s.heap.objs.size (λ_=>#[]) >>= λ_=>letGo (#[]:Array Value).toList.reverse >>= λ_=>Builtin.List.listExtendWith (.ref s.heap.objs.size) (.ref d) .none) _ _ _;refine i4 (wpAny_updateSeq hS rfl ?_);have hS2:=Heap.get?_update_self (Obj.mapSeq (λ_=>(#[]:Array Value))) hS rfl;have oth:∀b o,b≠s.heap.objs.size->(s.heap.push { cls:=.type "list",data:=.seq #[] }).get? b=some o->((s.heap.push { cls:=.type "list",data:=.seq #[] }).update s.heap.objs.size (Obj.mapSeq (λ_=>(#[]:Array Value)))).get? b=some o :=
  λb o hb e=>(Heap.get?_update_other _ _ (cH hb)).trans e
 have hm3:=hm1.at' (h':=(s.heap.push { cls:=.type "list",data:=.seq #[] }).update s.heap.objs.size (Obj.mapSeq (λ_=>(#[]:Array Value)))) λo g=>oth d o (cH nSd) g;refine i4 (wpAny_letGo ?_);refine AK (A:=A.in1) hh hds hn hS2 hm3 nSd λs' acc c kk e1 e2 e3 hS' hacc=>?_;exact⟨rfl,hQ s' acc c (λb o g=>kk b o (aR (Heap.lt_size g)) (oth b o (aR (Heap.lt_size g)) (Heap.get?_push_of_some _ g))) e1 e2 e3 hS' hacc⟩
end
def Ks:List V->Hp->VK->Prop:=λxs H Q=>∃ (d:Addr) (kvs:List (Key×V)) (ns:List Int),xs=[.ref d]/\H d=some (.dK kvs)/\kvs.map (·.1)=ns.map Sum.inl/\kvs.length<=1000/\∀p,H p=none->Q (.ref p) (upd H p (.lst (ns.map V.int)))
theorem D5(hc:X.calm=true):yZ X (.type "list") Ks:=by
 intro pins s σ H xs us Q I r h;obtain⟨d,kvs,ns,rfl,e,hk,h64,q⟩:=h;obtain⟨u,rfl,ru⟩:=Vals.one r;cases ru
 obtain⟨z,y,vs,rel,dof⟩:=id (I.hok d _ e);obtain⟨ep,da⟩:=dof.dictAt;have hl:=rel.length;have hz:vs.length<=sizeLine:=cf (show vs.length<=1000 by omega) (by rw[sizeLine_eq];decide);refine ub (I.ok.hd hc) y hz da λs' acc c kk e1 e2 e3 hS' hacc=>?_;obtain⟨h0,g0,d0,t0,o0⟩:=s;obtain⟨h1,g1,d1,t1,o1⟩:=s';simp only at e1 e2 e3 kk hS';subst e1 e2 e3;have hI:=uB (by rw[<-rel.keys];exact hk) hacc;have hl2:(ns.map V.int).length<=sizeLine:=by
  have:kvs.length=ns.length:=by
   have:=congrArg List.length hk
   rwa[aa,aa]at this
  rw[aa];omega
 exact⟨.ref h0.objs.size,_,I.laid (a:=h0.objs.size) (o:=.lst (ns.map V.int)) (t':=t1) kk (ak _) ⟨hl2,acc.toList,c,xq hI,by rw[Array.toArray_toList];exact hS'⟩,rfl,q _ (I.hok.fresh (ak _))⟩
theorem Jv{Q:VK}(h:H d=some (.dK kvs))(hk:kvs.map (·.1)=ns.map Sum.inl)(hl:kvs.length<=1000)(q:∀(p:Addr)(H2:Hp),H p=none->Same H H2->H2 p=some (.lst (ns.map V.int))->Q (.ref p) H2):Ks [.ref d] H Q :=
 ⟨d,kvs,ns,rfl,h,hk,hl,λp hp=>q p _ hp (zF hp _) zg⟩
section
variable{prog:Program}{w:World}{A:Around}{E:Value->Shared->Prop}{s:Shared}
end
variable{pins:List (Addr×Obj)}{σ:St}
section
variable{prog:Program}{w:World}{A:Around}{E:Value->Shared->Prop}{s:Shared}{R:Result->Shared->Prop}
end
section
variable{a b:Expr}{ta:TA}
end
end L2
local macro_rules | `(tactic| walk_at"sc")=>`(tactic| exact⟨rfl,rfl,rfl,by decide+kernel,rfl,by decide+kernel,by decide+kernel⟩)
local macro_rules | `(tactic| walk_at"s")=>`(tactic| ((refine L2.st_of (by dsimp only[L2.start,List.map,List.length,Nat.zero_add,Nat.reduceAdd,Nat.reduceSub,List.replicate,List.cons_append,List.nil_append]) ?_);try dsimp only[L2.cx_K]))
local macro_rules | `(tactic| omega)=>`(tactic| first|lia|omega +splitNatSub)
open PySem PySem.Spec PyProof.Rows L2 Bg
local macro_rules | `(tactic| walk_at"bd")=>`(tactic| first|assumption|((with_reducible show Bd _ (-_));exact Bd.neg (by walk_at"bd"))|((with_reducible show Bd _ (_*_));exact Bd.mul (by walk_at"bd") (by walk_at"bd"))|((with_reducible show Bd _ (_+_));exact bd_addx (by walk_at"bd") (by walk_at"bd"))|((with_reducible show Bd _ (_ - _));exact Ig (by walk_at"bd") (by walk_at"bd"))|((with_reducible show Bd _ (_ ^ _));exact bd_powx (by walk_at"bd"))|((with_reducible show Bd _ (_ / _));exact Df (by walk_at"bd"))|((with_reducible show Bd _ (_ % _));exact CL (by walk_at"bd") (by decide+kernel))|((with_reducible show Bd _ (Int.fdiv _ _));exact Bd.fdiv (by walk_at"bd") _)|exact Bd.abs (by walk_at"bd")|exact zr _)
local macro_rules | `(tactic| walk_at"cd")=>`(tactic| first|assumption|decide|omega|exact⟨by decide,by decide+kernel⟩|exact Bd.ok (by walk_at"bd") (by walk_at"bd") (by decide+kernel)|exact cpw_of (by walk_at"bd") (by decide) (by decide+kernel)|decide+kernel)
local macro_rules | `(tactic| walk_at"rd")=>do let a <-#[`i_asg,`i_ret,`i_drop,`i_ifS,`i_next,`i_un,`i_I0,`i_U,`i_eqI,`i_neI,`i_eqB,`i_neB,`i_test,`i_tB,`i_bl,`i_and,`i_or,`i_not,`i_andV,`i_orV,`i_notV,`i_ifE,`i_call,`i_callK,`i_cb,`i_tup,`i_lst,`if_t,`if_f,`if_nt,`if_nf,`i_par,`i_par2,`i_abs,`i_intB,`i_is_int,`i_is_intb,`i_is_bool,`i_bm,`i_sl,`i_noPart,`i_part,`i_int,`i_isN,`i_notN,`i_gcons,`i_gnil,`i_all,`i_min,`i_eqS,`i_neS,`i_is_str,`i_bm0,`i_fF,`i_fVal0,`i_fInt0,`i_tyS,`i_tyI,`i_bits].mapM λn=>`(Lean.Parser.Tactic.tacticSeq| with_reducible refine $(Lean.mkIdent n) ?_);let b <-#[`i_is_tup,`i_lenT,`i_lenL,`i_tyL].mapM λn=>`(Lean.Parser.Tactic.tacticSeq| with_reducible refine $(Lean.mkIdent n) (by assumption) ?_);`(tactic| first|((with_reducible refine JY ?_);intro _ _)|((with_reducible refine i_gname ?_);try dsimp only[List.set_cons_zero,List.set_cons_succ])|with_reducible refine i_var (by with_unfolding_all rfl) ?_|focus ((with_reducible refine i_I ?_ ?c);rotate_left;(try walk_at"cd");rotate_left)|with_reducible refine uN (by assumption) (by with_unfolding_all rfl) ?_|with_reducible refine Kz (by assumption) (by with_unfolding_all rfl) ?_|with_reducible refine xb (by assumption) (by with_unfolding_all rfl) ?_|with_reducible refine F8 (by assumption) (by with_unfolding_all rfl) ?_ $[| $a]* $[| $b]* | ((with_reducible show rIxT _ (V.ref _) (V.int _) _ _);first|refine uN (by assumption) (by rfl) ?_|refine Kz (by assumption) (by rfl) ?_)|((with_reducible show rIxL _ (V.ref _) (V.int _) _ _);refine xb (by assumption) (by rfl) ?_)|((with_reducible show gTup _ _ _ (V.ref _) _ _ _);refine F8 (by assumption) (by rfl) ?_)|with_reducible refine(show ∀σ' H',_->_ from by assumption) _ _ ?_)
local macro_rules | `(tactic| walk_at"mm")=>`(tactic| repeat first|exact aH|refine aC _ ?_)
local macro_rules | `(tactic| walk_at"b8")=>`(tactic| first|assumption|decide+kernel|exact Bd.mono (by walk_at"bd") (by decide+kernel))
local macro_rules | `(tactic| lia)=>`(tactic| first|(lia (splits:=9))|omega +splitNatSub)
local macro_rules | `(tactic| exists $e)=>`(tactic| ((repeat walk_at"rd");refine $e))
local macro_rules | `(tactic| walk_at"r")=>`(tactic| repeat walk_at"rd")
set_option maxHeartbeats 4000000
namespace Bk
local macro_rules | `(⋯)=>`(by decide)
local macro_rules | `(!1)=>`(by simp)
local macro_rules | `(!2)=>`(by lia)
local macro_rules | `(!3)=>`(by decide+kernel)
def mI(σ:List (Option V))(i:Nat):Int:=match σ[i]? with|some (some (.int y))=>y|_=>0
inductive A3(a b c:Prop):Prop|mk:a->b->c->A3 a b c
inductive A4(a b c d:Prop):Prop|mk:a->b->c->d->A4 a b c d
inductive A5(a b c d e:Prop):Prop|mk:a->b->c->d->e->A5 a b c d e
inductive A6(a b c d e f:Prop):Prop|mk:a->b->c->d->e->f->A6 a b c d e f
inductive A7(a b c d e f g:Prop):Prop|mk:a->b->c->d->e->f->g->A7 a b c d e f g
inductive E1{A:Type}(p:A->Prop):Prop|mk(a:A)(h:p a):E1 p
inductive E2{A B:Type}(p:A->B->Prop):Prop|mk(a:A)(b:B)(h:p a b):E2 p
inductive E3{A B C:Type}(p:A->B->C->Prop):Prop|mk(a:A)(b:B)(c:C)(h:p a b c):E3 p
inductive E4{A B C D:Type}(p:A->B->C->D->Prop):Prop|mk(a:A)(b:B)(c:C)(d:D)(h:p a b c d):E4 p
inductive E5{A B C D E:Type}(p:A->B->C->D->E->Prop):Prop|mk(a:A)(b:B)(c:C)(d:D)(e:E)(h:p a b c d e):E5 p
inductive E6{A B C D E F:Type}(p:A->B->C->D->E->F->Prop):Prop|mk(a:A)(b:B)(c:C)(d:D)(e:E)(f:F)(h:p a b c d e f):E6 p
inductive E7{A B C D E F G:Type}(p:A->B->C->D->E->F->G->Prop):Prop|mk(a:A)(b:B)(c:C)(d:D)(e:E)(f:F)(g:G)(h:p a b c d e f g):E7 p
inductive E8{A B C D E F G H:Type}(p:A->B->C->D->E->F->G->H->Prop):Prop|mk(a:A)(b:B)(c:C)(d:D)(e:E)(f:F)(g:G)(h:H)(h:p a b c d e f g h):E8 p
inductive E9{A B C D E F G H I:Type}(p:A->B->C->D->E->F->G->H->I->Prop):Prop|mk(a:A)(b:B)(c:C)(d:D)(e:E)(f:F)(g:G)(h:H)(i:I)(h:p a b c d e f g h i):E9 p
def top(i:Nat):Stmt:=PySem.Challenge.pw_boardglue_k82_turned_apart.main.body.getD i (.Pass ⟨0,0,0,0⟩)
abbrev S0:Stmt:=top 13
abbrev S1:Stmt:=top 14
abbrev S2:Stmt:=top 15
abbrev S3:Stmt:=top 18
abbrev S5:Stmt:=top 19
abbrev S6:Stmt:=top 20
abbrev S7:Stmt:=top 21
abbrev S10:Stmt:=top 22
abbrev S11:Stmt:=top 23
abbrev S12:Stmt:=top 24
abbrev S13:Stmt:=top 25
abbrev S14:Stmt:=top 26
abbrev S15:Stmt:=top 27
abbrev S16:Stmt:=top 28
abbrev S17:Stmt:=top 30
abbrev S18:Stmt:=top 31
abbrev S20:Stmt:=top 32
abbrev S21:Stmt:=top 33
abbrev S22:Stmt:=top 34
abbrev S23:Stmt:=top 35
abbrev S24:Stmt:=top 37
abbrev S25:Stmt:=top 38
abbrev S26:Stmt:=top 39
abbrev S27:Stmt:=top 41
abbrev S28:Stmt:=top 47
abbrev S29:Stmt:=top 48
abbrev S30:Stmt:=top 49
abbrev S31:Stmt:=top 50
abbrev S32:Stmt:=top 51
abbrev S33:Stmt:=top 52
abbrev S34:Stmt:=top 53
abbrev S35:Stmt:=top 56
abbrev S36:Stmt:=top 57
abbrev S37:Stmt:=top 58
abbrev S38:Stmt:=top 59
abbrev S39:Stmt:=top 60
abbrev S40:Stmt:=top 61
abbrev S41:Stmt:=top 62
abbrev S42:Stmt:=top 63
abbrev S43:Stmt:=top 66
abbrev S44:Stmt:=top 67
abbrev S45:Stmt:=top 68
abbrev S46:Stmt:=top 69
abbrev S47:Stmt:=top 70
abbrev S48:Stmt:=top 71
abbrev S49:Stmt:=top 72
abbrev S50:Stmt:=top 74
abbrev S51:Stmt:=top 75
abbrev S52:Stmt:=top 78
abbrev S53:Stmt:=top 79
abbrev S54:Stmt:=top 80
abbrev S55:Stmt:=top 81
abbrev S56:Stmt:=top 83
abbrev S57:Stmt:=top 84
abbrev S58:Stmt:=top 85
abbrev S59:Stmt:=top 86
abbrev S60:Stmt:=top 87
abbrev S61:Stmt:=top 88
abbrev S62:Stmt:=top 89
abbrev S63:Stmt:=top 90
abbrev S64:Stmt:=top 91
abbrev S65:Stmt:=top 92
abbrev S66:Stmt:=top 93
abbrev S67:Stmt:=top 94
abbrev S68:Stmt:=top 95
abbrev S69:Stmt:=top 96
abbrev S70:Stmt:=xO (top 54) 0
abbrev S71:Stmt:=xO (top 54) 1
abbrev S72:Stmt:=xO (top 54) 2
abbrev S73:Stmt:=xO (top 54) 3
abbrev S74:Stmt:=xO (top 54) 4
abbrev S75:Stmt:=xO (top 54) 5
abbrev S76:Stmt:=xO (top 54) 6
structure Bl(mg:Str->Option Value):Prop where
 ValueError:mg "ValueError"=none
 abs:mg "abs"=none
 all:mg "all"=none
 bool:mg "bool"=none
 dict:mg "dict"=none
 enumerate:mg "enumerate"=none
 int:mg "int"=none
 isinstance:mg "isinstance"=none
 len:mg "len"=none
 list:mg "list"=none
 max:mg "max"=none
 min:mg "min"=none
 range:mg "range"=none
 reversed:mg "reversed"=none
 sorted:mg "sorted"=none
 str:mg "str"=none
 sum:mg "sum"=none
 tuple:mg "tuple"=none
theorem Bp:bootBuiltins "abs"=some (.builtin "abs"):=by decide+kernel
theorem IK:bootBuiltins "all"=some (.builtin "all"):=by decide+kernel
theorem El:bootBuiltins "bool"=some (.type "bool"):=by decide+kernel
theorem DP:bootBuiltins "dict"=some (.type "dict"):=by decide+kernel
theorem F6:bootBuiltins "int"=some (.type "int"):=by decide+kernel
theorem zK:bootBuiltins "isinstance"=some (.builtin "isinstance"):=by decide+kernel
theorem AU:bootBuiltins "list"=some (.type "list"):=by decide+kernel
theorem Gd:bootBuiltins "max"=some (.builtin "max"):=by decide+kernel
theorem IG:bootBuiltins "min"=some (.builtin "min"):=by decide+kernel
theorem CS:bootBuiltins "sorted"=some (.builtin "sorted"):=by decide+kernel
theorem Ka:bootBuiltins "str"=some (.type "str"):=by decide+kernel
theorem GL:bootBuiltins "sum"=some (.builtin "sum"):=by decide+kernel
theorem wX:bootBuiltins "tuple"=some (.type "tuple"):=by decide+kernel
structure Cs where
 YardError:Addr
 NoLength:Addr
 NoDeed:Addr
 NoName:Addr
 Grain:Addr
 Unfit:Addr
 Yard:Addr
structure Xs(K:jj)(mg:Str->Option Value)(cs:Cs):Prop where
 m_YardError:mg "YardError"=some (.ref cs.YardError)
 m_NoLength:mg "NoLength"=some (.ref cs.NoLength)
 m_NoDeed:mg "NoDeed"=some (.ref cs.NoDeed)
 m_NoName:mg "NoName"=some (.ref cs.NoName)
 m_Grain:mg "Grain"=some (.ref cs.Grain)
 m_Unfit:mg "Unfit"=some (.ref cs.Unfit)
 m_Yard:mg "Yard"=some (.ref cs.Yard)
 c_Yard:Cls K cs.Yard
 n_Yard_root:NoAttr K cs.Yard "root"
 n_Yard_turning:NoAttr K cs.Yard "turning"
 n_Yard_known:NoAttr K cs.Yard "known"
 n_Yard_lying:NoAttr K cs.Yard "lying"
 n_Yard_done:NoAttr K cs.Yard "done"
def Rep(D:Int)(M:Nat)(s:Sd):Prop:=∃X Y:Int,Bd M X/\Bd M Y/\s.x*D=X*s.z/\s.y*D=Y*s.z
structure So(d D:Int)(M:Nat)(s:Sd):Prop where
 z1:1<=s.z
 g:g3 s.x s.y s.z=1
 up:sgn d s.x s.y=1
 r:Rep D M s
variable{D d:Int}{M:Nat}
theorem So.sk{K:Nat}{s:Sd}(h:So d D M s)(hD:1<=D)(bD:Bd K D):SK M K s:=by
 obtain⟨X,Y,bX,bY,hx,hy⟩:=h.r;obtain⟨e1,e2,e3⟩:=yh h.z1 h.g (show D≠0 by lia) hx hy;refine⟨h.z1,h.g,?_,?_,?_⟩
 .rw[e1];exact bX.fdiv _
 .rw[e2];exact bY.fdiv _
 .rw[e3];exact bD.fdiv _
theorem So.ne{s:Sd}(h:So d D M s):s.z≠0:=by have:=h.z1;lia
theorem So.scale{k:Int}{j:Nat}{s:Sd}(h:So d D M s)(bk:Bd j k):So d (D*k) (M+j) s:=by obtain⟨X,Y,bX,bY,hx,hy⟩:=h.r;exact⟨h.z1,h.g,h.up,X*k,Y*k,bX.mul bk,bY.mul bk,by rw[<-ar,hx];grind,by rw[<-ar,hy];grind⟩
theorem So.mono{d D:Int}{M M':Nat}{s:Sd}(h:So d D M s)(l:M<=M'):So d D M' s:=by obtain⟨X,Y,bX,bY,hx,hy⟩:=h.r;exact⟨h.z1,h.g,h.up,X,Y,bX.mono l,bY.mono l,hx,hy⟩
variable{a:Int}
theorem yg{b c e:Int}(hb:b≠0)(he:e≠0)(h:a*e=c*b):Rat.divInt a b=Rat.divInt c e:=(bP hb he).mpr h
theorem So.pq{s:Sd}(h:So d D M s)(hD:1<=D):∃X Y:Int,Bd M X/\Bd M Y/\s.p=Rat.divInt X D/\s.q=Rat.divInt Y D:=by obtain⟨X,Y,bX,bY,hx,hy⟩:=h.r;exact⟨X,Y,bX,bY,yg h.ne (!2) hx,yg h.ne (!2) hy⟩
def BoD(d D:Int)(M:Nat)(b:Bo):Prop:=So d D M b.w/\So d D M b.h
def TbD(E:Int)(k:Nat)(t:Tb):Prop:=∃a b c e:Int,(Bd k a/\Bd k b/\Bd k c/\Bd k e)/\t.a=Rat.divInt a E/\t.b=Rat.divInt b E/\t.c=Rat.divInt c E/\t.e=Rat.divInt e E
variable{E:Int}
theorem TbD.bt{k j:Nat}{t:Tb}(h:TbD E k t)(hE:E≠0)(bE:Bd j E):t.Bt k j:=by
 obtain⟨a,b,c,e,⟨h1,h2,h3,h4⟩,e1,e2,e3,e4⟩:=h;refine⟨?_,?_,?_,?_⟩
 .rw[e1];exact xI hE h1 bE
 .rw[e2];exact xI hE h2 bE
 .rw[e3];exact xI hE h3 bE
 .rw[e4];exact xI hE h4 bE
theorem BoD.tb{d D:Int}{M:Nat}{b:Bo}(h:BoD d D M b)(hD:1<=D):TbD (D*D) (M+M) b.tb:=by
 obtain⟨X,Y,bX,bY,ep,eq⟩:=h.1.pq hD;obtain⟨X',Y',bX',bY',ep',eq'⟩:=h.2.pq hD;refine⟨X*X',X*Y',Y*X',Y*Y',⟨bX.mul bX',bX.mul bY',bY.mul bX',bY.mul bY'⟩,?_,?_,?_,?_⟩
 .show b.w.p*b.h.p=_;rw[ep,ep',xt]
 .show b.w.p*b.h.q=_;rw[ep,eq',xt]
 .show b.w.q*b.h.p=_;rw[eq,ep',xt]
 .show b.w.q*b.h.q=_;rw[eq,eq',xt]
theorem xk{b:Int}(hE:E≠0):Rat.divInt a E+Rat.divInt b E=Rat.divInt (a+b) E:=by rw[<-AX hE hE];refine yg (aI hE hE) hE ?_;grind
theorem TbD.add{E:Int}{k:Nat}{s t:Tb}(hE:E≠0)(h:TbD E k s)(h':TbD E k t):TbD E (k+1) (s.add t):=by
 obtain⟨a,b,c,e,⟨h1,h2,h3,h4⟩,e1,e2,e3,e4⟩:=h;obtain⟨a',b',c',e',⟨k1,k2,k3,k4⟩,f1,f2,f3,f4⟩:=h';refine⟨a+a',b+b',c+c',e+e',⟨h1.add k1,h2.add k2,h3.add k3,h4.add k4⟩,?_,?_,?_,?_⟩
 .show s.a+t.a=_;rw[e1,f1,xk hE]
 .show s.b+t.b=_;rw[e2,f2,xk hE]
 .show s.c+t.c=_;rw[e3,f3,xk hE]
 .show s.e+t.e=_;rw[e4,f4,xk hE]
theorem TbD.mono{E:Int}{k k':Nat}{t:Tb}(h:TbD E k t)(l:k<=k'):TbD E k' t:=by obtain⟨a,b,c,e,⟨h1,h2,h3,h4⟩,r⟩:=h;exact⟨a,b,c,e,⟨h1.mono l,h2.mono l,h3.mono l,h4.mono l⟩,r⟩
variable{l:List Bo}
theorem Lk(h:∀b∈l,BoD d D M b)(hD:1<=D):TbD (D*D) (M+M+l.length) (tbs l):=by
 have hE:D*D≠0:=aI (!2) (!2);induction l with
 |nil =>
  have z:(0:Rat)=Rat.divInt 0 (D*D):=(iE _).symm;have b0:Bd (M+M+([]:List Bo).length) 0:=gB _;exact⟨0,0,0,0,⟨b0,b0,b0,b0⟩,z,z,z,z⟩
 |cons b l ih =>
  have h1:=(h b aH).tb hD;have h2:=ih λc hc=>h c (aC _ hc);exact TbD.add hE (h1.mono (dP _ _)) h2
theorem IN{K n:Nat}(h:∀b∈l,BoD d D M b)(hD:1<=D)(bD:Bd K D)(hl:l.length<=n):(tbs l).Bt (M+M+n) (K+K):=
 ((Lk h hD).mono (show M+M+l.length<=M+M+n by lia)).bt (aI (!2) (!2)) (bD.mul bD)
def tkS(s t:Sd):Sd:=⟨lA (s.x*t.z+-t.x*s.z) (s.y*t.z+-t.y*s.z) (s.z*t.z),lB (s.x*t.z+-t.x*s.z) (s.y*t.z+-t.y*s.z) (s.z*t.z),lN (s.x*t.z+-t.x*s.z) (s.y*t.z+-t.y*s.z) (s.z*t.z)⟩
def shS(s:Sd)(m k:Int):Sd:=⟨lA (s.x*m) (s.y*m) (s.z*k),lB (s.x*m) (s.y*m) (s.z*k),lN (s.x*m) (s.y*m) (s.z*k)⟩
variable{X Y:Int}
theorem wv{b n:Int}(hn:n≠0)(h1:a*D=X*n)(h2:b*D=Y*n):lA a b n*D=X*lN a b n/\lB a b n*D=Y*lN a b n:=by
 have e1:=l_a (a:=a) (b:=b) (n:=n);have e2:=l_b (a:=a) (b:=b) (n:=n);constructor
 .refine tE hn ?_;have:lA a b n*D*n=(lA a b n*n)*D:=by grind
  rw[this,e1];have:a*lN a b n*D=(a*D)*lN a b n:=by grind
  rw[this,h1];grind
 .refine tE hn ?_;have:lB a b n*D*n=(lB a b n*n)*D:=by grind
  rw[this,e2];have:b*lN a b n*D=(b*D)*lN a b n:=by grind
  rw[this,h2];grind
variable{t:Sd}
theorem JD{s:Sd}(hR:Rt d)(h:So d D M s)(h':So d D M t)(up:sgn d (tkS s t).x (tkS s t).y=1):So d D (M+1) (tkS s t):=by obtain⟨X,Y,bX,bY,hx,hy⟩:=h.r;obtain⟨X',Y',bX',bY',hx',hy'⟩:=h'.r;have hn:s.z*t.z≠0:=aI h.ne h'.ne;obtain⟨r1,r2⟩:=wv (a:=s.x*t.z+-t.x*s.z) (b:=s.y*t.z+-t.y*s.z) (n:=s.z*t.z) (D:=D) (X:=X - X') (Y:=Y - Y') hn (by grind) (by grind);exact⟨l_n hn,xj hn,up,X - X',Y - Y',bX.sub bX',bY.sub bY',r1,r2⟩
theorem JL{s:Sd}(hR:Rt d)(h:So d D M s)(h':So d D M t):So d D (M+1) (adS s t):=by
 obtain⟨X,Y,bX,bY,hx,hy⟩:=h.r;obtain⟨X',Y',bX',bY',hx',hy'⟩:=h'.r;have hn:s.z*t.z≠0:=aI h.ne h'.ne;have hn1:1<=s.z*t.z:=aM (by have:=h.z1;lia) (by have:=h'.z1;lia);obtain⟨r1,r2⟩:=wv (a:=s.x*t.z+t.x*s.z) (b:=s.y*t.z+t.y*s.z) (n:=s.z*t.z) (D:=D) (X:=X+X') (Y:=Y+Y') hn (by grind) (by grind);refine⟨l_n hn,xj hn,?_,X+X',Y+Y',bX.add bX',bY.add bY',r1,r2⟩;refine(yC hR hn1).trans (vN hR ?_ ?_)
 .exact(xz hR (k:=1) (m:=t.z) ⋯ (by have:=h'.z1;lia) (by grind) (by grind)).trans h.up
 .exact(xz hR (k:=1) (m:=s.z) ⋯ (by have:=h.z1;lia) (by grind) (by grind)).trans h'.up
theorem KM{s:Sd}(hR:Rt d)(z1:1<=s.z)(z2:1<=t.z)(h:0<sgn d (s.x*t.z - t.x*s.z) (s.y*t.z - t.y*s.z)):sgn d (tkS s t).x (tkS s t).y=1:=by
 have hn1:1<=s.z*t.z:=aM (!2) (!2);have e:sgn d (tkS s t).x (tkS s t).y=sgn d (s.x*t.z - t.x*s.z) (s.y*t.z - t.y*s.z):=by refine(yC hR hn1).trans ?_;rw[show s.x*t.z+-t.x*s.z=s.x*t.z - t.x*s.z by grind,show s.y*t.z+-t.y*s.z=s.y*t.z - t.y*s.z by grind]
 rw[e];rcases sgn_tri hR (s.x*t.z - t.x*s.z) (s.y*t.z - t.y*s.z) with z|z|z
 .exact z
 .lia
 .rw[z.1,z.2,zO]at h
  lia
theorem Fl{s:Sd}(hs:s.z≠0)(ht:t.z≠0):(tkS s t).p=s.p - t.p/\(tkS s t).q=s.q - t.q:=by
 have hn:s.z*t.z≠0:=aI hs ht;obtain⟨h1,h2⟩:=wp (a:=s.x*t.z+-t.x*s.z) (b:=s.y*t.z+-t.y*s.z) hn;constructor
 .show Rat.divInt (lA _ _ _) (lN _ _ _)=_;rw[h1,AX hs ht,<-Rat.neg_divInt,gO];rfl
 .show Rat.divInt (lB _ _ _) (lN _ _ _)=_;rw[h2,AX hs ht,<-Rat.neg_divInt,gO];rfl
theorem Jf{s:Sd}(hs:s.z≠0)(ht:t.z≠0):(adS s t).p=s.p+t.p/\(adS s t).q=s.q+t.q:=by
 have hn:s.z*t.z≠0:=aI hs ht;obtain⟨h1,h2⟩:=wp (a:=s.x*t.z+t.x*s.z) (b:=s.y*t.z+t.y*s.z) hn;constructor
 .show Rat.divInt (lA _ _ _) (lN _ _ _)=_;rw[h1,AX hs ht];rfl
 .show Rat.divInt (lB _ _ _) (lN _ _ _)=_;rw[h2,AX hs ht];rfl
variable{m:Int}
theorem Fz{s:Sd}{k:Int}(hs:s.z≠0)(hk:k≠0):(shS s m k).p=s.p*Rat.divInt m k/\(shS s m k).q=s.q*Rat.divInt m k:=by
 have hn:s.z*k≠0:=aI hs hk;obtain⟨h1,h2⟩:=wp (a:=s.x*m) (b:=s.y*m) hn;constructor
 .show Rat.divInt (lA _ _ _) (lN _ _ _)=_;rw[h1,xt];rfl
 .show Rat.divInt (lB _ _ _) (lN _ _ _)=_;rw[h2,xt];rfl
variable{h w:Sd}
theorem Ll{f:Sd}(hw:w.z≠0)(hf:f.z≠0):(⟨f,h⟩:Bo).tb.add (⟨tkS w f,h⟩:Bo).tb=(⟨w,h⟩:Bo).tb:=by obtain⟨e1,e2⟩:=Fl hw hf;refine Tb.ext ?_ ?_ ?_ ?_<;>simp only[Tb.add,Bo.tb,e1,e2]<;>grind
theorem Lo{f:Sd}(hh:h.z≠0)(hf:f.z≠0):(⟨w,f⟩:Bo).tb.add (⟨w,tkS h f⟩:Bo).tb=(⟨w,h⟩:Bo).tb:=by obtain⟨e1,e2⟩:=Fl hh hf;refine Tb.ext ?_ ?_ ?_ ?_<;>simp only[Tb.add,Bo.tb,e1,e2]<;>grind
theorem DB(hm:m≠0):Rat.divInt 1 m*Rat.divInt m 1=1:=by rw[<-xt];refine(yg (c:=1) (e:=1) (aI hm ⋯) ⋯ (by grind)).trans ?_;decide+kernel
theorem KY(hw:w.z≠0)(hh:h.z≠0)(hm:m≠0):(⟨shS w 1 m,shS h m 1⟩:Bo).tb=(⟨w,h⟩:Bo).tb:=by obtain⟨e1,e2⟩:=Fz (m:=1) (k:=m) hw hm;obtain⟨e3,e4⟩:=Fz (m:=m) (k:=1) hh ⋯;have e:=DB hm;refine Tb.ext ?_ ?_ ?_ ?_<;>simp only[Bo.tb,e1,e2,e3,e4]<;>grind
theorem KU(hw:w.z≠0)(hh:h.z≠0)(hm:m≠0):(⟨shS w m 1,shS h 1 m⟩:Bo).tb=(⟨w,h⟩:Bo).tb:=by obtain⟨e1,e2⟩:=Fz (m:=m) (k:=1) hw ⋯;obtain⟨e3,e4⟩:=Fz (m:=1) (k:=m) hh hm;have e:=DB hm;refine Tb.ext ?_ ?_ ?_ ?_<;>simp only[Bo.tb,e1,e2,e3,e4]<;>grind
theorem Lp{w':Sd}(hw:w.z≠0)(hw':w'.z≠0):(⟨adS w w',h⟩:Bo).tb=(⟨w,h⟩:Bo).tb.add (⟨w',h⟩:Bo).tb:=by obtain⟨e1,e2⟩:=Jf hw hw';refine Tb.ext ?_ ?_ ?_ ?_<;>simp only[Tb.add,Bo.tb,e1,e2]<;>grind
theorem KH{h':Sd}(hh:h.z≠0)(hh':h'.z≠0):(⟨w,adS h h'⟩:Bo).tb=(⟨w,h⟩:Bo).tb.add (⟨w,h'⟩:Bo).tb:=by obtain⟨e1,e2⟩:=Jf hh hh';refine Tb.ext ?_ ?_ ?_ ?_<;>simp only[Tb.add,Bo.tb,e1,e2]<;>grind
inductive Dd where
 |cut (al:Bool) (n:Int) (s:Sd)
 |glue (al:Bool) (n m:Int)
 |shift (al:Bool) (n k:Int)
 |turn (n:Int)
abbrev SY(s:Sd):Prop:=SK 4900 2100 s
def Dd.wd:Dd->Str
 | .cut al _ _=>if al then "along" else "across"
 | .glue al _ _=>if al then "atop" else "beside"
 | .shift al _ _=>if al then "spread" else "stack"
 | .turn _=>"turn"
def Dd.n:Dd->Int
 | .cut _ n _=>n
 | .glue _ n _=>n
 | .shift _ n _=>n
 | .turn n=>n
def Dd.names:Dd->List Int
 | .glue _ n m=>[n,m]
 |d=>[d.n]
def DdAt(H:Hp)(p:Addr):Dd->Prop
 | .cut al n s=>∃q,H p=some (.tup [.str (Dd.cut al n s).wd,.int n,.ref q])/\SdAt H q s
 | .glue al n m=>H p=some (.tup [.str (Dd.glue al n m).wd,.int n,.int m])
 | .shift al n k=>H p=some (.tup [.str (Dd.shift al n k).wd,.int n,.int k])
 | .turn n=>H p=some (.tup [.str "turn",.int n])
def Dd.Ok:Dd->Prop
 | .cut _ _ s=>SY s
 | .shift _ _ k=>1<=k/\Bd 2500 k
 |_=>True
variable{e:Dd}{H H':Hp}
theorem DdAt.same{p:Addr}(h:DdAt H p e)(s:Same H H'):DdAt H' p e:=by
 cases e with
 |cut al n t=>obtain⟨q,h1,h2⟩:=h;exact⟨q,s _ _ h1,s _ _ h2⟩
 |glue al n m=>exact s _ _ h
 |shift al n k=>exact s _ _ h
 |turn n=>exact s _ _ h
def Dd.two:Dd->Bool
 | .glue _ _ _=>true
 |_=>false
def Dd.new(b c:Bo):Dd->List Bo
 | .cut false _ s=>[⟨s,b.h⟩,⟨tkS b.w s,b.h⟩]
 | .cut true _ s=>[⟨b.w,s⟩,⟨b.w,tkS b.h s⟩]
 | .glue false _ _=>[⟨adS b.w c.w,b.h⟩]
 | .glue true _ _=>[⟨b.w,adS b.h c.h⟩]
 | .shift false _ k=>[⟨shS b.w 1 k,shS b.h k 1⟩]
 | .shift true _ k=>[⟨shS b.w k 1,shS b.h 1 k⟩]
 | .turn _=>[⟨b.h,b.w⟩]
def tN(d:Int)(w s:Sd):Prop:=SY w/\SY s/\0<sgn d s.x s.y/\0<sgn d (w.x*s.z - s.x*w.z) (w.y*s.z - s.y*w.z)
def Dd.Fit(d:Int)(b c:Bo):Dd->Prop
 | .cut false _ s=>tN d b.w s
 | .cut true _ s=>tN d b.h s
 | .glue false _ _=>b.h=c.h/\SY b.w/\SY c.w
 | .glue true _ _=>b.w=c.w/\SY b.h/\SY c.h
 | .shift _ _ k=>1<=k/\Bd 2500 k/\SY b.w/\SY b.h
 | .turn _=>True
def Dd.isT:Dd->Bool
 | .turn _=>true
 |_=>false
def zT(ns:List Nat):List Int->List Nat
 |[]=>ns
 |m::ms=>zT (ns.filter λn:Nat=>decide ((n:Int)≠m)) ms
def CellsOf(cl:List Cell)(e:Dd)(c c':Cell):Prop:=match e with
 | .glue _ n m=>(∃i:Nat,n=(i:Int)/\cl[i]?=some c)/\∃i:Nat,m=(i:Int)/\cl[i]?=some c'
 |e=>(∃i:Nat,e.n=(i:Int)/\cl[i]?=some c)/\c'=c
structure Yd where
 p:Addr
 dx:Addr
 k:Addr
 l:Addr
 t:Addr
def Yd.fs(y:Yd)(d:Int)(tn:Bool):List (Str×V):=[("root",.int d),("turning",.bl tn),("known",.ref y.k),("lying",.ref y.l),("done",.ref y.t)]
def nmK(ns:List Nat):List (Key×V):=ns.map λn:Nat=>((.inl (n:Int):Key),V.bl true)
structure YdAt(C:Addr)(H:Hp)(y:Yd)(d:Int)(tn:Bool)(cl:List Cell)(ns:List Nat)(lg:List V):Prop where
 o:H y.p=some (.ins C y.dx (y.fs d tn))
 k:H y.k=some (.lst (cl.map Cell.v))
 l:H y.l=some (.dK (nmK ns))
 t:H y.t=some (.lst lg)
 kt:y.k≠y.t
 at':∀c∈cl,c.At H
 up:ns.Pairwise (· < ·)
 lt:∀n∈ns,n<cl.length
 lc:cl.length<=400
 ll:lg.length<=200
theorem YdAt.same{C:Addr}{H H':Hp}{y:Yd}{d:Int}{tn:Bool}{cl:List Cell}{ns:List Nat}{lg:List V}(h:YdAt C H y d tn cl ns lg)(s:Same H H'):YdAt C H' y d tn cl ns lg :=
 ⟨s _ _ h.o,s _ _ h.k,s _ _ h.l,s _ _ h.t,h.kt,λc hc=>(h.at' c hc).same s,h.up,h.lt,h.lc,h.ll⟩
variable{ta:TE}
theorem yd{X:Cx}{e:Expr}{f:Str}{pos:Pos}{K:jj}(hK:X.K=K)(he:PE X e ta)(hb:attributeBase e f X.env (eval e X.env)=eval e X.env):PE X (.Attribute e f pos) (tFld K ta f):=by subst hK;exact JR he hb
variable{σ:L2.St}
theorem KR{K:jj}{f:Str}{Q:VK}(h:ta σ H λx H1=>∃a C dx fs v,x=.ref a/\H1 a=some (.ins C dx fs)/\Cls K C/\NoAttr K C f/\fs.lookup f=some v/\Q v H1):tFld K ta f σ H Q:=h
variable{tv:TE}
theorem Kh{K:jj}{f:Str}{D:Ends}(h:tv σ H λy H1=>ta σ H1 λx H2=>∃a C dx fs,x=.ref a/\H2 a=some (.ins C dx fs)/\Cls K C/\NoAttr K C f/\fs.length<1000/\D.nx σ (upd H2 a (.ins C dx (putF f y fs)))):sFld K ta tv f D σ H:=h
local macro_rules | `(tactic| walk_at"rd")=>`(tactic| first|with_reducible refine KR ?_|with_reducible refine Kh ?_)
variable{dx:Addr}
theorem tW{K:jj}{f:Str}{D:Ends}{y:V}{a C:Addr}{fs:List (Str×V)}(e:H a=some (.ins C dx fs))(c:Cls K C)(n:NoAttr K C f)(hl:fs.length<1000)(q:∀H1,SameX a H H1->H1 a=some (.ins C dx (putF f y fs))->D.nx σ H1):∃a' C dx fs,V.ref a=.ref a'/\H a'=some (.ins C dx fs)/\Cls K C/\NoAttr K C f/\fs.length<1000/\D.nx σ (upd H a' (.ins C dx (putF f y fs))):=
 ⟨a,C,dx,fs,rfl,e,c,n,hl,q _ (λb u q n=>by rw[zl n];exact q) zg⟩
variable{ys:List V}
theorem DG{K:jj}{Q:VK}{p:Addr}(h:H p=some (.lst ys))(q:∀l H2,H l=none->Same H H2->H2 l=some (.lst ys)->Q (.ref l) H2):rLst K [.ref p] H Q:=⟨p,ys,rfl,.inl (SqL.of h),λl hl=>q l _ hl (zF hl _) zg⟩
variable{kvs:List (Key×V)}{ps:List Addr}
theorem D8{Q:VK}{l:Addr}(e:H l=some (.lst (ps.map V.ref)))(hl:ps.length=kvs.length)(hp:∀(i:Nat)(p:Addr)(kv:Key×V),ps[i]?=some p->kvs[i]?=some kv->H p=some (.tup [kV kv.1,kv.2]))(hn:(kvs.map (·.1)).Nodup)(hz:kvs.length<=1000)(q:∀p H2,H p=none->Same H H2->H2 p=some (.dK kvs)->Q (.ref p) H2):Gj [.ref l] H Q :=
 ⟨l,ps,kvs,rfl,e,hl,hp,hn,cf hz (!3),λp h=>q p _ h (zF h _) zg⟩
variable{ns:List Nat}
theorem Ad(h:ns.Pairwise (· < ·)):((nmK ns).map (·.1)).Nodup:=by
 rw[nmK,List.map_map];refine g8.mpr (h.imp λ{a b} hab e=>?_);have e:(a:Int)=b:=gr e
 lia
theorem SameX.of{l:Addr}(s:Same H H'):SameX l H H':=λb o e _=>s b o e
theorem yN{f:Str}{v:V}{fs:List (Str×V)}{n:Nat}(h:fs.length<n):(putF f v fs).length<n+1:=a9 (xR f v fs) (Nat.succ_lt_succ h)
variable{ty:TE}
theorem IL{td:TE}{Q:VK}(h:ty σ H λy H1=>td σ H1 λx H2=>∃a o,x=.ref a/\DGet H2 a y o/\Q (.bl (!o.isSome)) H2):D7 ty td σ H Q:=h
theorem JE{td:TE}{Q:VK}(h:td σ H λx H1=>ty σ H1 λy H2=>∃a v,x=.ref a/\DGet H2 a y (some v)/\Q v H2):IV td ty σ H Q:=h
theorem Kw{td:TE}{D:Ends}(h:tv σ H λv H1=>td σ H1 λx H2=>ty σ H2 λy H3=>∃a H4,x=.ref a/\DPut H3 a y v H4/\D.nx σ H4):Kp td ty tv D σ H:=h
local macro_rules | `(tactic| walk_at"rd")=>`(tactic| first|with_reducible refine IL ?_|with_reducible refine JE ?_|with_reducible refine Kw ?_)
theorem vb{n:Nat}:∀{ns:List Nat},n∈ns->valV (nmK ns) (.inl (n:Int))=some (.bl true)
 |m::ns,h=>by
  by_cases e:m=n
  .subst e;exact yb rfl
  .rw[nmK,a6,z6 (λc=>e (fh (gr c)))];exact vb (by simpa [cH e] using h)
def pick(cl:List Cell)(ns:List Nat):List Cell:=ns.filterMap λn=>cl[n]?
variable{c:Cell}{cl:List Cell}
theorem Es{i n:Nat}(hi:ns[i]?=some n)(hc:cl[n]?=some c):pick cl (ns.take (i+1))=pick cl (ns.take i)++[c]:=by rw[pick,bQ,hi,List.filterMap_append];simp[pick,hc]
theorem Bh{cl:List Cell}:∀{ns:List Nat},(pick cl ns).length<=ns.length
 |[]=>ak _
 |n::ns=>by
  have:=Bh (cl:=cl) (ns:=ns);cases e:cl[n]? with
  |none=>simp only[pick,du,e,au];exact Nat.le_succ_of_le this
  |some c=>simp only[pick,du,e,au];exact Nat.succ_le_succ this
theorem BZ{k:Nat}(h:ns.Pairwise (· < ·))(hk:∀n∈ns,n<k):ns.length<=k:=by
 have hn:ns.Nodup:=h.imp λhab=>aR hab;have:=(ij (n:=k))
 exact(cq (n:=k)) ▸ (fS hn λn h=>ca.mpr (hk n h))
def Prs(cl:List Cell)(ns:List Nat)(H:Hp)(ps:List Addr):Prop:=ps.length=ns.length/\∀(j:Nat)(p:Addr),ps[j]?=some p->∃n c,ns[j]?=some n/\cl[n]?=some c/\H p=some (.tup [.int (n:Int),.ref c.p])
variable{dvs:List V}{sp:Sp}
theorem JV{C:Addr}{m:Str}{E:XK}{t:TA}{Q:VK}(h:ta σ H λx H1=>∃a dx fs,x=.ref a/\H1 a=some (.ins C dx fs)/\fs.lookup m=none/\t σ H1 λvs H2=>sp (x::(vs++dvs)) H2 Q E):CU C m sp dvs E ta t σ H Q:=h
theorem Kj{td:TE}{Q:VK}(h:td σ H λx H1=>∃a,x=.ref a/\IsD H1 a/\ty σ H1 λy H2=>∃kvs k v,H2 a=some (.dK kvs)/\y=kV k/\valV kvs k=some v/\Q v (upd H2 a (.dK (Ae kvs k)))):F4 td ty σ H Q:=h
local macro_rules | `(tactic| walk_at"rd")=>`(tactic| first|with_reducible refine JV ?_|with_reducible refine Kj ?_)
theorem DdAt.tup{H:Hp}{p:Addr}{e:Dd}(h:DdAt H p e):∃r,H p=some (.tup (.str e.wd::.int e.n::r)):=by
 cases e with
 |cut al n t=>obtain⟨q,h1,h2⟩:=h;exact⟨_,h1⟩
 |glue al n m=>exact⟨_,h⟩
 |shift al n k=>exact⟨_,h⟩
 |turn n=>exact⟨_,h⟩
theorem GT(h:e.wd=Str.ofString "turn"):e.isT=true:=by
 cases e with
 |cut al n t=>cases al<;>exact absurd (show Str.ofString _=Str.ofString "turn" from h) (!3)
 |glue al n m=>cases al<;>exact absurd (show Str.ofString _=Str.ofString "turn" from h) (!3)
 |shift al n k=>cases al<;>exact absurd (show Str.ofString _=Str.ofString "turn" from h) (!3)
 |turn n=>rfl
theorem KF{p A B F:Prop}[Decidable p](h:B)(k:p->B->A):if decide p=true then A else if false=true then F else B:=if_d (λc=>k c h) λ_=>if_f h
theorem Dd.names_len(e:Dd):e.names.length<=2:=by cases e<;>simp[Dd.names]
def Dd.cells(e:Dd)(c c':Cell):List Cell:=if e.two then [c,c'] else [c]
variable{c':Cell}
theorem AR(h:CellsOf cl e c c'){i:Nat}(hi:e.names[i]?=some m):∃ (n:Nat) (x:Cell),m=(n:Int)/\cl[n]?=some x/\(e.cells c c')[i]?=some x:=by
 cases e with
 |glue al n k =>
  obtain⟨⟨j,h1,h2⟩,j',h3,h4⟩:=h
  match i,hi with
  |0,hi=>injection hi with hi;exact⟨j,c,hi ▸ h1,h2,rfl⟩
  |1,hi=>injection hi with hi;exact⟨j',c',hi ▸ h3,h4,rfl⟩
  |i+2,hi=>exact nomatch hi
 |cut al n t =>
  obtain⟨⟨j,h1,h2⟩,_⟩:=h
  match i,hi with
  |0,hi=>injection hi with hi;exact⟨j,c,hi ▸ h1,h2,rfl⟩
  |i+1,hi=>exact nomatch hi
 |shift al n k =>
  obtain⟨⟨j,h1,h2⟩,_⟩:=h
  match i,hi with
  |0,hi=>injection hi with hi;exact⟨j,c,hi ▸ h1,h2,rfl⟩
  |i+1,hi=>exact nomatch hi
 |turn n =>
  obtain⟨⟨j,h1,h2⟩,_⟩:=h
  match i,hi with
  |0,hi=>injection hi with hi;exact⟨j,c,hi ▸ h1,h2,rfl⟩
  |i+1,hi=>exact nomatch hi
theorem CellsOf.mem(h:CellsOf cl e c c'):c∈cl/\c'∈cl:=by
 cases e with
 |glue al n k=>obtain⟨⟨j,h1,h2⟩,j',h3,h4⟩:=h;exact⟨ay h2,ay h4⟩
 |cut al n t=>obtain⟨⟨j,h1,h2⟩,rfl⟩:=h;exact⟨ay h2,ay h2⟩
 |shift al n k=>obtain⟨⟨j,h1,h2⟩,rfl⟩:=h;exact⟨ay h2,ay h2⟩
 |turn n=>obtain⟨⟨j,h1,h2⟩,rfl⟩:=h;exact⟨ay h2,ay h2⟩
theorem Dd.cells_len(e:Dd)(c c':Cell):(e.cells c c').length=e.names.length:=by cases e<;>rfl
theorem wq{m:Int}:∀(ms:List Int)(ns:List Nat),zT ns (ms++[m])=(zT ns ms).filter λn:Nat=>decide ((n:Int)≠m)
 |[],_=>rfl
 |_::ms,_=>wq ms _
theorem mem_ndrop{n:Nat}:∀{ms:List Int}{ns:List Nat},n∈zT ns ms↔n∈ns/\(n:Int)∉ms
 |[],ns=>by simp[zT]
 |m::ms,ns=>by
  rw[zT,mem_ndrop,eU];simp only[aW,decide_eq_true_eq,not_or];constructor
  .rintro⟨⟨a,b⟩,c⟩;exact⟨a,b,c⟩
  .rintro⟨a,b,c⟩;exact⟨⟨a,b⟩,c⟩
theorem xB:∀{ms:List Int}{ns:List Nat},ns.Pairwise (· < ·)->(zT ns ms).Pairwise (· < ·)
 |[],_,h=>h
 |m::ms,ns,h=>show(zT (ns.filter λn:Nat=>decide ((n:Int)≠m)) ms).Pairwise (· < ·) from xB (h.filter _)
theorem vn{n:Nat}:∀ns:List Nat,Ae (nmK ns) (.inl (n:Int))=nmK (ns.filter λk:Nat=>decide ((k:Int)≠(n:Int)))
 |[]=>rfl
 |k::ns=>by
  have ih:=vn (n:=n) ns;simp only[Ae,nmK]at ih ⊢;by_cases c:(k:Int)=n
  .simp only[a6,c9,c,ne_eq,not_true_eq_false,decide_false,ih];rfl
  .simp only[a6,c9,ne_eq,Sum.inl.injEq,c,not_false_eq_true,decide_true,ih];rfl
theorem wx{k:Nat}:∀{ns:List Nat},(∀n∈ns,n<k)->valV (nmK ns) (.inl (k:Int))=none
 |[],_=>rfl
 |m::ns,h=>by rw[nmK,a6,z6 (λc=>absurd (fh (gr c)) (aR (h m aH)))];exact wx λn hn=>h n (aC _ hn)
theorem AW(e:Dd)(b c:Bo):(e.new b c).length<=2:=by
 cases e with
 |cut al n t=>cases al<;>exact ak _
 |glue al n m=>cases al<;>exact fF _
 |shift al n k=>cases al<;>exact fF _
 |turn n=>exact fF _
theorem Same.nn(s:Same H H'){a:Addr}(h:H' a=none):H a=none:=by
 cases e:H a with
 |none=>rfl
 |some o=>rw[s _ _ e]at h;cases h
theorem zC{Q:VK}{xs:List V}(hl:xs.length<=1000)(h:∀p H2,H p=none->Same H H2->H2 p=some (.tup xs)->Q (.ref p) H2):NewT xs H Q :=
 ⟨CW hl,λp hp=>h p _ hp (zF hp _) zg⟩
structure Dw(d:Int)(s:Sd):Prop where
 z1:1<=s.z
 g:g3 s.x s.y s.z=1
 up:sgn d s.x s.y=1
 bx:Bd 21 s.x
 by':Bd 21 s.y
 bz:Bd 10 s.z
theorem Dw.low{b n:Int}(hR:Rt d)(ba:Bd 21 a)(bb:Bd 21 b)(h1:1<=n)(h2:n<=720)(up:sgn d a b=1):Dw d ⟨lA a b n,lB a b n,lN a b n⟩ :=
 ⟨l_n (!2),xj (!2),(yC hR h1).trans up,ba.fdiv _,bb.fdiv _,(zE (k:=10) (!2) h2 ⋯).fdiv _⟩
def pz:List Sd->Int
 |[]=>1
 |s::l=>s.z*pz l
theorem Gr{d:Int}:∀{l:List Sd},(∀s∈l,Dw d s)->1<=pz l
 |[],_=>Int.le_refl _
 |s::l,h=>aM (by have:=(h s aH).z1;lia) (by have:=Gr (l:=l) λt ht=>h t (aC _ ht);lia)
theorem Io{d:Int}:∀{l:List Sd},(∀s∈l,Dw d s)->Bd (10*l.length+1) (pz l)
 |[],_=>by decide
 |s::l,h=>Bd.mono ((h s aH).bz.mul (Io (l:=l) λt ht=>h t (aC _ ht))) (by simp only[au];lia)
theorem Ip{d:Int}:∀{l:List Sd},(∀s∈l,Dw d s)->∀s∈l,So d (pz l) (10*l.length+22) s
 |[],_,s,hs=>absurd hs (!1)
 |t::l,h,s,hs=>by
  have hl:∀s∈l,Dw d s:=λt ht=>h t (aC _ ht);rcases aW.mp hs with rfl|hs
  .have o:=h s aH;have:So d s.z 21 s:=⟨o.z1,o.g,o.up,s.x,s.y,o.bx,o.by',rfl,rfl⟩
   exact(this.scale (Io hl)).mono (by simp only[au];lia)
  .have:=(Ip hl s hs).scale (h t aH).bz;rw[av]at this;exact this.mono (by simp only[au];lia)
abbrev PL:=List (Addr×Sd)
structure Dd.Good(d D:Int)(M:Nat)(ns:List Nat)(f:Nat->Cell)(e:Dd)(n m:Nat):Prop where
 nm:e.names=if e.two then [(n:Int),(m:Int)] else [(n:Int)]
 hn:n∈ns
 hm:m∈ns
 ne:e.two=true->n≠m
 eq:e.two=false->m=n
 ok:e.Ok
 fit:e.Fit d (f n).b (f m).b
 new:∃k,1<=k/\Bd 30 k/\∀x∈e.new (f n).b (f m).b,BoD d (D*k) (M+32) x
theorem BoD.mono{d D:Int}{M M':Nat}{b:Bo}(h:BoD d D M b)(l:M<=M'):BoD d D M' b:=⟨h.1.mono l,h.2.mono l⟩
structure Sz(D:Int)(K' M:Nat):Prop where
 d1:1<=D
 bd:Bd K' D
 k:K'<=2050
 m:M<=4800
variable{K':Nat}
theorem Sz.sy{s:Sd}(z:Sz D K' M)(h:So d D M s):SY s:=(h.sk z.d1 z.bd).mono (by have:=z.m;lia) (by have:=z.k;lia)
def fL(L:List Cell)(n:Nat):Cell:=L[n]?.getD ⟨0,0,0,⟨⟨0,0,1⟩,⟨0,0,1⟩⟩⟩
theorem JJ{L:List Cell}{n:Nat}(h:L[n]?=some c):fL L n=c:=by unfold fL;rw[h];rfl
theorem F2(h:c∈pick cl ns):c∈cl:=by obtain⟨n,_,hn⟩:=gG.mp h;exact ay hn
def fN(f:Nat->Cell)(k:Nat)(N:List Cell)(j:Nat):Cell:=if j<k then f j else fL N (j - k)
theorem Kv{C:Addr}{E:XK}{t:TA}{Q:VK}(h:t σ H λvs H1=>∀x dx,H1 x=none->H1 dx=none->dx≠x->sp (.ref x::(vs++dvs)) (upd (upd H1 dx (.own x)) x (.ins C dx [])) (λv H2=>v=.non/\Q (.ref x) H2) E):GV C sp dvs E t σ H Q:=h
variable{tn:Bool}
theorem YdAt.mv{C:Addr}{y:Yd}{lg:List V}(h:YdAt C H y d tn cl ns lg)(f:∀b o,H b=some o->(∃xs,o=.tup xs)\/b=y.p\/b=y.k\/b=y.l\/b=y.t->H' b=some o):YdAt C H' y d tn cl ns lg :=
 ⟨f _ _ h.o (.inr (.inl rfl)),f _ _ h.k (.inr (.inr (.inl rfl))),f _ _ h.l (.inr (.inr (.inr (.inl rfl)))),f _ _ h.t (.inr (.inr (.inr (.inr rfl)))),h.kt,λc hc=>⟨f _ _ (h.at' c hc).t (.inl ⟨_,rfl⟩),f _ _ (h.at' c hc).w (.inl ⟨_,rfl⟩),f _ _ (h.at' c hc).h (.inl ⟨_,rfl⟩)⟩,h.up,h.lt,h.lc,h.ll⟩
theorem SqL.mv{K:jj}{a:Addr}{xs:List V}(h:SqL K H a xs)(f:∀o,H a=some o->H' a=some o):SqL K H' a xs:=by
 rcases h with (h|⟨o,h⟩)|h
 .exact .inl (.inl (f _ h))
 .exact .inl (.inr ⟨o,f _ h⟩)
 .exact .inr h
theorem G9{K:jj}{Q:VK}{a:Addr}{ns:List Int}{i j:Nat}(hS:SqL K H a (ns.map V.int))(q:∀(p:Addr)(H2:Hp),H p=none->Same H H2->H2 p=some (.lst (((ns.drop i).take (j - i)).map V.int))->Q (.ref p) H2):rSlL K (.ref a) (some (i:Int)) (some (j:Int)) H Q:=by obtain⟨a',xs,e1,h1,h2⟩:=Ki (i:=i) (j:=j) (Q:=λv H2=>∃p,v=.ref p/\Same H H2/\H2 p=some (.lst (((ns.drop i).take (j - i)).map V.int))) hS (λp H2 s e=>⟨p,rfl,s,e⟩);refine⟨a',xs,e1,h1,λp hp=>?_⟩;obtain⟨p',e,s,z⟩:=h2 p hp;injection e with e;subst e;exact q _ _ hp s z
theorem J6(e:Dd)(b c:Bo):1<=(e.new b c).length:=by
 cases e with
 |cut al n t=>cases al<;>exact fF _
 |glue al n m=>cases al<;>exact ak _
 |shift al n k=>cases al<;>exact ak _
 |turn n=>exact ak _
theorem FA{ms:List Int}{n:Nat}(up:ns.Pairwise (· < ·))(hn:n∈ns)(hm:(n:Int)∈ms):(zT ns ms).length+1<=ns.length:=by
 have nd:(n::zT ns ms).Nodup:=dI.mpr ⟨λh=>(mem_ndrop.mp h).2 hm,(xB up).imp λhab=>aR hab⟩;exact fS nd λk hk=>by
  rcases aW.mp hk with rfl|hk
  .exact hn
  .exact(mem_ndrop.mp hk).1
theorem DdAt.sameX{p l:Addr}{xs:List V}(h:DdAt H p e)(s:SameX l H H')(e0:H l=some (.lst xs)):DdAt H' p e:=by
 cases e with
 |cut al n t=>obtain⟨q,h1,h2⟩:=h;exact⟨q,s.tup h1 e0,s.tup h2 e0⟩
 |glue al n m=>exact s.tup h e0
 |shift al n k=>exact s.tup h e0
 |turn n=>exact s.tup h e0
theorem FT{K:jj}{Q:VK}{a:Addr}{xs:List V}{i:Nat}(h:H a=some (.lst xs))(q:∀(p:Addr)(H2:Hp),Same H H2->H2 p=some (.lst (xs.drop i))->Q (.ref p) H2):rSlL K (.ref a) (some (i:Int)) none H Q:=by
 refine⟨a,_,rfl,SqL.of h,λp hp=>?_⟩;refine q p _ (zF hp _) ?_;rw[zg];unfold cutV;rw[HT.sIx_nat,HT.sIx_none];congr 2;rcases iD i xs.length with z|z
 .rw[fq z,bT (by rw[dO];lia)]
 .rw[gi z,dQ (ak _),dQ z,iR]
structure As where
 k:Nat
 ns:List Nat
 g:Nat->Bo
def gN(g:Nat->Bo)(k:Nat)(N:List Bo)(j:Nat):Bo:=if j<k then g j else N[j - k]?.getD ⟨⟨0,0,1⟩,⟨0,0,1⟩⟩
def As.next(s:As)(x:Dd×Nat×Nat):As:=⟨s.k+(x.1.new (s.g x.2.1) (s.g x.2.2)).length,zT s.ns x.1.names++List.range' s.k (x.1.new (s.g x.2.1) (s.g x.2.2)).length,gN s.g s.k (x.1.new (s.g x.2.1) (s.g x.2.2))⟩
def ends(s:As)(es:List (Dd×Nat×Nat)):As:=es.foldl As.next s
def As.st(L:List Cell):As:=⟨L.length,List.range L.length,λn=>(fL L n).b⟩
structure Nms(s:As)(e:Dd)(n m:Nat):Prop where
 nm:e.names=if e.two then [(n:Int),(m:Int)] else [(n:Int)]
 hn:n∈s.ns
 hm:m∈s.ns
 ne:e.two=true->n≠m
 eq:e.two=false->m=n
structure Stp(d:Int)(tn:Bool)(s:As)(x:Dd×Nat×Nat):Prop where
 nms:Nms s x.1 x.2.1 x.2.2
 ok:x.1.Ok
 fit:x.1.Fit d (s.g x.2.1) (s.g x.2.2)
 tn:x.1.isT=true->tn=true
def Walk(d:Int)(tn:Bool)(s:As)(es:List (Dd×Nat×Nat)):Prop:=∀(i:Nat)(x:Dd×Nat×Nat),es[i]?=some x->Stp d tn (ends s (es.take i)) x
variable{x:Dd×Nat×Nat}
theorem yn{s:As}{es:List (Dd×Nat×Nat)}{i:Nat}(h:es[i]?=some x):ends s (es.take (i+1))=(ends s (es.take i)).next x:=by rw[bQ,h];show ends s (es.take i++[x])=_;unfold ends;rw[dL];rfl
def Runs(H:Hp)(ps:List Addr)(es:List (Dd×Nat×Nat)):Prop:=ps.length=es.length/\∀(i:Nat)(p:Addr)(x:Dd×Nat×Nat),ps[i]?=some p->es[i]?=some x->DdAt H p x.1
theorem Runs.same{H H':Hp}{ps:List Addr}{es:List (Dd×Nat×Nat)}(h:Runs H ps es)(s:Same H H'):Runs H' ps es:=⟨h.1,λi p x h1 h2=>(h.2 i p x h1 h2).same s⟩
def YdS(C:Addr)(H:Hp)(y:Yd)(d:Int)(tn:Bool)(s:As)(lg:List V):Prop:=∃cl,YdAt C H y d tn cl s.ns lg/\cl.length=s.k/\∀n,n<s.k->∃c,cl[n]?=some c/\c.b=s.g n
theorem Nms.names_in{s:As}{n m:Nat}(h:Nms s e n m):∀k∈e.names,∃i∈s.ns,k=(i:Int):=λk hk=>by
 rw[h.nm]at hk;cases ht:e.two with
 |true =>
  rw[ht,iU rfl]at hk;rcases aW.mp hk with rfl|hk
  .exact⟨n,h.hn,rfl⟩
  .rw[aq.mp hk];exact⟨m,h.hm,rfl⟩
 |false =>
  rw[ht,iV ⋯]at hk;rw[aq.mp hk];exact⟨n,h.hn,rfl⟩
theorem Nms.nodup{s:As}{n m:Nat}(h:Nms s e n m):e.names.Nodup:=by
 rw[h.nm];cases ht:e.two with
 |true =>
  rw[iU rfl];have:=h.ne ht;simp
  lia
 |false =>
  rw[iV ⋯];simp
theorem Nms.en{s:As}{n m:Nat}(h:Nms s e n m):e.n=(n:Int):=by
 have:=h.nm;cases e<;>simp[Dd.names,Dd.two,Dd.n]at this ⊢
 .exact this
 .exact this.1
 .exact this
 .exact this
theorem Nms.cells{s:As}{n m:Nat}(h:Nms s e n m)(h1:cl[n]?=some c)(h2:cl[m]?=some c'):CellsOf cl e c c':=by
 have hnm:=h.nm;have heq:=h.eq;cases e with
 |glue al a b =>
  simp[Dd.names,Dd.two]at hnm;exact⟨⟨n,hnm.1,h1⟩,m,hnm.2,h2⟩
 |cut al a t =>
  have:m=n:=heq rfl;subst this;refine⟨⟨m,h.en,h1⟩,aJ (h2.symm.trans h1)⟩
 |shift al a t =>
  have:m=n:=heq rfl;subst this;refine⟨⟨m,h.en,h1⟩,aJ (h2.symm.trans h1)⟩
 |turn a =>
  have:m=n:=heq rfl;subst this;refine⟨⟨m,h.en,h1⟩,aJ (h2.symm.trans h1)⟩
theorem YdS.next{C:Addr}{H':Hp}{y:Yd}{d:Int}{tn:Bool}{s:As}{x:Dd×Nat×Nat}{cl N:List Cell}{lg:List V}(h2:cl.length=s.k)(h3:∀n,n<s.k->∃c,cl[n]?=some c/\c.b=s.g n) (hy:YdAt C H' y d tn (cl++N) (zT s.ns x.1.names++List.range' cl.length N.length) lg) (hN:N.map Cell.b=x.1.new (s.g x.2.1) (s.g x.2.2)):YdS C H' y d tn (s.next x) lg:=by
 have hl:N.length=(x.1.new (s.g x.2.1) (s.g x.2.2)).length:=by rw[<-hN,aa]
 rw[h2,hl]at hy;refine⟨cl++N,hy,by rw[ai,h2,hl];rfl,λj hj=>?_⟩;have hj:j<s.k+(x.1.new (s.g x.2.1) (s.g x.2.2)).length:=hj;show ∃c,(cl++N)[j]?=some c/\c.b=gN s.g s.k _ j;by_cases hjl:j<s.k
 .obtain⟨c,h4,h5⟩:=h3 j hjl;exact⟨c,by rw[aT (!2)];exact h4,by unfold gN;rw[iU (!2)];exact h5⟩
 .obtain⟨t,rfl⟩:∃t,j=s.k+t:=⟨j - s.k,by lia⟩
  have ht:t<N.length:=by lia
  refine⟨N[t],by rw[aP (!2),h2,fw];exact ag ht,?_⟩;unfold gN;rw[iV (!2),fw,<-hN,ao,ag ht];rfl
abbrev DL:=List (Dd×Nat×Nat)
theorem IR{s:As}{es:List (Dd×Nat×Nat)}:(ends s es).k<=s.k+2*es.length:=by
 induction es generalizing s with
 |nil=>exact ak _
 |cons x es ih =>
  have h1:(s.next x).k<=s.k+2:=Nat.add_le_add_left (AW x.1 _ _) _;have h2:=ih (s:=s.next x);show(ends (s.next x) es).k<=_;rw[au]
  lia
structure As.Ok(B:Nat)(s:As)(i:Nat):Prop where
 up:s.ns.Pairwise (· < ·)
 lt:∀n∈s.ns,n<s.k
 ne:s.ns≠[]
 nl:s.ns.length<=B+i
 kl:s.k<=B+2*i
theorem As.Ok.next{B:Nat}{s:As}{i:Nat}{x:Dd×Nat×Nat}(h:As.Ok B s i)(n:Nms s x.1 x.2.1 x.2.2):As.Ok B (s.next x) (i+1):=by
 have l2:=AW x.1 (s.g x.2.1) (s.g x.2.2);have l1:=J6 x.1 (s.g x.2.1) (s.g x.2.2);have hk:=h.kl;have hnl:=h.nl;have dl:=FA h.up n.hn (show(x.2.1:Int)∈x.1.names by rw[n.nm];cases x.1.two<;>simp);generalize hN:x.1.new (s.g x.2.1) (s.g x.2.2)=N at l1 l2;have e1:(s.next x).ns=zT s.ns x.1.names++List.range' s.k N.length:=by rw[<-hN];rfl
 have e2:(s.next x).k=s.k+N.length:=by rw[<-hN];rfl
 refine⟨?_,?_,?_,?_,?_⟩
 .rw[e1];refine List.pairwise_append.mpr ⟨xB h.up,ie ..,λn1 h1 n2 h2=>?_⟩;have:=h.lt n1 (mem_ndrop.mp h1).1;have:=dr.mp h2
  lia
 .rw[e1,e2];intro j hj;rcases aE.mp hj with hj|hj
  .have:=h.lt j (mem_ndrop.mp hj).1
   lia
  .have:=dr.mp hj
   lia
 .rw[e1];intro hh;have:=congrArg List.length hh;rw[ai,dS,aV]at this
  lia
 .rw[e1,ai,dS]
  lia
 .rw[e2]
  lia
theorem Runs.sameX{H H':Hp}{l:Addr}{ps:List Addr}{es:DL}{xs:List V}(h:Runs H ps es)(z:SameX l H H')(e:H l=some (.lst xs)):Runs H' ps es:=⟨h.1,λi p x h1 h2=>(h.2 i p x h1 h2).sameX z e⟩
variable{es:DL}
theorem w4{s:As}:ends s (es++[x])=(ends s es).next x:=by unfold ends;rw[dL];rfl
theorem DC{s:As}(h:Walk d tn s es)(g:Stp d tn (ends s es) x):Walk d tn s (es++[x]):=λi y hy=>by
 by_cases c:i<es.length
 .rw[aT c]at hy;rw[cU (!2)];exact h i y hy
 .have hl:=(af.mp hy).1;rw[ai]at hl;have:i=es.length:=by simp only[au,aV]at hl;lia
  subst this;rw[aP (ak _),dE]at hy;have:x=y:=aJ hy;subst this;rw[List.take_left];exact g
theorem xn{p:Addr}(h:Runs H ps es)(g:DdAt H p x.1):Runs H (ps++[p]) (es++[x]):=⟨by rw[ai,ai,h.1];rfl,λi q y h1 h2=>by
 by_cases c:i<ps.length
 .rw[aT c]at h1;rw[aT (by rw[<-h.1];exact c)]at h2;exact h.2 i q y h1 h2
 .have hl:=(af.mp h1).1;rw[ai]at hl;have:i=ps.length:=by simp only[au,aV]at hl;lia
  subst this;rw[aP (ak _),dE]at h1;rw[h.1,aP (ak _),dE]at h2;have e1:p=q:=aJ h1;have e2:x=y:=aJ h2;subst e1;subst e2;exact g⟩
structure Rv(D X Y:Int)(s:Sd):Prop where
 z1:1<=s.z
 g:g3 s.x s.y s.z=1
 x:s.x*D=X*s.z
 y:s.y*D=Y*s.z
theorem So.rv{s:Sd}(h:So d D M s):∃X Y,Rv D X Y s:=by obtain⟨X,Y,_,_,hx,hy⟩:=h.r;exact⟨X,Y,h.z1,h.g,hx,hy⟩
theorem Rv.eq{s:Sd}(hD:D≠0)(h:Rv D X Y s)(h':Rv D X Y t):s=t:=by
 obtain⟨a1,a2,a3⟩:=yh h.z1 h.g hD h.x h.y;obtain⟨b1,b2,b3⟩:=yh h'.z1 h'.g hD h'.x h'.y;cases s
 cases t
 simp only at a1 a2 a3 b1 b2 b3;rw[a1,a2,a3,b1,b2,b3]
variable{X' Y':Int}
theorem Rv.tk{s:Sd}(h:Rv D X Y s)(h':Rv D X' Y' t):Rv D (X - X') (Y - Y') (tkS s t):=by have hn:s.z*t.z≠0:=aI (by have:=h.z1;lia) (by have:=h'.z1;lia);have h1:=h.x;have h2:=h.y;have h3:=h'.x;have h4:=h'.y;obtain⟨r1,r2⟩:=wv (a:=s.x*t.z+-t.x*s.z) (b:=s.y*t.z+-t.y*s.z) (n:=s.z*t.z) (D:=D) (X:=X - X') (Y:=Y - Y') hn (by grind) (by grind);exact⟨l_n hn,xj hn,r1,r2⟩
theorem Rv.ad{s:Sd}(h:Rv D X Y s)(h':Rv D X' Y' t):Rv D (X+X') (Y+Y') (adS s t):=by have hn:s.z*t.z≠0:=aI (by have:=h.z1;lia) (by have:=h'.z1;lia);have h1:=h.x;have h2:=h.y;have h3:=h'.x;have h4:=h'.y;obtain⟨r1,r2⟩:=wv (a:=s.x*t.z+t.x*s.z) (b:=s.y*t.z+t.y*s.z) (n:=s.z*t.z) (D:=D) (X:=X+X') (Y:=Y+Y') hn (by grind) (by grind);exact⟨l_n hn,xj hn,r1,r2⟩
theorem Rv.sh{k:Int}{s:Sd}(h:Rv D X Y s)(k1:1<=k):Rv (D*k) (X*m) (Y*m) (shS s m k):=by have hn:s.z*k≠0:=aI (by have:=h.z1;lia) (!2);have h1:=h.x;have h2:=h.y;obtain⟨r1,r2⟩:=wv (a:=s.x*m) (b:=s.y*m) (n:=s.z*k) (D:=D*k) (X:=X*m) (Y:=Y*m) hn (by grind) (by grind);exact⟨l_n hn,xj hn,r1,r2⟩
theorem Rv.sc{k:Int}{s:Sd}(h:Rv D X Y s):Rv (D*k) (X*k) (Y*k) s :=
 ⟨h.z1,h.g,by rw[<-ar,h.x];grind,by rw[<-ar,h.y];grind⟩
variable{M':Nat}
theorem Kf{s:Sd}(hD:1<=D)(h:So d D M w)(h':So d D M' s):adS s (tkS w s)=w:=by obtain⟨X,Y,r⟩:=h.rv;obtain⟨X',Y',r'⟩:=h'.rv;have:=r'.ad (r.tk r');rw[show X'+(X - X')=X by lia,show Y'+(Y - Y')=Y by lia]at this;exact this.eq (!2) r
theorem JM{s:Sd}(hD:1<=D)(h:So d D M w)(h':So d D M' s):tkS (adS w s) w=s:=by obtain⟨X,Y,r⟩:=h.rv;obtain⟨X',Y',r'⟩:=h'.rv;have:=(r.ad r').tk r;rw[show X+X' - X=X' by lia,show Y+Y' - Y=Y' by lia]at this;exact this.eq (!2) r'
theorem FL{k:Int}(hD:1<=D)(h:So d D M w)(k1:1<=k):shS (shS w 1 k) k 1=w/\shS (shS w k 1) 1 k=w:=by obtain⟨X,Y,r⟩:=h.rv;have hk:D*k≠0:=aI (!2) (!2);have r1:Rv (D*k*1) (X*1*k) (Y*1*k) (shS (shS w 1 k) k 1):=(r.sh (m:=1) k1).sh (m:=k) (!2);have r2:Rv (D*1*k) (X*k*1) (Y*k*1) (shS (shS w k 1) 1 k):=(r.sh (m:=k) (k:=1) (!2)).sh (m:=1) k1;simp only[dg]at r1 r2;exact⟨r1.eq hk r.sc,r2.eq hk r.sc⟩
def Dd.und(m m':Int)(b:Bo):Dd->Dd
 | .cut al _ _=>.glue al m m'
 | .glue al _ _=>.cut al m (if al then b.h else b.w)
 | .shift al _ k=>.shift (!al) m k
 | .turn _=>.turn m
def Dd.puts:Dd->Nat
 | .cut _ _ _=>2
 |_=>1
theorem Dd.puts_new(e:Dd)(b c:Bo):(e.new b c).length=e.puts:=by
 cases e with
 |cut al n s=>cases al<;>rfl
 |glue al n m=>cases al<;>rfl
 |shift al n k=>cases al<;>rfl
 |turn n=>rfl
def undo(s:As)(x:Dd×Nat×Nat)(r:Nat->Nat):Dd×Nat×Nat:=(x.1.und (r s.k:Nat) (r (s.k+1):Nat) (s.g x.2.1),r s.k,if x.1.puts=2 then r (s.k+1) else r s.k)
def ren(r:Nat->Nat)(x:Dd×Nat×Nat)(u j:Nat):Nat:=if x.1.two=true/\j=x.2.2 then u+1 else if j=x.2.1 then u else r j
structure Sim(r:Nat->Nat)(s t:As):Prop where
 mp:∀n∈s.ns,r n∈t.ns
 on:∀m∈t.ns,∃n∈s.ns,r n=m
 inj:∀n∈s.ns,∀m∈s.ns,r n=r m->n=m
 g:∀n∈s.ns,t.g (r n)=s.g n
theorem AL(m m':Int)(b:Bo)(e:Dd):(e.und m m' b).two=decide (e.puts=2):=by cases e<;>rfl
theorem HA(m m':Int)(b:Bo)(e:Dd):(e.und m m' b).isT=e.isT:=by cases e<;>rfl
theorem Bj(m m':Int)(b:Bo)(e:Dd):(e.und m m' b).puts=if e.two then 2 else 1:=by cases e<;>rfl
theorem Aa(m m':Int)(b:Bo)(e:Dd):(e.und m m' b).names=if e.puts=2 then [m,m'] else [m]:=by cases e<;>rfl
theorem puts_le(e:Dd):e.puts=1\/e.puts=2:=by cases e<;>simp[Dd.puts]
theorem xf(s:As)(x:Dd×Nat×Nat):(s.next x).k=s.k+x.1.puts:=by show s.k+_=_;rw[Dd.puts_new]
theorem mem_next{s:As}{j:Nat}:j∈(s.next x).ns↔(j∈s.ns/\(j:Int)∉x.1.names)\/(s.k<=j/\j<s.k+x.1.puts):=by show j∈zT s.ns x.1.names++List.range' s.k _↔_;rw[Dd.puts_new,aE,mem_ndrop,dr]
variable{g:Nat->Bo}
theorem vW{k j:Nat}{N:List Bo}(h:j<k):gN g k N j=g j:=by unfold gN;rw[iU h]
theorem yv{k j:Nat}{N:List Bo}{b:Bo}(h:N[j]?=some b):gN g k N (k+j)=b:=by unfold gN;rw[iV (!2),fw,h];rfl
theorem An{s:As}{n m j:Nat}(h:Nms s e n m):(j:Int)∈e.names↔j=n\/(e.two=true/\j=m):=by
 rw[h.nm];cases e.two with
 |true=>simp;lia
 |false=>simp;lia
variable{r:Nat->Nat}
theorem BJ{s t:As}(hD:1<=D)(st:Stp d tn s x)(so:∀n∈s.ns,BoD d D M (s.g n))(sn:∀b∈x.1.new (s.g x.2.1) (s.g x.2.2),BoD d D M b)(sim:Sim r (s.next x) t):(undo s x r).1.new (t.g (undo s x r).2.1) (t.g (undo s x r).2.2)=if x.1.two then [s.g x.2.1,s.g x.2.2] else [s.g x.2.1]:=by
 have hk:∀j,j<x.1.puts->t.g (r (s.k+j))=gN s.g s.k (x.1.new (s.g x.2.1) (s.g x.2.2)) (s.k+j):=λj hj=>sim.g _ (mem_next.mpr (.inr ⟨by lia,by lia⟩));have o1:=so _ st.nms.hn;have o2:=so _ st.nms.hm;have ft:=st.fit;obtain⟨e,n,m⟩:=x;dsimp only[undo]at hk o1 o2 ft sn ⊢;generalize s.g n=b at*
 generalize s.g m=c at*
 obtain⟨bw,bh⟩:=b;obtain⟨cw,ch⟩:=c;have h0:=hk 0 (by rcases puts_le e with h|h<;>lia);rw[iF]at h0;rw[h0];cases e with
 |cut al n s' =>
  have h1:=hk 1 (by show 1<2;decide);rw[iU (show(Dd.cut al n s').puts=2 from rfl),h1];cases al with
  |false =>
   rw[yv (j:=1) rfl];rw[show gN s.g s.k (Dd.new ⟨bw,bh⟩ ⟨cw,ch⟩ (.cut false n s')) s.k=⟨s',bh⟩ from yv (j:=0) rfl];show [(⟨adS s' (tkS bw s'),bh⟩:Bo)]=[⟨bw,bh⟩]
   rw[Kf hD o1.1 (sn ⟨s',bh⟩ (by simp[Dd.new])).1]
  |true =>
   rw[yv (j:=1) rfl];rw[show gN s.g s.k (Dd.new ⟨bw,bh⟩ ⟨cw,ch⟩ (.cut true n s')) s.k=⟨bw,s'⟩ from yv (j:=0) rfl];show [(⟨bw,adS s' (tkS bh s')⟩:Bo)]=[⟨bw,bh⟩]
   rw[Kf hD o1.2 (sn ⟨bw,s'⟩ (by simp[Dd.new])).2]
 |glue al n' m' =>
  cases al with
  |false =>
   rw[show gN s.g s.k (Dd.new ⟨bw,bh⟩ ⟨cw,ch⟩ (.glue false n' m')) s.k=⟨adS bw cw,bh⟩ from yv (j:=0) rfl];have e:bh=ch:=ft.1;show [(⟨bw,bh⟩:Bo),⟨tkS (adS bw cw) bw,bh⟩]=[⟨bw,bh⟩,⟨cw,ch⟩]
   rw[JM hD o1.1 o2.1,e]
  |true =>
   rw[show gN s.g s.k (Dd.new ⟨bw,bh⟩ ⟨cw,ch⟩ (.glue true n' m')) s.k=⟨bw,adS bh ch⟩ from yv (j:=0) rfl];have e:bw=cw:=ft.1;show [(⟨bw,bh⟩:Bo),⟨bw,tkS (adS bh ch) bh⟩]=[⟨bw,bh⟩,⟨cw,ch⟩]
   rw[JM hD o1.2 o2.2,e]
 |shift al n' k =>
  have k1:1<=k:=ft.1;cases al with
  |false =>
   rw[show gN s.g s.k (Dd.new ⟨bw,bh⟩ ⟨cw,ch⟩ (.shift false n' k)) s.k=⟨shS bw 1 k,shS bh k 1⟩ from yv (j:=0) rfl];show [(⟨shS (shS bw 1 k) k 1,shS (shS bh k 1) 1 k⟩:Bo)]=[⟨bw,bh⟩]
   rw[(FL hD o1.1 k1).1,(FL hD o1.2 k1).2]
  |true =>
   rw[show gN s.g s.k (Dd.new ⟨bw,bh⟩ ⟨cw,ch⟩ (.shift true n' k)) s.k=⟨shS bw k 1,shS bh 1 k⟩ from yv (j:=0) rfl];show [(⟨shS (shS bw k 1) 1 k,shS (shS bh 1 k) k 1⟩:Bo)]=[⟨bw,bh⟩]
   rw[(FL hD o1.1 k1).2,(FL hD o1.2 k1).1]
 |turn n' =>
  rw[show gN s.g s.k (Dd.new ⟨bw,bh⟩ ⟨cw,ch⟩ (.turn n')) s.k=⟨bh,bw⟩ from yv (j:=0) rfl];rfl
theorem AA{s:Sd}(hR:Rt d)(z:Sz D K' M)(hw:So d D M w)(hs:So d D M s)(ht:So d D M (tkS w s)):tN d w s:=by
 have hn1:1<=w.z*s.z:=aM (by have:=hw.z1;lia) (by have:=hs.z1;lia);refine⟨z.sy hw,z.sy hs,by rw[hs.up];decide,?_⟩;have e:sgn d (tkS w s).x (tkS w s).y=sgn d (w.x*s.z - s.x*w.z) (w.y*s.z - s.y*w.z):=by refine(yC hR hn1).trans ?_;rw[show w.x*s.z+-s.x*w.z=w.x*s.z - s.x*w.z by grind,show w.y*s.z+-s.y*w.z=w.y*s.z - s.y*w.z by grind]
 rw[<-e,ht.up];decide
theorem Ec{s t:As}{f:Nat->Cell}(hR:Rt d)(z:Sz D K' M)(st:Stp d tn s x)(so:∀n∈s.ns,BoD d D M (s.g n))(sn:∀b∈x.1.new (s.g x.2.1) (s.g x.2.2),BoD d D M b)(sim:Sim r (s.next x) t)(hf:∀n∈t.ns,(f n).b=t.g n):(undo s x r).1.Good d D M t.ns f (undo s x r).2.1 (undo s x r).2.2:=by
 have hD:=z.d1;have nw:=BJ hD st so sn sim;have p1:=puts_le x.1;have i0:s.k∈(s.next x).ns:=mem_next.mpr (.inr ⟨ak _,by lia⟩);have m0:r s.k∈t.ns:=sim.mp _ i0;have f0:(f (undo s x r).2.1).b=t.g (undo s x r).2.1:=hf _ m0;have m1:(undo s x r).2.2∈t.ns:=by
  show(if x.1.puts=2 then r (s.k+1) else r s.k)∈t.ns;split
  .exact sim.mp _ (mem_next.mpr (.inr ⟨by lia,by lia⟩))
  .exact m0
 have hb:∀b∈(undo s x r).1.new (f (undo s x r).2.1).b (f (undo s x r).2.2).b,BoD d D M b:=by
  rw[f0,hf _ m1,nw];intro b hb;split at hb
  .rcases aW.mp hb with rfl|hb
   .exact so _ st.nms.hn
   .rw[aq.mp hb];exact so _ st.nms.hm
  .rw[aq.mp hb];exact so _ st.nms.hn
 have tso:∀j,j<x.1.puts->BoD d D M (t.g (r (s.k+j))):=λj hj=>by
  rw[sim.g _ (mem_next.mpr (.inr ⟨by lia,by lia⟩))];have hl:=Dd.puts_new x.1 (s.g x.2.1) (s.g x.2.2);have hj':j<(x.1.new (s.g x.2.1) (s.g x.2.2)).length:=by lia
  show BoD d D M (gN s.g s.k _ (s.k+j));rw[yv (ag hj')];exact sn _ (db hj')
 have t0:=tso 0 (!2);rw[iF]at t0;have ftx:=st.fit;have okx:=st.ok;have hnn:=st.nms.hn;refine⟨?_,m0,m1,?_,?_,?_,?_,1,by decide,by decide,λb hb'=>?_⟩
 .show(x.1.und _ _ _).names=_;rw[Aa];show _=if (x.1.und _ _ _).two then _ else _
  rw[AL];rcases p1 with h|h
  .rw[iV (!2),iV (by simp[h])];rfl
  .rw[iU h,iU (by simp[h])];show _=[_,((if x.1.puts=2 then r (s.k+1) else r s.k:Nat):Int)]
   rw[iU h];rfl
 .intro h2;have h2:(x.1.und _ _ _).two=true:=h2;rw[AL]at h2;have h2:x.1.puts=2:=by simpa using h2
  show r s.k≠if x.1.puts=2 then r (s.k+1) else r s.k
  rw[iU h2];intro c;have:=sim.inj _ i0 _ (mem_next.mpr (.inr ⟨by lia,by lia⟩)) c
  lia
 .intro h2;have h2:(x.1.und _ _ _).two=false:=h2;rw[AL]at h2;have h2:¬ x.1.puts=2:=by simpa using h2
  show(if x.1.puts=2 then r (s.k+1) else r s.k)=r s.k;rw[iV h2]
 .show(x.1.und _ _ _).Ok;have o:=so _ hnn
  revert okx
  cases x.1 with
  |cut al n s'=>exact λ_=>trivial
  |glue al n m =>
   intro _;cases al with
   |false=>exact z.sy o.1
   |true=>exact z.sy o.2
  |shift al n k=>exact id
  |turn n=>exact λ_=>trivial
 .rw[f0,hf _ m1];rw[f0,hf _ m1]at hb;have o:=so _ hnn;have o':=so _ st.nms.hm;have g0:t.g (r s.k)=gN s.g s.k (x.1.new (s.g x.2.1) (s.g x.2.2)) s.k:=sim.g _ i0;have g1:x.1.puts=2->t.g (r (s.k+1))=gN s.g s.k (x.1.new (s.g x.2.1) (s.g x.2.2)) (s.k+1):=λh=>sim.g _ (mem_next.mpr (.inr ⟨by lia,by lia⟩));clear m1 m0 i0 nw f0 hf sim;obtain⟨e,n,m⟩:=x;dsimp only[undo]at*
  generalize t.g (r s.k)=B at*
  cases e with
  |cut al n' s' =>
   have g1:=g1 rfl;have t1:=tso 1 (by show 1<2;decide);rw[iU (show(Dd.cut al n' s').puts=2 from rfl)]at hb ⊢;generalize t.g (r (s.k+1))=C at*
   cases al with
   |false =>
    have q0:B=⟨s',(s.g n).h⟩:=g0.trans (yv (j:=0) rfl);have q1:C=⟨tkS (s.g n).w s',(s.g n).h⟩:=g1.trans (yv (j:=1) rfl);subst q0;subst q1;exact⟨rfl,z.sy t0.1,z.sy t1.1⟩
   |true =>
    have q0:B=⟨(s.g n).w,s'⟩:=g0.trans (yv (j:=0) rfl);have q1:C=⟨(s.g n).w,tkS (s.g n).h s'⟩:=g1.trans (yv (j:=1) rfl);subst q0;subst q1;exact⟨rfl,z.sy t0.2,z.sy t1.2⟩
  |glue al n' m' =>
   cases al with
   |false =>
    have hb1:=hb _ (aC _ aH);exact AA hR z t0.1 o.1 hb1.1
   |true =>
    have hb1:=hb _ (aC _ aH);exact AA hR z t0.2 o.2 hb1.2
  |shift al n' k =>
   cases al with
   |false=>exact⟨ftx.1,ftx.2.1,z.sy t0.1,z.sy t0.2⟩
   |true=>exact⟨ftx.1,ftx.2.1,z.sy t0.1,z.sy t0.2⟩
  |turn n'=>exact trivial
 .rw[dg];exact(hb b hb').mono (!2)
theorem Fg{s t:As}(hR:Rt d)(z:Sz D K' M)(st:Stp d tn s x)(so:∀n∈s.ns,BoD d D M (s.g n))(sn:∀b∈x.1.new (s.g x.2.1) (s.g x.2.2),BoD d D M b)(sim:Sim r (s.next x) t):Stp d tn t (undo s x r):=by have gd:=Ec (f:=λn=>⟨0,0,0,t.g n⟩) hR z st so sn sim (λn _=>rfl);exact⟨⟨gd.nm,gd.hn,gd.hm,gd.ne,gd.eq⟩,gd.ok,gd.fit,λh=>st.tn (by rw[<-h];exact(HA _ _ _ _).symm)⟩
theorem FM{s t:As}(hD:1<=D)(st:Stp d tn s x)(so:∀n∈s.ns,BoD d D M (s.g n))(sn:∀b∈x.1.new (s.g x.2.1) (s.g x.2.2),BoD d D M b)(sim:Sim r (s.next x) t)(lt:∀n∈s.ns,n<s.k)(tl:∀m∈t.ns,m<t.k):Sim (ren r x t.k) s (t.next (undo s x r)):=by
 have nw:=BJ hD st so sn sim;have p1:=puts_le x.1;have nx:∀j:Nat,(j:Int)∈x.1.names↔j=x.2.1\/(x.1.two=true/\j=x.2.2):=λj=>An st.nms;have ne:=st.nms.ne;have pu:(undo s x r).1.puts=if x.1.two then 2 else 1:=Bj _ _ _ _
 have un:∀j:Nat,(j:Int)∈(undo s x r).1.names↔∃i,s.k<=i/\i<s.k+x.1.puts/\r i=j:=λj=>by
  show(j:Int)∈(x.1.und _ _ _).names↔_;rw[Aa];rcases p1 with h|h
  .rw[iV (!2),aq,h];constructor
   .intro q;exact⟨s.k,ak _,by lia,by lia⟩
   .rintro⟨i,h1,h2,rfl⟩;rw[show i=s.k by lia]
  .rw[iU h,aW,aq,h];constructor
   .rintro (q|q)
    .exact⟨s.k,ak _,by lia,by lia⟩
    .exact⟨s.k+1,by lia,by lia,by lia⟩
   .rintro⟨i,h1,h2,rfl⟩;have:i=s.k\/i=s.k+1:=by lia
    rcases this with rfl|rfl
    .exact .inl rfl
    .exact .inr rfl
 have cs:∀n∈s.ns,(x.1.two=true/\n=x.2.2/\ren r x t.k n=t.k+1)\/(n=x.2.1/\ren r x t.k n=t.k)\/(n∈(s.next x).ns/\ren r x t.k n=r n/\n<s.k/\r n<t.k):=λn hn=>by
  unfold ren;by_cases c1:x.1.two=true/\n=x.2.2
  .exact .inl ⟨c1.1,c1.2,iU c1⟩
  .rw[iV c1];by_cases c2:n=x.2.1
   .exact .inr (.inl ⟨c2,iU c2⟩)
   .have hm:n∈(s.next x).ns:=mem_next.mpr (.inl ⟨hn,λh=>by
     rcases (nx n).mp h with h|h
     .exact c2 h
     .exact c1 h⟩)
    exact .inr (.inr ⟨hm,iV c2,lt n hn,tl _ (sim.mp n hm)⟩)
 have tm:∀j,j∈(t.next (undo s x r)).ns↔(j∈t.ns/\¬ ∃i,s.k<=i/\i<s.k+x.1.puts/\r i=j)\/(t.k<=j/\j<t.k+if x.1.two then 2 else 1):=λj=>by rw[mem_next,un,pu]
 have tg:∀j,(t.next (undo s x r)).g j=gN t.g t.k (if x.1.two then [s.g x.2.1,s.g x.2.2] else [s.g x.2.1]) j:=λj=>by rw[<-nw];rfl
 refine⟨λn hn=>?_,λm hm=>?_,λn hn m hm e=>?_,λn hn=>?_⟩
 .rw[tm];rcases cs n hn with⟨h1,h2,h3⟩|⟨h1,h2⟩|⟨h1,h2,h3,h4⟩
  .rw[h3,iU h1];exact .inr (!2)
  .rw[h2];refine .inr ⟨ak _,?_⟩;split<;>lia
  .rw[h2];refine .inl ⟨sim.mp n h1,?_⟩;rintro⟨i,i1,i2,i3⟩;have:=sim.inj _ (mem_next.mpr (.inr ⟨i1,i2⟩)) _ h1 i3
   lia
 .rw[tm]at hm;rcases hm with⟨h1,h2⟩|⟨h1,h2⟩
  .obtain⟨n,hn,e⟩:=sim.on m h1;rcases mem_next.mp hn with⟨h3,h4⟩|⟨h3,h4⟩
   .refine⟨n,h3,?_⟩;unfold ren;rw[iV (λc=>h4 ((nx n).mpr (.inr c))),iV (λc=>h4 ((nx n).mpr (.inl c)))];exact e
   .exact absurd ⟨n,h3,h4,e⟩ h2
  .by_cases c:m=t.k
   .refine⟨x.2.1,st.nms.hn,?_⟩;unfold ren;rw[iV (λq=>ne q.1 q.2),iU rfl,c]
   .have ht:x.1.two=true:=by
     cases h:x.1.two with
     |true=>rfl
     |false=>rw[h,iV ⋯]at h2;lia
    rw[iU ht]at h2;refine⟨x.2.2,st.nms.hm,?_⟩;unfold ren;rw[iU ⟨ht,rfl⟩]
    lia
 .rcases cs n hn with⟨h1,h2,h3⟩|⟨h1,h2⟩|⟨h1,h2,h3,h4⟩<;>rcases cs m hm with⟨k1,k2,k3⟩|⟨k1,k2⟩|⟨k1,k2,k3,k4⟩<;>first|omega|exact sim.inj n h1 m k1 (!2)
 .rw[tg];rcases cs n hn with⟨h1,h2,h3⟩|⟨h1,h2⟩|⟨h1,h2,h3,h4⟩
  .rw[h3,iU h1,yv (j:=1) rfl,h2]
  .rw[h2,h1];split
   .exact yv (j:=0) rfl
   .exact yv (j:=0) rfl
  .rw[h2,vW h4,sim.g n h1];exact vW h3
theorem xw(h:ns.Pairwise (· < ·)):ns.Nodup:=h.imp λhab=>aR hab
theorem Be{s t:As}(h:Sim r s t)(us:s.ns.Nodup)(ut:t.ns.Nodup):(s.ns.map r).Perm t.ns:=by
 have hn:(s.ns.map r).Nodup:=g8.mpr (List.Pairwise.imp_of_mem (λ{a b} ha hb hab e=>hab (h.inj a ha b hb e)) us);refine(gF hn ut).mpr λm=>⟨λhm=>?_,λhm=>?_⟩
 .obtain⟨n,h1,rfl⟩:=bV.mp hm;exact h.mp n h1
 .obtain⟨n,h1,e⟩:=h.on m hm;exact bV.mpr ⟨n,h1,e⟩
def rk(ts:List Nat)(m:Nat):Nat:=ts.idxOf m
variable{ts:List Nat}
theorem Ao{m:Nat}(h:m∈ts):ts[rk ts m]?=some m:=by have hl:=d7 h;unfold rk;rw[ag hl,List.getElem_idxOf hl]
theorem Fj(hn:ts.Nodup){i m:Nat}(h:ts[i]?=some m):rk ts m=i:=by have hm:=ay h;have hl:=d7 hm;have h1:=Ao hm;exact((fH hl hn).mp (h1.trans h.symm))
theorem EW(hn:ts.Nodup):ts.map (rk ts)=List.range ts.length:=by
 refine List.ext_getElem? λj=>?_;rw[ao];by_cases hj:j<ts.length
 .rw[dM hj,ag hj];exact congrArg some (Fj hn (ag hj))
 .rw[dD (!2),dD (by rw[cq];lia)];rfl
theorem HJ{ms:List Nat}(hp:ms.Perm ts)(hn:ts.Nodup):(ms.map (rk ts)).Perm (List.range ts.length):=by
 have:=hp.map (rk ts)
 rwa[EW hn]at this
theorem CY{ms:List Nat}(hp:ms.Perm ts):(ts.map λn:Nat=>(n:Int)).Perm (ms.map λn:Nat=>(n:Int)):=(hp.map _).symm
theorem Ia(h:ts.Pairwise (· < ·)):(ts.map λn:Nat=>(n:Int)).Pairwise (·<=·):=g8.mpr (h.imp λ{a b} hab=>Int.ofNat_le.mpr (bU hab))
theorem xl{s:As}:(ends s es).k=s.k+(es.map λx=>x.1.puts).sum:=by
 induction es generalizing s with
 |nil=>rfl
 |cons x es ih =>
  show(ends (s.next x) es).k=_;rw[ih,xf,a6,iS]
  lia
def Rn(kvs:List (Key×V))(ns:List Nat)(r:Nat->Nat):Prop:=∀n∈ns,valV kvs (.inl (n:Int))=some (.int (r n:Nat))
theorem B6{j n:Nat}(c:j≠n):¬ ((.inl (j:Int):Key)=.inl (n:Int)):=λh=>c (fh (gr h))
def As.sb(bs:List Bo):As:=⟨bs.length,List.range bs.length,λn=>bs[n]?.getD ⟨⟨0,0,1⟩,⟨0,0,1⟩⟩⟩
theorem Cr(L:List Cell):As.st L=As.sb (L.map Cell.b):=by unfold As.st As.sb;rw[aa];congr 1;funext n;rw[ao];unfold fL;cases L[n]?<;>rfl
theorem uA{s:As}{n:Nat}(h:n<s.k):(ends s es).g n=s.g n:=by
 induction es generalizing s with
 |nil=>rfl
 |cons x es ih =>
  show(ends (s.next x) es).g n=_;rw[ih (by rw[xf];lia)];exact vW h
theorem vO{s:As}{i:Nat}:ends s es=ends (ends s (es.take i)) (es.drop i):=by
 conv=>lhs;rw[<-dW i es]
 unfold ends;rw[dL]
theorem Ap{s:As}{i:Nat}:(ends s (es.take i)).k<=(ends s es).k:=by
 rw[vO (es:=es) (i:=i),xl (s:=ends s (es.take i))]
 lia
theorem sim0{s:As}(hn:s.ns.Nodup):Sim (rk s.ns) s (As.sb (s.ns.map s.g)):=by
 have hl:∀n∈s.ns,rk s.ns n<s.ns.length:=λn h=>d7 h;refine⟨λn h=>?_,λm h=>?_,λn h m k e=>?_,λn h=>?_⟩
 .show _∈List.range (s.ns.map s.g).length;rw[aa];exact ca.mpr (hl n h)
 .have h:m∈List.range (s.ns.map s.g).length:=h;rw[aa]at h;have h:=ca.mp h;exact⟨s.ns[m],db h,Fj hn (ag h)⟩
 .have h1:=Ao h;have h2:=Ao k;rw[e,h2]at h1;exact(aJ h1).symm
 .show((s.ns.map s.g)[rk s.ns n]?).getD _=_;rw[ao,Ao h];rfl
structure Turned(d:Int)(tn:Bool)(D:Int)(M:Nat)(bs0 bs:List Bo)(es:DL)(qs:List Nat):Prop where
 w:Walk d tn (As.sb bs) es
 b:∀i,i<=es.length->∀n∈(ends (As.sb bs) (es.take i)).ns,BoD d D M ((ends (As.sb bs) (es.take i)).g n)
 p:qs.Perm (List.range bs0.length)
 l:(ends (As.sb bs) es).ns.length=bs0.length
 g:∀k q:Nat,qs[k]?=some q->∃n,(ends (As.sb bs) es).ns[q]?=some n/\bs0[k]?=some ((ends (As.sb bs) es).g n)
theorem DN{bs0 bs:List Bo}(w:Walk d tn (As.sb bs) es)(b:∀i,i<=es.length->∀n∈(ends (As.sb bs) (es.take i)).ns,BoD d D M ((ends (As.sb bs) (es.take i)).g n))(sim:Sim r (As.sb bs0) (ends (As.sb bs) es))(ut:(ends (As.sb bs) es).ns.Nodup):Turned d tn D M bs0 bs es (((List.range bs0.length).map r).map (rk (ends (As.sb bs) es).ns)):=by
 have hp:((List.range bs0.length).map r).Perm (ends (As.sb bs) es).ns:=Be sim (ij (n:=bs0.length)) ut;have hl:=hp.length_eq;rw[aa,cq]at hl;refine⟨w,b,?_,hl.symm,λk q hq=>?_⟩
 .have:=HJ hp ut
  rwa[<-hl]at this
 .rw[ao,ao]at hq;obtain⟨z,hz,rfl⟩:=aB.mp hq;obtain⟨j,hj,rfl⟩:=aB.mp hz;have hk:=(af.mp hj).1;rw[cq]at hk;rw[dM hk]at hj;have hj:k=j:=aJ hj;subst hj;have hm:k∈(As.sb bs0).ns:=ca.mpr hk;refine⟨r k,Ao (sim.mp k hm),?_⟩;rw[sim.g k hm];show bs0[k]?=some (bs0[k]?.getD _);rw[ag hk];rfl
def deal:List (Key×V)->List Int->Nat->List (Key×V)
 |kvs,[],_=>kvs
 |kvs,m::ms,u=>deal (putK kvs (.inl m) (.int (u:Nat))) ms (u+1)
theorem tj(m:Int):∀(ms:List Int)(kvs:List (Key×V))(u:Nat),deal kvs (ms++[m]) u=putK (deal kvs ms u) (.inl m) (.int ((u+ms.length:Nat):Int))
 |[],kvs,u=>rfl
 |a::ms,kvs,u=>by show deal (putK kvs (.inl a) (.int (u:Nat))) (ms++[m]) (u+1)=_;rw[tj m ms];show putK (deal (putK kvs (.inl a) (.int (u:Nat))) ms (u+1)) (.inl m) (.int ((u+1+ms.length:Nat):Int))=putK (deal (putK kvs (.inl a) (.int (u:Nat))) ms (u+1)) _ _;rw[show u+1+ms.length=u+(a::ms).length by rw[au];lia]
theorem vj:∀(ms:List Int)(kvs:List (Key×V))(u:Nat),(deal kvs ms u).length<=kvs.length+ms.length
 |[],kvs,u=>ak _
 |a::ms,kvs,u=>by
  have h1:=vj ms (putK kvs (.inl a) (.int (u:Nat))) (u+1);have h2:=yD kvs (.inl a) (.int (u:Nat));show(deal (putK kvs (.inl a) (.int (u:Nat))) ms (u+1)).length<=_;rw[au]
  lia
theorem Hr{s:As}{u:Nat}(h:Rn kvs (s.next x).ns r)(nm:Nms s x.1 x.2.1 x.2.2):Rn (deal kvs x.1.names u) s.ns (ren r x u):=by
 intro j hj;have ni:=An (j:=j) nm;unfold ren;have key:(¬ (j=x.2.1\/(x.1.two=true/\j=x.2.2)))->valV kvs (.inl (j:Int))=some (.int (r j:Nat)):=λc=>h j (mem_next.mpr (.inl ⟨hj,λq=>c (ni.mp q)⟩));rw[nm.nm];cases ht:x.1.two with
 |true =>
  rw[ht]at key;have e:valV (deal kvs (if true=true then [(x.2.1:Int),(x.2.2:Int)] else [(x.2.1:Int)]) u) (.inl (j:Int))=if (.inl (j:Int):Key)=.inl (x.2.2:Int) then some (.int ((u+1:Nat):Int)) else if (.inl (j:Int):Key)=.inl (x.2.1:Int) then some (.int (u:Nat)) else valV kvs (.inl (j:Int)):=by show valV (putK (putK kvs (.inl (x.2.1:Int)) (.int (u:Nat))) (.inl (x.2.2:Int)) (.int ((u+1:Nat):Int))) _=_;rw[xV,xV]
  rw[e];by_cases c1:j=x.2.2
  .rw[iU (by rw[c1]),iU ⟨rfl,c1⟩]
  .rw[iV (B6 c1),iV (c:=true=true/\j=x.2.2) (λq=>c1 q.2)];by_cases c2:j=x.2.1
   .rw[iU (by rw[c2]),iU c2]
   .rw[iV (B6 c2),iV c2];exact key (λq=>by
     rcases q with q|q
     .exact c2 q
     .exact c1 q.2)
 |false =>
  rw[ht]at key;have e:valV (deal kvs (if false=true then [(x.2.1:Int),(x.2.2:Int)] else [(x.2.1:Int)]) u) (.inl (j:Int))=if (.inl (j:Int):Key)=.inl (x.2.1:Int) then some (.int (u:Nat)) else valV kvs (.inl (j:Int)):=by show valV (putK kvs (.inl (x.2.1:Int)) (.int (u:Nat))) _=_;rw[xV]
  rw[e,iV (c:=false=true/\j=x.2.2) (λq=>by simp at q)];by_cases c2:j=x.2.1
  .rw[iU (by rw[c2]),iU c2]
  .rw[iV (B6 c2),iV c2];exact key (λq=>by
    rcases q with q|q
    .exact c2 q
    .simp at q)
theorem names_len{s:As}{n m:Nat}(h:Nms s e n m):e.names.length=if e.two then 2 else 1:=by rw[h.nm];split<;>rfl
def TupK(H H':Hp):Prop:=∀b xs,H b=some (.tup xs)->H' b=some (.tup xs)
theorem DdAt.tk{p:Addr}(h:DdAt H p e)(s:TupK H H'):DdAt H' p e:=by
 cases e with
 |cut al n t=>obtain⟨q,h1,h2⟩:=h;exact⟨q,s _ _ h1,s _ _ h2⟩
 |glue al n m=>exact s _ _ h
 |shift al n k=>exact s _ _ h
 |turn n=>exact s _ _ h
theorem Runs.tk{H H':Hp}{ps:List Addr}{es:DL}(h:Runs H ps es)(s:TupK H H'):Runs H' ps es:=⟨h.1,λi p x h1 h2=>(h.2 i p x h1 h2).tk s⟩
theorem Dk{s:As}(h:Walk d tn s es):Walk d true s es:=λi x hx=>⟨(h i x hx).nms,(h i x hx).ok,(h i x hx).fit,λ_=>rfl⟩
theorem z4{d:Int}{tn:Bool}{s:As}{es:DL}{B:Nat}(h0:As.Ok B s 0)(hw:Walk d tn s es):∀i,i<=es.length->As.Ok B (ends s (es.take i)) i
 |0,_=>h0
 |i+1,h=>by have hi:i<es.length:=h;have hx:=ag hi;rw[yn hx];exact(z4 h0 hw i (bU hi)).next (hw i _ hx).nms
theorem v8{bs:List Bo}{B:Nat}(h1:1<=bs.length)(h:bs.length<=B):As.Ok B (As.sb bs) 0 :=
 ⟨cN,λn hn=>ca.mp hn,λh=>by have:List.range bs.length=[]:=h;rw[fI]at this;lia,by show(List.range bs.length).length<=_;rw[cq];lia,by show bs.length<=_;lia⟩
def Ever(d D:Int)(M:Nat)(s:As):Prop:=∀n,n<s.k->BoD d D M (s.g n)
theorem tH{s:As}(h:Ever d D M (ends s es))(i:Nat):Ever d D M (ends s (es.take i)):=λn hn=>by
 have:=h n (aQ hn Ap)
 rwa[vO (es:=es) (i:=i),uA hn]at this
theorem Fm{s:As}(h:Ever d D M (s.next x)):∀b∈x.1.new (s.g x.2.1) (s.g x.2.2),BoD d D M b:=λb hb=>by
 obtain⟨j,hj⟩:=ei hb;have hl:=(af.mp hj).1;rw[Dd.puts_new]at hl;have:=h (s.k+j) (by rw[xf];lia)
 rwa[show(s.next x).g (s.k+j)=b from yv hj]at this
theorem BD(es:DL):(es.map λx=>((x.1.puts:Nat):Int)).sum=((es.map λx=>x.1.puts).sum:Nat):=by
 induction es with
 |nil=>rfl
 |cons x es ih =>
  rw[a6,iS,ih,a6,iS]
  lia
theorem GK{n j:Nat}(h:j<n):n - j=(n - 1 - j)+1:=by lia
def sdO(D X Y:Int):Sd:=⟨lA X Y D,lB X Y D,lN X Y D⟩
theorem yu(hD:1<=D):Rv D X Y (sdO D X Y):=⟨l_n (!2),xj (!2),l_a,l_b⟩
theorem wP{s:Sd}(hD:1<=D)(h:Rv D X Y s):s=sdO D X Y:=h.eq (!2) (yu hD)
theorem Jz(hD:1<=D):adS (sdO D X Y) (sdO D X' Y')=sdO D (X+X') (Y+Y'):=wP hD ((yu hD).ad (yu hD))
theorem Kk(hD:1<=D):tkS (sdO D X Y) (sdO D X' Y')=sdO D (X - X') (Y - Y'):=wP hD ((yu hD).tk (yu hD))
theorem Rv.un{k:Int}{s:Sd}(hk:k≠0)(h:Rv (D*k) (X*k) (Y*k) s):Rv D X Y s :=
 ⟨h.z1,h.g,aK hk (by have:=h.x;grind),aK hk (by have:=h.y;grind)⟩
theorem J4(hD:1<=D):shS (sdO D X Y) m 1=sdO D (X*m) (Y*m):=by have:=(yu (D:=D) (X:=X) (Y:=Y) hD).sh (m:=m) (k:=1) ⋯;rw[dg]at this;exact wP hD this
theorem JK(hD:1<=D)(hm:1<=m):shS (sdO D (X*m) (Y*m)) 1 m=sdO D X Y:=by have:=(yu (D:=D) (X:=X*m) (Y:=Y*m) hD).sh (m:=1) (k:=m) hm;simp only[dg]at this;exact wP hD (this.un (!2))
theorem yS(hR:Rt d)(hD:1<=D)(up:sgn d X Y=1)(bX:Bd M X)(bY:Bd M Y):So d D M (sdO D X Y):=
 ⟨(yu hD).z1,(yu hD).g,(yC hR hD).trans up,X,Y,bX,bY,(yu hD).x,(yu hD).y⟩
structure Pc where
 n:Nat
 m:Int
 x:Int
 y:Int
def accX:List Pc->Int
 |[]=>0
 |p::ps=>p.m*p.x+accX ps
def accY:List Pc->Int
 |[]=>0
 |p::ps=>p.m*p.y+accY ps
theorem yQ(p:Pc):∀ps,accX (ps++[p])=accX ps+p.m*p.x
 |[]=>by show p.m*p.x+0=0+_;lia
 |q::ps=>by show q.m*q.x+accX (ps++[p])=q.m*q.x+accX ps+_;rw[yQ p ps];lia
theorem yY(p:Pc):∀ps,accY (ps++[p])=accY ps+p.m*p.y
 |[]=>by show p.m*p.y+0=0+_;lia
 |q::ps=>by show q.m*q.y+accY (ps++[p])=q.m*q.y+accY ps+_;rw[yY p ps];lia
def gd1(u t:Nat)(p:Pc):DL:=(Dd.shift false p.n p.m,p.n,p.n)::(if t=0 then [] else [(Dd.glue true ((u+2*t - 1:Nat):Int) ((u+2*t - 2:Nat):Int),u+2*t - 1,u+2*t - 2)])
def gth(u:Nat)(pc:List Pc):Nat->DL
 |0=>[]
 |t+1=>gth u pc t++(match pc[t]? with|some p=>gd1 u t p|none=>[])
theorem wB{u:Nat}{pc:List Pc}:∀{t:Nat},t<=pc.length->(gth u pc t).length=2*t - 1
 |0,_=>rfl
 |t+1,h=>by
  have ht:t<pc.length:=h;show(gth u pc t++_).length=_;rw[ag ht,ai,wB (bU ht)];show _+(gd1 u t pc[t]).length=_;unfold gd1;by_cases c:t=0
  .subst c;rfl
  .rw[iV c];simp only[au,aV]
   lia
structure PcOk(d D px py:Int)(M:Nat)(s:As)(p:Pc):Prop where
 hn:p.n∈s.ns
 m1:1<=p.m
 mb:Bd 2500 p.m
 g:s.g p.n=⟨sdO D (px*p.m) (py*p.m),sdO D p.x p.y⟩
 up:sgn d p.x p.y=1
 bw:Bd M (px*p.m)/\Bd M (py*p.m)
 bh:Bd M p.x/\Bd M p.y
 bm:Bd M (p.m*p.x)/\Bd M (p.m*p.y)
variable{y:Int}
theorem yO{x:Int}(hR:Rt d)(hm:1<=m)(h:sgn d x y=1):sgn d (m*x) (m*y)=1:=(xz hR (k:=1) (m:=m) ⋯ (!2) (by grind) (by grind)).trans h
theorem By{d:Int}(hR:Rt d):∀{ps:List Pc},ps≠[]->(∀p∈ps,1<=p.m/\sgn d p.x p.y=1)->sgn d (accX ps) (accY ps)=1
 |[p],_,h=>by have:=h p aH;show sgn d (p.m*p.x+0) (p.m*p.y+0)=1;rw[cM,cM];exact yO hR this.1 this.2
 |p::q::ps,_,h=>by have h1:=h p aH;have h2:=By hR (ps:=q::ps) (!1) (λr hr=>h r (aC _ hr));exact vN hR (yO hR h1.1 h1.2) h2
theorem Ed{s:As}{n:Nat}{al:Bool}(z:Sz D K' M)(hn:n∈s.ns)(m1:1<=m)(mb:Bd 2500 m)(ow:So d D M (s.g n).w)(oh:So d D M (s.g n).h):Stp d tn s (.shift al n m,n,n):=
 ⟨⟨rfl,hn,hn,(λh=>nomatch h),λ_=>rfl⟩,⟨m1,mb⟩,⟨m1,mb,z.sy ow,z.sy oh⟩,(λh=>nomatch h)⟩
theorem EX{s:As}{n m:Nat}(z:Sz D K' M)(hn:n∈s.ns)(hm:m∈s.ns)(nm:n≠m)(ew:(s.g n).w=(s.g m).w)(oh:So d D M (s.g n).h)(oh':So d D M (s.g m).h):Stp d tn s (.glue true n m,n,m):=
 ⟨⟨rfl,hn,hm,λ_=>nm,(λh=>nomatch h)⟩,trivial,⟨ew,z.sy oh,z.sy oh'⟩,(λh=>nomatch h)⟩
theorem yw{s:As}{fs:DL}:ends s (es++fs)=ends (ends s es) fs:=by unfold ends;rw[dL]
structure Stq(d D:Int)(M:Nat)(tn:Bool)(s:As)(x:Dd×Nat×Nat):Prop where
 st:Stp d tn s x
 nw:∀b∈x.1.new (s.g x.2.1) (s.g x.2.2),BoD d D M b
def WalkB(d D:Int)(M:Nat)(tn:Bool)(s:As)(es:DL):Prop:=∀(i:Nat)(x:Dd×Nat×Nat),es[i]?=some x->Stq d D M tn (ends s (es.take i)) x
theorem WalkB.walk{s:As}(h:WalkB d D M tn s es):Walk d tn s es:=λi x hx=>(h i x hx).st
theorem xU{s:As}{fs:DL}(h:WalkB d D M tn s es)(g:WalkB d D M tn (ends s es) fs):WalkB d D M tn s (es++fs):=λi x hx=>by
 by_cases c:i<es.length
 .rw[aT c]at hx;rw[cU (!2)];exact h i x hx
 .rw[aP (!2)]at hx;have e:(es++fs).take i=es++fs.take (i - es.length):=by rw[ik,bT (!2)]
  rw[e,yw];exact g _ x hx
theorem wF{s:As}(h:WalkB d D M tn s es)(g:Stq d D M tn (ends s es) x):WalkB d D M tn s (es++[x]):=xU h λi y hy=>by
 have:i=0:=by
  have:=(af.mp hy).1;simp only[au,aV]at this
  lia
 subst this;have e:x=y:=aJ hy;subst e;exact g
structure Gst(d D px py:Int)(M:Nat)(tn:Bool)(s0:As)(pc:List Pc)(t:Nat):Prop where
 w:WalkB d D M tn s0 (gth s0.k pc t)
 k:(ends s0 (gth s0.k pc t)).k=s0.k+(2*t - 1)
 mem:∀j,j∈(ends s0 (gth s0.k pc t)).ns↔(j∈s0.ns/\∀i p,i<t->pc[i]?=some p->p.n≠j)\/(0<t/\j=s0.k+2*t - 2)
 g:0<t->(ends s0 (gth s0.k pc t)).g (s0.k+2*t - 2)=⟨sdO D px py,sdO D (accX (pc.take t)) (accY (pc.take t))⟩
theorem CO{d D px py:Int}{M K':Nat}{tn:Bool}{s0:As}{pc:List Pc}(hR:Rt d)(z:Sz D K' M)(lt:∀n∈s0.ns,n<s0.k)(hp:∀p∈pc,PcOk d D px py M s0 p)(nd:(pc.map Pc.n).Nodup)(up:sgn d px py=1)(bp:Bd M px/\Bd M py) (ba:∀t,Bd M (accX (pc.take t))/\Bd M (accY (pc.take t))):∀t,t<=pc.length->Gst d D px py M tn s0 pc t
 |0,_=>⟨λi x h=>by simp[gth]at h,rfl,λj=>by
   show j∈s0.ns↔_;constructor
   .exact λh=>.inl ⟨h,λi p hi=>absurd hi (!2)⟩
   .rintro (h|h)
    .exact h.1
    .lia,λh=>absurd h (!2)⟩
 |t+1,ht=>by
  have ih:=CO (tn:=tn) hR z lt hp nd up bp ba t (bU ht);have ht':t<pc.length:=ht;have hD:=z.d1;obtain⟨p,hpt⟩:∃p,pc[t]?=some p:=⟨_,ag ht'⟩
  have hpm:=ay hpt;have pk:=hp p hpm;have eg:gth s0.k pc (t+1)=gth s0.k pc t++gd1 s0.k t p:=by show gth s0.k pc t++_=_;rw[hpt]
  have acx:accX (pc.take (t+1))=accX (pc.take t)+p.m*p.x:=by rw[bQ,hpt];exact yQ p _
  have acy:accY (pc.take (t+1))=accY (pc.take t)+p.m*p.y:=by rw[bQ,hpt];exact yY p _
  obtain⟨w,k,mem,g⟩:=ih;have gk:∀n,n<s0.k->(ends s0 (gth s0.k pc t)).g n=s0.g n:=λn h=>uA h;generalize hs:ends s0 (gth s0.k pc t)=s at*
  have pnk:=lt p.n pk.hn;have hn:p.n∈s.ns:=(mem p.n).mpr (.inl ⟨pk.hn,λi q hi hq c=>by
   have h1:(pc.map Pc.n)[i]?=some p.n:=by rw[ao,hq,<-c];rfl
   have h2:(pc.map Pc.n)[t]?=some p.n:=by rw[ao,hpt];rfl
   have:=(fH (i:=i) (by rw[aa];lia) nd).mp (h1.trans h2.symm)
   lia⟩)
  have hg:s.g p.n=⟨sdO D (px*p.m) (py*p.m),sdO D p.x p.y⟩:=(gk _ pnk).trans pk.g;have upw:sgn d (px*p.m) (py*p.m)=1:=by rw[av px,av py];exact yO hR pk.m1 up
  have st1:Stp d tn s (.shift false p.n p.m,p.n,p.n):=Ed z hn pk.m1 pk.mb (by rw[hg];exact yS hR hD upw pk.bw.1 pk.bw.2) (by rw[hg];exact yS hR hD pk.up pk.bh.1 pk.bh.2);have nw1:(Dd.shift false p.n p.m).new (s.g p.n) (s.g p.n)=[⟨sdO D px py,sdO D (p.m*p.x) (p.m*p.y)⟩]:=by show [(⟨shS (s.g p.n).w 1 p.m,shS (s.g p.n).h p.m 1⟩:Bo)]=_;rw[hg,av p.m,av p.m];show [(⟨shS (sdO D (px*p.m) (py*p.m)) 1 p.m,shS (sdO D p.x p.y) p.m 1⟩:Bo)]=_;rw[JK hD pk.m1,J4 hD]
  have w1:WalkB d D M tn s0 (gth s0.k pc t++[(.shift false p.n p.m,p.n,p.n)]):=wF w (by rw[hs];refine⟨st1,λb hb=>?_⟩;have hb:b∈(Dd.shift false p.n p.m).new (s.g p.n) (s.g p.n):=hb;rw[nw1]at hb;rw[aq.mp hb];exact⟨yS hR hD up bp.1 bp.2,yS hR hD (yO hR pk.m1 pk.up) pk.bm.1 pk.bm.2⟩)
  have e1:ends s0 (gth s0.k pc t++[(Dd.shift false p.n p.m,p.n,p.n)])=s.next (.shift false p.n p.m,p.n,p.n):=by rw[w4,hs]
  have g1:(s.next (.shift false p.n p.m,p.n,p.n)).g s.k=⟨sdO D px py,sdO D (p.m*p.x) (p.m*p.y)⟩:=by exact yv (j:=0) (by show((Dd.shift false p.n p.m).new (s.g p.n) (s.g p.n))[0]?=_;rw[nw1];rfl)
  have k1:(s.next (.shift false p.n p.m,p.n,p.n)).k=s.k+1:=xf s _;have m1:∀j,j∈(s.next (.shift false p.n p.m,p.n,p.n)).ns↔(j∈s.ns/\j≠p.n)\/j=s.k:=λj=>by
   rw[mem_next];show(j∈s.ns/\(j:Int)∉[(p.n:Int)])\/(s.k<=j/\j<s.k+1)↔_;rw[aq];constructor
   .rintro (⟨h1,h2⟩|h)
    .exact .inl ⟨h1,λz=>h2 (by rw[z])⟩
    .exact .inr (!2)
   .rintro (⟨h1,h2⟩|h)
    .exact .inl ⟨h1,λz=>h2 (!2)⟩
    .exact .inr (!2)
  have lt':∀i q,i<t+1->pc[i]?=some q->i<t\/q=p:=λi q hi hq=>by
   by_cases c:i<t
   .exact .inl c
   .have:i=t:=by lia
    subst this;exact .inr (aJ (hq.symm.trans hpt))
  by_cases c0:t=0
  .subst c0;have eg':gth s0.k pc (0+1)=gth s0.k pc 0++[(.shift false p.n p.m,p.n,p.n)]:=eg;have ss:s=s0:=hs.symm;refine⟨by rw[eg'];exact w1,by rw[eg',e1,k1,ss],λj=>?_,λ_=>?_⟩
   .rw[eg',e1,m1,ss];constructor
    .rintro (⟨h1,h2⟩|h)
     .exact .inl ⟨h1,λi q hi hq=>(lt' i q hi hq).elim (λc=>absurd c (!2)) (λe z=>h2 (by rw[<-z,e]))⟩
     .exact .inr ⟨by lia,by lia⟩
    .rintro (⟨h1,h2⟩|⟨_,h⟩)
     .exact .inl ⟨h1,λz=>h2 0 p (!2) hpt z.symm⟩
     .exact .inr (!2)
   .rw[eg',e1,show s0.k+2*(0+1) - 2=s.k by rw[ss];lia,g1,acx,acy];rw[show accX (pc.take 0)=0 from rfl,show accY (pc.take 0)=0 from rfl,d6,d6]
  .have eg':gth s0.k pc (t+1)=gth s0.k pc t++[(Dd.shift false p.n p.m,p.n,p.n)]++[(Dd.glue true ((s0.k+2*t - 1:Nat):Int) ((s0.k+2*t - 2:Nat):Int),s0.k+2*t - 1,s0.k+2*t - 2)]:=by
    rw[eg];unfold gd1;rw[iV c0,bR];rfl
   have sk:s.k=s0.k+2*t - 1:=by lia
   have hacc:=g (!2);generalize hs1:s.next (.shift false p.n p.m,p.n,p.n)=s1 at*
   have n1:s0.k+2*t - 1∈s1.ns:=(m1 _).mpr (.inr sk.symm);have n2:s0.k+2*t - 2∈s1.ns:=(m1 _).mpr (.inl ⟨(mem _).mpr (.inr ⟨by lia,rfl⟩),by lia⟩);have g1':s1.g (s0.k+2*t - 1)=⟨sdO D px py,sdO D (p.m*p.x) (p.m*p.y)⟩:=by rw[<-sk];exact g1
   have g2':s1.g (s0.k+2*t - 2)=⟨sdO D px py,sdO D (accX (pc.take t)) (accY (pc.take t))⟩:=by rw[<-hs1];exact(vW (!2)).trans hacc
   have upa:sgn d (accX (pc.take t)) (accY (pc.take t))=1:=By hR (λc=>by
    have:=congrArg List.length c;rw[aU,aV]at this
    lia) λq hq=>⟨(hp q (bW hq)).m1,(hp q (bW hq)).up⟩
   have st2:Stp d tn s1 (.glue true ((s0.k+2*t - 1:Nat):Int) ((s0.k+2*t - 2:Nat):Int),s0.k+2*t - 1,s0.k+2*t - 2):=
    EX z n1 n2 (!2) (by rw[g1',g2']) (by rw[g1'];exact yS hR hD (yO hR pk.m1 pk.up) pk.bm.1 pk.bm.2) (by rw[g2'];exact yS hR hD upa (ba t).1 (ba t).2)
   have nw2:(Dd.glue true ((s0.k+2*t - 1:Nat):Int) ((s0.k+2*t - 2:Nat):Int)).new (s1.g (s0.k+2*t - 1)) (s1.g (s0.k+2*t - 2))=[⟨sdO D px py,sdO D (accX (pc.take (t+1))) (accY (pc.take (t+1)))⟩]:=by show [(⟨(s1.g (s0.k+2*t - 1)).w,adS (s1.g (s0.k+2*t - 1)).h (s1.g (s0.k+2*t - 2)).h⟩:Bo)]=_;rw[g1',g2',acx,acy];show [(⟨sdO D px py,adS (sdO D (p.m*p.x) (p.m*p.y)) (sdO D (accX (pc.take t)) (accY (pc.take t)))⟩:Bo)]=_;rw[Jz hD,gJ (p.m*p.x),gJ (p.m*p.y)]
   have upb:sgn d (accX (pc.take (t+1))) (accY (pc.take (t+1)))=1:=By hR (λc=>by
    have:=congrArg List.length c;rw[aU,aV]at this
    lia) λq hq=>⟨(hp q (bW hq)).m1,(hp q (bW hq)).up⟩
   have w2:=wF w1 (by rw[e1];refine⟨st2,λb hb=>?_⟩;have hb:b∈(Dd.glue true ((s0.k+2*t - 1:Nat):Int) ((s0.k+2*t - 2:Nat):Int)).new (s1.g (s0.k+2*t - 1)) (s1.g (s0.k+2*t - 2)):=hb;rw[nw2]at hb;rw[aq.mp hb];exact⟨yS hR hD up bp.1 bp.2,yS hR hD upb (ba (t+1)).1 (ba (t+1)).2⟩)
   have e2:=w4 (s:=s0) (es:=gth s0.k pc t++[(Dd.shift false p.n p.m,p.n,p.n)]) (x:=(Dd.glue true ((s0.k+2*t - 1:Nat):Int) ((s0.k+2*t - 2:Nat):Int),s0.k+2*t - 1,s0.k+2*t - 2));rw[e1]at e2;have k2:=xf s1 (Dd.glue true ((s0.k+2*t - 1:Nat):Int) ((s0.k+2*t - 2:Nat):Int),s0.k+2*t - 1,s0.k+2*t - 2);have k2:(s1.next (Dd.glue true ((s0.k+2*t - 1:Nat):Int) ((s0.k+2*t - 2:Nat):Int),s0.k+2*t - 1,s0.k+2*t - 2)).k=s1.k+1:=k2;refine⟨by rw[eg'];exact w2,by rw[eg',e2,k2];lia,λj=>?_,λ_=>?_⟩
   .rw[eg',e2,mem_next];show(j∈s1.ns/\(j:Int)∉[((s0.k+2*t - 1:Nat):Int),((s0.k+2*t - 2:Nat):Int)])\/(s1.k<=j/\j<s1.k+1)↔_;rw[aW,aq,m1,mem];have lj:=lt j;clear mem m1 n1 n2 g1' g2' upa st2 nw2 upb w2 e2 hacc w w1 e1 g1 hg st1 nw1 gk hs hs1 eg eg' acx acy hp pk;constructor
    .rintro (⟨⟨h1|⟨_,h⟩,hne⟩|h,hn⟩|⟨ha,hb⟩)
     .exact .inl ⟨h1.1,λi q hi hq=>(lt' i q hi hq).elim (λc=>h1.2 i q c hq) (λe z=>hne (by rw[<-z,e]))⟩
     .exact absurd (.inr (by rw[h])) hn
     .exact absurd (.inl (!2)) hn
     .exact .inr ⟨by lia,by lia⟩
    .rintro (⟨h1,h2⟩|⟨_,h⟩)
     .exact .inl ⟨.inl ⟨.inl ⟨h1,λi q hi hq=>h2 i q (!2) hq⟩,λz=>h2 t p (!2) hpt z.symm⟩,λz=>by have:=lj h1;rcases z with z|z<;>lia⟩
     .exact .inr ⟨by lia,by lia⟩
   .rw[eg',e2,show s0.k+2*(t+1) - 2=s1.k by lia];exact yv (j:=0) (by rw[nw2];rfl)
theorem Gf{a:Nat}{xs ys:List Nat}(h:(xs++ys).Nodup)(n:a∉xs++ys):(xs++([a]++ys)).Nodup:=by
 have hp:(xs++([a]++ys)).Perm (a::(xs++ys)):=by rw[List.singleton_append];exact List.perm_middle
 exact hp.nodup_iff.mpr (dI.mpr ⟨n,h⟩)
theorem Gs{a:Nat}{xs:List Nat}(h:xs.Nodup)(n:a∉xs):(xs++[a]).Nodup:=by have hp:(xs++[a]).Perm (a::xs):=List.perm_append_singleton a xs;exact hp.nodup_iff.mpr (dI.mpr ⟨n,h⟩)
structure Bx where
 i:Int
 j:Int
 x:Int
 y:Int
structure Bas(d:Int)(M:Nat)(px py qx qy:Int):Prop where
 up:sgn d px py=1
 uq:sgn d qx qy=1
 bp:Bd M px/\Bd M py
 bq:Bd M qx/\Bd M qy
structure BxOk(d px py qx qy:Int)(M0 M:Nat)(b:Bx):Prop where
 i0:0<=b.i
 j0:0<=b.j
 ne:b.i≠0\/b.j≠0
 bi:Bd 2500 b.i
 bj:Bd 2500 b.j
 up:sgn d b.x b.y=1
 bh:Bd M b.x/\Bd M b.y
 bpi:Bd M (px*b.i)/\Bd M (py*b.i)
 bqj:Bd M (qx*b.j)/\Bd M (qy*b.j)
 bw:Bd M (px*b.i+qx*b.j)/\Bd M (py*b.i+qy*b.j)
 bxi:Bd M0 (b.i*b.x)/\Bd M0 (b.i*b.y)
 bxj:Bd M0 (b.j*b.x)/\Bd M0 (b.j*b.y)
def Bx.bo(D px py qx qy:Int)(b:Bx):Bo:=⟨sdO D (px*b.i+qx*b.j) (py*b.i+qy*b.j),sdO D b.x b.y⟩
structure Np where
 ds:DL
 F:List Pc
 O:List Pc
 u:Nat
def np1(D px py:Int)(n:Nat)(hb:List Bx):Nat->Np
 |0=>⟨[],[],[],n⟩
 |t+1=>match hb[t]? with
  |none=>np1 D px py n hb t
  |some b=>if b.j=0 then ⟨(np1 D px py n hb t).ds,(np1 D px py n hb t).F++[⟨t,b.i,b.x,b.y⟩],(np1 D px py n hb t).O,(np1 D px py n hb t).u⟩
   else if b.i=0 then ⟨(np1 D px py n hb t).ds,(np1 D px py n hb t).F,(np1 D px py n hb t).O++[⟨t,b.j,b.x,b.y⟩],(np1 D px py n hb t).u⟩
   else ⟨(np1 D px py n hb t).ds++[(.cut false t (sdO D (px*b.i) (py*b.i)),t,t)],(np1 D px py n hb t).F++[⟨(np1 D px py n hb t).u,b.i,b.x,b.y⟩],(np1 D px py n hb t).O++[⟨(np1 D px py n hb t).u+1,b.j,b.x,b.y⟩],(np1 D px py n hb t).u+2⟩
def sI(f:Bx->Int):List Bx->Int
 |[]=>0
 |b::l=>f b+sI f l
theorem yr(f:Bx->Int)(b:Bx):∀l,sI f (l++[b])=sI f l+f b
 |[]=>by show f b+0=0+_;lia
 |c::l=>by show f c+sI f (l++[b])=f c+sI f l+_;rw[yr f b l];lia
structure PcG(d D px py:Int)(M0 M:Nat)(s:As)(p:Pc):Prop where
 m1:1<=p.m
 mb:Bd 2500 p.m
 lt:p.n<s.k
 g:s.g p.n=⟨sdO D (px*p.m) (py*p.m),sdO D p.x p.y⟩
 up:sgn d p.x p.y=1
 bw:Bd M (px*p.m)/\Bd M (py*p.m)
 bh:Bd M p.x/\Bd M p.y
 bm:Bd M0 (p.m*p.x)/\Bd M0 (p.m*p.y)
theorem PcG.next{d D px py:Int}{M0 M:Nat}{s:As}{p:Pc}(h:PcG d D px py M0 M s p)(x:Dd×Nat×Nat):PcG d D px py M0 M (s.next x) p :=
 ⟨h.m1,h.mb,by rw[xf];have:=h.lt;lia,(show gN s.g s.k _ p.n=_ from vW h.lt).trans h.g,h.up,h.bw,h.bh,h.bm⟩
theorem PcG.ends{d D px py:Int}{M0 M:Nat}{s:As}{p:Pc}(h:PcG d D px py M0 M s p)(es:DL):PcG d D px py M0 M (ends s es) p :=
 ⟨h.m1,h.mb,by rw[xl];have:=h.lt;lia,(uA h.lt).trans h.g,h.up,h.bw,h.bh,h.bm⟩
variable{px py:Int}{M0:Nat}
theorem PcG.ok{s:As}{p:Pc}(h:PcG d D px py M0 M s p)(hM:M0<=M)(hn:p.n∈s.ns):PcOk d D px py M s p:=⟨hn,h.m1,h.mb,h.g,h.up,h.bw,h.bh,h.bm.1.mono hM,h.bm.2.mono hM⟩
structure N1(d D px py qx qy:Int)(M0 M:Nat)(tn:Bool)(s0:As)(n:Nat)(hb:List Bx)(t:Nat)(r:Np):Prop where
 w:WalkB d D M tn s0 r.ds
 k:(ends s0 r.ds).k=r.u
 nu:n<=r.u
 mem:∀j,j∈(ends s0 r.ds).ns↔(t<=j/\j<n)\/j∈r.F.map Pc.n\/j∈r.O.map Pc.n
 nd:(r.F.map Pc.n++r.O.map Pc.n).Nodup
 ap:∀j∈r.F.map Pc.n++r.O.map Pc.n,j<r.u/\(j<t\/n<=j)
 okF:∀p∈r.F,PcG d D px py M0 M (ends s0 r.ds) p
 okO:∀p∈r.O,PcG d D qx qy M0 M (ends s0 r.ds) p
 aF:accX r.F=sI (λb=>b.i*b.x) (hb.take t)/\accY r.F=sI (λb=>b.i*b.y) (hb.take t)
 aO:accX r.O=sI (λb=>b.j*b.x) (hb.take t)/\accY r.O=sI (λb=>b.j*b.y) (hb.take t)
 len:r.ds.length<=t/\r.F.length<=t/\r.O.length<=t
theorem Gz{d D px py qx qy:Int}{M0 M K':Nat}{tn:Bool}{s0:As}{hb:List Bx}(hR:Rt d)(z:Sz D K' M)(bs:Bas d M px py qx qy)(hk:s0.k=hb.length)(hns:s0.ns=List.range hb.length)(hg:∀(k:Nat)(b:Bx),hb[k]?=some b->s0.g k=b.bo D px py qx qy) (ok:∀b∈hb,BxOk d px py qx qy M0 M b):∀t,t<=hb.length->N1 d D px py qx qy M0 M tn s0 hb.length hb t (np1 D px py hb.length hb t)
 |0,_=>⟨λi x h=>by simp[np1]at h,hk,ak _,λj=>by show j∈s0.ns↔_;rw[hns,ca];simp[np1],by simp[np1],λj hj=>by simp[np1]at hj,λp hp=>by simp[np1]at hp,λp hp=>by simp[np1]at hp,⟨rfl,rfl⟩,⟨rfl,rfl⟩,⟨ak _,ak _,ak _⟩⟩
 |t+1,ht=>by
  have ht':t<hb.length:=ht;have ih:=Gz (tn:=tn) hR z bs hk hns hg ok t (bU ht);obtain⟨b,hbt⟩:∃b,hb[t]?=some b:=⟨_,ag ht'⟩
  have bk:=ok b (ay hbt);have hD:=z.d1;have e:np1 D px py hb.length hb (t+1)=if b.j=0 then ⟨(np1 D px py hb.length hb t).ds,(np1 D px py hb.length hb t).F++[⟨t,b.i,b.x,b.y⟩],(np1 D px py hb.length hb t).O,(np1 D px py hb.length hb t).u⟩
   else if b.i=0 then ⟨(np1 D px py hb.length hb t).ds,(np1 D px py hb.length hb t).F,(np1 D px py hb.length hb t).O++[⟨t,b.j,b.x,b.y⟩],(np1 D px py hb.length hb t).u⟩
   else ⟨(np1 D px py hb.length hb t).ds++[(.cut false t (sdO D (px*b.i) (py*b.i)),t,t)],(np1 D px py hb.length hb t).F++[⟨(np1 D px py hb.length hb t).u,b.i,b.x,b.y⟩],(np1 D px py hb.length hb t).O++[⟨(np1 D px py hb.length hb t).u+1,b.j,b.x,b.y⟩],(np1 D px py hb.length hb t).u+2⟩:=by
   show(match hb[t]? with|none=>_|some b=>_)=_;rw[hbt]
  rw[e];generalize np1 D px py hb.length hb t=r at ih;have tk:hb.take (t+1)=hb.take t++[b]:=by rw[bQ,hbt];rfl
  have tmem:t∈(ends s0 r.ds).ns:=(ih.mem t).mpr (.inl ⟨ak _,ht'⟩);have tnot:t∉r.F.map Pc.n++r.O.map Pc.n:=λh=>by have:=(ih.ap t h).2;lia
  have gt:(ends s0 r.ds).g t=b.bo D px py qx qy:=(uA (!2)).trans (hg t b hbt);have tku:t<(ends s0 r.ds).k:=by rw[ih.k];have:=ih.nu;lia
  obtain⟨l1,l2,l3⟩:=ih.len;by_cases cj:b.j=0
  .rw[iU cj];have bi1:1<=b.i:=by have:=bk.i0;have:=bk.ne;lia
   refine⟨ih.w,ih.k,ih.nu,λj=>?_,?_,λj hj=>?_,λp hp=>?_,ih.okO,⟨?_,?_⟩,⟨?_,?_⟩,⟨by show r.ds.length<=_;lia,by show(r.F++_).length<=_;rw[ai];simp only[au,aV];lia,by show r.O.length<=_;lia⟩⟩
   .show j∈(ends s0 r.ds).ns↔_\/j∈(r.F++[_]).map Pc.n\/_;rw[ih.mem,aj,aE,a6,dc,aq];show _↔_\/(_\/j=t)\/_;grind
   .show((r.F++[_]).map Pc.n++r.O.map Pc.n).Nodup;rw[aj,bR];exact Gf ih.nd tnot
   .have hj:j∈(r.F++[_]).map Pc.n++r.O.map Pc.n:=hj;rw[aj,bR,aE,aE,a6,dc,aq]at hj;have hj:j∈r.F.map Pc.n\/j=t\/j∈r.O.map Pc.n:=hj;rcases hj with h|h|h
    .have:=ih.ap j (cg _ h);exact⟨this.1,by lia⟩
    .have:=ih.nu;exact⟨by show j<r.u;lia,by lia⟩
    .have:=ih.ap j (a7 _ h);exact⟨this.1,by lia⟩
   .rcases aE.mp hp with h|h
    .exact ih.okF p h
    .rw[aq.mp h];refine⟨bi1,bk.bi,tku,?_,bk.up,bk.bpi,bk.bh,bk.bxi⟩;rw[gt];show(⟨sdO D (px*b.i+qx*b.j) (py*b.i+qy*b.j),sdO D b.x b.y⟩:Bo)=_;rw[cj,cK,cK,cM,cM]
   .show accX (r.F++[_])=_;rw[yQ,ih.aF.1,tk,yr]
   .show accY (r.F++[_])=_;rw[yY,ih.aF.2,tk,yr]
   .show accX r.O=_;rw[ih.aO.1,tk,yr,cj,cG,cM]
   .show accY r.O=_;rw[ih.aO.2,tk,yr,cj,cG,cM]
  .rw[iV cj];have bj1:1<=b.j:=by have:=bk.j0;lia
   by_cases ci:b.i=0
   .rw[iU ci];refine⟨ih.w,ih.k,ih.nu,λj=>?_,?_,λj hj=>?_,ih.okF,λp hp=>?_,⟨?_,?_⟩,⟨?_,?_⟩,⟨by show r.ds.length<=_;lia,by show r.F.length<=_;lia,by show(r.O++_).length<=_;rw[ai];simp only[au,aV];lia⟩⟩
    .show j∈(ends s0 r.ds).ns↔_\/_\/j∈(r.O++[_]).map Pc.n;rw[ih.mem,aj,aE,a6,dc,aq];show _↔_\/_\/_\/j=t;grind
    .show(r.F.map Pc.n++(r.O++[_]).map Pc.n).Nodup;rw[aj,<-bR];exact Gs ih.nd tnot
    .have hj:j∈r.F.map Pc.n++(r.O++[_]).map Pc.n:=hj;rw[aj,<-bR,aE,a6,dc,aq]at hj;have hj:j∈r.F.map Pc.n++r.O.map Pc.n\/j=t:=hj;rcases hj with h|h
     .have:=ih.ap j h;exact⟨this.1,by lia⟩
     .have:=ih.nu;exact⟨by show j<r.u;lia,by lia⟩
    .rcases aE.mp hp with h|h
     .exact ih.okO p h
     .rw[aq.mp h];refine⟨bj1,bk.bj,tku,?_,bk.up,bk.bqj,bk.bh,bk.bxj⟩;rw[gt];show(⟨sdO D (px*b.i+qx*b.j) (py*b.i+qy*b.j),sdO D b.x b.y⟩:Bo)=_;rw[ci,cK,cK,d6,d6]
    .show accX r.F=_;rw[ih.aF.1,tk,yr,ci,cG,cM]
    .show accY r.F=_;rw[ih.aF.2,tk,yr,ci,cG,cM]
    .show accX (r.O++[_])=_;rw[yQ,ih.aO.1,tk,yr]
    .show accY (r.O++[_])=_;rw[yY,ih.aO.2,tk,yr]
   .rw[iV ci];have bi1:1<=b.i:=by have:=bk.i0;lia
    have upi:sgn d (px*b.i) (py*b.i)=1:=by rw[av px,av py];exact yO hR bi1 bs.up
    have uqj:sgn d (qx*b.j) (qy*b.j)=1:=by rw[av qx,av qy];exact yO hR bj1 bs.uq
    have upw:sgn d (px*b.i+qx*b.j) (py*b.i+qy*b.j)=1:=vN hR upi uqj;have so_w:=yS (D:=D) hR hD upw bk.bw.1 bk.bw.2;have so_s:=yS (D:=D) hR hD upi bk.bpi.1 bk.bpi.2;have so_t:=yS (D:=D) hR hD uqj bk.bqj.1 bk.bqj.2;have tke:tkS (sdO D (px*b.i+qx*b.j) (py*b.i+qy*b.j)) (sdO D (px*b.i) (py*b.i))=sdO D (qx*b.j) (qy*b.j):=by rw[Kk hD];congr 1<;>lia
    have stp:Stp d tn (ends s0 r.ds) (.cut false t (sdO D (px*b.i) (py*b.i)),t,t):=by refine⟨⟨rfl,tmem,tmem,(λh=>nomatch h),λ_=>rfl⟩,z.sy so_s,?_,(λh=>nomatch h)⟩;show tN d ((ends s0 r.ds).g t).w _;rw[gt];exact AA hR z so_w so_s (by show So d D M (tkS (sdO D _ _) _);rw[tke];exact so_t)
    have e1:ends s0 (r.ds++[(Dd.cut false t (sdO D (px*b.i) (py*b.i)),t,t)])=(ends s0 r.ds).next (.cut false t (sdO D (px*b.i) (py*b.i)),t,t):=w4;have nw:(Dd.cut false t (sdO D (px*b.i) (py*b.i))).new ((ends s0 r.ds).g t) ((ends s0 r.ds).g t)=[⟨sdO D (px*b.i) (py*b.i),sdO D b.x b.y⟩,⟨sdO D (qx*b.j) (qy*b.j),sdO D b.x b.y⟩]:=by rw[gt];show [(⟨_,sdO D b.x b.y⟩:Bo),⟨tkS (sdO D (px*b.i+qx*b.j) (py*b.i+qy*b.j)) (sdO D (px*b.i) (py*b.i)),sdO D b.x b.y⟩]=_;rw[tke]
    have w1:=wF ih.w ⟨stp,λc hc=>by
     have hc:c∈(Dd.cut false t (sdO D (px*b.i) (py*b.i))).new ((ends s0 r.ds).g t) ((ends s0 r.ds).g t):=hc;rw[nw]at hc;have so_h:=yS (D:=D) hR hD bk.up bk.bh.1 bk.bh.2;rcases aW.mp hc with rfl|hc
     .exact⟨so_s,so_h⟩
     .rw[aq.mp hc];exact⟨so_t,so_h⟩⟩
    have k1:=xf (ends s0 r.ds) (Dd.cut false t (sdO D (px*b.i) (py*b.i)),t,t);rw[ih.k]at k1;have k1:((ends s0 r.ds).next (Dd.cut false t (sdO D (px*b.i) (py*b.i)),t,t)).k=r.u+2:=k1;have g0:((ends s0 r.ds).next (Dd.cut false t (sdO D (px*b.i) (py*b.i)),t,t)).g r.u=⟨sdO D (px*b.i) (py*b.i),sdO D b.x b.y⟩:=by rw[<-ih.k];exact yv (j:=0) (by rw[nw];rfl)
    have g1:((ends s0 r.ds).next (Dd.cut false t (sdO D (px*b.i) (py*b.i)),t,t)).g (r.u+1)=⟨sdO D (qx*b.j) (qy*b.j),sdO D b.x b.y⟩:=by rw[<-ih.k];exact yv (j:=1) (by rw[nw];rfl)
    have nu:=ih.nu;have unot:∀j,r.u<=j->j∉r.F.map Pc.n++r.O.map Pc.n:=λj hj h=>by have:=(ih.ap j h).1;lia
    refine⟨w1,by show(ends s0 (r.ds++_)).k=_;rw[e1,k1],by show _<=r.u+2;lia,λj=>?_,?_,λj hj=>?_,λp hp=>?_,λp hp=>?_,⟨?_,?_⟩,⟨?_,?_⟩,⟨by show(r.ds++_).length<=_;rw[ai];simp only[au,aV];lia,by show(r.F++_).length<=_;rw[ai];simp only[au,aV];lia,by show(r.O++_).length<=_;rw[ai];simp only[au,aV];lia⟩⟩
    .show j∈(ends s0 (r.ds++_)).ns↔_\/j∈(r.F++[_]).map Pc.n\/j∈(r.O++[_]).map Pc.n;rw[e1,mem_next,ih.k,aj,aj,aE,aE,a6,dc,aq,a6,dc,aq,ih.mem];show(_/\(j:Int)∉[(t:Int)])\/(r.u<=j/\j<r.u+2)↔_\/(_\/j=r.u)\/_\/j=r.u+1;rw[aq];grind
    .show((r.F++[_]).map Pc.n++(r.O++[_]).map Pc.n).Nodup;rw[aj,aj];have h1:(r.F.map Pc.n++([r.u]++r.O.map Pc.n)).Nodup:=Gf ih.nd (unot _ (ak _));have h2:=Gs (a:=r.u+1) h1 (λh=>by
      rcases aE.mp h with h|h
      .exact unot _ (!2) (cg _ h)
      .rcases aE.mp h with h|h
       .rw[aq]at h;lia
       .exact unot _ (!2) (a7 _ h))
     simp only[bR]at h2 ⊢;exact h2
    .have hj:j∈(r.F++[_]).map Pc.n++(r.O++[_]).map Pc.n:=hj;rw[aj,aj,aE,aE,aE,a6,dc,aq,a6,dc,aq]at hj;have hj:(j∈r.F.map Pc.n\/j=r.u)\/j∈r.O.map Pc.n\/j=r.u+1:=hj;show j<r.u+2/\_;rcases hj with (h|h)|h|h
     .have:=ih.ap j (cg _ h);lia
     .lia
     .have:=ih.ap j (a7 _ h);lia
     .lia
    .show PcG d D px py M0 M (ends s0 (r.ds++_)) p;rw[e1];rcases aE.mp hp with h|h
     .exact(ih.okF p h).next _
     .rw[aq.mp h];exact⟨bi1,bk.bi,by rw[k1];show r.u<_;lia,g0,bk.up,bk.bpi,bk.bh,bk.bxi⟩
    .show PcG d D qx qy M0 M (ends s0 (r.ds++_)) p;rw[e1];rcases aE.mp hp with h|h
     .exact(ih.okO p h).next _
     .rw[aq.mp h];exact⟨bj1,bk.bj,by rw[k1];show r.u+1<_;lia,g1,bk.up,bk.bqj,bk.bh,bk.bxj⟩
    .show accX (r.F++[_])=_;rw[yQ,ih.aF.1,tk,yr]
    .show accY (r.F++[_])=_;rw[yY,ih.aF.2,tk,yr]
    .show accX (r.O++[_])=_;rw[yQ,ih.aO.1,tk,yr]
    .show accY (r.O++[_])=_;rw[yY,ih.aO.2,tk,yr]
theorem CI{M0:Nat}:∀{ps:List Pc},(∀p∈ps,Bd M0 (p.m*p.x)/\Bd M0 (p.m*p.y))->Bd (M0+ps.length) (accX ps)/\Bd (M0+ps.length) (accY ps)
 |[],_=>⟨gB _,gB _⟩
 |p::ps,h=>by have h1:=h p aH;have h2:=CI (ps:=ps) λq hq=>h q (aC _ hq);rw[au,<-gj];exact⟨Bd.add (h1.1.mono (dP _ _)) h2.1,Bd.add (h1.2.mono (dP _ _)) h2.2⟩
def hp1(D px py X Y:Int):List Bo:=if X=0/\Y=0 then [] else [⟨sdO D px py,sdO D X Y⟩]
theorem EI(hR:Rt d){ps:List Pc}(h:∀p∈ps,1<=p.m/\sgn d p.x p.y=1):hp1 D px py (accX ps) (accY ps)=if ps=[] then [] else [⟨sdO D px py,sdO D (accX ps) (accY ps)⟩]:=by
 unfold hp1;by_cases c:ps=[]
 .subst c;rw[iU ⟨rfl,rfl⟩,iU rfl]
 .rw[iV c,iV];rintro⟨h1,h2⟩;have:=By hR c h;rw[h1,h2]at this;exact absurd this (by unfold sgn;simp)
def npl(D px py:Int)(hb:List Bx):DL:=(np1 D px py hb.length hb hb.length).ds++(gth (np1 D px py hb.length hb hb.length).u (np1 D px py hb.length hb hb.length).F (np1 D px py hb.length hb hb.length).F.length++gth ((np1 D px py hb.length hb hb.length).u+(2*(np1 D px py hb.length hb hb.length).F.length - 1)) (np1 D px py hb.length hb hb.length).O (np1 D px py hb.length hb hb.length).O.length)
theorem B3:∀{xs ys:List Nat},xs.Pairwise (· < ·)->ys.Pairwise (· < ·)->(∀j,j∈xs↔j∈ys)->xs=ys:=λ{xs ys} hx hy h =>
 g6 (λa b _ _ h k=>Nat.le_antisymm h k) (hx.imp bU) (hy.imp bU) ((gF (xw hx) (xw hy)).mpr h)
theorem IW{qx qy:Int}{s0:As}{hb:List Bx}(hR:Rt d)(z:Sz D K' M)(bs:Bas d M px py qx qy)(hk:s0.k=hb.length)(hns:s0.ns=List.range hb.length)(hg:∀(k:Nat)(b:Bx),hb[k]?=some b->s0.g k=b.bo D px py qx qy)(ok:∀b∈hb,BxOk d px py qx qy M0 M b)(hM:M0+hb.length<=M)(h1:1<=hb.length):WalkB d D M tn s0 (npl D px py hb)/\(npl D px py hb).length<=5*hb.length /\
   (ends s0 (npl D px py hb)).ns.map (ends s0 (npl D px py hb)).g=hp1 D px py (sI (λb=>b.i*b.x) hb) (sI (λb=>b.i*b.y) hb)++hp1 D qx qy (sI (λb=>b.j*b.x) hb) (sI (λb=>b.j*b.y) hb):=by
 have n1:=Gz (tn:=tn) hR z bs hk hns hg ok hb.length (ak _);unfold npl;generalize np1 D px py hb.length hb hb.length=r at n1;obtain⟨w,k,nu,mem,nd,ap,okF,okO,aF,aO,l1,l2,l3⟩:=n1;rw[aG]at aF aO;have ok0:As.Ok hb.length s0 0:=⟨by rw[hns];exact cN,λn hn=>by rw[hns]at hn;rw[hk];exact ca.mp hn,by rw[hns];intro h;rw[fI]at h;lia,by rw[hns,cq];lia,by rw[hk];lia⟩
 have oks:=z4 ok0 w.walk r.ds.length (ak _);rw[aG]at oks;generalize hs:ends s0 r.ds=s at*
 have ndF:(r.F.map Pc.n).Nodup:=(hJ.mp nd).1;have ndO:(r.O.map Pc.n).Nodup:=(hJ.mp nd).2.1;have dis:∀j,j∈r.F.map Pc.n->j∈r.O.map Pc.n->False:=λj a b=>(hJ.mp nd).2.2 j a j b rfl;have memF:∀p∈r.F,p.n∈s.ns:=λp hp=>(mem _).mpr (.inr (.inl (b9 hp)));have memO:∀p∈r.O,p.n∈s.ns:=λp hp=>(mem _).mpr (.inr (.inr (b9 hp)));have hM0:M0<=M:=by lia
 have accb:∀(L:List Pc),L.length<=hb.length->(∀p∈L,Bd M0 (p.m*p.x)/\Bd M0 (p.m*p.y))->∀t,Bd M (accX (L.take t))/\Bd M (accY (L.take t)):=λL hl h t=>by
  have:=CI (M0:=M0) (ps:=L.take t) λp hp=>h p (bW hp);have hl2:(L.take t).length<=hb.length:=by rw[aU];lia
  exact⟨this.1.mono (!2),this.2.mono (!2)⟩
 have G1:=CO (tn:=tn) hR z oks.lt (λp hp=>(okF p hp).ok hM0 (memF p hp)) ndF bs.up bs.bp (accb r.F l2 λp hp=>(okF p hp).bm) r.F.length (ak _);obtain⟨w1,k1,mem1,g1⟩:=G1;rw[k]at w1 k1 mem1 g1;rw[aG]at g1;have w01:WalkB d D M tn s0 (r.ds++gth r.u r.F r.F.length):=xU w (by rw[hs];exact w1);have ok1:=z4 ok0 w01.walk _ (ak _);rw[aG,yw,hs]at ok1;have okO1:∀p∈r.O,PcG d D qx qy M0 M (ends s (gth r.u r.F r.F.length)) p:=λp hp=>(okO p hp).ends _;generalize hs1:ends s (gth r.u r.F r.F.length)=s1 at*
 have memO1:∀p∈r.O,p.n∈s1.ns:=λp hp=>(mem1 _).mpr (.inl ⟨memO p hp,λi q hi hq c=>dis p.n (by rw[<-c];exact b9 (ay hq)) (b9 hp)⟩);have G2:=CO (tn:=tn) hR z ok1.lt (λp hp=>(okO1 p hp).ok hM0 (memO1 p hp)) ndO bs.uq bs.bq (accb r.O l3 λp hp=>(okO p hp).bm) r.O.length (ak _);obtain⟨w2,k2,mem2,g2⟩:=G2;rw[k1]at w2 k2 mem2 g2;rw[aG]at g2;have e:ends s0 (r.ds++(gth r.u r.F r.F.length++gth (r.u+(2*r.F.length - 1)) r.O r.O.length))=ends s1 (gth (r.u+(2*r.F.length - 1)) r.O r.O.length):=by rw[yw,hs,yw,hs1]
 have W:=xU w (by rw[hs];exact xU w1 (by rw[hs1];exact w2));have okT:=z4 ok0 W.walk _ (ak _);rw[aG,e]at okT;refine⟨W,?_,?_⟩
 .rw[ai,ai,wB (ak _),wB (ak _)]
  lia
 rw[e];have gst:∀n,n<s1.k->(ends s1 (gth (r.u+(2*r.F.length - 1)) r.O r.O.length)).g n=s1.g n:=λn h=>uA h;generalize hs2:ends s1 (gth (r.u+(2*r.F.length - 1)) r.O r.O.length)=s2 at*
 have notin:∀(L:List Pc)(j:Nat),(∀i p,i<L.length->L[i]?=some p->p.n≠j)->j∉L.map Pc.n:=λL j h hj=>by obtain⟨p,hp,e⟩:=bV.mp hj;obtain⟨i,hi⟩:=ei hp;exact h i p (af.mp hi).1 hi e
 have char:∀j,j∈s2.ns↔(0<r.F.length/\j=r.u+2*r.F.length - 2)\/(0<r.O.length/\j=r.u+(2*r.F.length - 1)+2*r.O.length - 2):=λj=>by
  rw[mem2,mem1,mem];constructor
  .rintro (⟨⟨(h|h|h),h2⟩|h1,h3⟩|h)
   .lia
   .exact absurd h (notin r.F j h2)
   .exact absurd h (notin r.O j h3)
   .exact .inl h1
   .exact .inr h
  .rintro (h|h)
   .refine .inl ⟨.inr h,λi p hi hp c=>?_⟩;have:=(ap p.n (a7 _ (b9 (ay hp)))).1
    lia
   .exact .inr h
 have hF:∀p∈r.F,1<=p.m/\sgn d p.x p.y=1:=λp hp=>⟨(okF p hp).m1,(okF p hp).up⟩
 have hO:∀p∈r.O,1<=p.m/\sgn d p.x p.y=1:=λp hp=>⟨(okO p hp).m1,(okO p hp).up⟩
 rw[<-aF.1,<-aF.2,<-aO.1,<-aO.2,EI hR hF,EI hR hO];by_cases cF:r.F=[]
 .by_cases cO:r.O=[]
  .have:s2.ns=[]:=B3 okT.up List.Pairwise.nil λj=>by rw[char,cF,cO];simp
   exact absurd this okT.ne
  .have lO:=cB.mpr cO;have lF:r.F.length=0:=by rw[cF];rfl
   have:s2.ns=[r.u+(2*r.F.length - 1)+2*r.O.length - 2]:=B3 okT.up (ig _ _) λj=>by
    rw[char,aq]
    lia
   rw[this,iU cF,iV cO];show [s2.g _]=_;rw[g2 lO];rfl
 .have lF:=cB.mpr cF;have ga:s2.g (r.u+2*r.F.length - 2)=⟨sdO D px py,sdO D (accX r.F) (accY r.F)⟩:=(gst _ (by rw[k1];lia)).trans (g1 lF);by_cases cO:r.O=[]
  .have lO:r.O.length=0:=by rw[cO];rfl
   have:s2.ns=[r.u+2*r.F.length - 2]:=B3 okT.up (ig _ _) λj=>by
    rw[char,aq]
    lia
   rw[this,iV cF,iU cO];show [s2.g _]=_;rw[ga];rfl
  .have lO:=cB.mpr cO;have:s2.ns=[r.u+2*r.F.length - 2,r.u+(2*r.F.length - 1)+2*r.O.length - 2]:=B3 okT.up (by simp;lia) λj=>by
    rw[char,aW,aq]
    lia
   rw[this,iV cF,iV cO];show [s2.g _,s2.g _]=_;rw[ga,g2 lO];rfl
def PcAt(H:Hp)(us:List Addr)(pc:List Pc):Prop:=us.length=pc.length/\∀(i:Nat)(q:Addr)(p:Pc),us[i]?=some q->pc[i]?=some p->H q=some (.tup [.int (p.n:Int),.int p.m])
variable{us:List Addr}{pc:List Pc}
theorem PcAt.tk(h:PcAt H us pc)(s:TupK H H'):PcAt H' us pc:=⟨h.1,λi q p h1 h2=>s _ _ (h.2 i q p h1 h2)⟩
theorem PcAt.snoc{q:Addr}{p:Pc}(h:PcAt H us pc)(e:H q=some (.tup [.int (p.n:Int),.int p.m])):PcAt H (us++[q]) (pc++[p]):=⟨by rw[ai,ai,h.1];rfl,λi q' p' h1 h2=>by
 by_cases c:i<us.length
 .rw[aT c]at h1;rw[aT (by rw[<-h.1];exact c)]at h2;exact h.2 i q' p' h1 h2
 .have hl:=(af.mp h1).1;rw[ai]at hl;have:i=us.length:=by simp only[au,aV]at hl;lia
  subst this;rw[aP (ak _),dE]at h1;rw[h.1,aP (ak _),dE]at h2;have e1:q=q':=aJ h1;have e2:p=p':=aJ h2;subst e1;subst e2;exact e⟩
theorem BV{qs:List Addr}{fs:DL}(h:Runs H ps es)(g:Runs H qs fs):Runs H (ps++qs) (es++fs):=⟨by rw[ai,ai,h.1,g.1],λi p x h1 h2=>by
 by_cases c:i<ps.length
 .rw[aT c]at h1;rw[aT (by rw[<-h.1];exact c)]at h2;exact h.2 i p x h1 h2
 .rw[aP (!2)]at h1;rw[aP (by rw[<-h.1];lia),<-h.1]at h2;exact g.2 _ p x h1 h2⟩
theorem Jw(hD:1<=D):tmS m (sdO D X Y)=sdO D (X*m) (Y*m):=by
 have r:=yu (D:=D) (X:=X) (Y:=Y) hD;have z:=r.z1;have n0:(sdO D X Y).z≠0:=by lia
 obtain⟨r1,r2⟩:=wv (a:=m*(sdO D X Y).x) (b:=m*(sdO D X Y).y) (n:=(sdO D X Y).z) (D:=D) (X:=X*m) (Y:=Y*m) n0 (by have:=r.x;grind) (by have:=r.y;grind);exact wP hD ⟨l_n n0,xj n0,r1,r2⟩
theorem ur{Q:VK}{l b:Addr}{xs zs:List V}(h1:H l=some (.lst xs))(h2:H b=some (.lst zs))(hz:xs.length+zs.length<=1000)(h:∀p H2,H p=none->Same H H2->H2 p=some (.lst (xs++zs))->Q (.ref p) H2):rCat (.ref l) (.ref b) H Q :=
 ⟨l,b,xs,zs,rfl,rfl,h1,h2,yI hz,λp hp=>h p _ hp (zF hp _) zg⟩
theorem Kx(hD:1<=D)(bX:Bd M X)(bY:Bd M Y)(bD:Bd K' D):SK M K' (sdO D X Y):=⟨(yu hD).z1,(yu hD).g,Bd.fdiv bX _,Bd.fdiv bY _,Bd.fdiv bD _⟩
theorem FD(hD:1<=D):sdO D 0 0=⟨0,0,1⟩:=(wP hD ⟨by decide,by decide+kernel,by simp,by simp⟩).symm
def cn(pl:Nat)(b:Bx):Int:=if pl=0 then b.i else b.j
def hX(pl:Nat)(l:List Bx):Int:=sI (λb=>cn pl b*b.x) l
def hY(pl:Nat)(l:List Bx):Int:=sI (λb=>cn pl b*b.y) l
def bwq(s:B4)(N:Int)(pl:Nat):Sd:=if pl=0 then bw1 s N else bw2 s N
def nrx(s:B4)(N D:Int)(l:List Bx):Nat->List Bo
 |0=>[]
 |k+1=>nrx s N D l k++(if hX k l=0/\hY k l=0 then [] else [⟨bwq s N k,sdO D (hX k l) (hY k l)⟩])
theorem CZ{k:Int}(hD:1<=D)(hk:1<=k):sdO (D*k) (X*k) (Y*k)=sdO D X Y :=
 (wP (aM (!2) (!2)) (yu hD).sc).symm
theorem Ey{s:Sd}{N:Int}(z1:1<=s.z)(g:g3 s.x s.y s.z=1)(hN:1<=N)(dv:s.z∣N):s=sdO N (N / s.z*s.x) (N / s.z*s.y):=by
 obtain⟨t,ht⟩:=dv;have et:N / s.z=t:=by rw[ht];exact df _ (!2)
 rw[et];refine wP hN ⟨z1,g,?_,?_⟩
 .rw[ht];grind
 .rw[ht];grind
theorem J0{s:B4}{N:Int}(hN:1<=N)(hE:1<=E):bw1 s N=sdO (N*E) (s.a*E) (s.b*E)/\bw2 s N=sdO (N*E) (s.c*E) (s.e*E):=⟨(CZ hN hE).symm,(CZ hN hE).symm⟩
theorem JO{s:B4}{N:Int}(hN:1<=N)(hE:1<=E)(l:List Bx):nrx s N (N*E) l 2=hp1 (N*E) (s.a*E) (s.b*E) (sI (λb=>b.i*b.x) l) (sI (λb=>b.i*b.y) l)++hp1 (N*E) (s.c*E) (s.e*E) (sI (λb=>b.j*b.x) l) (sI (λb=>b.j*b.y) l):=by obtain⟨b1,b2⟩:=J0 (s:=s) hN hE;show(([]:List Bo)++(if hX 0 l=0/\hY 0 l=0 then [] else [(⟨bwq s N 0,sdO (N*E) (hX 0 l) (hY 0 l)⟩:Bo)]))++(if hX 1 l=0/\hY 1 l=0 then [] else [(⟨bwq s N 1,sdO (N*E) (hX 1 l) (hY 1 l)⟩:Bo)])=_;rw[List.nil_append,show bwq s N 0=bw1 s N from rfl,show bwq s N 1=bw2 s N from rfl,b1,b2];rfl
variable{z:Int}
theorem DJ{k:Nat}(z1:1<=z)(hE:1<=E)(bE:Bd k E)(dv:z∣E):1<=E / z/\Bd k (E / z):=by
 obtain⟨t,ht⟩:=dv;have et:E / z=t:=by rw[ht];exact df _ (!2)
 have t1:1<=t:=by
  refine gq.mp λq=>?_;have:=cb (show(0:Int)<=z by lia) (show t<=0 by lia)
  lia
 rw[et];exact⟨t1,bE.of_le (by rw[ht,cC];exact fD _ (!2))⟩
theorem Dz{s:B4}{N:Int}{l m:List Bx}(h0:hX 0 l=hX 0 m/\hY 0 l=hY 0 m)(h1:hX 1 l=hX 1 m/\hY 1 l=hY 1 m):nrx s N D l 2=nrx s N D m 2:=by show(([]:List Bo)++(if hX 0 l=0/\hY 0 l=0 then [] else [(⟨bwq s N 0,sdO D (hX 0 l) (hY 0 l)⟩:Bo)]))++(if hX 1 l=0/\hY 1 l=0 then [] else [(⟨bwq s N 1,sdO D (hX 1 l) (hY 1 l)⟩:Bo)])=_;rw[h0.1,h0.2,h1.1,h1.2];rfl
def bxD(s:B4)(N D:Int)(b:Bo):Bx:=⟨mny s N 0 b.w,mny s N 1 b.w,D / b.h.z*b.h.x,D / b.h.z*b.h.y⟩
structure BK(d:Int)(s:B4)(N E:Int)(M0 M:Nat)(b:Bo):Prop where
 w:∃X Y,b.w=sdO N X Y/\Bd 1500 X/\Bd 1500 Y/\(bxD s N (N*E) b).i=s.i X Y/\(bxD s N (N*E) b).j=s.j X Y
 bo:b=(bxD s N (N*E) b).bo (N*E) (s.a*E) (s.b*E) (s.c*E) (s.e*E)
 ok:BxOk d (s.a*E) (s.b*E) (s.c*E) (s.e*E) M0 M (bxD s N (N*E) b)
theorem Kb{N i j:Int}{k:Nat}{s:B4}(g:GB d k s)(e:w=sdO N X Y)(hN:1<=N)(hE:1<=E)(hi:i=s.i X Y)(hj:j=s.j X Y):w=sdO (N*E) (s.a*E*i+s.c*E*j) (s.b*E*i+s.e*E*j):=by
 obtain⟨c1,c2⟩:=AF g X Y;rw[hi,hj];refine e.trans ((CZ hN hE).symm.trans ?_);congr 1
 .conv=>lhs;rw[<-c1]
  grind
 .conv=>lhs;rw[<-c2]
  grind
variable{kE kh kw:Nat}
theorem BK.gen{N:Int}{k:Nat}{s:B4}{b:Bo}(hR:Rt d)(g:GB d k s)(hN:1<=N)(hE:1<=E)(w1:1<=b.w.z)(wg:g3 b.w.x b.w.y b.w.z=1)(wu:sgn d b.w.x b.w.y=1)(wd:b.w.z∣N)(h1:1<=b.h.z)(hg:g3 b.h.x b.h.y b.h.z=1)(hu:sgn d b.h.x b.h.y=1)(hd:b.h.z∣N*E)(nn:∀pl,0<=mny s N pl b.w)(bE:Bd kE E)(bwx:Bd kw (N / b.w.z*b.w.x))(bwy:Bd kw (N / b.w.z*b.w.y))(bhx:Bd kh (N*E / b.h.z*b.h.x))(bhy:Bd kh (N*E / b.h.z*b.h.y))(l1:kw<=1500)(l2:kw+k+2<=2500)(l3:kh<=M)(l4:k+kE+(kw+k+2)+1<=M)(l5:kw+k+2+kh<=M0):BK d s N E M0 M b:=by
 have hD:1<=N*E:=aM (!2) (!2);have e0:=Ey w1 wg hN wd;have eh:=Ey h1 hg hD hd;have m0:(bxD s N (N*E) b).i=s.i (N / b.w.z*b.w.x) (N / b.w.z*b.w.y):=by show mny s N 0 b.w=_;unfold mny;rw[iU rfl]
 have m1:(bxD s N (N*E) b).j=s.j (N / b.w.z*b.w.x) (N / b.w.z*b.w.y):=by show mny s N 1 b.w=_;unfold mny;rw[iV ⋯]
 obtain⟨c1,c2⟩:=JN g bwx bwy;have bi:Bd (kw+k+2) (bxD s N (N*E) b).i:=by rw[m0];exact c1.mono (!2)
 have bj:Bd (kw+k+2) (bxD s N (N*E) b).j:=by rw[m1];exact c2.mono (!2)
 have ew:=Kb (E:=E) g e0 hN hE m0 m1;have p1:Bd (k+kE+(kw+k+2)) (s.a*E*(bxD s N (N*E) b).i):=(g.ba.mul bE).mul bi;have p2:Bd (k+kE+(kw+k+2)) (s.b*E*(bxD s N (N*E) b).i):=(g.bb.mul bE).mul bi;have p3:Bd (k+kE+(kw+k+2)) (s.c*E*(bxD s N (N*E) b).j):=(g.bc.mul bE).mul bj;have p4:Bd (k+kE+(kw+k+2)) (s.e*E*(bxD s N (N*E) b).j):=(g.be.mul bE).mul bj;refine⟨⟨_,_,e0,bwx.mono l1,bwy.mono l1,m0,m1⟩,?_,nn 0,nn 1,?_,bi.mono l2,bj.mono l2,?_,⟨bhx.mono l3,bhy.mono l3⟩,⟨p1.mono (!2),p2.mono (!2)⟩,⟨p3.mono (!2),p4.mono (!2)⟩,⟨(Bd.add p1 p3).mono (!2),(Bd.add p2 p4).mono (!2)⟩,⟨(bi.mul bhx).mono l5,(bi.mul bhy).mono l5⟩,⟨(bj.mul bhx).mono l5,(bj.mul bhy).mono l5⟩⟩
 .show b=⟨_,_⟩
  rw[<-ew];show b=⟨b.w,sdO (N*E) (N*E / b.h.z*b.h.x) (N*E / b.h.z*b.h.y)⟩
  rw[<-eh]
 .refine Classical.or_iff_not_imp_left.mpr λc1 c2=>?_;have c1:(bxD s N (N*E) b).i=0:=Classical.not_not.mp c1;rw[c1,c2]at ew;simp only[cK,cM]at ew;rw[FD hD]at ew;rw[ew]at wu;exact absurd wu (by unfold sgn;simp)
 .show sgn d (N*E / b.h.z*b.h.x) (N*E / b.h.z*b.h.y)=1;obtain⟨t,ht⟩:=hd;have et:N*E / b.h.z=t:=by rw[ht];exact df _ (!2)
  have t1:1<=t:=by
   refine gq.mp λq=>?_;have:=cb (show(0:Int)<=b.h.z by lia) (show t<=0 by lia)
   lia
  rw[et];exact yO hR t1 hu
theorem HP{k:Nat}{s:B4}(hR:Rt d)(g:GB d k s)(hE:1<=E)(bE:Bd kE E)(l:k+kE<=M):Bas d M (s.a*E) (s.b*E) (s.c*E) (s.e*E):=
 ⟨by rw[av s.a,av s.b];exact yO hR hE g.p1,by rw[av s.c,av s.e];exact yO hR hE g.q1,⟨(g.ba.mul bE).mono l,(g.bb.mul bE).mono l⟩,⟨(g.bc.mul bE).mono l,(g.be.mul bE).mono l⟩⟩
def nrmD(s:B4)(N E:Int)(L:List Bo):List Bo:=nrx s N (N*E) (L.map (bxD s N (N*E))) 2
theorem IS{N:Int}{s:B4}{L:List Bo}(h:∀b∈L,BK d s N E M0 M b):∀x∈L.map (bxD s N (N*E)),BxOk d (s.a*E) (s.b*E) (s.c*E) (s.e*E) M0 M x:=λx hx=>by obtain⟨b,hb,rfl⟩:=bV.mp hx;exact(h b hb).ok
variable{C:List Cell}
theorem JU{k:Nat}(h:C[k]?=some c):(fL C k)=c:=by unfold fL;rw[h];rfl
theorem B9{N:Int}{s:B4}(tn:Bool)(hR:Rt d)(z:Sz (N*E) K' M)(hN:1<=N)(hE:1<=E)(bas:Bas d M (s.a*E) (s.b*E) (s.c*E) (s.e*E))(hC:∀c∈C,BK d s N E M0 M c.b)(hM:M0+C.length<=M)(h1:1<=C.length): WalkB d (N*E) M tn (As.st C) (npl (N*E) (s.a*E) (s.b*E) ((C.map Cell.b).map (bxD s N (N*E))))/\(npl (N*E) (s.a*E) (s.b*E) ((C.map Cell.b).map (bxD s N (N*E)))).length<=5*C.length /\
   (ends (As.st C) (npl (N*E) (s.a*E) (s.b*E) ((C.map Cell.b).map (bxD s N (N*E))))).ns.map (ends (As.st C) (npl (N*E) (s.a*E) (s.b*E) ((C.map Cell.b).map (bxD s N (N*E))))).g=nrmD s N E (C.map Cell.b)/\nrmD s N E (C.map Cell.b)≠[]:=by
 have hB:∀b∈C.map Cell.b,BK d s N E M0 M b:=λb hb=>by obtain⟨c,hc,rfl⟩:=bV.mp hb;exact hC c hc
 have hl:((C.map Cell.b).map (bxD s N (N*E))).length=C.length:=by rw[aa,aa]
 have st:=IW (tn:=tn) (s0:=As.st C) hR z bas (hb:=(C.map Cell.b).map (bxD s N (N*E))) hl.symm (by rw[hl];rfl) (λk x hx=>by rw[ao,ao]at hx;obtain⟨b,hb,rfl⟩:=aB.mp hx;obtain⟨c,hc,rfl⟩:=aB.mp hb;show(fL C k).b=_;rw[JU hc];exact(hC c (ay hc)).bo) (IS hB) (by rw[hl];exact hM) (by rw[hl];exact h1)
 rw[hl]at st;obtain⟨w,len,en⟩:=st;rw[<-JO hN hE]at en;refine⟨w,len,en,λc=>?_⟩;have ok0:As.Ok C.length (As.st C) 0:=⟨cN,λn hn=>ca.mp hn,λh=>by have h:List.range C.length=[]:=h;rw[fI]at h;lia,by show(List.range C.length).length<=_;rw[cq];lia,by show C.length<=_;lia⟩
 have okT:=z4 ok0 w.walk _ (ak _);rw[aG]at okT;have:(ends (As.st C) (npl (N*E) (s.a*E) (s.b*E) ((C.map Cell.b).map (bxD s N (N*E))))).ns.map (ends (As.st C) (npl (N*E) (s.a*E) (s.b*E) ((C.map Cell.b).map (bxD s N (N*E))))).g=[]:=en.trans c;exact okT.ne (List.map_eq_nil_iff.mp this)
theorem vh{g:Nat->Bo}{n:Nat}:∀{ns:List Nat},ns.Pairwise (· < ·)->n∈ns->tbs (ns.map g)=(tbs ((ns.filter λk:Nat=>decide ((k:Int)≠(n:Int))).map g)).add (g n).tb
 |k::ns,h,hn=>by
  have h2:=List.pairwise_cons.mp h;by_cases e:k=n
  .subst e;have f:(k::ns).filter (λj:Nat=>decide ((j:Int)≠(k:Int)))=ns:=by
    rw[c9,iV (!1)];refine gC.mpr λj hj=>?_;have:=h2.1 j hj;simp
    lia
   rw[f];show(g k).tb.add (tbs (ns.map g))=_;exact Tb.add_comm ..
  .have hn':n∈ns:=by simpa [cH e] using hn
   rw[c9,iU (by simp;lia)];show(g k).tb.add (tbs (ns.map g))=((g k).tb.add (tbs _)).add (g n).tb;rw[vh h2.2 hn',Tb.add_assoc]
theorem HH{k:Nat}{N:List Bo}:(List.range' k N.length).map (gN g k N)=N:=by refine il (!1) λi h1 h2=>?_;rw[eM,gD];unfold gN;rw[iV (!2),show k+1*i - k=i by lia,ag h2];rfl
theorem Jo{s:As}(h:Stp d tn s x)(ht:x.1.isT=false)(up:s.ns.Pairwise (· < ·))(lt:∀n∈s.ns,n<s.k)(ob:∀n∈s.ns,BoD d D M (s.g n)):tbs ((s.next x).ns.map (s.next x).g)=tbs (s.ns.map s.g):=by
 obtain⟨e,n,m⟩:=x;have h0:=h.nms;have on:=ob n h0.hn;have om:=ob m h0.hm;have key:tbs ((s.next (e,n,m)).ns.map (s.next (e,n,m)).g)=(tbs ((zT s.ns e.names).map s.g)).add (tbs (e.new (s.g n) (s.g m))):=by show tbs ((zT s.ns e.names++List.range' s.k (e.new (s.g n) (s.g m)).length).map (gN s.g s.k (e.new (s.g n) (s.g m))))=_;rw[aj,yU,HH,List.map_congr_left (g:=s.g) λj hj=>vW (lt j (mem_ndrop.mp hj).1)]
 rw[key];clear key;have one:∀l:List Bo,tbs l=(s.g n).tb->(tbs ((zT s.ns [(n:Int)]).map s.g)).add (tbs l)=tbs (s.ns.map s.g):=λl hl=>by rw[hl];exact(vh (g:=s.g) up h0.hn).symm
 have two:∀b1 b2:Bo,tbs [b1,b2]=b1.tb.add b2.tb:=λb1 b2=>by show b1.tb.add (b2.tb.add Tb.zero)=_;rw[Tb.add_comm b2.tb,Tb.zero_add]
 have hnm:=h0.nm;have hfit:=h.fit;have ht:e.isT=false:=ht;have hnm:e.names=if e.two then [(n:Int),(m:Int)] else [(n:Int)]:=hnm
 have hfit:e.Fit d (s.g n) (s.g m):=hfit;cases e with
 |cut al a t =>
  rw[hnm];refine one _ ?_;cases al with
  |false =>
   obtain⟨_,ss,_,_⟩:=hfit;exact(two _ _).trans (Ll on.1.ne ss.ne)
  |true =>
   obtain⟨_,ss,_,_⟩:=hfit;exact(two _ _).trans (Lo on.2.ne ss.ne)
 |shift al a k =>
  rw[hnm];have hk:k≠0:=by have:=hfit.1;lia
  refine one _ ?_;cases al with
  |false=>exact(wA _).trans (KY on.1.ne on.2.ne hk)
  |true=>exact(wA _).trans (KU on.1.ne on.2.ne hk)
 |turn a=>exact nomatch ht
 |glue al a b =>
  rw[hnm];have nm:n≠m:=h0.ne rfl;have up2:(s.ns.filter λk:Nat=>decide ((k:Int)≠(n:Int))).Pairwise (· < ·):=up.filter _;have hm2:m∈s.ns.filter λk:Nat=>decide ((k:Int)≠(n:Int)):=eU.mpr ⟨h0.hm,by simp;lia⟩;have e1:=vh (g:=s.g) up h0.hn;have e2:=vh (g:=s.g) up2 hm2;show(tbs ((((s.ns.filter λk:Nat=>decide ((k:Int)≠(n:Int))).filter λk:Nat=>decide ((k:Int)≠(m:Int)))).map s.g)).add _=_;rw[e1,e2,Tb.add_assoc];congr 1;rw[Tb.add_comm];cases al with
  |false =>
   obtain⟨eh,_,_⟩:=hfit;refine(wA _).trans ((Lp on.1.ne om.1.ne).trans ?_);show(Bo.tb _).add (⟨(s.g m).w,(s.g n).h⟩:Bo).tb=(s.g n).tb.add (s.g m).tb;rw[show(⟨(s.g m).w,(s.g n).h⟩:Bo)=s.g m from by rw[eh]]
  |true =>
   obtain⟨eh,_,_⟩:=hfit;refine(wA _).trans ((KH on.2.ne om.2.ne).trans ?_);show(Bo.tb _).add (⟨(s.g n).w,(s.g m).h⟩:Bo).tb=(s.g n).tb.add (s.g m).tb;rw[show(⟨(s.g n).w,(s.g m).h⟩:Bo)=s.g m from by rw[eh]]
theorem BS{d D:Int}{M c:Nat}{s:As}{es:DL}(h:WalkB d D M false s es)(ok:As.Ok c s 0)(ob:∀n∈s.ns,BoD d D M (s.g n)):∀t,t<=es.length->(∀n∈(ends s (es.take t)).ns,BoD d D M ((ends s (es.take t)).g n))/\tbs ((ends s (es.take t)).ns.map (ends s (es.take t)).g)=tbs (s.ns.map s.g)
 |0,_=>⟨ob,rfl⟩
 |t+1,ht=>by
  obtain⟨ih1,ih2⟩:=BS h ok ob t (bU ht);have ht':t<es.length:=ht;have hx:es[t]?=some es[t]:=ag ht';have st:=h t _ hx;have okt:=z4 ok h.walk t (bU ht);rw[yn hx];generalize ends s (es.take t)=s1 at*
  generalize es[t]=x at*
  refine⟨λn hn=>?_,?_⟩
  .rcases mem_next.mp hn with⟨h1,_⟩|⟨h1,h2⟩
   .have:(s1.next x).g n=s1.g n:=vW (okt.lt n h1);rw[this];exact ih1 n h1
   .obtain⟨j,rfl⟩:∃j,n=s1.k+j:=⟨n - s1.k,by lia⟩
    have hj:j<(x.1.new (s1.g x.2.1) (s1.g x.2.2)).length:=by rw[Dd.puts_new];lia
    have e:(s1.next x).g (s1.k+j)=(x.1.new (s1.g x.2.1) (s1.g x.2.2))[j]:=yv (ag hj);rw[e];exact st.nw _ (db hj)
  .refine(Jo (D:=D) (M:=M) st.st ?_ okt.up okt.lt ih1).trans ih2;cases e:x.1.isT with
   |false=>rfl
   |true=>exact nomatch st.st.tn e
theorem KJ(h1:1<=C.length):As.Ok C.length (As.st C) 0:=⟨cN,λn hn=>ca.mp hn,λh=>by have h:List.range C.length=[]:=h;rw[fI]at h;lia,by show(List.range C.length).length<=_;rw[cq];lia,by show C.length<=_;lia⟩
theorem BK.bod{N:Int}{s:B4}{b:Bo}(hR:Rt d)(hD:1<=N*E)(h:BK d s N E M0 M b)(wu:sgn d b.w.x b.w.y=1):BoD d (N*E) M b:=by have ew:b.w=sdO (N*E) (s.a*E*(bxD s N (N*E) b).i+s.c*E*(bxD s N (N*E) b).j) (s.b*E*(bxD s N (N*E) b).i+s.e*E*(bxD s N (N*E) b).j):=congrArg Bo.w h.bo;have eh:b.h=sdO (N*E) (bxD s N (N*E) b).x (bxD s N (N*E) b).y:=congrArg Bo.h h.bo;have r:=yu (D:=N*E) (X:=s.a*E*(bxD s N (N*E) b).i+s.c*E*(bxD s N (N*E) b).j) (Y:=s.b*E*(bxD s N (N*E) b).i+s.e*E*(bxD s N (N*E) b).j) hD;rw[<-ew]at r;refine⟨⟨r.z1,r.g,wu,_,_,h.ok.bw.1,h.ok.bw.2,r.x,r.y⟩,?_⟩;rw[eh];exact yS hR hD h.ok.up h.ok.bh.1 h.ok.bh.2
theorem Cb(hD:1<=D):(sdO D X Y).p=Rat.divInt X D/\(sdO D X Y).q=Rat.divInt Y D:=by have r:=yu (D:=D) (X:=X) (Y:=Y) hD;have z:=r.z1;exact⟨yg (!2) (!2) r.x,yg (!2) (!2) r.y⟩
def TbX(s:B4)(E D:Int)(l:List Bx):Tb:=⟨Rat.divInt (s.a*E*hX 0 l+s.c*E*hX 1 l) (D*D),Rat.divInt (s.a*E*hY 0 l+s.c*E*hY 1 l) (D*D),Rat.divInt (s.b*E*hX 0 l+s.e*E*hX 1 l) (D*D),Rat.divInt (s.b*E*hY 0 l+s.e*E*hY 1 l) (D*D)⟩
theorem Dc{d N E:Int}{s:B4}{M0 M:Nat}(hD:1<=N*E):∀{L:List Bo},(∀b∈L,BK d s N E M0 M b)->tbs L=TbX s E (N*E) (L.map (bxD s N (N*E)))
 |[],_=>by unfold TbX;show Tb.zero=_;simp only[hX,hY,sI,dc,cK,cM,iE];rfl
 |b::L,h=>by have hb:=h b aH;have ih:=Dc hD (L:=L) λc hc=>h c (aC _ hc);have n0:N*E*(N*E)≠0:=aI (!2) (!2);have ew:b.w=sdO (N*E) (s.a*E*(bxD s N (N*E) b).i+s.c*E*(bxD s N (N*E) b).j) (s.b*E*(bxD s N (N*E) b).i+s.e*E*(bxD s N (N*E) b).j):=congrArg Bo.w hb.bo;have eh:b.h=sdO (N*E) (bxD s N (N*E) b).x (bxD s N (N*E) b).y:=congrArg Bo.h hb.bo;have e1:b.w.p=_:=(congrArg Sd.p ew).trans (Cb hD).1;have e2:b.w.q=_:=(congrArg Sd.q ew).trans (Cb hD).2;have e3:b.h.p=_:=(congrArg Sd.p eh).trans (Cb hD).1;have e4:b.h.q=_:=(congrArg Sd.q eh).trans (Cb hD).2;show b.tb.add (tbs L)=_;rw[ih];unfold TbX;show(⟨b.w.p*b.h.p+_,b.w.p*b.h.q+_,b.w.q*b.h.p+_,b.w.q*b.h.q+_⟩:Tb)=_;rw[e1,e2,e3,e4,<-xt,<-xt,<-xt,<-xt,xk n0,xk n0,xk n0,xk n0];have cx:∀pl,hX pl ((b::L).map (bxD s N (N*E)))=cn pl (bxD s N (N*E) b)*(bxD s N (N*E) b).x+hX pl (L.map (bxD s N (N*E))):=λpl=>rfl;have cy:∀pl,hY pl ((b::L).map (bxD s N (N*E)))=cn pl (bxD s N (N*E) b)*(bxD s N (N*E) b).y+hY pl (L.map (bxD s N (N*E))):=λpl=>rfl;rw[cx,cx,cy,cy,show cn 0 (bxD s N (N*E) b)=(bxD s N (N*E) b).i from rfl,show cn 1 (bxD s N (N*E) b)=(bxD s N (N*E) b).j from rfl];generalize (bxD s N (N*E) b).i=i;generalize (bxD s N (N*E) b).j=j;generalize (bxD s N (N*E) b).x=x;generalize (bxD s N (N*E) b).y=y;generalize hX 0 (L.map (bxD s N (N*E)))=x0;generalize hX 1 (L.map (bxD s N (N*E)))=x1;generalize hY 0 (L.map (bxD s N (N*E)))=y0;generalize hY 1 (L.map (bxD s N (N*E)))=y1;clear cx cy e1 e2 e3 e4 ew eh hb h ih;refine Tb.ext ?_ ?_ ?_ ?_<;>(dsimp only;congr 1;grind)
variable{x' y':Int}
theorem lin2{k:Nat}{s:B4}{x:Int}(g:GB d k s)(hE:1<=E)(h1:s.a*E*x+s.c*E*y=s.a*E*x'+s.c*E*y')(h2:s.b*E*x+s.e*E*y=s.b*E*x'+s.e*E*y'):x=x'/\y=y':=by
 have n:E≠0:=by lia
 have a1:s.a*(x - x')+s.c*(y - y')=0:=by
  have:E*(s.a*(x - x')+s.c*(y - y'))=0:=by grind
  rcases gE.mp this with z|z
  .exact absurd z n
  .exact z
 have a2:s.b*(x - x')+s.e*(y - y')=0:=by
  have:E*(s.b*(x - x')+s.e*(y - y'))=0:=by grind
  rcases gE.mp this with z|z
  .exact absurd z n
  .exact z
 have dt:s.a*s.e - s.b*s.c≠0:=by rcases g.det with z|z<;>lia
 have b1:(s.a*s.e - s.b*s.c)*(x - x')=0:=by grind
 have b2:(s.a*s.e - s.b*s.c)*(y - y')=0:=by grind
 constructor
 .rcases gE.mp b1 with z|z
  .exact absurd z dt
  .lia
 .rcases gE.mp b2 with z|z
  .exact absurd z dt
  .lia
theorem Cy{N:Int}{s:B4}{k M0':Nat}{L L':List Bo}(g:GB d k s)(hN:1<=N)(hE:1<=E)(h:∀b∈L,BK d s N E M0 M b)(h':∀b∈L',BK d s N E M0' M' b)(e:tbs L=tbs L'):nrmD s N E L=nrmD s N E L':=by have hD:1<=N*E:=aM (!2) (!2);have n0:N*E*(N*E)≠0:=aI (!2) (!2);rw[Dc hD h,Dc hD h']at e;have cut:∀{a b:Int},Rat.divInt a (N*E*(N*E))=Rat.divInt b (N*E*(N*E))->a=b:=λz=>aK n0 ((bP n0 n0).mp z);obtain⟨x0,x1⟩:=lin2 g hE (cut (congrArg Tb.a e)) (cut (congrArg Tb.c e));obtain⟨y0,y1⟩:=lin2 g hE (cut (congrArg Tb.b e)) (cut (congrArg Tb.e e));exact Dz ⟨x0,y0⟩ ⟨x1,y1⟩
theorem uc{d D:Int}{M c:Nat}{tn:Bool}{s:As}{es:DL}(h:WalkB d D M tn s es)(ev:Ever d D M s):∀t,t<=es.length->Ever d D M (ends s (es.take t))
 |0,_=>ev
 |t+1,ht=>by
  have ih:=uc (c:=c) h ev t (bU ht);have ht':t<es.length:=ht;have hx:es[t]?=some es[t]:=ag ht';have st:=h t _ hx;rw[yn hx];intro n hn;rw[xf]at hn;generalize ends s (es.take t)=s1 at*
  generalize es[t]=x at*
  by_cases c:n<s1.k
  .have:(s1.next x).g n=s1.g n:=vW c;rw[this];exact ih n c
  .obtain⟨j,rfl⟩:∃j,n=s1.k+j:=⟨n - s1.k,by lia⟩
   have hj:j<(x.1.new (s1.g x.2.1) (s1.g x.2.2)).length:=by rw[Dd.puts_new];lia
   have e:(s1.next x).g (s1.k+j)=(x.1.new (s1.g x.2.1) (s1.g x.2.2))[j]:=yv (ag hj);rw[e];exact st.nw _ (db hj)
def Dd.rn(r:Nat->Nat):Dd->Dd
 | .cut al n s=>.cut al (r n.toNat:Nat) s
 | .glue al n m=>.glue al (r n.toNat:Nat) (r m.toNat:Nat)
 | .shift al n k=>.shift al (r n.toNat:Nat) k
 | .turn n=>.turn (r n.toNat:Nat)
def rnx(r:Nat->Nat)(x:Dd×Nat×Nat):Dd×Nat×Nat:=(x.1.rn r,r x.2.1,r x.2.2)
structure Led(r:Nat->Nat)(s t:As):Prop where
 mono:∀i j,i<j->r i<r j
 ns:t.ns=s.ns.map r
 g:∀n,n<s.k->t.g (r n)=s.g n
 k:∀i,r (s.k+i)=t.k+i
theorem Led.inj{s t:As}(h:Led r s t){i j:Nat}(e:r i=r j):i=j:=by
 rcases Nat.lt_trichotomy i j with c|c|c
 .have:=h.mono i j c;lia
 .exact c
 .have:=h.mono j i c;lia
theorem CH(r:Nat->Nat)(e:Dd):(e.rn r).two=e.two:=by cases e<;>rfl
theorem IJ(r:Nat->Nat)(e:Dd):(e.rn r).isT=e.isT:=by cases e<;>rfl
theorem J1(r:Nat->Nat)(e:Dd)(b c:Bo):(e.rn r).new b c=e.new b c:=by
 cases e with
 |cut al n s=>cases al<;>rfl
 |glue al n m=>cases al<;>rfl
 |shift al n k=>cases al<;>rfl
 |turn n=>rfl
theorem Ba{s:As}{n m:Nat}(h:Nms s e n m):(e.rn r).names=if e.two then [((r n:Nat):Int),((r m:Nat):Int)] else [((r n:Nat):Int)]:=by
 have hn:=h.nm;cases e with
 |glue al a b =>
  simp[Dd.names,Dd.two]at hn;obtain⟨rfl,rfl⟩:=hn;rfl
 |cut al a t =>
  simp[Dd.names,Dd.two,Dd.n]at hn;subst hn;rfl
 |shift al a t =>
  simp[Dd.names,Dd.two,Dd.n]at hn;subst hn;rfl
 |turn a =>
  simp[Dd.names,Dd.two,Dd.n]at hn;subst hn;rfl
theorem uU{s t:As}(h:Led r s t)(ns:List Nat)(n:Nat):(ns.map r).filter (λk:Nat=>decide ((k:Int)≠((r n:Nat):Int)))=(ns.filter λk:Nat=>decide ((k:Int)≠(n:Int))).map r:=by
 rw[List.filter_map];congr 1;refine List.filter_congr λk _=>?_;show decide (((r k:Nat):Int)≠((r n:Nat):Int))=decide ((k:Int)≠(n:Int));by_cases c:k=n
 .subst c;simp
 .have:r k≠r n:=λz=>c (h.inj z);rw[jg (!2),jg (!2)]
theorem Hm{s t:As}{n m:Nat}(h:Led r s t)(hn:Nms s e n m):zT t.ns (e.rn r).names=(zT s.ns e.names).map r:=by
 rw[Ba hn,hn.nm,h.ns];cases e.two with
 |true =>
  show((s.ns.map r).filter _).filter _=((s.ns.filter _).filter _).map r;rw[uU h,uU h]
 |false =>
  show(s.ns.map r).filter _=(s.ns.filter _).map r;rw[uU h]
theorem Led.step{s t:As}(h:Led r s t)(lt:∀n∈s.ns,n<s.k)(st:Stp d tn s x):Stp d tn t (rnx r x)/\Led r (s.next x) (t.next (rnx r x)):=by
 obtain⟨e,n,m⟩:=x;have n0:=st.nms;have gn:t.g (r n)=s.g n:=h.g n (lt n n0.hn);have gm:t.g (r m)=s.g m:=h.g m (lt m n0.hm);have nw:(rnx r (e,n,m)).1.new (t.g (r n)) (t.g (r m))=e.new (s.g n) (s.g m):=by show(e.rn r).new _ _=_;rw[J1,gn,gm]
 refine⟨⟨⟨?_,?_,?_,?_,?_⟩,?_,?_,?_⟩,h.mono,?_,?_,?_⟩
 .show(e.rn r).names=if (e.rn r).two then _ else _
  rw[CH];exact Ba n0
 .show r n∈t.ns;rw[h.ns];exact b9 n0.hn
 .show r m∈t.ns;rw[h.ns];exact b9 n0.hm
 .intro z c;exact n0.ne (by rw[<-z];exact(CH r e).symm) (h.inj c)
 .intro z;show r m=r n;exact congrArg r (n0.eq (by rw[<-z];exact(CH r e).symm))
 .have:=st.ok;show(e.rn r).Ok;cases e<;>exact this
 .have:=st.fit;show(e.rn r).Fit d (t.g (r n)) (t.g (r m));rw[gn,gm];cases e with
  |cut al a s=>cases al<;>exact this
  |glue al a b=>cases al<;>exact this
  |shift al a k=>cases al<;>exact this
  |turn a=>exact this
 .intro z;exact st.tn (by rw[<-z];exact(IJ r e).symm)
 .show zT t.ns (e.rn r).names++List.range' t.k ((e.rn r).new (t.g (r n)) (t.g (r m))).length=(zT s.ns e.names++List.range' s.k (e.new (s.g n) (s.g m)).length).map r;rw[Hm h n0,aj,show(e.rn r).new (t.g (r n)) (t.g (r m))=e.new (s.g n) (s.g m) from nw];congr 1;refine il (!1) λi h1 h2=>?_;rw[gD,eM,gD,Nat.one_mul,h.k]
 .intro j hj;show gN t.g t.k ((e.rn r).new (t.g (r n)) (t.g (r m))) (r j)=gN s.g s.k (e.new (s.g n) (s.g m)) j;rw[show(e.rn r).new (t.g (r n)) (t.g (r m))=e.new (s.g n) (s.g m) from nw];have hj:j<s.k+(e.new (s.g n) (s.g m)).length:=hj;have k0:=h.k 0;simp only[iF]at k0;by_cases c:j<s.k
  .have:=h.mono j s.k c;rw[vW c,vW (!2),h.g j c]
  .obtain⟨i,rfl⟩:∃i,j=s.k+i:=⟨j - s.k,by lia⟩
   have hi:i<(e.new (s.g n) (s.g m)).length:=by lia
   rw[h.k,yv (ag hi),yv (ag hi)]
 .intro i;show r (s.k+(e.new (s.g n) (s.g m)).length+i)=t.k+((e.rn r).new (t.g (r n)) (t.g (r m))).length+i;rw[show(e.rn r).new (t.g (r n)) (t.g (r m))=e.new (s.g n) (s.g m) from nw,gj,h.k,gj]
theorem Fy{s t:As}{fs:DL}{B:Nat}(h:Led r s t)(ok:As.Ok B s 0)(w:Walk d tn s fs):Walk d tn t (fs.map (rnx r))/\∀i,i<=fs.length->Led r (ends s (fs.take i)) (ends t ((fs.map (rnx r)).take i)):=by
 have key:∀i,i<=fs.length->Led r (ends s (fs.take i)) (ends t ((fs.map (rnx r)).take i)):=λi=>by
  induction i with
  |zero=>exact λ_=>h
  |succ i ih =>
   intro hi;have hi':i<fs.length:=hi;have hx:fs[i]?=some fs[i]:=ag hi';have hx':(fs.map (rnx r))[i]?=some (rnx r fs[i]):=by rw[ao,hx];rfl
   rw[yn hx,yn hx'];exact((ih (bU hi)).step (z4 ok w i (bU hi)).lt (w i _ hx)).2
 refine⟨λi y hy=>?_,key⟩;rw[ao]at hy;obtain⟨x,hx,rfl⟩:=aB.mp hy;have hi:=(af.mp hx).1;exact((key i (bU hi)).step (z4 ok w i (bU hi)).lt (w i x hx)).1
theorem FS{s:As}{fs:DL}(h:Walk d tn s es)(g:Walk d tn (ends s es) fs):Walk d tn s (es++fs):=λi x hx=>by
 by_cases c:i<es.length
 .rw[aT c]at hx;rw[cU (!2)];exact h i x hx
 .rw[aP (!2)]at hx;have e:(es++fs).take i=es++fs.take (i - es.length):=by rw[ik,bT (!2)]
  rw[e,yw];exact g _ x hx
def nmr(s:As)(i:Nat):Nat:=if i<s.ns.length then s.ns[i]?.getD 0 else s.k+(i - s.ns.length)
theorem led0{s:As}{bs:List Bo}(up:s.ns.Pairwise (· < ·))(lt:∀n∈s.ns,n<s.k)(hb:s.ns.map s.g=bs):Led (nmr s) (As.sb bs) s:=by
 have hl:bs.length=s.ns.length:=by rw[<-hb,aa]
 have at':∀i (h:i<s.ns.length),nmr s i=s.ns[i]:=λi h=>by unfold nmr;rw[iU h,ag h];rfl
 refine⟨λi j hij=>?_,?_,λn hn=>?_,λi=>?_⟩
 .by_cases cj:j<s.ns.length
  .rw[at' i (!2),at' j cj];exact gU.mp up i j (!2) cj hij
  .by_cases ci:i<s.ns.length
   .rw[at' i ci];have:=lt _ (db ci);unfold nmr;rw[iV cj]
    lia
   .unfold nmr;rw[iV ci,iV cj]
    lia
 .show s.ns=(List.range bs.length).map (nmr s);rw[hl];refine il (!1) λi h1 h2=>?_;rw[eM,List.getElem_range,at' i h1]
 .have hn:n<bs.length:=hn;show s.g (nmr s n)=bs[n]?.getD _;rw[at' n (!2),ag hn];subst hb;show _=(s.ns.map s.g)[n]
  rw[eM]
 .show nmr s (bs.length+i)=s.k+i;unfold nmr;rw[iV (!2)]
  lia
structure Plan(d:Int)(tn:Bool)(D:Int)(M:Nat)(bs bs':List Bo)(es:DL)(qs:List Nat):Prop where
 w:Walk d tn (As.sb bs) es
 b:∀i,i<=es.length->∀n∈(ends (As.sb bs) (es.take i)).ns,BoD d D M ((ends (As.sb bs) (es.take i)).g n)
 p:qs.Perm (List.range bs'.length)
 l:(ends (As.sb bs) es).ns.length=bs'.length
 g:∀k q:Nat,qs[k]?=some q->∃n,(ends (As.sb bs) es).ns[q]?=some n/\bs'[k]?=some ((ends (As.sb bs) es).g n)
theorem HY{B:Nat}{bs bs' F:List Bo}{fs:DL}{qs:List Nat}(h1:1<=bs.length)(hB:bs.length<=B)(w:Walk d tn (As.sb bs) es)(wb:∀i,i<=es.length->∀n∈(ends (As.sb bs) (es.take i)).ns,BoD d D M ((ends (As.sb bs) (es.take i)).g n))(e:(ends (As.sb bs) es).ns.map (ends (As.sb bs) es).g=F)(T:Turned d tn D M bs' F fs qs): Plan d tn D M bs bs' (es++fs.map (rnx (nmr (ends (As.sb bs) es)))) qs:=by
 have ok:=z4 (v8 h1 hB) w es.length (ak _);rw[aG]at ok;have l0:=led0 ok.up ok.lt e;have F1:1<=F.length:=by rw[<-e,aa];exact cB.mpr ok.ne
 obtain⟨w2,key⟩:=Fy l0 (v8 F1 (ak _)) T.w;have kN:=key fs.length (ak _);rw[aG,show(fs.map (rnx (nmr (ends (As.sb bs) es)))).take fs.length=fs.map (rnx (nmr (ends (As.sb bs) es))) by rw[<-aa (f:=rnx (nmr (ends (As.sb bs) es))),aG]]at kN;have okF:=z4 (v8 F1 (ak _)) T.w fs.length (ak _);rw[aG]at okF;refine⟨FS w w2,λi hi n hn=>?_,T.p,?_,λk q hq=>?_⟩
 .by_cases c:i<=es.length
  .rw[cU c]at hn ⊢;exact wb i c n hn
  .have et:(es++fs.map (rnx (nmr (ends (As.sb bs) es)))).take i=es++(fs.map (rnx (nmr (ends (As.sb bs) es)))).take (i - es.length):=by rw[ik,bT (!2)]
   rw[ai,aa]at hi;have hj:i - es.length<=fs.length:=by lia
   have kj:=key (i - es.length) hj;have okj:=z4 (v8 F1 (ak _)) T.w (i - es.length) hj;rw[et,yw]at hn ⊢;rw[kj.ns]at hn;obtain⟨m,hm,rfl⟩:=bV.mp hn;rw[kj.g m (okj.lt m hm)];exact T.b _ hj m hm
 .rw[yw,kN.ns,aa];exact T.l
 .obtain⟨n,h1,h2⟩:=T.g k q hq;rw[yw];refine⟨nmr (ends (As.sb bs) es) n,?_,?_⟩
  .rw[kN.ns,ao,h1];rfl
  .rw[h2,kN.g n (okF.lt n (ay h1))]
theorem Fw{f:Int}(hf:1<=f)(hz:1<=z)(h1:f∣D)(h2:z∣D):lcmI f z∣D:=by
 obtain⟨s,u,v,hs,s1,u1,v1,ez,ez',fu,fv,guv⟩:=Db hf hz;unfold lcmI;rw[<-hs,fu];obtain⟨t,ht⟩:=h2;have h3:u∣v*t:=by
  obtain⟨w,hw⟩:=h1;refine⟨w,eJ (show s≠0 by lia) ?_⟩;have e1:s*(v*t)=D:=by rw[ht,ez',ar]
  have e2:s*(u*w)=D:=by rw[hw,ez,ar]
  rw[e1,e2]
 have h4:u∣t:=cu.mp (Nat.Coprime.dvd_of_dvd_mul_left (show Nat.gcd u.natAbs v.natAbs=1 from guv) (by rw[<-cC];exact cu.mpr h3));obtain⟨w,hw⟩:=h4;exact⟨w,by rw[ht,hw];grind⟩
theorem Dn{D:Int}:∀(zs:List Int)(f:Int),1<=f->f∣D->(∀z∈zs,1<=z/\z∣D)->zs.foldl lcmI f∣D
 |[],_,_,h,_=>h
 |z::zs,f,hf,h,hz=>by have h1:=hz z aH;exact Dn zs _ (wD hf h1.1).1 (Fw hf h1.1 h h1.2) λu hu=>hz u (aC _ hu)
theorem uR:∀(zs:List Int)(f:Int),1<=f->(∀z∈zs,1<=z)->1<=zs.foldl lcmI f/\f∣zs.foldl lcmI f/\∀z∈zs,z∣zs.foldl lcmI f
 |[],_,h,_=>⟨h,eR _,λz hz=>absurd hz (!1)⟩
 |z::zs,f,hf,h=>by
  obtain⟨a1,a2,a3,_⟩:=wD hf (h z aH);obtain⟨b1,b2,b3⟩:=uR zs (lcmI f z) a1 λu hu=>h u (aC _ hu);exact⟨b1,bI a2 b2,λu hu=>by
   rcases aW.mp hu with e|e
   .subst e;exact bI a3 b2
   .exact b3 u e⟩
theorem So.dvd{s:Sd}(h:So d D M s)(hD:1<=D):s.z∣D:=by obtain⟨X,Y,_,_,hx,hy⟩:=h.r;rw[(yh h.z1 h.g (show D≠0 by lia) hx hy).2.2];exact⟨gd X Y D,lN_mul.symm⟩
theorem Bd.dvd_le{k:Nat}{b:Int}(h:Bd k b)(hb:1<=b)(d:a∣b):Bd k a:=by
 obtain⟨t,ht⟩:=d;refine h.of_le ?_;rw[ht,cC];refine fz _ ?_;have:t≠0:=λz=>by rw[z,cK]at ht;lia
 lia
theorem So.num{N:Int}{s:Sd}(h:So d D M s)(hD:1<=D)(ND:N∣D)(zN:s.z∣N):Bd M (N / s.z*s.x)/\Bd M (N / s.z*s.y):=by
 obtain⟨X,Y,bX,bY,hx,hy⟩:=h.r;obtain⟨t,ht⟩:=ND;obtain⟨u,hu⟩:=zN;have z1:=h.z1;have eu:N / s.z=u:=by rw[hu];exact df _ (!2)
 have t0:t≠0:=λz=>by rw[z,cK]at ht;lia
 have ex:u*s.x*t=X:=aK (show s.z≠0 by lia) (by rw[<-hx,ht,hu];grind);have ey:u*s.y*t=Y:=aK (show s.z≠0 by lia) (by rw[<-hy,ht,hu];grind);rw[eu];exact⟨bX.of_le (by rw[<-ex,cC (u*s.x)];exact fz _ (!2)),bY.of_le (by rw[<-ey,cC (u*s.y)];exact fz _ (!2))⟩
variable{kN:Nat}
theorem So.num2{N:Int}{s:Sd}(h:So d E M s)(hE:1<=E)(bN:Bd kN N):Bd (kN+M) (N*E / s.z*s.x)/\Bd (kN+M) (N*E / s.z*s.y):=by
 obtain⟨X,Y,bX,bY,hx,hy⟩:=h.r;obtain⟨u,hu⟩:=h.dvd hE;have z1:=h.z1;have eu:N*E / s.z=N*u:=by rw[hu,show N*(s.z*u)=s.z*(N*u) by grind];exact df _ (!2)
 have ex:u*s.x=X:=aK (show s.z≠0 by lia) (by rw[<-hx,hu];grind);have ey:u*s.y=Y:=aK (show s.z≠0 by lia) (by rw[<-hy,hu];grind);rw[eu,ar,ar,ex,ey];exact⟨bN.mul bX,bN.mul bY⟩
theorem BK.so{N:Int}{k Mw Mh:Nat}{s:B4}{b:Bo}(hR:Rt d)(g:GB d k s)(hN:1<=N)(hE:1<=E)(hD:1<=D)(ow:So d D Mw b.w)(wd:b.w.z∣N)(ND:N∣D)(oh:So d E Mh b.h)(sv:s.srv b.w.x b.w.y)(bN:Bd kN N)(bE:Bd kE E)(l1:Mw<=1500)(l2:Mw+k+2<=2500)(l3:kN+Mh<=M)(l4:k+kE+(Mw+k+2)+1<=M)(l5:Mw+k+2+(kN+Mh)<=M0):BK d s N E M0 M b:=by
 obtain⟨n1,n2⟩:=ow.num hD ND wd;obtain⟨m1,m2⟩:=oh.num2 hE bN;obtain⟨t1,_⟩:=DJ ow.z1 hN bN wd;exact BK.gen (k:=k) (kw:=Mw) (kh:=kN+Mh) (kE:=kE) hR g hN hE ow.z1 ow.g ow.up wd oh.z1 oh.g oh.up (bI (oh.dvd hE) (cT _ _)) (λpl=>by
  have:=(DV t1).mpr sv;unfold mny;split
  .exact this.1
  .exact this.2) bE n1 n2 m1 m2 l1 l2 l3 l4 l5
theorem EL{K:jj}{Q:VK}{a b:Addr}{xs:List V}(h:H a=some (.tup xs))(h':H b=some (.tup ys))(n:xs≠[])(n':ys≠[])(z:xs.length+ys.length<=1000)(q:∀(p:Addr)(H2:Hp),H p=none->Same H H2->H2 p=some (.tup (xs++ys))->Q (.ref p) H2):IU K (.ref a) (.ref b) H Q :=
 ⟨a,b,_,_,rfl,rfl,SqT.of h,SqT.of h',n,CW z,λe=>absurd e n',λ_ p hp=>q p _ hp (zF hp _) zg⟩
theorem GH{K:jj}{Q:VK}{a:Addr}{x y z:V}(h:H a=some (.tup [x,y,z]))(q:∀(p:Addr)(H2:Hp),Same H H2->H2 p=some (.tup [z])->Q (.ref p) H2):rSlT K (.ref a) (some 2) none H Q :=
 ⟨a,_,rfl,SqT.of h,show ¬ (HT.sIx 3 0 (some 2)=0/\HT.sIx 3 3 none=3) by decide,λp hp=>q p _ (zF hp _) zg⟩
theorem DX(e:Dd):inV (.str e.wd) [.str (Str.ofString "beside"),.str (Str.ofString "atop")]=e.two:=by
 cases e with
 |cut al n s =>
  cases al
  .exact(show inV (V.str (Str.ofString "across")) [.str (Str.ofString "beside"),.str (Str.ofString "atop")]=false by decide+kernel)
  .exact(show inV (V.str (Str.ofString "along")) [.str (Str.ofString "beside"),.str (Str.ofString "atop")]=false by decide+kernel)
 |glue al n m =>
  cases al
  .exact(show inV (V.str (Str.ofString "beside")) [.str (Str.ofString "beside"),.str (Str.ofString "atop")]=true by decide+kernel)
  .exact(show inV (V.str (Str.ofString "atop")) [.str (Str.ofString "beside"),.str (Str.ofString "atop")]=true by decide+kernel)
 |shift al n k =>
  cases al
  .exact(show inV (V.str (Str.ofString "stack")) [.str (Str.ofString "beside"),.str (Str.ofString "atop")]=false by decide+kernel)
  .exact(show inV (V.str (Str.ofString "spread")) [.str (Str.ofString "beside"),.str (Str.ofString "atop")]=false by decide+kernel)
 |turn n=>exact(show inV (V.str (Str.ofString "turn")) [.str (Str.ofString "beside"),.str (Str.ofString "atop")]=false by decide+kernel)
def nmI(r:Nat->Nat)(k:Nat):List V:=((List.range k).map λj=>((r j:Nat):Int)).map V.int
theorem Ca{k n:Nat}(h:n<k):atI (nmI r k) (n:Int)=some (.int ((r n:Nat):Int)):=yl (by unfold nmI;rw[ao,ao,dM h];rfl)
theorem FK{k:Nat}:nmI r (k+1)=nmI r k++[.int ((r k:Nat):Int)]:=by unfold nmI;rw[fi,aj,aj];rfl
def cmT(k:Nat)(t:Tb):Rat:=if k=0 then t.a else if k=1 then t.b else if k=2 then t.c else t.e
theorem HK{s t:Tb}(h:∀k,k<4->cmT k s=cmT k t):s=t:=Tb.ext (h 0 ⋯) (h 1 ⋯) (h 2 ⋯) (h 3 ⋯)
theorem JA{p:Addr}{t:Tb}(h:TbAt H p t){i j:Nat}(hi:i<2)(hj:j<2):∃ (xs ys:List V) (rr ff:Addr),H p=some (.tup xs)/\atI xs (0+(i:Int))=some (.ref rr)/\H rr=some (.tup ys)/\atI ys (0+(j:Int))=some (.ref ff)/\H ff=some (.tup [.int (cmT (2*i+j) t).num,.int (cmT (2*i+j) t).den]):=by
 obtain⟨r0,r1,f0,f1,f2,f3,hp,h0,h1,g0,g1,g2,g3⟩:=h;have i2:i=0\/i=1:=by lia
 have j2:j=0\/j=1:=by lia
 rcases i2 with rfl|rfl<;>rcases j2 with rfl|rfl
 .exact⟨_,_,r0,f0,hp,rfl,h0,rfl,g0⟩
 .exact⟨_,_,r0,f1,hp,rfl,h0,rfl,g1⟩
 .exact⟨_,_,r1,f2,hp,rfl,h1,rfl,g2⟩
 .exact⟨_,_,r1,f3,hp,rfl,h1,rfl,g3⟩
structure Fu(s t:Tb)(i j:Nat):Prop where
 i2:i<2
 j2:j<2
 eq:∀k,k<2*i+j->cmT k s=cmT k t
 ne:cmT (2*i+j) s≠cmT (2*i+j) t
structure S19(s:Sd):Prop where
 nz:s.z≠0
 bx:Bd 1900 s.x
 by':Bd 1900 s.y
 bz:Bd 1900 s.z
theorem S19.p8{s:Sd}(h:S19 s):Bq 8000 s.p:=(GA h.nz h.bx h.bz).mono ⋯
theorem S19.q8{s:Sd}(h:S19 s):Bq 8000 s.q:=(GA h.nz h.by' h.bz).mono ⋯
theorem S19.tb{b:Bo}(h:S19 b.w/\S19 b.h):b.tb.Bt 4000 4000:=by have w1:=xI h.1.nz h.1.bx h.1.bz;have w2:=xI h.1.nz h.1.by' h.1.bz;have h1:=xI h.2.nz h.2.bx h.2.bz;have h2:=xI h.2.nz h.2.by' h.2.bz;exact⟨(Br.mul w1 h1).mono ⋯ ⋯,(Br.mul w1 h2).mono ⋯ ⋯,(Br.mul w2 h1).mono ⋯ ⋯,(Br.mul w2 h2).mono ⋯ ⋯⟩
theorem BoD.s19{b:Bo}(h:BoD d D M b)(D1:1<=D)(bD:Bd K' D)(hM:M<=1900)(hK:K'<=1900):S19 b.w/\S19 b.h:=by have a:=h.1.sk D1 bD;have c:=h.2.sk D1 bD;exact⟨⟨h.1.ne,a.bx.mono hM,a.by'.mono hM,a.bz.mono hK⟩,⟨h.2.ne,c.bx.mono hM,c.by'.mono hM,c.bz.mono hK⟩⟩
theorem GP{L:List Cell}(h:∀c∈L,BoD d D M c.b)(D1:1<=D)(bD:Bd K' D)(hn:L.length<=40)(hM:M<=1900)(hK:K'<=1900)(i:Nat)(_:i<L.length):(tbs ((L.take i).map Cell.b)).Bt 4000 4000 :=
 (IN (d:=d) (n:=40) (λb hb=>by obtain⟨c,hc,rfl⟩:=bV.mp hb;exact h c (bW hc)) D1 bD (by rw[aa,aU];lia)).mono (!2) (!2)
structure Wh(d N E:Int)(kx kw kh:Nat)(b:Bo):Prop where
 w:So d N kw b.w
 x:Bd kx b.w.x/\Bd kx b.w.y
 h:So d E kh b.h
structure LkB(kx kN kw kE kh M:Nat):Prop where
 x1:1<=kx
 c1:kx<=960
 c2:kN<=960
 c3:kw<=1500
 c4:kw+kx+3<=2500
 c5:kx+1+kE+(kw+kx+3)+1<=M
 c6:kw+kx+3+(kN+kh)+20<=M
 c7:M<=4800
 c8:kN+kE<=2050
variable{kx:Nat}
theorem Wh.s19{N:Int}{b:Bo}(h:Wh d N E kx kw kh b)(N1:1<=N)(bN:Bd kN N)(E1:1<=E)(bE:Bd kE E)(l1:kx<=1900)(l2:kN<=1900)(l3:kh<=1900)(l4:kE<=1900):S19 b.w/\S19 b.h:=by have a:=h.w.sk N1 bN;have c:=h.h.sk E1 bE;exact⟨⟨h.w.ne,h.x.1.mono l1,h.x.2.mono l1,a.bz.mono l2⟩,⟨h.h.ne,c.bx.mono l3,c.by'.mono l3,c.bz.mono l4⟩⟩
theorem JB{N:Int}(N1:1<=N)(E1:1<=E)(h:∀b∈l,Wh d N E kx kw kh b):TbD (E*N) (kw+kh+l.length) (tbs l):=by
 have hE:E*N≠0:=aI (!2) (!2);induction l with
 |nil =>
  have z:(0:Rat)=Rat.divInt 0 (E*N):=(iE _).symm;have b0:Bd (kw+kh+([]:List Bo).length) 0:=gB _;exact⟨0,0,0,0,⟨b0,b0,b0,b0⟩,z,z,z,z⟩
 |cons b l ih =>
  obtain⟨X,Y,bX,bY,ep,eq⟩:=(h b aH).w.pq N1;obtain⟨X',Y',bX',bY',ep',eq'⟩:=(h b aH).h.pq E1;have h1:TbD (E*N) (kw+kh) b.tb:=by
   rw[av E N];refine⟨X*X',X*Y',Y*X',Y*Y',⟨bX.mul bX',bX.mul bY',bY.mul bX',bY.mul bY'⟩,?_,?_,?_,?_⟩
   .show b.w.p*b.h.p=_;rw[ep,ep',xt]
   .show b.w.p*b.h.q=_;rw[ep,eq',xt]
   .show b.w.q*b.h.p=_;rw[eq,ep',xt]
   .show b.w.q*b.h.q=_;rw[eq,eq',xt]
  have h2:=ih λc hc=>h c (aC _ hc);exact TbD.add hE (h1.mono (dP _ _)) h2
theorem KE{N:Int}{n:Nat}(N1:1<=N)(bN:Bd kN N)(E1:1<=E)(bE:Bd kE E)(h:∀b∈l,Wh d N E kx kw kh b)(hl:l.length<=n):(tbs l).Bt (kw+kh+n) (kE+kN):=
 ((JB N1 E1 h).mono (show kw+kh+l.length<=kw+kh+n by lia)).bt (aI (!2) (!2)) (bE.mul bN)
theorem KO{N:Int}(N1:1<=N)(bN:Bd kN N)(E1:1<=E)(bE:Bd kE E){L:List Cell}(h:∀c∈L,Wh d N E kx kw kh c.b)(hl:L.length<=20)(l1:kw+kh+20<=4000)(l2:kE+kN<=4000)(i:Nat)(_:i<L.length):(tbs ((L.take i).map Cell.b)).Bt 4000 4000 :=
 (KE N1 bN E1 bE (n:=20) (λb hb=>by obtain⟨c,hc,rfl⟩:=bV.mp hb;exact h c (bW hc)) (by rw[aa,aU];lia)).mono l1 l2
theorem KS{p q:Prop}[Decidable p]{A B:Prop}(hB:¬ (p/\q)->B)(hA:p->(¬ (p/\q)->B)->A):if decide p=true then A else B:=by
 by_cases h:p
 .rw[iU (jg h)];exact hA h hB
 .rw[iV (by rw[iT h];decide)];exact hB (λz=>h z.1)
theorem Dq{x:Int}(h:Bd 1048576 x):Bd 1048576 (if -1 - x > x then -1 - x else x):=by
 unfold Bd at*
 generalize (2:Nat) ^ 1048576=P at*
 split<;>lia
def rEqE(K:jj):R2:=λx y H Q=>∃a b xs,x=.ref a/\y=.ref b/\SqL K H a xs/\SqL K H b []/\Q (.bl xs.isEmpty) H
theorem Gm{X:Cx}(hu:X.A.units+64<cLine):OpR X (compareOp .Eq) (rEqE X.K):=by
 intro pins s σ H x y v u Q I rx ry h;obtain⟨a,b,xs,rfl,rfl,ha,hb,q⟩:=h;cases rx
 cases ry
 obtain⟨is,r1,p1,_⟩:=I.list ha;obtain⟨js,r2,p2,_⟩:=I.list hb;have l1:=r1.length;have l2:=r2.length;have j0:js=[]:=ii.mp l2.symm;subst j0;cases xs with
 |nil =>
  have i0:is=[]:=ii.mp l1.symm;subst i0;exact SeqAt.RcAt.lists (e:=λ_=>true) p1.isList p2.isList rfl (!2) (λj h1 h2=>absurd h1 (!1)) X.prog X.w X.xe _ ⟨.bl true,H,I,rfl,q⟩
 |cons z zs =>
  refine SeqAt.RcAt.lists_lengths p1.isList p2.isList ?_ (!2) X.prog X.w X.xe _ ⟨.bl false,H,I,rfl,q⟩;cases is with
  |nil=>simp at l1
  |cons i is=>simp
def cm(k:Nat)(t:Tb):Rat:=match k with|0=>t.a|1=>t.b|2=>t.c|_=>t.e
theorem Kn(k:Nat)(s t:Tb):cm k (s.add t)=cm k s+cm k t:=by unfold cm;split<;>rfl
def prt(s:Sd)(i:Nat):Int:=if i=0 then s.x else s.y
theorem KL{i j:Nat}(hi:i<2)(hj:j<2)(b:Bo):cm (2*i+j) b.tb=Rat.divInt (prt b.w i) b.w.z*Rat.divInt (prt b.h j) b.h.z:=by
 have h1:i=0\/i=1:=by lia
 have h2:j=0\/j=1:=by lia
 rcases h1 with rfl|rfl<;>rcases h2 with rfl|rfl<;>rfl
theorem GO{s:Sd}{i:Nat}(hi:i<2):atI [V.int s.x,V.int s.y,V.int s.z] (0+(i:Int))=some (.int (prt s i)):=by
 have h1:i=0\/i=1:=by lia
 rcases h1 with rfl|rfl<;>rfl
theorem HW(k:Nat):cm k Tb.zero=0:=by unfold cm;split<;>rfl
structure Shr(k:Nat)(t b:Int)(q:Rat):Prop where
 b1:1<=b
 bt:Bd k t
 bb:Bd k b
 e:q=Rat.divInt t b
theorem Shr.step{k j:Nat}{t b x u:Int}{q:Rat}(h:Shr k t b q)(hz:1<=z)(hu:1<=u)(bx:Bd j x)(by':Bd j y)(bz:Bd j z)(bu:Bd j u):Shr (k+(j+j)+1) (t*(z*u)+x*y*b) (b*(z*u)) (q+Rat.divInt x z*Rat.divInt y u):=by
 have n1:b≠0:=by have:=h.b1;lia
 have n2:z*u≠0:=aI (!2) (!2);refine⟨aM (by have:=h.b1;lia) (aM (!2) (!2)),Bd.add (h.bt.mul (bz.mul bu)) (((bx.mul by').mul h.bb).mono (!2)),(h.bb.mul (bz.mul bu)).mono (!2),?_⟩;rw[h.e,<-xt,<-AX n1 n2]
def S4(k:Nat)(H:Hp)(r:Addr)(t:Tb):Prop:=∃fs:List Addr,fs.length=4/\H r=some (.lst (fs.map V.ref))/\∀(i:Nat)(p:Addr),fs[i]?=some p->∃x y:Int,H p=some (.tup [.int x,.int y])/\Shr k x y (cm i t)
theorem S4.same{k:Nat}{r:Addr}{t:Tb}(h:S4 k H r t)(s:Same H H'):S4 k H' r t:=by obtain⟨fs,h1,h2,h3⟩:=h;exact⟨fs,h1,s _ _ h2,λi p e=>by obtain⟨x,y,h,z⟩:=h3 i p e;exact⟨x,y,s _ _ h,z⟩⟩
theorem Dw.so{s:Sd}(o:Dw d s):So d s.z 21 s:=⟨o.z1,o.g,o.up,s.x,s.y,o.bx,o.by',rfl,rfl⟩
structure LOb(d:Int)(k:Nat)(s:Sd):Prop where
 z1:1<=s.z
 g:g3 s.x s.y s.z=1
 up:sgn d s.x s.y=1
 bx:Bd k s.x
 by':Bd k s.y
 bz:Bd 990 s.z
structure LsB(d:Int)(k:Nat)(H:Hp)(p:Addr)(L:List Ln):Prop where
 l:H p=some (.lst (L.map Ln.v))
 at':∀c∈L,SdAt H c.p c.s
 ok:∀c∈L,LOb d k c.s
theorem LsB.same{k:Nat}{p:Addr}{L:List Ln}(h:LsB d k H p L)(s:Same H H'):LsB d k H' p L:=⟨s _ _ h.l,λc hc=>s _ _ (h.at' c hc),h.ok⟩
theorem IY{k:Nat}{L:List Ln}(ok:∀c∈L,LOb d k c.s):∀z∈L.map (λc=>c.s.z),1<=z/\Bd 990 z:=λz hz=>by obtain⟨c,hc,e⟩:=bV.mp hz;subst e;exact⟨(ok c hc).z1,(ok c hc).bz⟩
theorem FU{k:Nat}{L:List Ln}(ok:∀c∈L,LOb d k c.s)(hb:Bd 990 (cbs (L.map λc=>c.s.z)))(i:Nat):1<=cbs ((L.take i).map λc=>c.s.z)/\Bd 990 (cbs ((L.take i).map λc=>c.s.z)):=by
 have z1:∀z∈L.map (λc=>c.s.z),1<=z:=λz hz=>(IY ok z hz).1;have a:1<=cbs ((L.take i).map λc:Ln=>c.s.z):=(uR ((L.take i).map λc:Ln=>c.s.z) 1 ⋯ λz hz=>z1 z (by rw[h8]at hz;exact bW hz)).1;have e:cbs (L.map λc=>c.s.z)=((L.drop i).map λc=>c.s.z).foldl lcmI (cbs ((L.take i).map λc=>c.s.z)):=by
  conv=>lhs;rw[<-dW i L,aj]
  unfold cbs;rw[dL]
 obtain⟨b1,b2,_⟩:=uR ((L.drop i).map λc:Ln=>c.s.z) (cbs ((L.take i).map λc:Ln=>c.s.z)) a λz hz=>z1 z (by rw[h9]at hz;exact dH hz);rw[<-e]at b1 b2;exact⟨a,Bd.dvd_le hb b1 b2⟩
theorem Ij{k:Nat}{L:List Ln}(ok:∀c∈L,LOb d k c.s):(∀u∈L.map Ln.u,sgn d u.1 u.2=1)/\∀u∈L.map Ln.u,Bd k u.1/\Bd k u.2:=by
 constructor
 .intro u hu;obtain⟨c,hc,e⟩:=bV.mp hu;subst e;exact(ok c hc).up
 .intro u hu;obtain⟨c,hc,e⟩:=bV.mp hu;subst e;exact⟨(ok c hc).bx,(ok c hc).by'⟩
theorem HM{k:Nat}{L:List Ln}(ok:∀c∈L,LOb d k c.s)(i:Nat):∀c∈L.take i,LOb d k c.s:=λc hc=>ok c (bW hc)
theorem Ik{i j:Int}(h:m=i\/m=j)(h1:m<=i)(h2:m<=j):m<0↔¬ (0<=i/\0<=j):=by lia
theorem Kg{k:Nat}(h:Bd k (X*m))(hX:X≠0):Bd k m:=by
 unfold Bd at*
 rw[cC]at h;have:1<=X.natAbs:=by lia
 exact a9 (by have:=Nat.mul_le_mul_right m.natAbs this;lia) h
structure Rd where
 d:Int
 h:Rt d
structure Qd(R:Rd) where
 p:Rat
 q:Rat
theorem Qd.ext'{R:Rd}{a b:Qd R}(h:a.p=b.p)(g:a.q=b.q):a=b:=by cases a;cases b;cases h;cases g;rfl
def rsg(R:Rd)(p q:Rat):Int:=sgn R.d (p.num*q.den) (q.num*p.den)
def Qd.mul'{R:Rd}(a b:Qd R):Qd R:=⟨a.p*b.p+R.d*(a.q*b.q),a.p*b.q+a.q*b.p⟩
def Qd.npw{R:Rd}(a:Qd R):Nat->Qd R
 |0=>⟨1,0⟩
 |n+1=>Qd.mul' (Qd.npw a n) a
instance {R:Rd}:Lean.Grind.CommRing (Qd R) where
 add a b:=⟨a.p+b.p,a.q+b.q⟩
 mul:=Qd.mul'
 natCast:=⟨λn=>⟨n,0⟩⟩
 ofNat n:=⟨⟨(n:Rat),0⟩⟩
 nsmul:=⟨λn a=>Qd.mul' ⟨n,0⟩ a⟩
 npow:=⟨Qd.npw⟩
 neg a:=⟨-a.p,-a.q⟩
 sub a b:=⟨a.p - b.p,a.q - b.q⟩
 intCast:=⟨λn=>⟨n,0⟩⟩
 zsmul:=⟨λn a=>Qd.mul' ⟨n,0⟩ a⟩
 add_zero a:=Qd.ext' (show a.p+((0:Nat):Rat)=a.p by grind) (show a.q+0=a.q by grind)
 add_comm a b:=Qd.ext' (show a.p+b.p=b.p+a.p by grind) (show a.q+b.q=b.q+a.q by grind)
 add_assoc a b c:=Qd.ext' (show a.p+b.p+c.p=a.p+(b.p+c.p) by grind) (show a.q+b.q+c.q=a.q+(b.q+c.q) by grind)
 mul_assoc a b c:=Qd.ext' (show(a.p*b.p+R.d*(a.q*b.q))*c.p+R.d*((a.p*b.q+a.q*b.p)*c.q)=a.p*(b.p*c.p+R.d*(b.q*c.q))+R.d*(a.q*(b.p*c.q+b.q*c.p)) by grind) (show(a.p*b.p+R.d*(a.q*b.q))*c.q+(a.p*b.q+a.q*b.p)*c.p=a.p*(b.p*c.q+b.q*c.p)+a.q*(b.p*c.p+R.d*(b.q*c.q)) by grind)
 mul_one a:=Qd.ext' (show a.p*((1:Nat):Rat)+R.d*(a.q*0)=a.p by grind) (show a.p*0+a.q*((1:Nat):Rat)=a.q by grind)
 one_mul a:=Qd.ext' (show((1:Nat):Rat)*a.p+R.d*(0*a.q)=a.p by grind) (show((1:Nat):Rat)*a.q+0*a.p=a.q by grind)
 mul_zero a:=Qd.ext' (show a.p*((0:Nat):Rat)+R.d*(a.q*0)=((0:Nat):Rat) by grind) (show a.p*0+a.q*((0:Nat):Rat)=0 by grind)
 right_distrib a b c:=Qd.ext' (show(a.p+b.p)*c.p+R.d*((a.q+b.q)*c.q)=(a.p*c.p+R.d*(a.q*c.q))+(b.p*c.p+R.d*(b.q*c.q)) by grind) (show(a.p+b.p)*c.q+(a.q+b.q)*c.p=(a.p*c.q+a.q*c.p)+(b.p*c.q+b.q*c.p) by grind)
 mul_comm a b:=Qd.ext' (show a.p*b.p+R.d*(a.q*b.q)=b.p*a.p+R.d*(b.q*a.q) by grind) (show a.p*b.q+a.q*b.p=b.p*a.q+b.q*a.p by grind)
 left_distrib a b c:=Qd.ext' (show a.p*(b.p+c.p)+R.d*(a.q*(b.q+c.q))=(a.p*b.p+R.d*(a.q*b.q))+(a.p*c.p+R.d*(a.q*c.q)) by grind) (show a.p*(b.q+c.q)+a.q*(b.p+c.p)=(a.p*b.q+a.q*b.p)+(a.p*c.q+a.q*c.p) by grind)
 zero_mul a:=Qd.ext' (show((0:Nat):Rat)*a.p+R.d*(0*a.q)=((0:Nat):Rat) by grind) (show((0:Nat):Rat)*a.q+0*a.p=0 by grind)
 pow_zero a:=rfl
 pow_succ a n:=rfl
 ofNat_succ n:=Qd.ext' (show(((n+1:Nat):Nat):Rat)=((n:Nat):Rat)+((1:Nat):Rat) by grind) (show(0:Rat)=0+0 by grind)
 neg_add_cancel a:=Qd.ext' (show -a.p+a.p=((0:Nat):Rat) by grind) (show -a.q+a.q=0 by grind)
 sub_eq_add_neg a b:=Qd.ext' (show a.p - b.p=a.p+-b.p by grind) (show a.q - b.q=a.q+-b.q by grind)
 neg_zsmul n a:=Qd.ext' (show((-n:Int):Rat)*a.p+R.d*(0*a.q)=-((n:Rat)*a.p+R.d*(0*a.q)) by grind) (show((-n:Int):Rat)*a.q+0*a.p=-((n:Rat)*a.q+0*a.p) by grind)
 intCast_neg n:=Qd.ext' (show((-n:Int):Rat)=-(n:Rat) by grind) (show(0:Rat)=-0 by grind)
theorem Qd.add_p{R:Rd}(a b:Qd R):(a+b).p=a.p+b.p:=rfl
theorem Qd.add_q{R:Rd}(a b:Qd R):(a+b).q=a.q+b.q:=rfl
theorem Qd.sub_p{R:Rd}(a b:Qd R):(a - b).p=a.p - b.p:=rfl
theorem Qd.sub_q{R:Rd}(a b:Qd R):(a - b).q=a.q - b.q:=rfl
theorem Qd.mul_p{R:Rd}(a b:Qd R):(a*b).p=a.p*b.p+R.d*(a.q*b.q):=rfl
theorem Qd.mul_q{R:Rd}(a b:Qd R):(a*b).q=a.p*b.q+a.q*b.p:=rfl
def Qd.sg{R:Rd}(a:Qd R):Int:=rsg R a.p a.q
instance {R:Rd}:LE (Qd R):=⟨λa b=>0<=(b - a).sg⟩
instance {R:Rd}:LT (Qd R):=⟨λa b=>0<(b - a).sg⟩
theorem Qd.sg_of{R:Rd}{x:Int}(hz:0<z):(⟨Rat.divInt x z,Rat.divInt y z⟩:Qd R).sg=sgn R.d x y:=by
 have one:∀t:Int,(Rat.divInt t z).num*z=t*((Rat.divInt t z).den:Int):=λt=>by have h:=dR (Rat.divInt t z);exact(bP (by have:=(Rat.divInt t z).den_pos;lia) (!2)).mp h
 have d1:(0:Int)<((Rat.divInt x z).den:Int):=by have:=(Rat.divInt x z).den_pos;lia
 have d2:(0:Int)<((Rat.divInt y z).den:Int):=by have:=(Rat.divInt y z).den_pos;lia
 refine xz R.h hz (aM d1 d2) ?_ ?_
 .have:=one x;grind
 .have:=one y;grind
theorem Qd.com{R:Rd}(a:Qd R):∃x y z:Int,0<z/\a=⟨Rat.divInt x z,Rat.divInt y z⟩:=by
 have d1:(0:Int)<(a.p.den:Int):=by have:=a.p.den_pos;lia
 have d2:(0:Int)<(a.q.den:Int):=by have:=a.q.den_pos;lia
 refine⟨a.p.num*a.q.den,a.q.num*a.p.den,a.p.den*a.q.den,aM d1 d2,Qd.ext' ?_ ?_⟩
 .refine(dR a.p).symm.trans ?_;exact(bP (fU d1) (aI (fU d1) (fU d2))).mpr (by grind)
 .refine(dR a.q).symm.trans ?_;exact(bP (fU d2) (aI (fU d1) (fU d2))).mpr (by grind)
theorem Qd.z_ne'(h:0<z):(z:Rat)≠0:=by
 intro e;have:z=0:=by exact_mod_cast e
 lia
theorem Qd.sg_mul{R:Rd}(a b:Qd R):(a*b).sg=a.sg*b.sg:=by
 obtain⟨x,y,z,hz,rfl⟩:=Qd.com a;obtain⟨x',y',z',hz',rfl⟩:=Qd.com b;have n1:=Qd.z_ne' hz;have n2:=Qd.z_ne' hz';have e:(⟨Rat.divInt x z,Rat.divInt y z⟩*⟨Rat.divInt x' z',Rat.divInt y' z'⟩:Qd R)=⟨Rat.divInt (x*x'+R.d*y*y') (z*z'),Rat.divInt (x*y'+y*x') (z*z')⟩:=by
  refine Qd.ext' ?_ ?_
  .rw[Qd.mul_p];simp only[bC];grind
  .rw[Qd.mul_q];simp only[bC];grind
 rw[e,Qd.sg_of (aM hz hz'),Qd.sg_of hz,Qd.sg_of hz',uE R.h]
theorem Qd.sg_neg{R:Rd}(a:Qd R):(-a).sg=-a.sg:=by obtain⟨x,y,z,hz,rfl⟩:=Qd.com a;have e:(-⟨Rat.divInt x z,Rat.divInt y z⟩:Qd R)=⟨Rat.divInt (-x) z,Rat.divInt (-y) z⟩:=Qd.ext' (show -Rat.divInt x z=_ by simp only[bC];grind) (show -Rat.divInt y z=_ by simp only[bC];grind);rw[e,Qd.sg_of hz,Qd.sg_of hz,xT R.h]
theorem Qd.sg_tri{R:Rd}(a:Qd R):a.sg=1\/a.sg=-1\/(a=0/\a.sg=0):=by
 obtain⟨x,y,z,hz,rfl⟩:=Qd.com a;rw[Qd.sg_of hz];rcases sgn_tri R.h x y with h|h|⟨rfl,rfl⟩
 .exact .inl h
 .exact .inr (.inl h)
 .refine .inr (.inr ⟨Qd.ext' (show Rat.divInt 0 z=((0:Nat):Rat) by simp) (show Rat.divInt 0 z=0 by simp),zO _⟩)
theorem Qd.sg_add{R:Rd}{a b:Qd R}(ha:0<=a.sg)(hb:0<=b.sg):0<=(a+b).sg:=by
 rcases Qd.sg_tri a with h|h|⟨rfl,_⟩
 .rcases Qd.sg_tri b with g|g|⟨rfl,_⟩
  .obtain⟨x,y,z,hz,rfl⟩:=Qd.com a;obtain⟨x',y',z',hz',rfl⟩:=Qd.com b;have n1:=Qd.z_ne' hz;have n2:=Qd.z_ne' hz';have e:(⟨Rat.divInt x z,Rat.divInt y z⟩+⟨Rat.divInt x' z',Rat.divInt y' z'⟩:Qd R)=⟨Rat.divInt (z'*x+z*x') (z*z'),Rat.divInt (z'*y+z*y') (z*z')⟩:=by
    refine Qd.ext' ?_ ?_
    .rw[Qd.add_p];simp only[bC];grind
    .rw[Qd.add_q];simp only[bC];grind
   rw[e,Qd.sg_of (aM hz hz')];rw[Qd.sg_of hz]at h;rw[Qd.sg_of hz']at g;have:=vN R.h (show sgn R.d (z'*x) (z'*y)=1 by rw[yE R.h hz',h]) (show sgn R.d (z*x') (z*y')=1 by rw[yE R.h hz,g])
   lia
  .lia
  .rw[show a+0=a by grind];lia
 .lia
 .rw[show 0+b=b by grind];exact hb
theorem Qd.q_le{R:Rd}(a b:Qd R):a<=b↔0<=(b - a).sg:=Iff.rfl
theorem Qd.q_lt{R:Rd}(a b:Qd R):a<b↔0<(b - a).sg:=Iff.rfl
theorem Qd.sg_zero{R:Rd}:(0:Qd R).sg=0:=by
 rcases Qd.sg_tri (0:Qd R) with h|h|h
 .have:=Qd.sg_neg (0:Qd R);rw[show -(0:Qd R)=0 by grind]at this;lia
 .have:=Qd.sg_neg (0:Qd R);rw[show -(0:Qd R)=0 by grind]at this;lia
 .exact h.2
theorem Qd.l_refl{R:Rd}(a:Qd R):a<=a:=by rw[Qd.q_le,show a - a=0 by grind,Qd.sg_zero];decide
theorem Qd.l_trans{R:Rd}(a b c:Qd R)(h:a<=b)(g:b<=c):a<=c:=by rw[Qd.q_le]at*;rw[show c - a=(b - a)+(c - b) by grind];exact Qd.sg_add h g
theorem Qd.l_anti{R:Rd}(a b:Qd R)(h:a<=b)(g:b<=a):a=b:=by
 rw[Qd.q_le]at*
 rw[show a - b=-(b - a) by grind,Qd.sg_neg]at g;rcases Qd.sg_tri (b - a) with k|k|⟨k,_⟩
 .lia
 .lia
 .grind
theorem Qd.l_total{R:Rd}(a b:Qd R):a<=b\/b<=a:=by
 rw[Qd.q_le,Qd.q_le,show a - b=-(b - a) by grind,Qd.sg_neg]
 lia
theorem Qd.l_lt{R:Rd}(a b:Qd R):a<b↔a<=b/\¬ b<=a:=by
 rw[Qd.q_lt,Qd.q_le,Qd.q_le,show a - b=-(b - a) by grind,Qd.sg_neg]
 lia
theorem Qd.l_add{R:Rd}{a b:Qd R}(c:Qd R):a<=b↔a+c<=b+c:=by rw[Qd.q_le,Qd.q_le,show b+c - (a+c)=b - a by grind]
theorem Qd.l_01{R:Rd}:(0:Qd R)<1:=by rw[Qd.q_lt,show(1:Qd R) - 0=⟨Rat.divInt 1 1,Rat.divInt 0 1⟩ from Qd.ext' (by rw[Qd.sub_p];show((1:Nat):Rat) - ((0:Nat):Rat)=_;simp only[bC];grind) (by rw[Qd.sub_q];show(0:Rat) - 0=_;simp only[bC];grind),Qd.sg_of ⋯,wO ⋯ ⋯];decide
theorem Qd.l_ml{R:Rd}{a b c:Qd R}(h:a<b)(g:0<c):c*a<c*b:=by
 rw[Qd.q_lt]at*
 rw[show c - 0=c by grind]at g;rw[show c*b - c*a=c*(b - a) by grind,Qd.sg_mul];exact aM g h
theorem Qd.l_mr{R:Rd}{a b c:Qd R}(h:a<b)(g:0<c):a*c<b*c:=by
 rw[Qd.q_lt]at*
 rw[show c - 0=c by grind]at g;rw[show b*c - a*c=c*(b - a) by grind,Qd.sg_mul];exact aM g h
instance {R:Rd}:Std.IsLinearOrder (Qd R) where
 le_refl:=Qd.l_refl
 le_trans:=Qd.l_trans
 le_antisymm:=Qd.l_anti
 le_total:=Qd.l_total
instance {R:Rd}:Std.LawfulOrderLT (Qd R):=⟨Qd.l_lt⟩
instance {R:Rd}:Lean.Grind.OrderedRing (Qd R) where
 add_le_left_iff:=Qd.l_add
 zero_lt_one:=Qd.l_01
 mul_lt_mul_of_pos_left:=Qd.l_ml
 mul_lt_mul_of_pos_right:=Qd.l_mr
theorem Qd.mul_nn{R:Rd}{a b:Qd R}(h:0<=a)(g:0<=b):0<=a*b:=by
 rw[Qd.q_le]at*
 rw[show ∀x:Qd R,x - 0=x by intro x;grind]at*
 rw[Qd.sg_mul];exact fJ h g
theorem Qd.mul_ps{R:Rd}{a b:Qd R}(h:0<a)(g:0<b):0<a*b:=by
 rw[Qd.q_lt]at*
 rw[show ∀x:Qd R,x - 0=x by intro x;grind]at*
 rw[Qd.sg_mul];exact aM h g
instance {R:Rd}:IntCast (Qd R):=Lean.Grind.Ring.intCast
def Sdv(R:Rd)(s:Sd):Qd R:=⟨Rat.divInt s.x s.z,Rat.divInt s.y s.z⟩
def Qd.of(R:Rd)(x y:Int):Qd R:=⟨x,y⟩
def Qd.rt(R:Rd):Qd R:=⟨0,1⟩
theorem Qd.cI{R:Rd}(n:Int):((n:Int):Qd R)=Qd.of R n 0:=rfl
theorem Qd.of_eq{R:Rd}(x y:Int):Qd.of R x y=(x:Qd R)+(y:Qd R)*Qd.rt R:=Qd.ext' (show(x:Rat)=(x:Rat)+((y:Rat)*0+R.d*(0*1)) by grind) (show(y:Rat)=0+((y:Rat)*1+0*0) by grind)
theorem Qd.of_sg{R:Rd}(x y:Int):(Qd.of R x y).sg=sgn R.d x y:=by have:Qd.of R x y=⟨Rat.divInt x 1,Rat.divInt y 1⟩:=Qd.ext' (by simp only[bC];show(x:Rat)=_;grind) (by simp only[bC];show(y:Rat)=_;grind);rw[this,Qd.sg_of ⋯]
theorem Qd.ps_iff{R:Rd}(a:Qd R):0<a↔0<a.sg:=by rw[Qd.q_lt,show a - 0=a by grind]
theorem Qd.nn_iff{R:Rd}(a:Qd R):0<=a↔0<=a.sg:=by rw[Qd.q_le,show a - 0=a by grind]
theorem Qd.c_nn{R:Rd}{n:Int}:(0:Qd R)<=(n:Qd R)↔0<=n:=by
 rw[Qd.nn_iff,Qd.cI,Qd.of_sg];constructor
 .intro h;refine a8 λz=>?_;rw[Am (!2) (!2) (!2)]at h
  lia
 .intro h;rw[wO h (!2)];split<;>lia
theorem Qd.c_sub{R:Rd}(m n:Int):((m - n:Int):Qd R)=(m:Qd R) - (n:Qd R):=Qd.ext' (show((m - n:Int):Rat)=(m:Rat) - (n:Rat) by grind) (show(0:Rat)=0 - 0 by grind)
theorem Qd.c_le{R:Rd}{n:Int}:(m:Qd R)<=(n:Qd R)↔m<=n:=by
 have:=Qd.c_nn (R:=R) (n:=n - m);rw[Qd.c_sub]at this;constructor
 .intro h;have:=this.mp (by grind)
  lia
 .intro h;have:=this.mpr (!2);grind
theorem Qd.c_mul{R:Rd}(m n:Int):((m*n:Int):Qd R)=(m:Qd R)*(n:Qd R):=Qd.ext' (show((m*n:Int):Rat)=(m:Rat)*(n:Rat)+R.d*(0*0) by grind) (show(0:Rat)=(m:Rat)*0+0*(n:Rat) by grind)
theorem Qd.c_lt{R:Rd}{n:Int}:(m:Qd R)<(n:Qd R)↔m<n:=by
 have:=Qd.c_le (R:=R) (m:=n) (n:=m);constructor
 .intro h;refine a8 λz=>?_;have:=this.mpr (!2);grind
 .intro h;refine a8 λz=>?_;have:=this.mp (by grind)
  lia
theorem Qd.rt_lo{R:Rd}:(1:Qd R)<=Qd.rt R:=by rw[Qd.q_le,show Qd.rt R - 1=Qd.of R (-1) 1 from Qd.ext' (show(0:Rat) - ((1:Nat):Rat)=((-1:Int):Rat) by grind) (show(1:Rat) - 0=((1:Int):Rat) by grind),Qd.of_sg,BI ⋯ ⋯,iU (by have:=R.h.lo;lia)];decide
theorem Qd.rt_hi{R:Rd}:Qd.rt R<=10:=by rw[Qd.q_le,show 10 - Qd.rt R=Qd.of R 10 (-1) from Qd.ext' (show((10:Nat):Rat) - 0=((10:Int):Rat) by grind) (show(0:Rat) - 1=((-1:Int):Rat) by grind),Qd.of_sg,BG ⋯ ⋯,iU (by have:=R.h.hi;lia)];decide
theorem Qd.v_mul{R:Rd}{s:Sd}(hz:s.z≠0):Sdv R s*(s.z:Qd R)=Qd.of R s.x s.y:=by
 have n:(s.z:Rat)≠0:=λe=>hz (by exact_mod_cast e);refine Qd.ext' ?_ ?_
 .show Rat.divInt s.x s.z*(s.z:Rat)+R.d*(Rat.divInt s.y s.z*0)=(s.x:Rat)
  simp only[bC];grind
 .show Rat.divInt s.x s.z*0+Rat.divInt s.y s.z*(s.z:Rat)=(s.y:Rat)
  simp only[bC];grind
theorem Qd.v_ps{R:Rd}{s:Sd}(hz:1<=s.z):0<Sdv R s↔sgn R.d s.x s.y=1:=by
 rw[Qd.ps_iff];unfold Sdv;rw[Qd.sg_of (!2)];rcases sgn_tri R.h s.x s.y with h|h|⟨h,k⟩
 .lia
 .lia
 .rw[h,k,zO];decide
theorem Qd.v_low{R:Rd}{b n:Int}(hn:n≠0):Sdv R ⟨lA a b n,lB a b n,lN a b n⟩=⟨Rat.divInt a n,Rat.divInt b n⟩:=by have:=l_n (a:=a) (b:=b) hn;exact Qd.ext' ((bP (by show lN a b n≠0;lia) hn).mpr l_a) ((bP (by show lN a b n≠0;lia) hn).mpr l_b)
theorem Qd.v_mul2{R:Rd}{b n:Int}(hn:n≠0):(⟨Rat.divInt a n,Rat.divInt b n⟩:Qd R)*(n:Qd R)=Qd.of R a b:=Qd.v_mul (s:=⟨a,b,n⟩) hn
theorem Qd.of_mul{R:Rd}(x y x' y':Int):Qd.of R x y*Qd.of R x' y'=Qd.of R (x*x'+R.d*y*y') (x*y'+y*x'):=Qd.ext' (show(x:Rat)*x'+R.d*((y:Rat)*y')=((x*x'+R.d*y*y':Int):Rat) by grind) (show(x:Rat)*y'+(y:Rat)*x'=((x*y'+y*x':Int):Rat) by grind)
theorem Qd.can{R:Rd}{a b c:Qd R}(h:c≠0)(e:a*c=b*c):a=b:=by
 have:((a - b)*c).sg=0:=by rw[show(a - b)*c=0 by grind,Qd.sg_zero]
 rw[Qd.sg_mul]at this;rcases Qd.sg_tri c with k|k|k
 .rw[k,dg]at this;rcases Qd.sg_tri (a - b) with j|j|j
  .lia
  .lia
  .have:=j.1;grind
 .rcases Qd.sg_tri (a - b) with j|j|j
  .rw[j,k]at this;lia
  .rw[j,k]at this;lia
  .have:=j.1;grind
 .exact absurd k.1 h
theorem Qd.c_ne{R:Rd}{n:Int}(h:n≠0):(n:Qd R)≠0:=λe=>by
 have h1:(n:Qd R)<=((0:Int):Qd R):=by rw[e,show((0:Int):Qd R)=0 from Qd.ext' (show((0:Int):Rat)=((0:Nat):Rat) by grind) rfl];exact fE _
 have h2:((0:Int):Qd R)<=(n:Qd R):=by rw[e,show((0:Int):Qd R)=0 from Qd.ext' (show((0:Int):Rat)=((0:Nat):Rat) by grind) rfl];exact fE _
 rw[Qd.c_le]at h1 h2
 lia
theorem Qd.v_timed{R:Rd}{s s':Sd}(hz:s.z≠0)(hz':s'.z≠0):Sdv R ⟨lA (s.x*s'.x+R.d*s.y*s'.y) (s.x*s'.y+s.y*s'.x) (s.z*s'.z),lB (s.x*s'.x+R.d*s.y*s'.y) (s.x*s'.y+s.y*s'.x) (s.z*s'.z),lN (s.x*s'.x+R.d*s.y*s'.y) (s.x*s'.y+s.y*s'.x) (s.z*s'.z)⟩=Sdv R s*Sdv R s':=by have hn:=aI hz hz';rw[Qd.v_low hn];refine Qd.can (Qd.c_ne hn) ?_;rw[Qd.v_mul2 hn,Qd.c_mul,<-Qd.of_mul,<-Qd.v_mul hz,<-Qd.v_mul hz'];grind
theorem Qd.floor{R:Rd}{x r:Int}(hz:1<=z)(r0:0<=r)(r1:r*r<=R.d*y*y)(r2:R.d*y*y<(r+1)*(r+1)):(((x+rpart y r) / z:Int):Qd R)*(z:Qd R)<=Qd.of R x y/\Qd.of R x y<((((x+rpart y r) / z:Int):Qd R)+1)*(z:Qd R):=by
 have e1:=Int.emod_add_mul_ediv (x+rpart y r) z;have e2:=cX (x+rpart y r) (show z≠0 by lia);have e3:=dC (x+rpart y r) (show 0<z by lia);generalize (x+rpart y r) / z=n at*
 generalize (x+rpart y r) % z=m at*
 have f1:=Fx R.h (c:=x - n*z) r0 r1 r2 (by rw[av]at e1;lia);have f2:=FX R.h (c:=x - (n+1)*z) r0 r1 r2 (by rw[iL];rw[av]at e1;lia);constructor
 .rw[Qd.q_le,<-Qd.c_mul,show Qd.of R x y - ((n*z:Int):Qd R)=Qd.of R (x - n*z) y from Qd.ext' (show(x:Rat) - ((n*z:Int):Rat)=((x - n*z:Int):Rat) by grind) (show(y:Rat) - 0=(y:Rat) by grind),Qd.of_sg];exact f1
 .rw[Qd.q_lt,show((n:Qd R)+1)*(z:Qd R) - Qd.of R x y=-Qd.of R (x - (n+1)*z) y from ?_,Qd.sg_neg,Qd.of_sg]
  .lia
  .refine Qd.ext' (show((n:Rat)+((1:Nat):Rat))*(z:Rat)+R.d*((0+0)*0) - (x:Rat)=-((x - (n+1)*z:Int):Rat) by grind) (show((n:Rat)+((1:Nat):Rat))*0+(0+0)*(z:Rat) - (y:Rat)=-(y:Rat) by grind)
theorem Qd.of_hi{R:Rd}{k:Nat}{x:Int}(bx:Bd k x)(bY:Bd k y)(m0:0<=m)(h:(m:Qd R)<=Qd.of R x y):Bd (k+4) m:=by
 have h1:Qd.of R x y<=((x.natAbs+10*y.natAbs:Int):Qd R):=by have e:((x.natAbs+10*y.natAbs:Int):Qd R)=((x.natAbs:Int):Qd R)+10*((y.natAbs:Int):Qd R):=Qd.ext' (show((x.natAbs+10*y.natAbs:Int):Rat)=((x.natAbs:Int):Rat)+(((10:Nat):Rat)*((y.natAbs:Int):Rat)+R.d*(0*0)) by grind) (show(0:Rat)=0+(((10:Nat):Rat)*0+0*((y.natAbs:Int):Rat)) by grind);have c1:(x:Qd R)<=((x.natAbs:Int):Qd R):=Qd.c_le.mpr (!2);have c2:(y:Qd R)<=((y.natAbs:Int):Qd R):=Qd.c_le.mpr (!2);have c3:(0:Qd R)<=((y.natAbs:Int):Qd R):=Qd.c_nn.mpr (!2);have r1:=Qd.rt_lo (R:=R);have m1:=Qd.mul_nn (show 0<=((y.natAbs:Int):Qd R) - (y:Qd R) by grind) (show 0<=Qd.rt R by grind);have m2:=Qd.mul_nn c3 (show 0<=10 - Qd.rt R by have:=Qd.rt_hi (R:=R);grind);rw[Qd.of_eq,e];grind
 have h2:(m:Qd R)<=((x.natAbs+10*y.natAbs:Int):Qd R):=Std.IsPreorder.le_trans _ _ _ h h1;rw[Qd.c_le]at h2;unfold Bd at*
 rw[Nat.pow_add]
 lia
structure Qd.Pw{R:Rd}(one:Qd R)(s:Sd)(k ku:Nat):Prop where
 sh:(∃n,s=⟨n,0,1⟩/\1<=n/\Bd (k+4) n)\/(∃m,s=⟨1,0,m⟩/\1<=m/\Bd (ku+5) m)
 lo:Sdv R s<=one
 hi:one<=2*Sdv R s
theorem Qd.c_one{R:Rd}:((1:Int):Qd R)=1:=Qd.ext' (show((1:Int):Rat)=((1:Nat):Rat) by grind) rfl
theorem Qd.c_add{R:Rd}(m n:Int):((m+n:Int):Qd R)=(m:Qd R)+(n:Qd R):=Qd.ext' (show((m+n:Int):Rat)=(m:Rat)+(n:Rat) by grind) (show(0:Rat)=0+0 by grind)
theorem Qd.c_ps{R:Rd}{n:Int}(h:1<=n):(0:Qd R)<(n:Qd R):=by
 have:(1:Qd R)<=(n:Qd R):=by rw[<-Qd.c_one];exact Qd.c_le.mpr h
 grind
theorem Qd.of_0{R:Rd}(n:Int):Qd.of R n 0=(n:Qd R):=rfl
theorem Qd.le_of_mul{R:Rd}{a b c:Qd R}(hc:0<c)(h:a*c<=b*c):a<=b:=by refine a8 λz=>?_;have:=Qd.mul_ps hc (show 0<a - b by grind);grind
theorem Qd.lt_of_mul{R:Rd}{a b c:Qd R}(hc:0<=c)(h:a*c<b*c):a<b:=by refine a8 λz=>?_;have:=Qd.mul_nn hc (show 0<=a - b by grind);grind
variable{ku:Nat}
theorem Qd.pw_whole{R:Rd}{x n:Int}{k:Nat}(hz:1<=z)(bx:Bd k x)(bY:Bd k y)(n1:1<=n)(f:(n:Qd R)*(z:Qd R)<=Qd.of R x y/\Qd.of R x y<((n:Qd R)+1)*(z:Qd R)):Qd.Pw (Sdv R ⟨x,y,z⟩) ⟨n,0,1⟩ k ku:=by
 have hz':=Qd.c_ps (R:=R) hz;have hn:(1:Qd R)<=(n:Qd R):=by rw[<-Qd.c_one];exact Qd.c_le.mpr n1
 have e:Sdv R ⟨n,0,1⟩=(n:Qd R):=by have:=Qd.v_mul (R:=R) (s:=⟨n,0,1⟩) (by show(1:Int)≠0;decide);rw[show(((⟨n,0,1⟩:Sd).z:Int):Qd R)=1 from Qd.c_one,Qd.of_0]at this;grind
 have v:=Qd.v_mul (R:=R) (s:=⟨x,y,z⟩) (show z≠0 by lia);have v:Sdv R ⟨x,y,z⟩*(z:Qd R)=Qd.of R x y:=v;rw[<-v]at f;have f1:=Qd.le_of_mul hz' f.1;have f2:=Qd.lt_of_mul (bL hz') f.2;refine⟨.inl ⟨n,rfl,n1,Qd.of_hi (R:=R) bx bY (!2) ?_⟩,?_,?_⟩
 .rw[<-v];have z1:(1:Qd R)<=(z:Qd R):=by rw[<-Qd.c_one];exact Qd.c_le.mpr hz
  have:=Qd.mul_nn (show 0<=(n:Qd R) by grind) (show 0<=(z:Qd R) - 1 by grind);have:=f.1;grind
 .rw[e];exact f1
 .rw[e];grind
theorem Qd.pw_part{R:Rd}{x n u v t:Int}{k:Nat}(hz:1<=z)(up:0<Sdv R ⟨x,y,z⟩)(n0:n<=0)(f:Qd.of R x y<((n:Qd R)+1)*(z:Qd R))(iv:Qd R)(hiv:iv*Sdv R ⟨x,y,z⟩=1)(ht:1<=t)(eu:iv*(t:Qd R)=Qd.of R u v)(bu:Bd ku u)(bv:Bd ku v)(fm:(m:Qd R)<=iv/\iv<(m:Qd R)+1):Qd.Pw (Sdv R ⟨x,y,z⟩) ⟨1,0,m+1⟩ k ku:=by
 have hz':=Qd.c_ps (R:=R) hz;have v:=Qd.v_mul (R:=R) (s:=⟨x,y,z⟩) (show z≠0 by lia);have v:Sdv R ⟨x,y,z⟩*(z:Qd R)=Qd.of R x y:=v;rw[<-v]at f;have f2:=Qd.lt_of_mul (bL hz') f;have n0':(n:Qd R)<=0:=by have:=(Qd.c_le (R:=R)).mpr n0;rw[show((0:Int):Qd R)=0 from Qd.ext' (show((0:Int):Rat)=((0:Nat):Rat) by grind) rfl]at this;exact this
 generalize Sdv R ⟨x,y,z⟩=a at*
 have a1:a<1:=by grind
 have i1:1<iv:=by refine a8 λz=>?_;have:=Qd.mul_nn (bL up) (show 0<=1 - iv by grind);grind
 have m0:(0:Qd R)<(m:Qd R):=by grind
 have m1:1<=m:=by
  have:=(Qd.c_lt (R:=R) (m:=0) (n:=m)).mp (by rw[show((0:Int):Qd R)=0 from Qd.ext' (show((0:Int):Rat)=((0:Nat):Rat) by grind) rfl];exact m0)
  lia
 have m1':(1:Qd R)<=(m:Qd R):=by rw[<-Qd.c_one];exact Qd.c_le.mpr m1
 have e:Sdv R ⟨1,0,m+1⟩*((m:Qd R)+1)=1:=by have:=Qd.v_mul (R:=R) (s:=⟨1,0,m+1⟩) (by show m+1≠0;lia);rw[show(((⟨1,0,m+1⟩:Sd).z:Int):Qd R)=(m:Qd R)+1 from by rw[<-Qd.c_one,<-Qd.c_add],Qd.of_0,Qd.c_one]at this;exact this
 refine⟨.inr ⟨m+1,rfl,by lia,?_⟩,?_,?_⟩
 .have:Bd (ku+4) m:=Qd.of_hi (R:=R) bu bv (!2) (by
   have t1:(1:Qd R)<=(t:Qd R):=by rw[<-Qd.c_one];exact Qd.c_le.mpr ht
   have:=Qd.mul_nn (show 0<=iv by grind) (show 0<=(t:Qd R) - 1 by grind);grind)
  exact this.add ((zr 1).mono (by show 1<=ku+4;lia))
 .generalize Sdv R ⟨1,0,m+1⟩=s at*
  refine Qd.le_of_mul (c:=(m:Qd R)+1) (by grind) ?_;have:=Qd.mul_nn (bL up) (show 0<=(m:Qd R)+1 - iv by grind);grind
 .generalize Sdv R ⟨1,0,m+1⟩=s at*
  refine Qd.le_of_mul (c:=(m:Qd R)+1) (by grind) ?_;have h1:=Qd.mul_nn (bL up) (show 0<=iv - (m:Qd R) by grind);have h2:=Qd.mul_nn (bL up) (show 0<=(m:Qd R) - 1 by grind);grind
theorem Qd.part_bd{R:Rd}{a iv:Qd R}{u v t:Int}(up:0<a)(hiv:iv*a=1)(ht:1<=t)(eu:iv*(t:Qd R)=Qd.of R u v)(bu:Bd ku u)(bv:Bd ku v)(fm:(m:Qd R)<=iv/\iv<(m:Qd R)+1):Bd (ku+4) m:=by
 have i0:0<iv:=by refine a8 λz=>?_;have:=Qd.mul_nn (bL up) (show 0<=-iv by grind);have:=Lean.Grind.OrderedRing.zero_lt_one (R:=Qd R);grind
 have m0:0<=m:=by
  have:=(Qd.c_lt (R:=R) (m:=0) (n:=m+1)).mp (by rw[Qd.c_add,Qd.c_one,show((0:Int):Qd R)=0 from Qd.ext' (show((0:Int):Rat)=((0:Nat):Rat) by grind) rfl];grind)
  lia
 refine Qd.of_hi (R:=R) bu bv m0 ?_;have t1:(1:Qd R)<=(t:Qd R):=by rw[<-Qd.c_one];exact Qd.c_le.mpr ht
 have:=Qd.mul_nn (show 0<=iv by grind) (show 0<=(t:Qd R) - 1 by grind);grind
theorem Qd.base_bd{R:Rd}{s:B4}{N:Int}(sgs:Sg s)(det:s.det=-1)(hp:0<Qd.of R s.a s.b)(hq:0<Qd.of R s.c s.e)(N1:1<=N)(h:1<=Qd.of R s.a s.b*Qd.of R s.c s.e*(N:Qd R)):-(100*N)<=s.a/\s.b<=10*N/\s.c<=10*N/\-N<=s.e:=by
 obtain⟨a0,b0,c0,e0⟩:=sgs;have dt:s.a*s.e - s.b*s.c=-1:=det;have ae:0<=s.a*s.e:=dz a0 e0;have b1:1<=s.b:=by
  refine a8 λz=>?_;have:s.b=0:=by lia
  rw[this]at dt
  lia
 have c1:1<=s.c:=by
  refine a8 λz=>?_;have:s.c=0:=by lia
  rw[this]at dt
  lia
 have e1:(((-s.e:Int):Qd R))*Qd.of R s.a s.b+((s.b:Int):Qd R)*Qd.of R s.c s.e=1:=by
  have d2:((s.a*s.e - s.b*s.c:Int):Rat)=((-1:Int):Rat):=by rw[dt]
  refine Qd.ext' (show((-s.e:Int):Rat)*s.a+R.d*(0*(s.b:Rat))+((s.b:Rat)*s.c+R.d*(0*(s.e:Rat)))=((1:Nat):Rat) by grind) (show((-s.e:Int):Rat)*s.b+0*(s.a:Rat)+((s.b:Rat)*s.e+0*(s.c:Rat))=0 by grind)
 have e2:((s.c:Int):Qd R)*Qd.of R s.a s.b+(((-s.a:Int):Qd R))*Qd.of R s.c s.e=Qd.rt R:=by
  have d2:((s.a*s.e - s.b*s.c:Int):Rat)=((-1:Int):Rat):=by rw[dt]
  refine Qd.ext' (show(s.c:Rat)*s.a+R.d*(0*(s.b:Rat))+(((-s.a:Int):Rat)*s.c+R.d*(0*(s.e:Rat)))=0 by grind) (show(s.c:Rat)*s.b+0*(s.a:Rat)+(((-s.a:Int):Rat)*s.e+0*(s.c:Rat))=1 by grind)
 have A0:(0:Qd R)<=((-s.a:Int):Qd R):=Qd.c_nn.mpr (!2);have E0:(0:Qd R)<=((-s.e:Int):Qd R):=Qd.c_nn.mpr (!2);have B1:(1:Qd R)<=(s.b:Qd R):=by rw[<-Qd.c_one];exact Qd.c_le.mpr b1
 have C1:(1:Qd R)<=(s.c:Qd R):=by rw[<-Qd.c_one];exact Qd.c_le.mpr c1
 have N0:(0:Qd R)<=(N:Qd R):=Qd.c_nn.mpr (!2);have r2:=Qd.rt_hi (R:=R);generalize Qd.of R s.a s.b=p at*
 generalize Qd.of R s.c s.e=q at*
 have q1:q<=1:=by have:=Qd.mul_nn E0 (bL hp);have:=Qd.mul_nn (show 0<=(s.b:Qd R) - 1 by grind) (bL hq);grind
 have p10:p<=10:=by have:=Qd.mul_nn A0 (bL hq);have:=Qd.mul_nn (show 0<=(s.c:Qd R) - 1 by grind) (bL hp);grind
 have key:∀(K:Int),0<=K->∀(x y:Qd R)(m:Int),0<=x->0<=y->x*y=p*q->(K:Qd R)*x<=(m:Qd R)->0<=m->∀j:Int,0<=j->y<=(j:Qd R)->K<=m*j*N:=λK K0 x y m x0 y0 exy hm m0 j j0 hj=>by have K0':(0:Qd R)<=(K:Qd R):=Qd.c_nn.mpr K0;have m0':(0:Qd R)<=(m:Qd R):=Qd.c_nn.mpr m0;have g1:=Qd.mul_nn K0' (show 0<=p*q*(N:Qd R) - 1 by grind);have g2:=Qd.mul_nn (Qd.mul_nn (show 0<=(m:Qd R) - (K:Qd R)*x by grind) y0) N0;have g3:=Qd.mul_nn (Qd.mul_nn m0' (show 0<=(j:Qd R) - y by grind)) N0;refine(Qd.c_le (R:=R)).mp ?_;rw[Qd.c_mul,Qd.c_mul];rw[<-exy]at g1;grind
 have one':=Qd.c_one (R:=R);have ten:((10:Int):Qd R)=10:=Qd.ext' (show((10:Int):Rat)=((10:Nat):Rat) by grind) rfl;have k1:=key s.b (!2) q p 1 (bL hq) (bL hp) (by grind) (by rw[one'];have:=Qd.mul_nn E0 (bL hp);grind) ⋯ 10 ⋯ (by rw[ten];exact p10);have k2:=key (-s.e) (!2) p q 1 (bL hp) (bL hq) (by grind) (by rw[one'];have:=Qd.mul_nn (show 0<=(s.b:Qd R) by grind) (bL hq);grind) ⋯ 1 ⋯ (by rw[one'];exact q1);have k3:=key s.c (!2) p q 10 (bL hp) (bL hq) (by grind) (by rw[ten];have:=Qd.mul_nn A0 (bL hq);grind) ⋯ 1 ⋯ (by rw[one'];exact q1);have k4:=key (-s.a) (!2) q p 10 (bL hq) (bL hp) (by grind) (by rw[ten];have:=Qd.mul_nn (show 0<=(s.c:Qd R) by grind) (bL hp);grind) ⋯ 10 ⋯ (by rw[ten];exact p10)
 lia
theorem Qd.piece{R:Rd}{w h size room p q share pw ph:Qd R}(hw:0<w)(hh:0<h)(hs:0<size)(hr:room*(4*size)<=w*h)(hp:0<p)(hq:0<q)(hpq:p*q<room)(hS:0<share)(lo:share*(2*p)<=w)(hi:w<=2*share*(2*p))(e1:pw=share*p)(e2:ph*share=size*q):(0<pw/\pw<w)/\0<ph/\ph<h:=by
 have a1:0<pw:=by rw[e1];exact Qd.mul_ps hS hp
 have a2:pw<w:=by rw[e1]at*;grind
 have a3:0<ph:=by refine a8 λz=>?_;have:=Qd.mul_nn (show 0<=-ph by grind) (bL hS);have:=Qd.mul_ps hs hq;grind
 refine⟨⟨a1,a2⟩,a3,?_⟩;refine Qd.lt_of_mul (c:=4*pw) (by grind) ?_;have g1:=Qd.mul_ps hs (show 0<room - p*q by grind);have g2:=Qd.mul_nn (bL hh) (show 0<=4*pw - w by grind);have g3:ph*(4*pw)=4*(size*q)*p:=by rw[e1];grind
 rw[g3];grind
def tmV(d:Int)(s t:Sd):Sd:=⟨lA (s.x*t.x+d*s.y*t.y) (s.x*t.y+s.y*t.x) (s.z*t.z),lB (s.x*t.x+d*s.y*t.y) (s.x*t.y+s.y*t.x) (s.z*t.z),lN (s.x*t.x+d*s.y*t.y) (s.x*t.y+s.y*t.x) (s.z*t.z)⟩
def ivV(d:Int)(t:Sd):Sd:=⟨lA (t.z*t.x) (-t.z*t.y) (t.x*t.x - d*t.y*t.y),lB (t.z*t.x) (-t.z*t.y) (t.x*t.x - d*t.y*t.y),lN (t.z*t.x) (-t.z*t.y) (t.x*t.x - d*t.y*t.y)⟩
def Lw(s:Sd):Prop:=1<=s.z/\g3 s.x s.y s.z=1
theorem Qd.lw_low{b n:Int}(hn:n≠0):Lw ⟨lA a b n,lB a b n,lN a b n⟩:=⟨l_n hn,xj hn⟩
theorem Qd.tm_lw{s:Sd}(hs:s.z≠0)(ht:t.z≠0):Lw (tmV d s t):=Qd.lw_low (aI hs ht)
theorem Qd.tm_v{R:Rd}{s:Sd}(hs:s.z≠0)(ht:t.z≠0):Sdv R (tmV R.d s t)=Sdv R s*Sdv R t:=Qd.v_timed hs ht
theorem Qd.of_inj{R:Rd}{x:Int}(h:Qd.of R x y=Qd.of R x' y'):x=x'/\y=y':=by have h1:(x:Rat)=(x':Rat):=congrArg Qd.p h;have h2:(y:Rat)=(y':Rat):=congrArg Qd.q h;exact⟨by exact_mod_cast h1,by exact_mod_cast h2⟩
theorem Qd.of_c{R:Rd}(x y n:Int):Qd.of R x y*(n:Qd R)=Qd.of R (x*n) (y*n):=Qd.ext' (show(x:Rat)*n+R.d*((y:Rat)*0)=((x*n:Int):Rat) by grind) (show(x:Rat)*0+(y:Rat)*n=((y*n:Int):Rat) by grind)
theorem Qd.low_bd{R:Rd}{s:Sd}{Z:Int}(hs:Lw s)(hZ:Z≠0)(h:Sdv R s*(Z:Qd R)=Qd.of R X Y):(∀{k},Bd k X->Bd k s.x)/\(∀{k},Bd k Y->Bd k s.y)/\s.z∣Z/\s.x*Z=X*s.z/\s.y*Z=Y*s.z:=by
 have z0:s.z≠0:=by have:=hs.1;lia
 have e:Qd.of R (s.x*Z) (s.y*Z)=Qd.of R (X*s.z) (Y*s.z):=by rw[<-Qd.of_c,<-Qd.of_c,<-h,<-Qd.v_mul z0];grind
 obtain⟨e1,e2⟩:=Qd.of_inj e;have dv:=Az hs.2 e1 e2;obtain⟨c,rfl⟩:=dv;have c0:c≠0:=λz=>hZ (by rw[z,cK]);have x1:X=s.x*c:=aK z0 (by rw[<-e1];grind);have y1:Y=s.y*c:=aK z0 (by rw[<-e2];grind);have one:∀{k:Nat}{t:Int},Bd k (t*c)->Bd k t:=λh=>Kg (by rw[av]at h;exact h) c0;exact⟨λh=>one (by rw[<-x1];exact h),λh=>one (by rw[<-y1];exact h),Int.dvd_mul_right _ _,e1,e2⟩
theorem Qd.iv_v{R:Rd}(ht:t.z≠0)(hN:t.x*t.x - R.d*t.y*t.y≠0):Sdv R (ivV R.d t)*Sdv R t=1:=by
 unfold ivV;rw[Qd.v_low hN];refine Qd.can (Qd.c_ne (R:=R) (aI hN ht)) ?_;rw[Qd.c_mul,show(1:Qd R)*(((t.x*t.x - R.d*t.y*t.y:Int):Qd R)*(t.z:Qd R))=Qd.of R (t.z*(t.x*t.x - R.d*t.y*t.y)) 0 by rw[Qd.of_0,Qd.c_mul];grind];have h1:=Qd.v_mul2 (R:=R) (a:=t.z*t.x) (b:=-t.z*t.y) hN;have h2:=Qd.v_mul (R:=R) ht;have h3:=Qd.of_mul (R:=R) (t.z*t.x) (-t.z*t.y) t.x t.y;rw[<-h1,<-h2]at h3;rw[show Qd.of R (t.z*(t.x*t.x - R.d*t.y*t.y)) 0=Qd.of R (t.z*t.x*t.x+R.d*(-t.z*t.y)*t.y) (t.z*t.x*t.y+-t.z*t.y*t.x) from ?_,<-h3]
 .grind
 .rw[show t.z*(t.x*t.x - R.d*t.y*t.y)=t.z*t.x*t.x+R.d*(-t.z*t.y)*t.y by grind,show t.z*t.x*t.y+-t.z*t.y*t.x=0 by grind]
theorem Qd.iv_lw{R:Rd}(hN:t.x*t.x - R.d*t.y*t.y≠0):Lw (ivV R.d t):=Qd.lw_low hN
def ptV(d:Int)(s t:Sd):Sd:=tmV d s (ivV d t)
theorem Qd.pt_v{R:Rd}{s:Sd}(hs:s.z≠0)(ht:t.z≠0)(hN:t.x*t.x - R.d*t.y*t.y≠0):Sdv R (ptV R.d s t)*Sdv R t=Sdv R s:=by unfold ptV;rw[Qd.tm_v hs (by have:=(Qd.iv_lw (R:=R) hN).1;lia)];have:=Qd.iv_v ht hN;grind
theorem Qd.pt_lw{R:Rd}{s:Sd}(hs:s.z≠0)(hN:t.x*t.x - R.d*t.y*t.y≠0):Lw (ptV R.d s t):=Qd.tm_lw hs (by have:=(Qd.iv_lw (R:=R) hN).1;lia)
theorem Qd.ne0{R:Rd}(h:sgn R.d t.x t.y=1):¬ (t.x=0/\t.y=0):=λ⟨h1,h2⟩=>by rw[h1,h2,zO]at h;exact absurd h ⋯
theorem Qd.nN{R:Rd}(h:sgn R.d t.x t.y=1):t.x*t.x - R.d*t.y*t.y≠0:=λe=>Qd.ne0 h (wY R.h e)
variable{kz:Nat}
theorem Qd.inv_rep{R:Rd}{a:Qd R}{Z:Int}(e:a*(Z:Qd R)=Qd.of R X Y)(n:¬ (X=0/\Y=0))(bx:Bd kx X)(bY:Bd kx Y)(bz:Bd kz Z):∃u v t:Int,1<=t/\Qd.of R u v*a=(t:Qd R)/\Bd (kx+kz) u/\Bd (kx+kz) v/\Bd (2*kx+8) t:=by
 have hN:X*X - R.d*Y*Y≠0:=λz=>n (wY R.h z);have hd:Bd 7 R.d:=zE (B:=99) (by have:=R.h.lo;lia) R.h.hi ⋯;have bN:Bd (2*kx+8) (X*X - R.d*Y*Y):=(Bd.sub (k:=2*kx+7) ((bx.mul bx).mono (!2)) ((((hd.mul bY).mul bY)).mono (!2))).mono (!2);have key:Qd.of R (Z*X) (-(Z*Y))*a=((X*X - R.d*Y*Y:Int):Qd R):=by have h1:=Qd.of_mul (R:=R) X (-Y) X Y;rw[<-e,show X*Y+-Y*X=0 by grind,Qd.of_0,show X*X+R.d*-Y*Y=X*X - R.d*Y*Y by grind]at h1;rw[<-h1,show Qd.of R (Z*X) (-(Z*Y))=Qd.of R X (-Y)*(Z:Qd R) by rw[Qd.of_c];congr 1<;>grind];grind
 have b1:Bd (kx+kz) (Z*X):=(bz.mul bx).mono (!2);have b2:Bd (kx+kz) (Z*Y):=(bz.mul bY).mono (!2);by_cases c:0<X*X - R.d*Y*Y
 .exact⟨_,_,_,by lia,key,b1,b2.neg,bN⟩
 .refine⟨-(Z*X),Z*Y,-(X*X - R.d*Y*Y),by lia,?_,b1.neg,b2,bN.neg⟩;have e1:Qd.of R (-(Z*X)) (Z*Y)=-Qd.of R (Z*X) (-(Z*Y)):=Qd.ext' (show((-(Z*X):Int):Rat)=-((Z*X:Int):Rat) by grind) (show((Z*Y:Int):Rat)=-((-(Z*Y):Int):Rat) by grind);have e2:((-(X*X - R.d*Y*Y):Int):Qd R)=-((X*X - R.d*Y*Y:Int):Qd R):=Qd.ext' (show((-(X*X - R.d*Y*Y):Int):Rat)=-((X*X - R.d*Y*Y:Int):Rat) by grind) (show(0:Rat)=-0 by grind);rw[e1,e2,<-key];grind
theorem Qd.of_ps{R:Rd}{x:Int}(h:sgn R.d x y=1):0<Qd.of R x y:=by rw[Qd.ps_iff,Qd.of_sg,h];decide
theorem Qd.st_det{d:Int}:∀k,(st d k).det=-1
 |0=>by show b4.det=-1;decide
 |k+1=>by rw[AQ,GS];exact Qd.st_det k
set_option tactic.hygienic true in
theorem Qd.base_next{R:Rd}{N:Int}{k:Nat}(N1:1<=N)(bN:Bd kN N)(h:1<=Qd.of R (st R.d k).a (st R.d k).b*Qd.of R (st R.d k).c (st R.d k).e*(N:Qd R)):GB R.d (kN+7) (st R.d (k+1)):=by
 have g:=tU R.h k;have g':=tU R.h (k+1);obtain⟨h1,h2,h3,h4⟩:=Qd.base_bd (Co R.d k) (Qd.st_det k) (Qd.of_ps g.p1) (Qd.of_ps g.q1) N1 h;obtain⟨s1,s2,s3,s4⟩:=Co R.d k;have e:st R.d (k+1)=(st R.d k).nx R.d:=rfl;have bb:∀t:Int,t.natAbs<=128*N.natAbs->Bd (kN+7) t:=λt ht=>by
  unfold Bd at*
  rw[Nat.pow_add]
  lia
 rw[e]at g' ⊢;unfold B4.nx at*
 split at g'
 .rename_i c;rw[iU c];exact⟨g'.det,g'.p1,g'.q1,bb _ (by dsimp only;lia),bb _ (by dsimp only;lia),bb _ (!2),bb _ (!2)⟩
 .rename_i c;rw[iV c];exact⟨g'.det,g'.p1,g'.q1,bb _ (!2),bb _ (!2),bb _ (by dsimp only;lia),bb _ (by dsimp only;lia)⟩
structure Pie(R:Rd)(w h:Sd)(G n:Int)(ka ks kt:Nat)(pw ph:Sd):Prop where
 lw:Lw pw
 lh:Lw ph
 uw:0<Sdv R pw
 uh:0<Sdv R ph
 tw:Sdv R pw<Sdv R w
 th:Sdv R ph<Sdv R h
 ex:∃σ τ a b c e:Int,1<=σ/\1<=τ/\((Bd ks σ/\τ=1)\/(σ=1/\Bd kt τ))/\Bd ka a/\Bd ka b/\Bd ka c/\Bd ka e/\Sdv R pw*(τ:Qd R)=Qd.of R (σ*a) (σ*b)/\Sdv R ph*((n*σ:Int):Qd R)=Qd.of R (G.natAbs*τ*c) (G.natAbs*τ*e)/\(c*b - a*e)*G.natAbs=G
theorem Qd.ps_mul{R:Rd}{a c:Qd R}(hc:0<c)(h:0<a*c):0<a:=Qd.lt_of_mul (bL hc) (by rw[show(0:Qd R)*c=0 by grind];exact h)
theorem Qd.hd7(R:Rd):Bd 7 R.d:=zE (B:=99) (by have:=R.h.lo;lia) R.h.hi ⋯
variable{G:Int}
theorem Qd.v_c{R:Rd}{n:Int}(n1:1<=n):Sdv R ⟨G,0,n⟩*(n:Qd R)=(G:Qd R):=by have:=Qd.v_mul (R:=R) (s:=⟨G,0,n⟩) (show n≠0 by lia);exact this
theorem Qd.v_1{R:Rd}(a b:Int):Sdv R ⟨a,b,1⟩=Qd.of R a b:=by have:=Qd.v_mul (R:=R) (s:=⟨a,b,1⟩) (by show(1:Int)≠0;decide);rw[show(((⟨a,b,1⟩:Sd).z:Int):Qd R)=1 from Qd.c_one]at this;rw[<-this];grind
theorem Qd.tmS_v{R:Rd}{s:Sd}(hz:s.z≠0):Sdv R (tmS m s)=(m:Qd R)*Sdv R s:=by unfold tmS;rw[Qd.v_low hz];refine Qd.can (Qd.c_ne (R:=R) hz) ?_;rw[Qd.v_mul2 hz,show(m:Qd R)*Sdv R s*(s.z:Qd R)=Sdv R s*(s.z:Qd R)*(m:Qd R) by grind,Qd.v_mul hz,Qd.of_c];congr 1<;>grind
theorem Qd.tmS_lw{s:Sd}(hz:s.z≠0):Lw (tmS m s):=Qd.lw_low hz
theorem Qd.four{R:Rd}:((4:Int):Qd R)=4:=Qd.ext' (show((4:Int):Rat)=((4:Nat):Rat) by grind) rfl
theorem Qd.two{R:Rd}:((2:Int):Qd R)=2:=Qd.ext' (show((2:Int):Rat)=((2:Nat):Rat) by grind) rfl
variable{jz:Nat}
theorem Qd.tm_bd{R:Rd}{s:Sd}{k j:Nat}(bx:Bd k s.x)(bY:Bd k s.y)(bz:Bd kz s.z)(cx:Bd j t.x)(cY:Bd j t.y)(cz:Bd jz t.z):Bd (k+j+8) (tmV R.d s t).x/\Bd (k+j+8) (tmV R.d s t).y/\Bd (kz+jz) (tmV R.d s t).z :=
 ⟨((Bd.add (k:=k+j+7) ((bx.mul cx).mono (!2)) ((((Qd.hd7 R).mul bY).mul cY).mono (!2))).mono (!2)).fdiv _,((Bd.add (k:=k+j) (bx.mul cY) (bY.mul cx)).mono (!2)).fdiv _,(bz.mul cz).fdiv _⟩
theorem Qd.tmS_bd{s:Sd}{j k:Nat}(bm:Bd j m)(bx:Bd k s.x)(bY:Bd k s.y)(bz:Bd kz s.z):Bd (j+k) (tmS m s).x/\Bd (j+k) (tmS m s).y/\Bd kz (tmS m s).z:=⟨(bm.mul bx).fdiv _,(bm.mul bY).fdiv _,bz.fdiv _⟩
theorem Qd.v_ne{R:Rd}{s:Sd}(h:0<Sdv R s):¬ (s.x=0/\s.y=0):=λ⟨h1,h2⟩=>by have:Sdv R s=0:=Qd.ext' (show Rat.divInt s.x s.z=((0:Nat):Rat) by rw[h1];simp) (show Rat.divInt s.y s.z=0 by rw[h2];simp);rw[this]at h;grind
theorem Qd.v_lt{R:Rd}{s:Sd}(hs:1<=s.z)(ht:1<=t.z):0<sgn R.d (t.x*s.z - s.x*t.z) (t.y*s.z - s.y*t.z)↔Sdv R s<Sdv R t:=by have n1:=Qd.z_ne' (show 0<s.z by lia);have n2:=Qd.z_ne' (show 0<t.z by lia);have e:Sdv R t - Sdv R s=⟨Rat.divInt (t.x*s.z - s.x*t.z) (t.z*s.z),Rat.divInt (t.y*s.z - s.y*t.z) (t.z*s.z)⟩:=Qd.ext' (show Rat.divInt t.x t.z - Rat.divInt s.x s.z=_ by simp only[bC];grind) (show Rat.divInt t.y t.z - Rat.divInt s.y s.z=_ by simp only[bC];grind);rw[Qd.q_lt,e,Qd.sg_of (aM (!2) (!2))]
variable{k0 kg kn:Nat}
theorem Qd.rm{R:Rd}{n:Int}(lww:Lw w)(lwh:Lw h)(uw:0<Sdv R w)(uh:0<Sdv R h)(bx:Bd k0 w.x)(bY:Bd k0 w.y)(bz:Bd kz w.z)(cx:Bd k0 h.x)(cY:Bd k0 h.y)(cz:Bd kz h.z)(G1:1<=G)(n1:1<=n)(bG:Bd kg G)(bn:Bd kn n): (tmS 4 ⟨G,0,n⟩).x*(tmS 4 ⟨G,0,n⟩).x - R.d*(tmS 4 ⟨G,0,n⟩).y*(tmS 4 ⟨G,0,n⟩).y≠0/\¬ ((tmS 4 ⟨G,0,n⟩).x=0/\(tmS 4 ⟨G,0,n⟩).y=0) /\ Lw (ptV R.d (tmV R.d w h) (tmS 4 ⟨G,0,n⟩))/\sgn R.d (ptV R.d (tmV R.d w h) (tmS 4 ⟨G,0,n⟩)).x (ptV R.d (tmV R.d w h) (tmS 4 ⟨G,0,n⟩)).y=1/\Bd (2*k0+8+kn) (ptV R.d (tmV R.d w h) (tmS 4 ⟨G,0,n⟩)).x/\Bd (2*k0+8+kn) (ptV R.d (tmV R.d w h) (tmS 4 ⟨G,0,n⟩)).y/\Bd (2*kz+(kg+3)) (ptV R.d (tmV R.d w h) (tmS 4 ⟨G,0,n⟩)).z /\ Sdv R (ptV R.d (tmV R.d w h) (tmS 4 ⟨G,0,n⟩))*(4*Sdv R ⟨G,0,n⟩)=Sdv R w*Sdv R h /\ ∃u v t:Int,1<=t/\Bd (kg+3+(2*k0+8)+2*kz) u/\Bd (kg+3+(2*k0+8)+2*kz) v/\Bd (kn+(2*(2*k0+8)+8)) t/\Qd.of R u v*Sdv R (ptV R.d (tmV R.d w h) (tmS 4 ⟨G,0,n⟩))=(t:Qd R):=by
 have n0:(⟨G,0,n⟩:Sd).z≠0:=by show n≠0;lia
 have wz:w.z≠0:=by have:=lww.1;lia
 have hz:h.z≠0:=by have:=lwh.1;lia
 have la:Lw (tmV R.d w h):=Qd.tm_lw wz hz;have va:Sdv R (tmV R.d w h)=Sdv R w*Sdv R h:=Qd.tm_v wz hz;obtain⟨ax,aY,az⟩:=Qd.tm_bd (R:=R) bx bY bz cx cY cz;have lf:Lw (tmS 4 ⟨G,0,n⟩):=Qd.tmS_lw n0;have vf:Sdv R (tmS 4 ⟨G,0,n⟩)=4*Sdv R ⟨G,0,n⟩:=by rw[Qd.tmS_v n0,Qd.four]
 have vc:=Qd.v_c (R:=R) (G:=G) n1;have nq:=Qd.c_ps (R:=R) n1;have Gq:=Qd.c_ps (R:=R) G1;generalize tmS 4 ⟨G,0,n⟩=f at*
 generalize tmV R.d w h=a at*
 have sz0:0<Sdv R ⟨G,0,n⟩:=Qd.ps_mul nq (by rw[vc];exact Gq);generalize Sdv R ⟨G,0,n⟩=sz at*
 have f0:0<Sdv R f:=by rw[vf];grind
 have f1:=(Qd.v_ps lf.1).mp f0;have fN:=Qd.nN (R:=R) f1;have a0:0<Sdv R a:=by rw[va];exact Qd.mul_ps uw uh
 have az0:a.z≠0:=by have:=la.1;lia
 have lo:=Qd.pt_lw (R:=R) (s:=a) (t:=f) az0 fN;have vo:=Qd.pt_v (R:=R) (s:=a) (t:=f) az0 (by have:=lf.1;lia) fN;generalize ptV R.d a f=o at*
 have o0:0<Sdv R o:=Qd.ps_mul f0 (by rw[vo];exact a0);have rep:Sdv R o*((a.z*(4*G):Int):Qd R)=Qd.of R (a.x*n) (a.y*n):=by rw[<-Qd.of_c,<-Qd.v_mul az0,Qd.c_mul,Qd.c_mul,Qd.four,<-vc,<-vo,vf];grind
 obtain⟨l1,l2,l3,_⟩:=Qd.low_bd lo (aI az0 (!2)) rep;obtain⟨u0,v0,t0,t1,e0,b1,b2,b3⟩:=Qd.inv_rep (Qd.v_mul (R:=R) az0) (Qd.v_ne a0) ax aY az;have b4:Bd (kg+3) (4*G):=((zr 4).mul bG).mono (by show 3+kg<=kg+3;lia);refine⟨fN,Qd.v_ne f0,lo,(Qd.v_ps lo.1).mp o0,(l1 (ax.mul bn)).mono (!2),(l2 (aY.mul bn)).mono (!2),(Bd.dvd_le (az.mul b4) (aM (by have:=la.1;lia) (!2)) l3).mono (!2),by rw[<-vf,vo,va],?_⟩;refine⟨u0*(4*G),v0*(4*G),t0*n,aM (!2) (!2),(b1.mul b4).mono (!2),(b2.mul b4).mono (!2),(b3.mul bn).mono (!2),?_⟩;rw[<-Qd.of_c,Qd.c_mul,Qd.c_mul,Qd.four,<-e0,<-vc,<-vo,vf];grind
variable{kb:Nat}
theorem Qd.shr{R:Rd}{b:Int}(lww:Lw w)(uw:0<Sdv R w)(bx:Bd k0 w.x)(bY:Bd k0 w.y)(bz:Bd kz w.z)(ba:Bd kb a)(bb:Bd kb b)(up:0<Qd.of R a b): (tmS 2 ⟨a,b,1⟩).x*(tmS 2 ⟨a,b,1⟩).x - R.d*(tmS 2 ⟨a,b,1⟩).y*(tmS 2 ⟨a,b,1⟩).y≠0/\¬ ((tmS 2 ⟨a,b,1⟩).x=0/\(tmS 2 ⟨a,b,1⟩).y=0) /\ Lw (ptV R.d w (tmS 2 ⟨a,b,1⟩))/\sgn R.d (ptV R.d w (tmS 2 ⟨a,b,1⟩)).x (ptV R.d w (tmS 2 ⟨a,b,1⟩)).y=1/\Bd (k0+kb+9) (ptV R.d w (tmS 2 ⟨a,b,1⟩)).x/\Bd (k0+kb+9) (ptV R.d w (tmS 2 ⟨a,b,1⟩)).y/\Bd (kz+(2*kb+10)) (ptV R.d w (tmS 2 ⟨a,b,1⟩)).z /\ Sdv R (ptV R.d w (tmS 2 ⟨a,b,1⟩))*(2*Qd.of R a b)=Sdv R w /\ ∃u v t:Int,1<=t/\Bd (kb+k0+kz+10) u/\Bd (kb+k0+kz+10) v/\Bd (2*k0+8) t/\Qd.of R u v*Sdv R (ptV R.d w (tmS 2 ⟨a,b,1⟩))=(t:Qd R):=by
 have n0:(⟨a,b,1⟩:Sd).z≠0:=by show(1:Int)≠0;decide
 have wz:w.z≠0:=by have:=lww.1;lia
 have lf:Lw (tmS 2 ⟨a,b,1⟩):=Qd.tmS_lw n0;have vf:Sdv R (tmS 2 ⟨a,b,1⟩)=2*Qd.of R a b:=by rw[Qd.tmS_v n0,Qd.two,Qd.v_1]
 generalize tmS 2 ⟨a,b,1⟩=f at*
 have f0:0<Sdv R f:=by rw[vf];grind
 have f1:=(Qd.v_ps lf.1).mp f0;have fN:=Qd.nN (R:=R) f1;have lo:=Qd.pt_lw (R:=R) (s:=w) (t:=f) wz fN;have vo:=Qd.pt_v (R:=R) (s:=w) (t:=f) wz (by have:=lf.1;lia) fN;generalize ptV R.d w f=o at*
 have o0:0<Sdv R o:=Qd.ps_mul f0 (by rw[vo];exact uw);have ab0:¬ (a=0/\b=0):=λ⟨h1,h2⟩=>by
  rw[h1,h2,Qd.ps_iff,Qd.of_sg,zO]at up
  lia
 have one1:Bd 1 (1:Int):=(zr 1).mono ⋯;obtain⟨a0,a1,s0,s1,es,c1,c2,c3⟩:=Qd.inv_rep (a:=Qd.of R a b) (X:=a) (Y:=b) (Z:=1) (kx:=kb) (kz:=1) (by rw[Qd.c_one];grind) ab0 ba bb one1;have rep:Sdv R o*((w.z*(2*s0):Int):Qd R)=Qd.of R (w.x*a0+R.d*w.y*a1) (w.x*a1+w.y*a0):=by rw[<-Qd.of_mul,<-Qd.v_mul wz,Qd.c_mul,Qd.c_mul,Qd.two,<-es,<-vo,vf];grind
 obtain⟨l1,l2,l3,_⟩:=Qd.low_bd lo (aI wz (!2)) rep;have r1:Bd (k0+kb+9) (w.x*a0+R.d*w.y*a1):=(Bd.add (k:=k0+kb+8) ((bx.mul c1).mono (!2)) ((((Qd.hd7 R).mul bY).mul c2).mono (!2))).mono (!2);have r2:Bd (k0+kb+9) (w.x*a1+w.y*a0):=(Bd.add (k:=k0+kb+1) ((bx.mul c2).mono (!2)) ((bY.mul c1).mono (!2))).mono (!2);have b2:Bd (2*kb+10) (2*s0):=((zr 2).mul c3).mono (by show 2+(2*kb+8)<=2*kb+10;lia);obtain⟨u0,v0,t0,t1,e0,d1,d2,d3⟩:=Qd.inv_rep (Qd.v_mul (R:=R) wz) (Qd.v_ne uw) bx bY bz;refine⟨fN,Qd.v_ne f0,lo,(Qd.v_ps lo.1).mp o0,l1 r1,l2 r2,Bd.dvd_le (bz.mul b2) (aM (by have:=lww.1;lia) (!2)) l3,by rw[<-vf,vo],?_⟩;refine⟨(a*u0+R.d*b*v0)*2,(a*v0+b*u0)*2,t0,t1,?_,?_,d3,?_⟩
 .exact(((Bd.add (k:=kb+k0+kz+7) ((ba.mul d1).mono (!2)) ((((Qd.hd7 R).mul bb).mul d2).mono (!2)))).mul (zr 2)).mono (by show _+2<=_;lia)
 .exact(((Bd.add (k:=kb+k0+kz) ((ba.mul d2).mono (!2)) ((bb.mul d1).mono (!2)))).mul (zr 2)).mono (by show _+2<=_;lia)
 .rw[<-Qd.of_c,<-Qd.of_mul,Qd.two,<-e0,<-vo,vf];grind
theorem Qd.pw_ps{R:Rd}{one:Qd R}{s:Sd}{k:Nat}(p:Qd.Pw one s k ku)(h:0<one):0<Sdv R s:=by have:=p.hi;grind
theorem Qd.room_N{R:Rd}{one:Qd R}{s:Sd}{k:Nat}(p:Qd.Pw one s k ku):∃N:Int,1<=N/\Bd (ku+5) N/\1<=Sdv R s*(N:Qd R):=by
 rcases p.sh with⟨n,rfl,n1,_⟩|⟨m,rfl,m1,bm⟩
 .refine⟨1,by decide,(zr 1).mono (by show 1<=ku+5;lia),?_⟩;rw[Qd.v_1,Qd.of_0,Qd.c_one];have:(1:Qd R)<=(n:Qd R):=by rw[<-Qd.c_one];exact Qd.c_le.mpr n1
  grind
 .refine⟨m,m1,bm,?_⟩;rw[Qd.v_c m1,Qd.c_one];exact fE _
theorem Qd.pw_st{R:Rd}{one:Qd R}{s:Sd}{k:Nat}(p:Qd.Pw one s k ku):∃σ τ:Int,s=⟨σ,0,τ⟩/\1<=σ/\1<=τ/\((Bd (k+4) σ/\τ=1)\/(σ=1/\Bd (ku+5) τ)):=by
 rcases p.sh with⟨n,rfl,n1,bn⟩|⟨m,rfl,m1,bm⟩
 .exact⟨n,1,rfl,n1,by decide,.inl ⟨bn,rfl⟩⟩
 .exact⟨1,m,rfl,by decide,m1,.inr ⟨rfl,bm⟩⟩
theorem Qd.sh_N{R:Rd}{σ τ:Int}(s1:1<=σ):(⟨σ,0,τ⟩:Sd).x*(⟨σ,0,τ⟩:Sd).x - R.d*(⟨σ,0,τ⟩:Sd).y*(⟨σ,0,τ⟩:Sd).y≠0:=by
 show σ*σ - R.d*0*0≠0;have:=aM (show 0<σ by lia) (show 0<σ by lia);rw[cK]
 lia
variable{k1 k2:Nat}
theorem Qd.pie{R:Rd}{room share:Sd}{g:Int}{n b c e:Int}{one1 one2:Qd R}{kv:Nat}(uw:0<Sdv R w)(uh:0<Sdv R h)(G1:1<=G)(n1:1<=n)(e1:one1*(4*Sdv R ⟨G,0,n⟩)=Sdv R w*Sdv R h)(p1:Qd.Pw one1 room k1 ku)(hp:0<Qd.of R a b)(hq:0<Qd.of R c e)(lt:Qd.of R a b*Qd.of R c e<Sdv R room)(e2:one2*(2*Qd.of R a b)=Sdv R w)(p2:Qd.Pw one2 share k2 kv)(ba:Bd kb a)(bb:Bd kb b)(bc:Bd kb c)(be:Bd kb e)(eG:(G:Int)=g.natAbs)(dt:(c*b - a*e)*g.natAbs=g): Pie R w h g n kb (k2+4) (kv+5) (tmV R.d share ⟨a,b,1⟩) (tmV R.d (ptV R.d ⟨G,0,n⟩ share) ⟨c,e,1⟩):=by
 have z1:∀x y:Int,(⟨x,y,1⟩:Sd).z≠0:=λx y=>by show(1:Int)≠0;decide
 have n0:(⟨G,0,n⟩:Sd).z≠0:=by show n≠0;lia
 have nq:=Qd.c_ps (R:=R) n1;have Gq:=Qd.c_ps (R:=R) G1;have vc:=Qd.v_c (R:=R) (G:=G) n1;have sz0:0<Sdv R ⟨G,0,n⟩:=Qd.ps_mul nq (by rw[vc];exact Gq);have o2:0<one2:=Qd.ps_mul (c:=2*Qd.of R a b) (by grind) (by rw[e2];exact uw);have s0:=Qd.pw_ps p2 o2;obtain⟨σ,τ,es,g1,t1,bst⟩:=Qd.pw_st p2;have N2:share.x*share.x - R.d*share.y*share.y≠0:=by rw[es];exact Qd.sh_N g1
 have sz1:share.z≠0:=by rw[es];show τ≠0;lia
 have lq:=Qd.pt_lw (R:=R) (s:=⟨G,0,n⟩) (t:=share) n0 N2;have vq:=Qd.pt_v (R:=R) (s:=⟨G,0,n⟩) (t:=share) n0 sz1 N2;have lqz:(ptV R.d ⟨G,0,n⟩ share).z≠0:=by have:=lq.1;lia
 have v1:=Qd.tm_v (R:=R) sz1 (z1 a b);have v2:=Qd.tm_v (R:=R) lqz (z1 c e);have l1:=Qd.tm_lw (d:=R.d) sz1 (z1 a b);have l2:=Qd.tm_lw (d:=R.d) lqz (z1 c e);rw[Qd.v_1]at v1 v2;have vs:Sdv R share*(τ:Qd R)=(σ:Qd R):=by rw[es];exact Qd.v_c t1
 have q1:=p1.lo;have q2:=p2.lo;have q3:=p2.hi;obtain⟨⟨r1,r2⟩,r3,r4⟩:=Qd.piece (pw:=Sdv R (tmV R.d share ⟨a,b,1⟩)) (ph:=Sdv R (tmV R.d (ptV R.d ⟨G,0,n⟩ share) ⟨c,e,1⟩)) (room:=Sdv R room) uw uh sz0 (by rw[<-e1];have:=Qd.mul_nn (show 0<=one1 - Sdv R room by grind) (show 0<=4*Sdv R ⟨G,0,n⟩ by grind);grind) hp hq lt s0 (by rw[<-e2];have:=Qd.mul_nn (show 0<=one2 - Sdv R share by grind) (show 0<=2*Qd.of R a b by grind);grind) (by rw[<-e2];have:=Qd.mul_nn (show 0<=2*Sdv R share - one2 by grind) (show 0<=2*Qd.of R a b by grind);grind) v1 (by rw[v2];grind);refine⟨l1,l2,r1,r3,r2,r4,σ,τ,a,b,c,e,g1,t1,bst,ba,bb,bc,be,?_,?_,dt⟩
 .rw[v1,show σ*a=a*σ by grind,show σ*b=b*σ by grind,<-Qd.of_c,<-vs];grind
 .rw[v2,<-eG,show G*τ*c=c*(G*τ) by grind,show G*τ*e=e*(G*τ) by grind,<-Qd.of_c,Qd.c_mul,Qd.c_mul,<-vs,<-vc,<-vq];grind
def tde(n:Nat)(pw ph:Sd):DL:=[(.cut false 0 pw,0,0),(.cut true (n:Int) ph,n,n),(.turn ((n+2:Nat):Int),n+2,n+2)]
def tdB(w h pw ph:Sd):List Bo:=[⟨tkS w pw,h⟩,⟨pw,tkS h ph⟩,⟨ph,pw⟩]
theorem KZ(n:Nat):(List.range (n+1)).filter (λk:Nat=>decide ((k:Int)≠0))=List.range' 1 n:=by
 rw[List.range_eq_range',show List.range' 0 (n+1)=0::List.range' 1 n from rfl,fA (!1)];refine gC.mpr λa ha=>?_;have:=(iG.mp ha)
 obtain⟨i,_,e⟩:=this;exact jg (!2)
theorem Je{l:List Nat}{n:Nat}(e:m=(n:Int))(h:∀k∈l,k≠n):l.filter (λk:Nat=>decide ((k:Int)≠m))=l:=gC.mpr λa ha=>jg (by have:=h a ha;lia)
theorem td1(b:Bo)(bs:List Bo)(pw ph:Sd):((As.sb (b::bs)).next (.cut false 0 pw,0,0)).k=bs.length+3/\((As.sb (b::bs)).next (.cut false 0 pw,0,0)).ns=List.range' 1 bs.length++[bs.length+1,bs.length+2]/\((As.sb (b::bs)).next (.cut false 0 pw,0,0)).g (bs.length+1)=⟨pw,b.h⟩/\((As.sb (b::bs)).next (.cut false 0 pw,0,0)).g (bs.length+2)=⟨tkS b.w pw,b.h⟩/\∀i,i<bs.length->((As.sb (b::bs)).next (.cut false 0 pw,0,0)).g (1+i)=bs[i]?.getD ⟨⟨0,0,1⟩,⟨0,0,1⟩⟩:=by
 refine⟨rfl,?_,?_,?_,λi hi=>?_⟩
 .show zT (List.range (bs.length+1)) [0]++List.range' (bs.length+1) 2=_;rw[zT,zT,KZ];rfl
 .show gN _ (bs.length+1) _ (bs.length+1)=_;unfold gN;rw[iV (!2),dE];rfl
 .show gN _ (bs.length+1) _ (bs.length+2)=_;unfold gN;rw[iV (!2),show bs.length+2 - (bs.length+1)=1 by lia];rfl
 .show gN _ (bs.length+1) _ (1+i)=_;unfold gN;rw[iU (!2)];show(b::bs)[1+i]?.getD _=_;rw[Nat.add_comm,List.getElem?_cons_succ]
variable{ph:Sd}
theorem td2{s:As}{l:List Nat}{n:Nat}(k3:s.k=n+2)(ns:s.ns=l++[n,n+1])(hl:∀k∈l,k<n)(g1:s.g n=⟨w,h⟩):(s.next (.cut true (n:Int) ph,n,n)).k=n+4/\(s.next (.cut true (n:Int) ph,n,n)).ns=l++[n+1,n+2,n+3]/\(s.next (.cut true (n:Int) ph,n,n)).g (n+2)=⟨w,ph⟩/\(s.next (.cut true (n:Int) ph,n,n)).g (n+3)=⟨w,tkS h ph⟩/\∀i,i<n+2->(s.next (.cut true (n:Int) ph,n,n)).g i=s.g i:=by
 have e:(Dd.cut true (n:Int) ph).new (s.g n) (s.g n)=[⟨w,ph⟩,⟨w,tkS h ph⟩]:=by rw[g1];rfl
 refine⟨?_,?_,?_,?_,λi hi=>?_⟩
 .show s.k+((Dd.cut true (n:Int) ph).new (s.g n) (s.g n)).length=_;rw[e,k3];rfl
 .show zT s.ns [(n:Int)]++List.range' s.k ((Dd.cut true (n:Int) ph).new (s.g n) (s.g n)).length=_;rw[e,k3,ns,zT,zT,fj,Je rfl (λk hk=>by have:=hl k hk;lia),fA (!1),fC (by simp;lia),bR];rfl
 .show gN s.g s.k _ (n+2)=_;unfold gN;rw[iV (!2),e,k3,dE];rfl
 .show gN s.g s.k _ (n+3)=_;unfold gN;rw[iV (!2),e,k3,show n+3 - (n+2)=1 by lia];rfl
 .show gN s.g s.k _ i=_;unfold gN;rw[iU (!2)]
theorem td3{s:As}{l:List Nat}{n:Nat}(k3:s.k=n+4)(ns:s.ns=l++[n+1,n+2,n+3])(hl:∀k∈l,k<n)(g1:s.g (n+2)=⟨w,h⟩):(s.next (.turn ((n+2:Nat):Int),n+2,n+2)).ns=l++[n+1,n+3,n+4]/\(s.next (.turn ((n+2:Nat):Int),n+2,n+2)).g (n+4)=⟨h,w⟩/\∀i,i<n+4->(s.next (.turn ((n+2:Nat):Int),n+2,n+2)).g i=s.g i:=by
 have e:(Dd.turn ((n+2:Nat):Int)).new (s.g (n+2)) (s.g (n+2))=[⟨h,w⟩]:=by rw[g1];rfl
 refine⟨?_,?_,λi hi=>?_⟩
 .show zT s.ns [((n+2:Nat):Int)]++List.range' s.k ((Dd.turn ((n+2:Nat):Int)).new (s.g (n+2)) (s.g (n+2))).length=_;rw[e,k3,ns,zT,zT,fj,Je (n:=n+2) rfl (λk hk=>by have:=hl k hk;lia),fC (!1),fA (!1),fC (!1),bR];rfl
 .show gN s.g s.k _ (n+4)=_;unfold gN;rw[iV (!2),e,k3,dE];rfl
 .show gN s.g s.k _ i=_;unfold gN;rw[iU (!2)]
variable{pw:Sd}
theorem Hu{b:Bo}{bs:List Bo}:(ends (As.sb (b::bs)) (tde (bs.length+1) pw ph)).ns.map (ends (As.sb (b::bs)) (tde (bs.length+1) pw ph)).g=bs++tdB b.w b.h pw ph:=by
 show((((As.sb (b::bs)).next (.cut false 0 pw,0,0)).next (.cut true ((bs.length+1:Nat):Int) ph,bs.length+1,bs.length+1)).next (.turn ((bs.length+1+2:Nat):Int),bs.length+1+2,bs.length+1+2)).ns.map _=_;obtain⟨k1,n1,g1,g2,g3⟩:=td1 b bs pw ph;show List.map ((((As.sb (b::bs)).next (.cut false 0 pw,0,0)).next (.cut true ((bs.length+1:Nat):Int) ph,bs.length+1,bs.length+1)).next (.turn ((bs.length+1+2:Nat):Int),bs.length+1+2,bs.length+1+2)).g _=_;generalize (As.sb (b::bs)).next (.cut false 0 pw,0,0)=s1 at*
 have hl:∀k∈List.range' 1 bs.length,k<bs.length+1:=λk hk=>by
  obtain⟨i,_,e⟩:=iG.mp hk
  lia
 obtain⟨k2,n2,h1,h2,h3⟩:=td2 (ph:=ph) k1 n1 hl g1;generalize s1.next (.cut true ((bs.length+1:Nat):Int) ph,bs.length+1,bs.length+1)=s2 at*
 obtain⟨n3,i1,i2⟩:=td3 k2 n2 hl h1;generalize s2.next (.turn ((bs.length+1+2:Nat):Int),bs.length+1+2,bs.length+1+2)=s3 at*
 rw[n3,aj];congr 1
 .refine List.ext_getElem? λi=>?_;by_cases c:i<bs.length
  .rw[ao,List.getElem?_range' c,ag c];show some (s3.g (1+1*i))=_;rw[Nat.one_mul,i2 _ (!2),h3 _ (!2),g3 i c,ag c];rfl
  .rw[dD (by rw[aa,dS];lia),dD (!2)]
 .show [s3.g (bs.length+1+1),s3.g (bs.length+1+3),s3.g (bs.length+1+4)]=_;rw[i1,i2 _ (!2),i2 _ (!2),h2,h3 _ (!2),g2];rfl
theorem HV{b:Bo}{bs:List Bo}(c1:tN d b.w pw)(c2:tN d b.h ph):Walk d true (As.sb (b::bs)) (tde (bs.length+1) pw ph):=by
 obtain⟨k1,n1,g1,g2,g3⟩:=td1 b bs pw ph;have hl:∀k∈List.range' 1 bs.length,k<bs.length+1:=λk hk=>by
  obtain⟨i,_,e⟩:=iG.mp hk
  lia
 intro i x hx
 match i,hx with
 |0,hx =>
  cases hx
  exact⟨⟨rfl,ca.mpr (by show 0<bs.length+1;lia),ca.mpr (by show 0<bs.length+1;lia),(λz=>nomatch z),λ_=>rfl⟩,c1.2.1,c1,λz=>nomatch z⟩
 |1,hx =>
  cases hx
  show Stp d true ((As.sb (b::bs)).next (.cut false 0 pw,0,0)) _;generalize (As.sb (b::bs)).next (.cut false 0 pw,0,0)=s1 at*
  have m:bs.length+1∈s1.ns:=by rw[n1];simp
  exact⟨⟨rfl,m,m,(λz=>nomatch z),λ_=>rfl⟩,c2.2.1,by show tN d (s1.g (bs.length+1)).h ph;rw[g1];exact c2,λz=>nomatch z⟩
 |2,hx =>
  cases hx
  show Stp d true (((As.sb (b::bs)).next (.cut false 0 pw,0,0)).next (.cut true ((bs.length+1:Nat):Int) ph,bs.length+1,bs.length+1)) _;generalize (As.sb (b::bs)).next (.cut false 0 pw,0,0)=s1 at*
  obtain⟨k2,n2,h1,h2,h3⟩:=td2 (ph:=ph) k1 n1 hl g1;generalize s1.next (.cut true ((bs.length+1:Nat):Int) ph,bs.length+1,bs.length+1)=s2 at*
  have m:bs.length+1+2∈s2.ns:=by rw[n2];simp
  exact⟨⟨rfl,m,m,(λz=>nomatch z),λ_=>rfl⟩,trivial,trivial,λ_=>rfl⟩
theorem Li{b:Bo}{bs:List Bo}{g:Rat}(wz:b.w.z≠0)(hz:b.h.z≠0)(pz:pw.z≠0)(qz:ph.z≠0)(e:ph.p*pw.q - pw.p*ph.q=g):tbs (bs++tdB b.w b.h pw ph)=⟨(tbs (b::bs)).a,(tbs (b::bs)).b+g,(tbs (b::bs)).c - g,(tbs (b::bs)).e⟩:=by
 obtain⟨p1,p2⟩:=Fl wz pz;obtain⟨p3,p4⟩:=Fl hz qz;have h1:tbs (b::bs)=b.tb.add (tbs bs):=rfl;have h2:tbs (tdB b.w b.h pw ph)=(⟨tkS b.w pw,b.h⟩:Bo).tb.add ((⟨pw,tkS b.h ph⟩:Bo).tb.add ((⟨ph,pw⟩:Bo).tb.add Tb.zero)):=rfl;rw[yU,h1,h2];refine Tb.ext ?_ ?_ ?_ ?_
 .show(tbs bs).a+((tkS b.w pw).p*b.h.p+(pw.p*(tkS b.h ph).p+(ph.p*pw.p+0)))=b.w.p*b.h.p+(tbs bs).a;rw[p1,p3];grind
 .show(tbs bs).b+((tkS b.w pw).p*b.h.q+(pw.p*(tkS b.h ph).q+(ph.p*pw.q+0)))=b.w.p*b.h.q+(tbs bs).b+g;rw[p1,p4];grind
 .show(tbs bs).c+((tkS b.w pw).q*b.h.p+(pw.q*(tkS b.h ph).p+(ph.q*pw.p+0)))=b.w.q*b.h.p+(tbs bs).c - g;rw[p2,p3];grind
 .show(tbs bs).e+((tkS b.w pw).q*b.h.q+(pw.q*(tkS b.h ph).q+(ph.q*pw.q+0)))=b.w.q*b.h.q+(tbs bs).e;rw[p2,p4];grind
theorem Qd.pie_so{R:Rd}{n:Int}{ka ks kt km:Nat}(P:Pie R w h G n ka ks kt pw ph)(n1:1<=n)(bn:Bd kn n)(bG:Bd kg G)(l1:ks<=km)(l2:kt<=km)(l3:kn<=kg)(l4:1<=km):∃Z:Int,1<=Z/\Bd (kn+km) Z/\So R.d Z (2*km+ka+kg) pw/\So R.d Z (2*km+ka+kg) ph/\(Bd (km+ka) pw.x/\Bd (km+ka) pw.y/\Bd km pw.z)/\(Bd (kg+km+ka) ph.x/\Bd (kg+km+ka) ph.y/\Bd (kn+km) ph.z)/\ph.p*pw.q - pw.p*ph.q=Rat.divInt G n:=by
 obtain⟨lw,lh,uw,uh,_,_,σ,τ,a,b,c,e,s1,t1,bst,ba,bb,bc,be,e1,e2,dt⟩:=P;have bA:Bd kg (G.natAbs:Int):=by unfold Bd at*;lia
 have one1:∀k,1<=k->Bd k (1:Int):=λk hk=>(zr 1).mono hk;have bσ:Bd km σ:=by
  rcases bst with⟨h,_⟩|⟨h,_⟩
  .exact h.mono l1
  .rw[h];exact one1 _ l4
 have bτ:Bd km τ:=by
  rcases bst with⟨_,h⟩|⟨_,h⟩
  .rw[h];exact one1 _ l4
  .exact h.mono l2
 have bστ:Bd km (σ*τ):=by
  rcases bst with⟨_,h⟩|⟨h,_⟩
  .rw[h,dg];exact bσ
  .rw[h,gA];exact bτ
 have ns0:n*σ≠0:=aI (!2) (!2);obtain⟨p1,p2,p3,p4,p5⟩:=Qd.low_bd lw (!2) e1;obtain⟨q1,q2,q3,q4,q5⟩:=Qd.low_bd lh ns0 e2;have ns1:1<=n*σ:=aM (!2) (!2);refine⟨n*(σ*τ),aM (!2) (aM (!2) (!2)),bn.mul bστ,⟨lw.1,lw.2,(Qd.v_ps lw.1).mp uw,σ*a*(n*σ),σ*b*(n*σ),?_,?_,by grind,by grind⟩,⟨lh.1,lh.2,(Qd.v_ps lh.1).mp uh,G.natAbs*τ*c*τ,G.natAbs*τ*e*τ,?_,?_,by grind,by grind⟩,⟨p1 (bσ.mul ba),p2 (bσ.mul bb),Bd.dvd_le bτ (!2) p3⟩,⟨q1 ((bA.mul bτ).mul bc),q2 ((bA.mul bτ).mul be),Bd.dvd_le (bn.mul bσ) ns1 q3⟩,?_⟩
 .exact(((bσ.mul ba).mul (bn.mul bσ))).mono (!2)
 .exact(((bσ.mul bb).mul (bn.mul bσ))).mono (!2)
 .exact(((bA.mul bτ).mul bc).mul bτ).mono (!2)
 .exact(((bA.mul bτ).mul be).mul bτ).mono (!2)
 .have f1:pw.p*(τ:Rat)+R.d*(pw.q*0)=((σ*a:Int):Rat):=congrArg Qd.p e1;have f2:pw.p*0+pw.q*(τ:Rat)=((σ*b:Int):Rat):=congrArg Qd.q e1;have f3:ph.p*((n*σ:Int):Rat)+R.d*(ph.q*0)=((G.natAbs*τ*c:Int):Rat):=congrArg Qd.p e2;have f4:ph.p*0+ph.q*((n*σ:Int):Rat)=((G.natAbs*τ*e:Int):Rat):=congrArg Qd.q e2;have nq:=Qd.z_ne' (show 0<n by lia);have sq:=Qd.z_ne' (show 0<σ by lia);have tq:=Qd.z_ne' (show 0<τ by lia);have d2:(((c*b - a*e)*G.natAbs:Int):Rat)=(G:Rat):=by rw[dt]
  rw[bC];generalize (G.natAbs:Int)=A at*
  have g1:pw.p=σ*a / τ:=by grind
  have g2:pw.q=σ*b / τ:=by grind
  have g3:ph.p=A*τ*c / (n*σ):=by grind
  have g4:ph.q=A*τ*e / (n*σ):=by grind
  rw[g1,g2,g3,g4,<-d2];grind
theorem Qd.cut_ok{R:Rd}{p:Sd}(sw:SY w)(sp:SY p)(h0:0<Sdv R p)(lt:Sdv R p<Sdv R w):tN R.d w p/\sgn R.d (tkS w p).x (tkS w p).y=1:=by have u:=(Qd.v_lt (R:=R) sp.z1 sw.z1).mpr lt;exact⟨⟨sw,sp,by rw[(Qd.v_ps sp.z1).mp h0];decide,u⟩,KM R.h sw.z1 sp.z1 u⟩
theorem Lb{s:Sd}{k j:Nat}{m:Nat}(bx:Bd k s.x)(bY:Bd k s.y)(bz:Bd kz s.z)(cx:Bd j t.x)(cY:Bd j t.y)(cz:Bd jz t.z)(h1:k+jz<=m)(h2:j+kz<=m):Bd (m+1) (tkS s t).x/\Bd (m+1) (tkS s t).y :=
 ⟨(Bd.add ((bx.mul cz).mono h1) ((cx.neg.mul bz).mono h2)).fdiv _,(Bd.add ((bY.mul cz).mono h1) ((cY.neg.mul bz).mono h2)).fdiv _⟩
theorem D4{R:Rd}{D1 D2 Z:Int}{b:Bo}{bs:List Bo}(D11:1<=D1)(bD1:Bd 81 D1)(D21:1<=D2)(bD2:Bd 111 D2)(Z1:1<=Z)(bZ:Bd 554 Z)(o1:∀x∈b::bs,BoD R.d D1 115 x)(bw:Bd 21 b.w.x/\Bd 21 b.w.y/\Bd 10 b.w.z)(sp:So R.d Z 1307 pw)(sq:So R.d Z 1307 ph)(np:Bd 696 pw.x/\Bd 696 pw.y/\Bd 371 pw.z)(nq:Bd 936 ph.x/\Bd 936 ph.y)(u1:sgn R.d (tkS b.w pw).x (tkS b.w pw).y=1)(u2:sgn R.d (tkS b.h ph).x (tkS b.h ph).y=1):∀x∈bs++tdB b.w b.h pw ph,Wh R.d (D1*Z*D2) (D1*Z*D2) 936 1500 1500 x:=by
 have sc:∀{s:Sd},So R.d D1 115 s->So R.d (D1*Z) (115+554) s:=λh=>h.scale bZ;have sz:∀{s:Sd},So R.d Z 1307 s->So R.d (D1*Z) (1307+81) s:=λh=>by have:=h.scale bD1;rw[av];exact this
 have s2:∀{s:Sd}{m:Nat},m+111<=1500->So R.d (D1*Z) m s->So R.d (D1*Z*D2) 1500 s:=λhm h=>(h.scale bD2).mono hm;have ob:=o1 b aH;have tw:So R.d (D1*Z) (1307+81+1) (tkS b.w pw):=JD R.h ((sc ob.1).mono ⋯) (sz sp) u1;have th:So R.d (D1*Z) (1307+81+1) (tkS b.h ph):=JD R.h ((sc ob.2).mono ⋯) (sz sq) u2;obtain⟨t1,t2⟩:=Lb (m:=936 - 1) bw.1 bw.2.1 bw.2.2 np.1 np.2.1 np.2.2 ⋯ ⋯;intro x hx;rcases aE.mp hx with h|h
 .have o:=o1 x (aC _ h);have k:=o.1.sk D11 bD1;exact⟨s2 ⋯ (sc o.1),⟨k.bx.mono ⋯,k.by'.mono ⋯⟩,s2 ⋯ (sc o.2)⟩
 .rcases aW.mp h with rfl|h
  .exact⟨s2 ⋯ tw,⟨t1,t2⟩,s2 ⋯ (sc ob.2)⟩
  .rcases aW.mp h with rfl|h
   .exact⟨s2 ⋯ (sz sp),⟨np.1.mono ⋯,np.2.1.mono ⋯⟩,s2 ⋯ th⟩
   .rw[aq.mp h];exact⟨s2 ⋯ (sz sq),nq,s2 ⋯ (sz sp)⟩
variable{jh:Nat}
theorem tbz{k j m:Nat}{t:Tb}{b:Bo}(h:TbD E k t)(E1:1<=E)(bE:Bd kE E)(w1:1<=b.w.z)(h1:1<=b.h.z)(bw:Bd j b.w.x/\Bd j b.w.y)(bh:Bd jh b.h.x/\Bd jh b.h.y)(bz:Bd kz (b.w.z*b.h.z))(l1:k+kz<=m)(l2:j+jh+kE<=m):TbD (E*(b.w.z*b.h.z)) (m+1) (t.add b.tb)/\1<=E*(b.w.z*b.h.z)/\Bd (kE+kz) (E*(b.w.z*b.h.z)):=by
 have z0:b.w.z*b.h.z≠0:=aI (!2) (!2);have n1:=Qd.z_ne' (show 0<E by lia);have n2:=Qd.z_ne' (show 0<b.w.z by lia);have n3:=Qd.z_ne' (show 0<b.h.z by lia);obtain⟨a,bb,c,e,⟨b1,b2,b3,b4⟩,e1,e2,e3,e4⟩:=h;have key:∀(q:Rat)(A x y:Int),q=Rat.divInt A E->q+Rat.divInt x b.w.z*Rat.divInt y b.h.z=Rat.divInt (A*(b.w.z*b.h.z)+x*y*E) (E*(b.w.z*b.h.z)):=λq A x y hq=>by rw[hq];simp only[bC];grind
 have bd:∀A x y:Int,Bd k A->Bd j x->Bd jh y->Bd (m+1) (A*(b.w.z*b.h.z)+x*y*E):=λA x y hA hx hy=>Bd.add ((hA.mul bz).mono l1) (((hx.mul hy).mul bE).mono l2);exact⟨⟨_,_,_,_,⟨bd _ _ _ b1 bw.1 bh.1,bd _ _ _ b2 bw.1 bh.2,bd _ _ _ b3 bw.2 bh.1,bd _ _ _ b4 bw.2 bh.2⟩,key _ _ _ _ e1,key _ _ _ _ e2,key _ _ _ _ e3,key _ _ _ _ e4⟩,aM (!2) (aM (!2) (!2)),bE.mul bz⟩
theorem JF{E1 E2:Int}{j1 j2 m:Nat}{s t:Tb}(h1:TbD E1 k1 s)(h2:TbD E2 k2 t)(n1:1<=E1)(n2:1<=E2)(b1:Bd j1 E1)(b2:Bd j2 E2)(l1:k2+j1<=m)(l2:k1+j2<=m):Bd (m+1) (t.b - s.b).num/\Bd (j1+j2) ((t.b - s.b).den:Int):=by
 obtain⟨_,x,_,_,⟨_,bx,_,_⟩,_,ex,_,_⟩:=h1;obtain⟨_,y,_,_,⟨_,bY,_,_⟩,_,ey,_,_⟩:=h2;have m1:=Qd.z_ne' (show 0<E1 by lia);have m2:=Qd.z_ne' (show 0<E2 by lia);have e:t.b - s.b=Rat.divInt (y*E1 - x*E2) (E1*E2):=by rw[ex,ey];simp only[bC];grind
 rw[e];exact xI (aI (!2) (!2)) (Bd.sub ((bY.mul b1).mono l1) ((bx.mul b2).mono l2)) (b1.mul b2)
theorem Hi(L:List Cell):(L.flatMap (λc=>[c.b.w,c.b.h])).length=2*L.length:=by
 induction L with
 |nil=>rfl
 |cons c L ih=>rw[List.flatMap_cons,ai,ih,au];simp only[au,aV];lia
theorem cm_T(k:Nat)(t:Tb):cm k t=cmT k t:=by
 match k with
 |0=>rfl
 |1=>rfl
 |2=>rfl
 |n+3 =>
  show t.e=cmT (n+3) t;unfold cmT;rw[iV (!2),iV (!2),iV (!2)]
theorem A8{L:List Cell}(h:∀c∈L,Dw d c.b.w/\Dw d c.b.h):∃D:Int,1<=D/\Bd (20*L.length+1) D/\∀c∈L,BoD d D (20*L.length+22) c.b:=by
 have hf:=Hi L;have hs:∀s∈L.flatMap (λc=>[c.b.w,c.b.h]),Dw d s:=λs hs=>by
  obtain⟨c,hc,hs⟩:=im.mp hs;rcases aW.mp hs with rfl|hs
  .exact(h c hc).1
  .rw[aq.mp hs];exact(h c hc).2
 refine⟨_,Gr hs,(Io hs).mono (!2),λc hc=>⟨(Ip hs _ (im.mpr ⟨c,hc,aH⟩)).mono (!2),(Ip hs _ (im.mpr ⟨c,hc,aC _ aH⟩)).mono (!2)⟩⟩
theorem FY{d:Int}:∀(L:List Cell),(∀c∈L,Dw d c.b.w/\Dw d c.b.h)->∃E:Int,TbD E (43+21*L.length) (tbs (L.map Cell.b))/\1<=E/\Bd (20*L.length+1) E
 |[],_=>⟨1,⟨0,0,0,0,⟨by decide,by decide,by decide,by decide⟩,by simp[tbs,Tb.zero],by simp[tbs,Tb.zero],by simp[tbs,Tb.zero],by simp[tbs,Tb.zero]⟩,by decide,by decide⟩
 |c::L,h=>by obtain⟨E,T,E1,bE⟩:=FY L λx hx=>h x (aC _ hx);obtain⟨dw,dh⟩:=h c aH;obtain⟨T',E1',bE'⟩:=tbz (b:=c.b) (m:=63+21*L.length) T E1 bE dw.z1 dh.z1 ⟨dw.bx,dw.by'⟩ ⟨dh.bx,dh.by'⟩ (dw.bz.mul dh.bz) (!2) (!2);refine⟨_,?_,E1',bE'.mono (by rw[au];lia)⟩;rw[au,show 43+21*(L.length+1)=63+21*L.length+1 by lia,a6,show tbs (c.b::L.map Cell.b)=c.b.tb.add (tbs (L.map Cell.b)) from rfl,Tb.add_comm];exact T'
structure Oth(d:Int)(C:List Cell):Prop where
 n1:1<=C.length
 n8:C.length<=8
 o:∃D:Int,1<=D/\Bd 111 D/\∀x∈C,BoD d D 140 x.b
 t:∃E:Int,TbD E 158 (tbs (C.map Cell.b))/\1<=E/\Bd 102 E
theorem Oth.dw(h:∀c∈C,Dw d c.b.w/\Dw d c.b.h)(n1:1<=C.length)(n5:C.length<=5):Oth d C:=by obtain⟨D,D1,bD,o⟩:=A8 h;obtain⟨E,T,E1,bE⟩:=FY C h;exact⟨n1,by lia,⟨D,D1,bD.mono (!2),λx hx=>(o x hx).mono (!2)⟩,E,T.mono (!2),E1,bE.mono (!2)⟩
theorem Oth.last{k:Int}{j jw:Nat}{O:List Cell}(h:∀x∈O++[c],Dw d x.b.w/\Dw d x.b.h)(n4:(O++[c]).length<=4)(k1:1<=k)(bk:Bd j k)(lj:j<=30)(ob:∀D,1<=D->Bd 81 D->So d D 102 c.b.w->So d D 102 c.b.h->BoD d (D*k) 140 c'.b)(zw:1<=c'.b.w.z)(zh:1<=c'.b.h.z)(bw:Bd jw c'.b.w.x/\Bd jw c'.b.w.y)(bh:Bd jh c'.b.h.x/\Bd jh c'.b.h.y)(bz:Bd kz (c'.b.w.z*c'.b.h.z))(l1:kz<=41)(l2:jw+jh<=90):Oth d (O++[c']):=by
 obtain⟨D,D1,bD,o⟩:=A8 h;rw[ai,fK]at n4 bD o;obtain⟨E,T,E1,bE⟩:=FY O λx hx=>h x (cg _ hx);obtain⟨T',E1',bE'⟩:=tbz (b:=c'.b) (m:=157) T E1 bE zw zh bw bh bz (!2) (!2);refine⟨by simp,by rw[ai,fK];lia,⟨D*k,aM (!2) (!2),(bD.mul bk).mono (!2),λx hx=>?_⟩,_,?_,E1',bE'.mono (!2)⟩
 .rcases aE.mp hx with hx|hx
  .have:=o x (cg _ hx);exact⟨(this.1.scale bk).mono (!2),(this.2.scale bk).mono (!2)⟩
  .rw[aq.mp hx];have:=o c (a7 _ (aq.mpr rfl));exact ob D D1 (bD.mono (!2)) (this.1.mono (!2)) (this.2.mono (!2))
 .rw[aj,yU,show tbs ([c'].map Cell.b)=c'.b.tb.add Tb.zero from rfl,Tb.add_comm c'.b.tb,Tb.zero_add];exact T'
inductive P0(vs:List V)(H:Hp)(Q:VK)(E:XK):Prop
 |mk(i:Int)(_:vs=[.int i])(_:Q (.bl true) H):P0 vs H Q E
theorem Cn{i:Int}{Q:VK}{E:XK}(q:Q (.bl true) H):P0 ([.int i]++[]) H Q E:=⟨i,rfl,q⟩
local macro_rules | `(tactic| walk_at"rd")=>`(tactic| with_reducible refine Cn ?_)
inductive P3(vs:List V)(H:Hp)(Q:VK)(E:XK):Prop
 |mk{n:Int}(_:vs=[.int n])(_:0<=n)(_:Bd 8000 n)(_:∀r:Int,0<=r->r*r<=n->n<(r+1)*(r+1)->Q (.int r) H):P3 vs H Q E
abbrev xP:=@P3.mk
inductive P4(vs:List V)(H:Hp)(Q:VK)(E:XK):Prop
 |mk(a b:Int)(_:vs=[.int a,.int b])(_:Bd 8192 b)(_:Q (.int (Int.gcd a b:Nat)) H):P4 vs H Q E
theorem wU{b:Int}{Q:VK}{E:XK}(hb:Bd 8192 b)(q:Q (.int (Int.gcd a b:Nat)) H):P4 ([.int a,.int b]++[]) H Q E:=⟨a,b,rfl,hb,q⟩
local macro_rules | `(tactic| walk_at"rd")=>`(tactic| ((with_reducible refine wU ?_ ?_);focus (walk_at"b8")))
inductive P5(vs:List V)(H:Hp)(Q:VK)(E:XK):Prop
 |mk(g n:Int)(_:vs=[.int g,.int n])(_:Q (.int (if n<0 then -g else g)) H):P5 vs H Q E
theorem vT{g n:Int}{Q:VK}{E:XK}(q:Q (.int (if n<0 then -g else g)) H):P5 ([.int g,.int n]++[]) H Q E:=⟨g,n,rfl,q⟩
local macro_rules | `(tactic| walk_at"rd")=>`(tactic| with_reducible refine vT ?_)
inductive P6(vs:List V)(H:Hp)(Q:VK)(E:XK):Prop
 |mk{d a b:Int}(_:vs=[.int d,.int a,.int b])(_:Bd 64 d)(_:Bd 8000 a)(_:Bd 8000 b)(_:Q (.bl (decide (0<sgn d a b))) H):P6 vs H Q E
abbrev wE:=@P6.mk
inductive P7(vs:List V)(H:Hp)(Q:VK)(E:XK):Prop
 |mk(p p':Addr)(x y z x' y' z':Int)(_:vs=[.ref p,.ref p'])(_:H p=some (.tup [.int x,.int y,.int z]))(_:H p'=some (.tup [.int x',.int y',.int z']))(_:(Bd 1500 x/\Bd 1500 y/\Bd 1500 x'/\Bd 1500 y'))(_:Q (.int (x*y' - y*x')) H):P7 vs H Q E
variable{p':Addr}{z':Int}
theorem vF{p:Addr}{x:Int}{Q:VK}{E:XK}(h1:H p=some (.tup [.int x,.int y,.int z]))(h2:H p'=some (.tup [.int x',.int y',.int z']))(b1:Bd 1500 x)(b2:Bd 1500 y)(b3:Bd 1500 x')(b4:Bd 1500 y')(q:Q (.int (x*y' - y*x')) H):P7 ([.ref p,.ref p']++[]) H Q E:=⟨p,p',x,y,z,x',y',z',rfl,h1,h2,⟨b1,b2,b3,b4⟩,q⟩
inductive P8(vs:List V)(H:Hp)(Q:VK)(E:XK):Prop
 |mk{a:Addr}{us:List Addr}{pc:List Pc}{u:Nat}(_:vs=[.ref a,.int (u:Int)])(_:H a=some (.lst (us.map V.ref)))(_:PcAt H us pc)(_:pc.length<=100)(_:u<=1000)(_:(∀ (r:Addr) (ps:List Addr) (H':Hp),Same H H'->H r=none->H' r=some (.lst (ps.map V.ref))->Runs H' ps (gth u pc pc.length)->Q (.ref r) H')):P8 vs H Q E
abbrev vt:=@P8.mk
inductive P9(vs:List V)(H:Hp)(Q:VK)(E:XK):Prop
 |mk{p:Addr}{e:Dd}(_:vs=[.ref p])(_:DdAt H p e)(_:∀ (r:Addr) (H':Hp),Same H H'->H r=none->H' r=some (.lst (e.names.map V.int))->Q (.ref r) H'):P9 vs H Q E
abbrev y4:=@P9.mk
inductive P10(vs:List V)(H:Hp)(Q:VK)(E:XK):Prop
 |mk{p:Addr}{e:Dd}(_:vs=[.ref p])(_:DdAt H p e)(_:Q (.int (e.puts:Nat)) H):P10 vs H Q E
abbrev yc:=@P10.mk
inductive P11(vs:List V)(H:Hp)(Q:VK)(E:XK):Prop
 |mk{c:Cell}(_:vs=[.ref c.p])(_:c.At H)(_:∀ (r:Addr) (H':Hp),Same H H'->H r=none->Cell.At H' ⟨r,c.ph,c.pw,⟨c.b.h,c.b.w⟩⟩->Q (.ref r) H'):P11 vs H Q E
abbrev yK:=@P11.mk
inductive P12(vs:List V)(H:Hp)(Q:VK)(E:XK):Prop
 |mk{a:Addr}{ms ts:List Nat}(_:vs=[.ref a])(_:H a=some (.lst ((ms.map λn:Nat=>(n:Int)).map V.int)))(_:ms.Perm ts)(_:ts.Pairwise (· < ·))(_:ts.length<64)(_:(∀ (r:Addr) (H':Hp),Same H H'->H r=none->H' r=some (.lst (((ms.map (rk ts)).map λn:Nat=>(n:Int)).map V.int))->Q (.ref r) H')):P12 vs H Q E
abbrev AZ:=@P12.mk
inductive P13(vs:List V)(H:Hp)(Q:VK)(E:XK):Prop
 |mk{p a:Addr}{e:Dd}{r:Nat->Nat}{k:Nat}(_:vs=[.ref p,.ref a])(_:DdAt H p e)(_:e.isT=false)(_:H a=some (.lst (nmI r k)))(_:(∀m∈e.names,∃n,n<k/\m=((n:Nat):Int)))(_:(∀ (b:Addr) (H':Hp),Same H H'->H b=none->DdAt H' b (e.rn r)->Q (.ref b) H')):P13 vs H Q E
abbrev tD:=@P13.mk
inductive P14(vs:List V)(H:Hp)(Q:VK)(E:XK):Prop
 |mk{p:Addr}{t:Tb}(_:vs=[.ref p])(_:TbAt H p t)(_:∀ (r:Addr) (H':Hp),Same H H'->TbAt H' r (t.tr)->Q (.ref r) H'):P14 vs H Q E
abbrev GD:=@P14.mk
inductive P15(vs:List V)(H:Hp)(Q:VK)(E:XK):Prop
 |mk{p p':Addr}{s t:Tb}(_:vs=[.ref p,.ref p'])(_:TbAt H p s)(_:TbAt H p' t)(_:(s=t->Q .non H))(_:(∀ (r:Addr) (H':Hp) (i j:Nat),Same H H'->H' r=some (.tup [.int (i:Int),.int (j:Int)])->Fu s t i j->Q (.ref r) H')):P15 vs H Q E
abbrev xJ:=@P15.mk
inductive P16(K:jj)(vs:List V)(H:Hp)(Q:VK)(E:XK):Prop
 |mk{p:Addr}{ns:List Int}{k:Int}(_:vs=[.ref p,.int k])(_:SqL K H p (ns.map V.int))(_:0<=k)(_:(∀x∈ns,Bd 1048576 x))(_:(∀c:Int,Bd 1048576 c->Q (.int c) H)):P16 K vs H Q E
abbrev xo:=@P16.mk
inductive P17(K:jj)(vs:List V)(H:Hp)(Q:VK)(E:XK):Prop
 |mk{p:Addr}{ns:List Int}(_:vs=[.ref p,.int 24])(_:SqL K H p (ns.map V.int))(_:(∀x∈ns,Bd 1048576 x))(_:ns.length<=63)(_:(∀ (r:Addr) (H':Hp) (ms:List Int),Same H H'->H r=none->H' r=some (.lst (ms.map V.int))->(∀x∈ms,Bd 1048576 x)->Q (.ref r) H')):P17 K vs H Q E
abbrev Av:=@P17.mk
inductive P18(vs:List V)(H:Hp)(Q:VK)(E:XK):Prop
 |mk{c:Int}{k:Nat}(_:vs=[.int c,.int (k:Int)])(_:Bd 1048577 c)(_:k<=20)(_:(∀r:Int,0<=r->r<2147483648->Q (.int r) H)):P18 vs H Q E
abbrev yi:=@P18.mk
inductive P19(K:jj)(vs:List V)(H:Hp)(Q:VK)(E:XK):Prop
 |mk{a b n:Int}(_:vs=[.int a,.int b,.int n])(_:1<=n)(_:Bd 8000 n)(_:(∀ (r:Addr) (H':Hp),Same H H'->H' r=some (.tup [.int (lA a b n),.int (lB a b n),.int (lN a b n)])->Q (.ref r) H')):P19 K vs H Q E
abbrev y8:=@P19.mk
inductive P20(vs:List V)(H:Hp)(Q:VK)(E:XK):Prop
 |mk{d:Int}{p:Addr}{s:Sd}(_:vs=[.int d,.ref p])(_:SdAt H p s)(_:Bd 64 d)(_:Bd 8000 s.x)(_:Bd 8000 s.y)(_:Q (.bl (decide (0<sgn d s.x s.y))) H):P20 vs H Q E
abbrev vB:=@P20.mk
inductive P21(vs:List V)(H:Hp)(Q:VK)(E:XK):Prop
 |mk{c:Int}(_:vs=[.int c])(_:(∀ (d:Int) (H':Hp),Rt d->Same H H'->Q (.int d) H')):P21 vs H Q E
abbrev AD:=@P21.mk
inductive P22(K:jj)(vs:List V)(H:Hp)(Q:VK)(E:XK):Prop
 |mk{a:Addr}{L:List Cell}{d D:Int}{M K':Nat}(_:vs=[.ref a])(_:H a=some (.lst (L.map Cell.v)))(_:(∀c∈L,c.At H))(_:(∀c∈L,BoD d D M c.b))(_:Sz D K' M)(_:(M<=330/\K'<=330))(_:L.length<=14)(_:(∀ (r:Addr) (H':Hp),Same H H'->H r=none->S4 10000 H' r (tbs (L.map Cell.b))->Q (.ref r) H')):P22 K vs H Q E
abbrev uJ:=@P22.mk
inductive P23(vs:List V)(H:Hp)(Q:VK)(E:XK):Prop
 |mk{n:Int}(_:vs=[.int n])(_:Q (.bl true) H):P23 vs H Q E
abbrev xv:=@P23.mk
inductive P24(cs:Cs)(vs:List V)(H:Hp)(Q:VK)(E:XK):Prop
 |mk(p dx hp:Addr)(d:Int)(tn:Bool)(cl:List Cell)(_:vs=[.ref p,.int d,.ref hp,.bl tn])(_:H p=some (.ins cs.Yard dx []))(_:H hp=some (.lst (cl.map Cell.v)))(_:(∀c∈cl,c.At H))(_:cl.length<=60)(_:∀ (y:Yd) (H':Hp),y.p=p->y.dx=dx->(∀b o,H b=some o->b≠p->H' b=some o)->YdAt cs.Yard H' y d tn cl (List.range cl.length) []->H y.k=none->H y.l=none->H y.t=none->Q .non H'):P24 cs vs H Q E
variable{vs:List V}
theorem vK{cs:Cs}{x hp:Addr}{H1:Hp}{Q:VK}{E:XK}(hv:vs=[.ref x,.int d,.ref hp,.bl tn])(n1:H1 x=none)(n2:H1 dx=none)(hh:H1 hp=some (.lst (cl.map Cell.v)))(hat:∀c∈cl,c.At H1)(hl:cl.length<=60)(q:∀(y:Yd)(H':Hp),y.p=x->Same H1 H'->YdAt cs.Yard H' y d tn cl (List.range cl.length) []->H1 y.k=none->H1 y.l=none->H1 y.t=none->Q .non H'): P24 cs vs (upd (upd H1 dx (.own x)) x (.ins cs.Yard dx [])) Q E:=by
 subst hv;have k:∀b o,H1 b=some o->(upd (upd H1 dx (.own x)) x (.ins cs.Yard dx [])) b=some o:=λb o e=>by rw[zl (zb e n1),zl (zb e n2)];exact e
 have nn:∀b,(upd (upd H1 dx (.own x)) x (.ins cs.Yard dx [])) b=none->H1 b=none:=λb h=>by
  cases e:H1 b with
  |none=>rfl
  |some o=>rw[k b o e]at h;cases h
 exact⟨x,dx,hp,d,tn,cl,rfl,zg,k _ _ hh,λc hc=>⟨k _ _ (hat c hc).t,k _ _ (hat c hc).w,k _ _ (hat c hc).h⟩,hl,λy H' e1 _ fr hy h1 h2 h3=>q y H' e1 (λb o e=>fr b o (k b o e) (zb e n1)) hy (nn _ h1) (nn _ h2) (nn _ h3)⟩
inductive P25(cs:Cs)(vs:List V)(H:Hp)(Q:VK)(E:XK):Prop
 |mk{y:Yd}{d:Int}{tn:Bool}{cl:List Cell}{ns:List Nat}{lg:List V}{n:Nat}{c:Cell}(_:vs=[.ref y.p,.int (n:Int)])(_:YdAt cs.Yard H y d tn cl ns lg)(_:cl[n]?=some c)(_:Q (.ref c.p) H):P25 cs vs H Q E
abbrev wt:=@P25.mk
inductive P26(cs:Cs)(vs:List V)(H:Hp)(Q:VK)(E:XK):Prop
 |mk{y:Yd}{d:Int}{tn:Bool}{cl:List Cell}{ns:List Nat}{lg:List V}(_:vs=[.ref y.p])(_:YdAt cs.Yard H y d tn cl ns lg)(_:∀ (r:Addr) (H':Hp) (ps:List Addr),Same H H'->H r=none->H' r=some (.lst (ps.map V.ref))->Prs cl ns H' ps->Q (.ref r) H'):P26 cs vs H Q E
abbrev uX:=@P26.mk
inductive P27(cs:Cs)(vs:List V)(H:Hp)(Q:VK)(E:XK):Prop
 |mk{y:Yd}{d:Int}{tn:Bool}{cl:List Cell}{ns:List Nat}{lg:List V}(_:vs=[.ref y.p])(_:YdAt cs.Yard H y d tn cl ns lg)(_:∀ (r:Addr) (H':Hp),Same H H'->H r=none->H' r=some (.lst ((pick cl ns).map Cell.v))->Q (.ref r) H'):P27 cs vs H Q E
abbrev AE:=@P27.mk
inductive P28(vs:List V)(H:Hp)(Q:VK)(E:XK):Prop
 |mk(a b n:Int)(_:vs=[.int a,.int b,.int n])(_:n≠0)(_:Bd 8000 n)(_:(Bd 8192 a/\Bd 8192 b))(_:∀p H',Same H H'->H' p=some (.tup [.int (lA a b n),.int (lB a b n),.int (lN a b n)])->Q (.ref p) H'):P28 vs H Q E
theorem yB{b n:Int}{Q:VK}{E:XK}(e:vs=[.int a,.int b,.int n])(hn:n≠0)(hb:Bd 8000 n)(q:∀p H',Same H H'->H' p=some (.tup [.int (lA a b n),.int (lB a b n),.int (lN a b n)])->Q (.ref p) H')(ha8:Bd 8192 a:=by walk_at"b8")(hb8:Bd 8192 b:=by walk_at"b8"):P28 vs H Q E:=⟨a,b,n,e,hn,hb,⟨ha8,hb8⟩,q⟩
inductive P29(vs:List V)(H:Hp)(Q:VK)(E:XK):Prop
 |mk(t b:Int)(_:vs=[.int t,.int b])(_:b≠0)(_:Bd 8000 b)(_:∀ (r:Addr) (H':Hp),Same H H'->H' r=some (.tup [.int (fT t b),.int (fB t b)])->Q (.ref r) H'):P29 vs H Q E
theorem uv{t b:Int}{Q:VK}{E:XK}(e:vs=[.int t,.int b])(hn:b≠0)(hb:Bd 8000 b)(q:∀(r:Addr)(H':Hp),Same H H'->H' r=some (.tup [.int (fT t b),.int (fB t b)])->Q (.ref r) H'):P29 vs H Q E:=⟨t,b,e,hn,hb,q⟩
inductive P30(K:jj)(vs:List V)(H:Hp)(Q:VK)(E:XK):Prop
 |mk(p q:Addr)(x y z x' y' z':Int)(_:vs=[.ref p,.ref q])(_:SqT K H p [.int x,.int y,.int z])(_:H q=some (.tup [.int x',.int y',.int z']))(_:1<=z)(_:1<=z')(_:g3 x y z=1)(_:g3 x' y' z'=1)(_:(Bd 5000 x/\Bd 5000 y/\Bd 2900 z/\Bd 5000 x'/\Bd 5000 y'/\Bd 2900 z'))(_:∀ (r:Addr) (H':Hp),Same H H'->H' r=some (.tup [.int (lA (x*z'+x'*z) (y*z'+y'*z) (z*z')),.int (lB (x*z'+x'*z) (y*z'+y'*z) (z*z')),.int (lN (x*z'+x'*z) (y*z'+y'*z) (z*z'))])->Q (.ref r) H'):P30 K vs H Q E
theorem Eo{K:jj}{p:Addr}{x:Int}{Q:VK}{E:XK}(h1:SqT K H p [.int x,.int y,.int z])(h2:H p'=some (.tup [.int x',.int y',.int z']))(n1:1<=z)(n2:1<=z')(k1:g3 x y z=1)(k2:g3 x' y' z'=1)(b1:Bd 5000 x)(b2:Bd 5000 y)(b3:Bd 2900 z)(b4:Bd 5000 x')(b5:Bd 5000 y')(b6:Bd 2900 z')(q:∀(r:Addr)(H':Hp),Same H H'->H' r=some (.tup [.int (lA (x*z'+x'*z) (y*z'+y'*z) (z*z')),.int (lB (x*z'+x'*z) (y*z'+y'*z) (z*z')),.int (lN (x*z'+x'*z) (y*z'+y'*z) (z*z'))])->Q (.ref r) H'):P30 K ([.ref p,.ref p']++[]) H Q E:=⟨p,p',x,y,z,x',y',z',rfl,h1,h2,n1,n2,k1,k2,⟨b1,b2,b3,b4,b5,b6⟩,q⟩
inductive P31(K:jj)(vs:List V)(H:Hp)(Q:VK)(E:XK):Prop
 |mk(d:Int)(p p':Addr)(x y z x' y' z':Int)(_:vs=[.int d,.ref p,.ref p'])(_:SqT K H p [.int x,.int y,.int z])(_:SqT K H p' [.int x',.int y',.int z'])(_:Bd 64 d)(_:(Bd 5000 x/\Bd 5000 y/\Bd 2900 z/\Bd 5000 x'/\Bd 5000 y'/\Bd 2900 z'))(_:Q (.bl (decide (0<sgn d (x'*z - x*z') (y'*z - y*z')))) H):P31 K vs H Q E
theorem uC{K:jj}{p:Addr}{x:Int}{Q:VK}{E:XK}(h1:SqT K H p [.int x,.int y,.int z])(h2:H p'=some (.tup [.int x',.int y',.int z']))(hd:Bd 64 d)(b1:Bd 5000 x)(b2:Bd 5000 y)(b3:Bd 2900 z)(b4:Bd 5000 x')(b5:Bd 5000 y')(b6:Bd 2900 z')(q:Q (.bl (decide (0<sgn d (x'*z - x*z') (y'*z - y*z')))) H):P31 K ([.int d,.ref p,.ref p']++[]) H Q E:=⟨d,p,p',x,y,z,x',y',z',rfl,h1,SqT.of h2,hd,⟨b1,b2,b3,b4,b5,b6⟩,q⟩
inductive P32(vs:List V)(H:Hp)(Q:VK)(E:XK):Prop
 |mk(d:Int)(p:Addr)(x y z:Int)(_:vs=[.int d,.ref p])(_:H p=some (.tup [.int x,.int y,.int z]))(_:(2<=d/\d<=99))(_:1<=z)(_:(Bd 1990 x/\Bd 1990 y/\Bd 1990 z))(_:∀r:Int,0<=r->r*r<=d*y*y->d*y*y<(r+1)*(r+1)->Q (.int ((x+rpart y r) / z)) H):P32 vs H Q E
theorem uz{p:Addr}{x:Int}{Q:VK}{E:XK}(h1:H p=some (.tup [.int x,.int y,.int z]))(hd:2<=d/\d<=99)(hz:1<=z)(b1:Bd 1990 x)(b2:Bd 1990 y)(b3:Bd 1990 z)(q:∀r:Int,0<=r->r*r<=d*y*y->d*y*y<(r+1)*(r+1)->Q (.int ((x+rpart y r) / z)) H):P32 ([.int d,.ref p]++[]) H Q E:=⟨d,p,x,y,z,rfl,h1,hd,hz,⟨b1,b2,b3⟩,q⟩
inductive P33(vs:List V)(H:Hp)(Q:VK)(E:XK):Prop
 |mk(d d':Int)(p r1 r2 o:Addr)(s:B4)(N x y:Int)(_:vs=[.int d,.ref p,.ref o])(_:BsAt H p r1 r2 s N)(_:H o=some (.tup [.int (lA x y N),.int (lB x y N),.int (lN x y N)]))(_:1<=N)(_:Bd 1500 N)(_:GB d' 1500 s)(_:(Bd 1500 x/\Bd 1500 y))(_:∀ (r:Addr) (H':Hp),Same H H'->H' r=some (.tup [.int (s.i x y),.int (s.j x y)])->Q (.ref r) H'):P33 vs H Q E
variable{r1 r2:Addr}
theorem Bi{d':Int}{p o:Addr}{s:B4}{N x:Int}{Q:VK}{E:XK}(h:BsAt H p r1 r2 s N)(ho:H o=some (.tup [.int (lA x y N),.int (lB x y N),.int (lN x y N)]))(hN:1<=N)(hb:Bd 1500 N)(g:GB d' 1500 s)(bx:Bd 1500 x)(by':Bd 1500 y)(q:∀(r:Addr)(H':Hp),Same H H'->H' r=some (.tup [.int (s.i x y),.int (s.j x y)])->Q (.ref r) H'):P33 ([.int d,.ref p,.ref o]++[]) H Q E:=⟨d,d',p,r1,r2,o,s,N,x,y,rfl,h,ho,hN,hb,g,⟨bx,by'⟩,q⟩
inductive P34(K:jj)(vs:List V)(H:Hp)(Q:VK)(E:XK):Prop
 |mk{d:Int}{k:Nat}{p:Addr}{L:List Ln}(_:vs=[.ref p])(_:LsB d k H p L)(_:L.length<=40)(_:Bd 990 (cbs (L.map λc=>c.s.z)))(_:Q (.int (cbs (L.map λc=>c.s.z))) H):P34 K vs H Q E
abbrev vz:=@P34.mk
inductive P35(cs:Cs)(vs:List V)(H:Hp)(Q:VK)(E:XK):Prop
 |mk{y:Yd}{d:Int}{tn:Bool}{cl:List Cell}{ns:List Nat}{lg:List V}{p a:Addr}{e:Dd}{n:Nat}{c:Cell}{m m':Int}(_:vs=[.ref y.p,.ref p,.ref a])(_:YdAt cs.Yard H y d tn cl ns lg)(_:DdAt H p e)(_:H a=some (.lst (if e.puts=2 then [.int m,.int m'] else [.int m])))(_:e.n=(n:Int))(_:cl[n]?=some c)(_:(∀ (r:Addr) (H':Hp),Same H H'->H r=none->DdAt H' r (e.und m m' c.b)->Q (.ref r) H')):P35 cs vs H Q E
abbrev EB:=@P35.mk
inductive P36(vs:List V)(H:Hp)(Q:VK)(E:XK):Prop
 |mk{pl:Addr}{ps:List Addr}{bs:List Bo}{es:DL}{d:Int}{tn:Bool}(_:vs=[.int ((bs.length:Nat):Int),.ref pl])(_:1<=bs.length)(_:bs.length<=30)(_:H pl=some (.lst (ps.map V.ref)))(_:ps.length<=150)(_:Runs H ps es)(_:Walk d tn (As.sb bs) es)(_:(∀ (r:Addr) (H':Hp),Same H H'->H r=none->H' r=some (.lst (((ends (As.sb bs) es).ns.map λn:Nat=>(n:Int)).map V.int))->Q (.ref r) H')):P36 vs H Q E
abbrev v9:=@P36.mk
inductive P37(K:jj)(vs:List V)(H:Hp)(Q:VK)(E:XK):Prop
 |mk(p p':Addr)(x y:Rat)(_:vs=[.ref p,.ref p'])(_:Fs K H p x)(_:Fq H p' y)(_:(Bq 8000 x/\Bq 8000 y))(_:∀ (r:Addr) (H':Hp),Same H H'->Fq H' r (x+y)->Q (.ref r) H'):P37 K vs H Q E
theorem vH{K:jj}{p:Addr}{x y:Rat}{Q:VK}{E:XK}(h1:Fs K H p x)(h2:Fq H p' y)(b1:Bq 8000 x)(b2:Bq 8000 y)(q:∀(r:Addr)(H':Hp),Same H H'->Fq H' r (x+y)->Q (.ref r) H'):P37 K ([.ref p,.ref p']++[]) H Q E:=⟨p,p',x,y,rfl,h1,h2,⟨b1,b2⟩,q⟩
theorem Kr{K:jj}{p:Addr}{x y:Rat}{Q:VK}{E:XK}(h1:Fq H p x)(h2:Fq H p' y)(b1:Bq 8000 x)(b2:Bq 8000 y)(q:∀(r:Addr)(H':Hp),Same H H'->Fq H' r (x+y)->Q (.ref r) H'):P37 K ([.ref p,.ref p']++[]) H Q E:=vH (SqT.of h1) h2 b1 b2 q
inductive P38(vs:List V)(H:Hp)(Q:VK)(E:XK):Prop
 |mk(p p':Addr)(x y:Rat)(_:vs=[.ref p,.ref p'])(_:Fq H p x)(_:Fq H p' y)(_:(Bq 8000 x/\Bq 8000 y))(_:∀ (r:Addr) (H':Hp),Same H H'->Fq H' r (x*y)->Q (.ref r) H'):P38 vs H Q E
theorem u6{p:Addr}{x y:Rat}{Q:VK}{E:XK}(h1:Fq H p x)(h2:Fq H p' y)(b1:Bq 8000 x)(b2:Bq 8000 y)(q:∀(r:Addr)(H':Hp),Same H H'->Fq H' r (x*y)->Q (.ref r) H'):P38 ([.ref p,.ref p']++[]) H Q E:=⟨p,p',x,y,rfl,h1,h2,⟨b1,b2⟩,q⟩
inductive P39(vs:List V)(H:Hp)(Q:VK)(E:XK):Prop
 |mk{p p':Addr}{s t:Sd}(_:vs=[.ref p,.ref p'])(_:SdAt H p s)(_:SdAt H p' t)(_:SY s)(_:SY t)(_:(∀ (r:Addr) (H':Hp),Same H H'->SdAt H' r (adS s t)->Q (.ref r) H')):P39 vs H Q E
abbrev Cw:=@P39.mk
inductive P40(vs:List V)(H:Hp)(Q:VK)(E:XK):Prop
 |mk{d c:Int}{k:Nat}(_:vs=[.int d,.int c,.int (k:Int)])(_:Rt d)(_:Bd 1048577 c)(_:k<=10)(_:(∀ (r:Addr) (H':Hp) (s:Sd),Same H H'->SdAt H' r s->Dw d s->Q (.ref r) H')):P40 vs H Q E
abbrev xM:=@P40.mk
inductive P41(vs:List V)(H:Hp)(Q:VK)(E:XK):Prop
 |mk{d D:Int}{a:Addr}{L:List Cell}(_:vs=[.ref a])(_:H a=some (.lst (L.map Cell.v)))(_:(∀c∈L,c.At H))(_:(∀c∈L,BoD d D 140 c.b))(_:(1<=D/\Bd 111 D))(_:L.length<=14)(_:(∀ (r:Addr) (H':Hp),Same H H'->S4 20010 H' r ((tbs (L.map Cell.b)).add (tbs (L.map Cell.b)).tr)->Q (.ref r) H')):P41 vs H Q E
abbrev xc:=@P41.mk
inductive P42(cs:Cs)(vs:List V)(H:Hp)(Q:VK)(E:XK):Prop
 |mk{y:Yd}{d:Int}{tn:Bool}{cl:List Cell}{ns:List Nat}{lg:List V}{a:Addr}{ms:List Int}(_:vs=[.ref y.p,.ref a])(_:YdAt cs.Yard H y d tn cl ns lg)(_:H a=some (.lst (ms.map V.int)))(_:(∀m∈ms,∃n∈ns,m=(n:Int)))(_:ms.Nodup)(_:ms.length<=2)(_:Q .non H):P42 cs vs H Q E
abbrev xW:=@P42.mk
inductive P43(vs:List V)(H:Hp)(Q:VK)(E:XK):Prop
 |mk{p:Addr}{a b n:Int}(_:vs=[.ref p])(_:H p=some (.tup [.int a,.int b,.int n]))(_:n≠0)(_:Bd 8000 n)(_:∀ (r r1 r2:Addr) (H':Hp),Same H H'->H' r=some (.tup [.ref r1,.ref r2])->H' r1=some (.tup [.int (fT a n),.int (fB a n)])->H' r2=some (.tup [.int (fT b n),.int (fB b n)])->Q (.ref r) H'):P43 vs H Q E
abbrev ED:=@P43.mk
inductive P44(vs:List V)(H:Hp)(Q:VK)(E:XK):Prop
 |mk(p q:Addr)(x y z x' y' z':Int)(_:vs=[.ref p,.ref q])(_:H p=some (.tup [.int x,.int y,.int z]))(_:H q=some (.tup [.int x',.int y',.int z']))(_:1<=z)(_:1<=z')(_:g3 x y z=1)(_:g3 x' y' z'=1)(_:(Bd 5000 x/\Bd 5000 y/\Bd 2900 z/\Bd 5000 x'/\Bd 5000 y'/\Bd 2900 z'))(_:∀ (r:Addr) (H':Hp),Same H H'->H' r=some (.tup [.int (lA (x*z'+-x'*z) (y*z'+-y'*z) (z*z')),.int (lB (x*z'+-x'*z) (y*z'+-y'*z) (z*z')),.int (lN (x*z'+-x'*z) (y*z'+-y'*z) (z*z'))])->Q (.ref r) H'):P44 vs H Q E
theorem AY{p:Addr}{x:Int}{Q:VK}{E:XK}(h1:H p=some (.tup [.int x,.int y,.int z]))(h2:H p'=some (.tup [.int x',.int y',.int z']))(n1:1<=z)(n2:1<=z')(k1:g3 x y z=1)(k2:g3 x' y' z'=1)(b1:Bd 5000 x)(b2:Bd 5000 y)(b3:Bd 2900 z)(b4:Bd 5000 x')(b5:Bd 5000 y')(b6:Bd 2900 z')(q:∀(r:Addr)(H':Hp),Same H H'->H' r=some (.tup [.int (lA (x*z'+-x'*z) (y*z'+-y'*z) (z*z')),.int (lB (x*z'+-x'*z) (y*z'+-y'*z) (z*z')),.int (lN (x*z'+-x'*z) (y*z'+-y'*z) (z*z'))])->Q (.ref r) H'):P44 ([.ref p,.ref p']++[]) H Q E:=⟨p,p',x,y,z,x',y',z',rfl,h1,h2,n1,n2,k1,k2,⟨b1,b2,b3,b4,b5,b6⟩,q⟩
inductive P45(K:jj)(vs:List V)(H:Hp)(Q:VK)(E:XK):Prop
 |mk(d:Int)(p p':Addr)(x y z x' y' z':Int)(_:vs=[.int d,.ref p,.ref p'])(_:SqT K H p [.int x,.int y,.int z])(_:H p'=some (.tup [.int x',.int y',.int z']))(_:Bd 64 d)(_:(Bd 2600 x/\Bd 2600 y/\Bd 2600 z/\Bd 2600 x'/\Bd 2600 y'/\Bd 2600 z'))(_:z≠0)(_:z'≠0)(_:∀ (r:Addr) (H':Hp),Same H H'->H' r=some (.tup [.int (lA (x*x'+d*y*y') (x*y'+y*x') (z*z')),.int (lB (x*x'+d*y*y') (x*y'+y*x') (z*z')),.int (lN (x*x'+d*y*y') (x*y'+y*x') (z*z'))])->Q (.ref r) H'):P45 K vs H Q E
theorem vP{K:jj}{p:Addr}{x:Int}{Q:VK}{E:XK}(h1:H p=some (.tup [.int x,.int y,.int z]))(h2:H p'=some (.tup [.int x',.int y',.int z']))(hd:Bd 64 d)(b1:Bd 2600 x)(b2:Bd 2600 y)(b3:Bd 2600 z)(b4:Bd 2600 x')(b5:Bd 2600 y')(b6:Bd 2600 z')(n1:z≠0)(n2:z'≠0)(q:∀(r:Addr)(H':Hp),Same H H'->H' r=some (.tup [.int (lA (x*x'+d*y*y') (x*y'+y*x') (z*z')),.int (lB (x*x'+d*y*y') (x*y'+y*x') (z*z')),.int (lN (x*x'+d*y*y') (x*y'+y*x') (z*z'))])->Q (.ref r) H'):P45 K ([.int d,.ref p,.ref p']++[]) H Q E:=⟨d,p,p',x,y,z,x',y',z',rfl,SqT.of h1,h2,hd,⟨b1,b2,b3,b4,b5,b6⟩,n1,n2,q⟩
theorem Fa{K:jj}{p:Addr}{x:Int}{Q:VK}{E:XK}(h1:SqT K H p [.int x,.int y,.int z])(h2:H p'=some (.tup [.int x',.int y',.int z']))(hd:Bd 64 d)(b1:Bd 2600 x)(b2:Bd 2600 y)(b3:Bd 2600 z)(b4:Bd 2600 x')(b5:Bd 2600 y')(b6:Bd 2600 z')(n1:z≠0)(n2:z'≠0)(q:∀(r:Addr)(H':Hp),Same H H'->H' r=some (.tup [.int (lA (x*x'+d*y*y') (x*y'+y*x') (z*z')),.int (lB (x*x'+d*y*y') (x*y'+y*x') (z*z')),.int (lN (x*x'+d*y*y') (x*y'+y*x') (z*z'))])->Q (.ref r) H'):P45 K ([.int d,.ref p,.ref p']++[]) H Q E:=⟨d,p,p',x,y,z,x',y',z',rfl,h1,h2,hd,⟨b1,b2,b3,b4,b5,b6⟩,n1,n2,q⟩
inductive P46(vs:List V)(H:Hp)(Q:VK)(E:XK):Prop
 |mk{d N:Int}(_:vs=[.int d,.int N])(_:1<=N)(_:Bd 1500 N)(_:∀ (p' r1' r2':Addr) (H':Hp),Same H H'->BsAt H' p' r1' r2' b4 N->Q (.ref p') H'):P46 vs H Q E
abbrev wQ:=@P46.mk
inductive P47(vs:List V)(H:Hp)(Q:VK)(E:XK):Prop
 |mk{p:Addr}{s:Sd}(_:vs=[.ref p])(_:SdAt H p s)(_:SK 4900 2100 s)(_:∀H',Same H H'->Q (.bl true) H'):P47 vs H Q E
abbrev AH:=@P47.mk
inductive P48(vs:List V)(H:Hp)(Q:VK)(E:XK):Prop
 |mk{c c':Cell}(_:vs=[.ref c.p,.ref c'.p])(_:c.At H)(_:c'.At H)(_:c.b.h=c'.b.h)(_:SY c.b.w)(_:SY c'.b.w)(_:∀ (c1:Cell) (H':Hp),Same H H'->H c1.p=none->c1.At H'->c1.b=⟨adS c.b.w c'.b.w,c.b.h⟩->Q (.ref c1.p) H'):P48 vs H Q E
abbrev xG:=@P48.mk
inductive P49(vs:List V)(H:Hp)(Q:VK)(E:XK):Prop
 |mk{c:Cell}{k:Int}(_:vs=[.ref c.p,.int k])(_:c.At H)(_:1<=k)(_:Bd 2500 k)(_:SY c.b.w)(_:SY c.b.h)(_:∀ (c1:Cell) (H':Hp),Same H H'->H c1.p=none->c1.At H'->c1.b=⟨shS c.b.w 1 k,shS c.b.h k 1⟩->Q (.ref c1.p) H'):P49 vs H Q E
abbrev Ab:=@P49.mk
inductive P50(vs:List V)(H:Hp)(Q:VK)(E:XK):Prop
 |mk{pl ml:Addr}{ps ms:List Addr}{bs F:List Bo}{es fs:DL}{d:Int}{tn:Bool}(_:vs=[.int ((bs.length:Nat):Int),.ref pl,.ref ml])(_:1<=bs.length)(_:bs.length<=30)(_:H pl=some (.lst (ps.map V.ref)))(_:ps.length<=150)(_:Runs H ps es)(_:Walk d tn (As.sb bs) es)(_:H ml=some (.lst (ms.map V.ref)))(_:ms.length<=150)(_:Runs H ms fs)(_:(ends (As.sb bs) es).ns.map (ends (As.sb bs) es).g=F)(_:Walk d false (As.sb F) fs)(_:(∀ (b:Addr) (qs:List Addr) (H':Hp),Same H H'->H b=none->H' b=some (.lst ((ps++qs).map V.ref))->Runs H' (ps++qs) (es++fs.map (rnx (nmr (ends (As.sb bs) es))))->Q (.ref b) H')):P50 vs H Q E
abbrev ud:=@P50.mk
inductive P51(vs:List V)(H:Hp)(Q:VK)(E:XK):Prop
 |mk(p p':Addr)(x y:Rat)(_:vs=[.ref p,.ref p'])(_:Fq H p x)(_:Fq H p' y)(_:(Bq 8000 x/\Bq 8000 y))(_:∀ (r:Addr) (H':Hp),Same H H'->Fq H' r (x - y)->Q (.ref r) H'):P51 vs H Q E
theorem Il{p:Addr}{x y:Rat}{Q:VK}{E:XK}(h1:Fq H p x)(h2:Fq H p' y)(b1:Bq 8000 x)(b2:Bq 8000 y)(q:∀(r:Addr)(H':Hp),Same H H'->Fq H' r (x - y)->Q (.ref r) H'):P51 ([.ref p,.ref p']++[]) H Q E:=⟨p,p',x,y,rfl,h1,h2,⟨b1,b2⟩,q⟩
inductive P52(K:jj)(vs:List V)(H:Hp)(Q:VK)(E:XK):Prop
 |mk{p p':Addr}{s t:Tb}(_:vs=[.ref p,.ref p'])(_:(∃r0 r1 f0 f1 f2 f3:Addr,TbS K H p r0 r1 f0 f1 f2 f3 s))(_:TbAt H p' t)(_:s.Bt 4000 4000)(_:t.Bt 4000 4000)(_:∀ (r:Addr) (H':Hp),Same H H'->TbAt H' r (s.add t)->Q (.ref r) H'):P52 K vs H Q E
abbrev wy:=@P52.mk
inductive P53(K:jj)(vs:List V)(H:Hp)(Q:VK)(E:XK):Prop
 |mk{d:Int}{p:Addr}{ns:List Int}(_:vs=[.int d,.ref p])(_:Rt d)(_:SqL K H p (ns.map V.int))(_:(∀x∈ns,Bd 1048577 x))(_:ns.length<=10)(_:(∀ (r:Addr) (H':Hp) (L:List Cell),Same H H'->H r=none->H' r=some (.lst (L.map Cell.v))->(∀c∈L,c.At H')->(∀c∈L,Dw d c.b.w/\Dw d c.b.h)->L.length=ns.length->Q (.ref r) H')):P53 K vs H Q E
abbrev xL:=@P53.mk
inductive P54(K:jj)(vs:List V)(H:Hp)(Q:VK)(E:XK):Prop
 |mk{d:Int}{p p':Addr}{s t:Sd}(_:vs=[.int d,.ref p,.ref p'])(_:SqT K H p [.int s.x,.int s.y,.int s.z])(_:SdAt H p' t)(_:Bd 64 d)(_:(Bd 900 s.x/\Bd 900 s.y/\Bd 900 s.z))(_:(Bd 900 t.x/\Bd 900 t.y/\Bd 900 t.z))(_:s.z≠0)(_:t.x*t.x - d*t.y*t.y≠0)(_:¬ (t.x=0/\t.y=0))(_:(∀ (r:Addr) (H':Hp),Same H H'->SdAt H' r (ptV d s t)->Q (.ref r) H')):P54 K vs H Q E
abbrev vd:=@P54.mk
inductive P55(vs:List V)(H:Hp)(Q:VK)(E:XK):Prop
 |mk{d:Int}{p r1 r2:Addr}{s:B4}{N:Int}(_:vs=[.int d,.ref p])(_:BsAt H p r1 r2 s N)(_:Rt d)(_:1<=N)(_:Bd 1500 N)(_:GB d 1500 s)(_:∀ (p' r1' r2':Addr) (H':Hp),Same H H'->BsAt H' p' r1' r2' (s.nx d) N->Q (.ref p') H'):P55 vs H Q E
abbrev vQ:=@P55.mk
inductive P56(vs:List V)(H:Hp)(Q:VK)(E:XK):Prop
 |mk{d m:Int}{p:Addr}{s:Sd}(_:vs=[.int d,.int m,.ref p])(_:SdAt H p s)(_:Bd 64 d)(_:Bd 2500 m)(_:SK 1500 1500 s)(_:∀ (r:Addr) (H':Hp),Same H H'->SdAt H' r (tmS m s)->Q (.ref r) H'):P56 vs H Q E
abbrev xm:=@P56.mk
inductive P57(vs:List V)(H:Hp)(Q:VK)(E:XK):Prop
 |mk{p:Addr}{e:Dd}(_:vs=[.ref p])(_:DdAt H p e)(_:e.Ok)(_:∀H',Same H H'->Q (.bl true) H'):P57 vs H Q E
abbrev De:=@P57.mk
inductive P58(vs:List V)(H:Hp)(Q:VK)(E:XK):Prop
 |mk{d:Int}{c:Cell}{p:Addr}{s:Sd}(_:vs=[.int d,.ref c.p,.ref p])(_:c.At H)(_:SdAt H p s)(_:Bd 64 d)(_:SY c.b.w)(_:SY s)(_:0<sgn d s.x s.y)(_:0<sgn d (c.b.w.x*s.z - s.x*c.b.w.z) (c.b.w.y*s.z - s.y*c.b.w.z))(_:∀ (r:Addr) (c1 c2:Cell) (H':Hp),Same H H'->H r=none->H' r=some (.lst [.ref c1.p,.ref c2.p])->c1.At H'->c2.At H'->c1.b=⟨s,c.b.h⟩->c2.b=⟨tkS c.b.w s,c.b.h⟩->Q (.ref r) H'):P58 vs H Q E
abbrev wJ:=@P58.mk
inductive P59(vs:List V)(H:Hp)(Q:VK)(E:XK):Prop
 |mk{c:Cell}(_:vs=[.ref c.p])(_:c.At H)(_:(S19 c.b.w/\S19 c.b.h))(_:∀ (r:Addr) (H':Hp),Same H H'->TbAt H' r (c.b.tb)->Q (.ref r) H'):P59 vs H Q E
abbrev uD:=@P59.mk
inductive P60(K:jj)(vs:List V)(H:Hp)(Q:VK)(E:XK):Prop
 |mk{d w:Int}{p1 sc:Addr}{L:List Cell}{ms:List Int}(_:vs=[.int d,.ref p1,.ref sc,.int w])(_:H p1=some (.lst (L.map Cell.v)))(_:(∀c∈L,c.At H))(_:(∀c∈L,Dw d c.b.w/\Dw d c.b.h))(_:(1<=L.length/\L.length<=4))(_:Rt d)(_:H sc=some (.lst (ms.map V.int)))(_:(∀x∈ms,Bd 1048576 x))(_:(0<=w/\w<5))(_:(∀ (r:Addr) (H':Hp) (C:List Cell),Same H H'->H' r=some (.lst (C.map Cell.v))->(∀c∈C,c.At H')->Oth d C->Q (.ref r) H')):P60 K vs H Q E
abbrev tF:=@P60.mk
inductive P61(K:jj)(vs:List V)(H:Hp)(Q:VK)(E:XK):Prop
 |mk{d:Int}{p:Addr}{L:List Ln}{k:Nat}(_:vs=[.int d,.ref p])(_:LsB d 970 H p L)(_:Rt d)(_:L.length<=40)(_:Fst d (L.map Ln.u) k)(_:Bd 990 (cbs (L.map λc=>c.s.z)))(_:∀ (p' r1 r2:Addr) (H':Hp),Same H H'->BsAt H' p' r1 r2 (st d k) (cbs (L.map λc=>c.s.z))->Q (.ref p') H'):P61 K vs H Q E
abbrev DH:=@P61.mk
inductive P62(vs:List V)(H:Hp)(Q:VK)(E:XK):Prop
 |mk{d d':Int}{p pb r1 r2:Addr}{s':B4}{N D px py:Int}{C:List Cell}{hb:List Bx}(_:vs=[.int d,.ref p,.ref pb])(_:H p=some (.lst (C.map Cell.v)))(_:(∀c∈C,c.At H))(_:BsAt H pb r1 r2 s' N)(_:1<=N)(_:Bd 1500 N)(_:GB d' 1500 s')(_:C.length=hb.length)(_:hb.length<=60)(_:Bd 64 d)(_:1<=D)(_:bw1 s' N=sdO D px py)(_:SK 1500 1500 (bw1 s' N))(_:(∀ (k:Nat) (c:Cell) (b:Bx),C[k]?=some c->hb[k]?=some b->∃X Y,c.b.w=sdO N X Y/\Bd 1500 X/\Bd 1500 Y/\b.i=s'.i X Y/\b.j=s'.j X Y/\Bd 2500 b.i))(_:(∀ (r:Addr) (ps:List Addr) (H':Hp),Same H H'->H r=none->H' r=some (.lst (ps.map V.ref))->Runs H' ps (npl D px py hb)->Q (.ref r) H')):P62 vs H Q E
abbrev uL:=@P62.mk
inductive P63(K:jj)(vs:List V)(H:Hp)(Q:VK)(E:XK):Prop
 |mk{p:Addr}{L:List Cell}(_:vs=[.ref p])(_:H p=some (.lst (L.map Cell.v)))(_:(∀x∈L,x.At H))(_:(∀x∈L,S19 x.b.w/\S19 x.b.h))(_:(∀i,i<L.length->(tbs ((L.take i).map Cell.b)).Bt 4000 4000))(_:1<=L.length)(_:(∀ (r:Addr) (H':Hp),Same H H'->TbAt H' r (tbs (L.map Cell.b))->Q (.ref r) H')):P63 K vs H Q E
abbrev uY:=@P63.mk
inductive P64(K:jj)(vs:List V)(H:Hp)(Q:VK)(E:XK):Prop
 |mk{R:Rd}{p:Addr}{s:Sd}{u v t:Int}{k ku:Nat}(_:vs=[.int R.d,.ref p])(_:SdAt H p s)(_:Lw s)(_:sgn R.d s.x s.y=1)(_:(Bd k s.x/\Bd k s.y/\Bd 900 s.z))(_:k<=900)(_:(1<=t/\Bd ku u/\Bd ku v/\ku<=1900/\Bd 1900 t))(_:Qd.of R u v*Sdv R s=(t:Qd R))(_:(∀ (r:Addr) (s':Sd) (H':Hp),Same H H'->SdAt H' r s'->Qd.Pw (Sdv R s) s' k ku->Q (.ref r) H')):P64 K vs H Q E
abbrev xK:=@P64.mk
inductive P65(cs:Cs)(vs:List V)(H:Hp)(Q:VK)(E:XK):Prop
 |mk{y:Yd}{d:Int}{tn:Bool}{cl:List Cell}{ns:List Nat}{lg:List V}{p a:Addr}{e:Dd}{c c':Cell}(_:vs=[.ref y.p,.ref p,.ref a])(_:YdAt cs.Yard H y d tn cl ns lg)(_:DdAt H p e)(_:H a=some (.lst (if e.two then [.ref c.p,.ref c'.p] else [.ref c.p])))(_:c.At H)(_:c'.At H)(_:Bd 64 d)(_:e.Fit d c.b c'.b)(_:(∀ (r:Addr) (N:List Cell) (H':Hp),Same H H'->H r=none->H' r=some (.lst (N.map Cell.v))->(∀x∈N,x.At H')->N.map Cell.b=e.new c.b c'.b->Q (.ref r) H')):P65 cs vs H Q E
abbrev uS:=@P65.mk
inductive P66(K:jj)(vs:List V)(H:Hp)(Q:VK)(E:XK):Prop
 |mk{R:Rd}{c:Cell}{pg:Addr}{g:Rat}(_:vs=[.int R.d,.ref c.p,.ref pg])(_:c.At H)(_:Fq H pg g)(_:(Lw c.b.w/\Lw c.b.h))(_:(sgn R.d c.b.w.x c.b.w.y=1/\sgn R.d c.b.h.x c.b.h.y=1))(_:(Bd 21 c.b.w.x/\Bd 21 c.b.w.y/\Bd 10 c.b.w.z))(_:(Bd 21 c.b.h.x/\Bd 21 c.b.h.y/\Bd 10 c.b.h.z))(_:(Bd 240 g.num/\Bd 183 (g.den:Int)))(_:g.num≠0)(_:(∀ (r r1 r2:Addr) (pw ph:Sd) (H':Hp),Same H H'->H' r=some (.tup [.ref r1,.ref r2])->SdAt H' r1 pw->SdAt H' r2 ph->Pie R c.b.w c.b.h g.num (g.den:Int) 325 359 371 pw ph->Q (.ref r) H')):P66 K vs H Q E
abbrev vE:=@P66.mk
inductive P67(cs:Cs)(vs:List V)(H:Hp)(Q:VK)(E:XK):Prop
 |mk{y:Yd}{d:Int}{tn:Bool}{cl:List Cell}{ns:List Nat}{lg:List V}{p:Addr}{e:Dd}{c c':Cell}(_:vs=[.ref y.p,.ref p])(_:YdAt cs.Yard H y d tn cl ns lg)(_:DdAt H p e)(_:e.Ok)(_:(∀m∈e.names,∃n∈ns,m=(n:Int)))(_:e.names.Nodup)(_:(e.isT=true->tn=true))(_:CellsOf cl e c c')(_:e.Fit d c.b c'.b)(_:Bd 64 d)(_:cl.length<=398)(_:lg.length<=199)(_:(∀ (N:List Cell) (H':Hp),YdAt cs.Yard H' y d tn (cl++N) (zT ns e.names++List.range' cl.length N.length) (lg++[.ref p])->N.map Cell.b=e.new c.b c'.b->(∀b o,H b=some o->b≠y.k->b≠y.l->b≠y.t->H' b=some o)->Q .non H')):P67 cs vs H Q E
abbrev CJ:=@P67.mk
inductive P68(cs:Cs)(vs:List V)(H:Hp)(Q:VK)(E:XK):Prop
 |mk{hp pl:Addr}{d:Int}{tn:Bool}{L:List Cell}{ps:List Addr}{es:DL}(_:vs=[.int d,.ref hp,.ref pl,.bl tn])(_:H hp=some (.lst (L.map Cell.v)))(_:(∀c∈L,c.At H))(_:L.length<=30)(_:H pl=some (.lst (ps.map V.ref)))(_:ps.length<=150)(_:Bd 64 d)(_:Runs H ps es)(_:Walk d tn (As.st L) es)(_:(∀ (y:Yd) (H':Hp),Same H H'->YdS cs.Yard H' y d tn (ends (As.st L) es) (ps.map V.ref)->Q (.ref y.p) H')):P68 cs vs H Q E
abbrev wj:=@P68.mk
inductive P69(K:jj)(vs:List V)(H:Hp)(Q:VK)(E:XK):Prop
 |mk{R:Rd}{hp pg:Addr}{c:Cell}{L:List Cell}{g:Rat}(_:vs=[.int R.d,.ref hp,.ref pg])(_:H hp=some (.lst ((c::L).map Cell.v)))(_:c.At H)(_:Fq H pg g)(_:L.length<=20)(_:(Lw c.b.w/\Lw c.b.h))(_:(sgn R.d c.b.w.x c.b.w.y=1/\sgn R.d c.b.h.x c.b.h.y=1))(_:(Bd 21 c.b.w.x/\Bd 21 c.b.w.y/\Bd 10 c.b.w.z))(_:(Bd 21 c.b.h.x/\Bd 21 c.b.h.y/\Bd 10 c.b.h.z))(_:(Bd 240 g.num/\Bd 183 (g.den:Int)))(_:g.num≠0)(_:(∀ (r:Addr) (ps:List Addr) (pw ph:Sd) (H':Hp),Same H H'->H r=none->H' r=some (.lst (ps.map V.ref))->Runs H' ps (tde (L.length+1) pw ph)->Pie R c.b.w c.b.h g.num (g.den:Int) 325 359 371 pw ph->Q (.ref r) H')):P69 K vs H Q E
abbrev vx:=@P69.mk
inductive P70(cs:Cs)(vs:List V)(H:Hp)(Q:VK)(E:XK):Prop
 |mk{hp pl:Addr}{d:Int}{tn:Bool}{L:List Cell}{ps:List Addr}{es:DL}(_:vs=[.int d,.ref hp,.ref pl,.bl tn])(_:H hp=some (.lst (L.map Cell.v)))(_:(∀c∈L,c.At H))(_:L.length<=30)(_:H pl=some (.lst (ps.map V.ref)))(_:ps.length<=150)(_:Bd 64 d)(_:Runs H ps es)(_:Walk d tn (As.st L) es)(_:(∀ (r:Addr) (C:List Cell) (H':Hp),Same H H'->H r=none->H' r=some (.lst (C.map Cell.v))->(∀c∈C,c.At H')->C.map Cell.b=(ends (As.st L) es).ns.map (ends (As.st L) es).g->Q (.ref r) H')):P70 cs vs H Q E
abbrev Ft:=@P70.mk
inductive P71(cs:Cs)(vs:List V)(H:Hp)(Q:VK)(E:XK):Prop
 |mk{hp pl:Addr}{d:Int}{tn:Bool}{L:List Cell}{ps:List Addr}{es:DL}{D0:Int}{K' M:Nat}(_:vs=[.int d,.ref hp,.ref pl])(_:H hp=some (.lst (L.map Cell.v)))(_:(∀c∈L,c.At H))(_:1<=L.length)(_:L.length<=20)(_:H pl=some (.lst (ps.map V.ref)))(_:ps.length<=100)(_:Rt d)(_:Runs H ps es)(_:Walk d tn (As.st L) es)(_:Sz D0 K' M)(_:Ever d D0 M (ends (As.st L) es))(_:(∀ (r a b:Addr) (ps':List Addr) (es':DL) (qs:List Nat) (H':Hp),Same H H'->H' r=some (.tup [.ref a,.ref b])->H a=none->H b=none->a≠b->H' a=some (.lst (ps'.map V.ref))->H' b=some (.lst ((qs.map λn:Nat=>(n:Int)).map V.int))->Runs H' ps' es'->es'.length=es.length->Turned d tn D0 M (L.map Cell.b) ((ends (As.st L) es).ns.map (ends (As.st L) es).g) es' qs->Q (.ref r) H')):P71 cs vs H Q E
abbrev JS:=@P71.mk
inductive P72(cs:Cs)(vs:List V)(H:Hp)(Q:VK)(E:XK):Prop
 |mk{d N0 Eh:Int}{p1 p2:Addr}{C1 C2:List Cell}{kx kN kw kE kh M:Nat}(_:vs=[.int d,.ref p1,.ref p2])(_:H p1=some (.lst (C1.map Cell.v)))(_:H p2=some (.lst (C2.map Cell.v)))(_:(∀c∈C1,c.At H))(_:(∀c∈C2,c.At H))(_:(∀c∈C1,Wh d N0 Eh kx kw kh c.b))(_:(∀x∈C1,S19 x.b.w/\S19 x.b.h))(_:(∀i,i<C1.length->(tbs ((C1.take i).map Cell.b)).Bt 4000 4000))(_:(tbs (C1.map Cell.b)=tbs (C2.map Cell.b)->∀c∈C2,Wh d N0 Eh kx kw kh c.b))(_:(∀x∈C2,S19 x.b.w/\S19 x.b.h))(_:(∀i,i<C2.length->(tbs ((C2.take i).map Cell.b)).Bt 4000 4000))(_:LkB kx kN kw kE kh M)(_:(1<=N0/\Bd kN N0))(_:(1<=Eh/\Bd kE Eh))(_:(1<=C1.length/\C1.length<=20))(_:(1<=C2.length/\C2.length<=20))(_:Rt d)(_:(tbs (C1.map Cell.b)=tbs (C2.map Cell.b)->∀ (r pl pp:Addr) (H':Hp) (ps:List Addr) (es:DL) (qs:List Nat) (D':Int),Same H H'->H' r=some (.tup [.str (Str.ofString "plan"),.ref pl,.ref pp])->H pl=none->H pp=none->pl≠pp->H' pl=some (.lst (ps.map V.ref))->Runs H' ps es->ps.length<=5*(C1.length+C2.length)->H' pp=some (.lst ((qs.map λn:Nat=>(n:Int)).map V.int))->Sz D' (kN+kE) M->Plan d false D' M (C1.map Cell.b) (C2.map Cell.b) es qs->Q (.ref r) H'))(_:(∀ (r:Addr) (H':Hp) (i j:Nat),Same H H'->H' r=some (.tup [.str (Str.ofString "apart"),.int (i:Int),.int (j:Int)])->Fu (tbs (C1.map Cell.b)) (tbs (C2.map Cell.b)) i j->Q (.ref r) H')):P72 cs vs H Q E
abbrev Gx:=@P72.mk
inductive P73(K:jj)(cs:Cs)(vs:List V)(H:Hp)(Q:VK)(E:XK):Prop
 |mk{R:Rd}{p1 p2:Addr}{c:Cell}{L C2:List Cell}{D1 D2 E1 E2:Int}(_:vs=[.int R.d,.ref p1,.ref p2])(_:H p1=some (.lst ((c::L).map Cell.v)))(_:H p2=some (.lst (C2.map Cell.v)))(_:(∀x∈c::L,x.At H))(_:(∀x∈C2,x.At H))(_:(∀x∈c::L,BoD R.d D1 115 x.b))(_:(∀x∈C2,BoD R.d D2 140 x.b))(_:(1<=D1/\Bd 81 D1))(_:(1<=D2/\Bd 111 D2))(_:(Bd 21 c.b.w.x/\Bd 21 c.b.w.y/\Bd 10 c.b.w.z))(_:(Bd 21 c.b.h.x/\Bd 21 c.b.h.y/\Bd 10 c.b.h.z))(_:L.length<=7)(_:(1<=C2.length/\C2.length<=8))(_:(TbD E1 137 (tbs ((c::L).map Cell.b))/\1<=E1/\Bd 81 E1))(_:(TbD E2 158 (tbs (C2.map Cell.b))/\1<=E2/\Bd 102 E2))(_:((tbs ((c::L).map Cell.b)).add (tbs ((c::L).map Cell.b)).tr=(tbs (C2.map Cell.b)).add (tbs (C2.map Cell.b)).tr->∀ (r pl pp:Addr) (H':Hp),Same H H'->H' r=some (.tup [.str (Str.ofString "plan"),.ref pl,.ref pp])->Q (.ref r) H'))(_:(∀ (r:Addr) (H':Hp) (i j:Nat),Same H H'->H' r=some (.tup [.str (Str.ofString "apart"),.int (i:Int),.int (j:Int)])->Fu ((tbs ((c::L).map Cell.b)).add (tbs ((c::L).map Cell.b)).tr) ((tbs (C2.map Cell.b)).add (tbs (C2.map Cell.b)).tr) i j->Q (.ref r) H')):P73 K cs vs H Q E
abbrev uM:=@P73.mk
theorem C0:FnScope ["thing"] ["thing"] (defScope S0):=by walk_at"sc"
theorem C4:FnScope ["number","guess","better"] ["number"] (defScope S1):=by walk_at"sc"
theorem C5:FnScope ["one","other","pair","rest"] ["one","other"] (defScope S2):=by walk_at"sc"
theorem C6:FnScope ["divisor","bottom"] ["divisor","bottom"] (defScope S3):=by walk_at"sc"
theorem C7:FnScope ["d","a","b"] ["d","a","b"] (defScope S14):=by walk_at"sc"
theorem C8:FnScope ["one","other"] ["one","other"] (defScope S20):=by walk_at"sc"
theorem C10:FnScope ["pieces","unused","deeds","place","piece","fresh"] ["pieces","unused"] (defScope S26):=by walk_at"sc"
theorem C11:FnScope ["deed"] ["deed"] (defScope S29):=by walk_at"sc"
theorem C12:FnScope ["deed"] ["deed"] (defScope S30):=by walk_at"sc"
theorem C13:FnScope ["one"] ["one"] (defScope S31):=by walk_at"sc"
theorem C14:FnScope ["names","places","place","name"] ["names"] (defScope S38):=by walk_at"sc"
theorem C15:FnScope ["deed","names"] ["deed","names"] (defScope S41):=by walk_at"sc"
theorem C16:FnScope ["one"] ["one"] (defScope S48):=by walk_at"sc"
theorem C17:FnScope ["one","other","row","column"] ["one","other"] (defScope S50):=by walk_at"sc"
theorem C18:FnScope ["_law_script","_law_k"] ["_law_script","_law_k"] (defScope S56):=by walk_at"sc"
theorem C19:FnScope ["_law_script","_law_most","_law_factor"] ["_law_script","_law_most"] (defScope S57):=by walk_at"sc"
theorem C20:FnScope ["_law_cell","_law_k","_law_left","_law_one"] ["_law_cell","_law_k"] (defScope S58):=by walk_at"sc"
theorem C21:FnScope ["_law_a","_law_b","_law_n","_law_one","_law_other_here"] ["_law_a","_law_b","_law_n"] (defScope S59):=by walk_at"sc"
theorem C22:FnScope ["_law_d","_law_one","_law_a","_law_b","_law_n"] ["_law_d","_law_one"] (defScope S60):=by walk_at"sc"
theorem C23:FnScope ["_law_cell","_law_roots"] ["_law_cell"] (defScope S62):=by walk_at"sc"
theorem C24:FnScope ["_law_heap_here","_law_found","_law_row","_law_column","_law_top","_law_bottom","_law_width","_law_height","_law_more"] ["_law_heap_here"] (defScope S65):=by walk_at"sc"
theorem C25:FnScope ["_law_found"] ["_law_found"] (defScope S67):=by walk_at"sc"
theorem C26:FnScope ["self","d","heap","turning"] ["self","d","heap","turning"] (defScope S70):=by walk_at"sc"
theorem C27:FnScope ["self","name"] ["self","name"] (defScope S74):=by walk_at"sc"
theorem C28:FnScope ["self"] ["self"] (defScope S75):=by walk_at"sc"
theorem C29:FnScope ["self"] ["self"] (defScope S76):=by walk_at"sc"
theorem C30:FnScope ["a","b","n","divisor"] ["a","b","n"] (defScope S5):=by walk_at"sc"
theorem C31:FnScope ["top","bottom","divisor"] ["top","bottom"] (defScope S6):=by walk_at"sc"
theorem C32:FnScope ["one","other","shared","ahead","behind","a","b","left"] ["one","other"] (defScope S10):=by walk_at"sc"
theorem C33:FnScope ["d","one","other"] ["d","one","other"] (defScope S15):=by walk_at"sc"
theorem C34:FnScope ["d","one","root_part"] ["d","one"] (defScope S16):=by walk_at"sc"
theorem C35:FnScope ["d","base","one","p","q","bottom"] ["d","base","one"] (defScope S21):=by walk_at"sc"
theorem C36:FnScope ["lengths","bottom","one"] ["lengths"] (defScope S22):=by walk_at"sc"
theorem C37:FnScope ["yard","deed","names","word"] ["yard","deed","names"] (defScope S37):=by walk_at"sc"
theorem C38:FnScope ["many","plan","lying","unused","deed","name"] ["many","plan"] (defScope S40):=by walk_at"sc"
theorem C39:FnScope ["one","other","shared","top","left"] ["one","other"] (defScope S43):=by walk_at"sc"
theorem C40:FnScope ["one","other","first","second"] ["one","other"] (defScope S45):=by walk_at"sc"
theorem C41:FnScope ["_law_one","_law_more","_law_a","_law_b"] ["_law_one","_law_more"] (defScope S61):=by walk_at"sc"
theorem C42:FnScope ["_law_d","_law_cell","_law_at","_law_most","_law_a","_law_b","_law_n"] ["_law_d","_law_cell","_law_at"] (defScope S63):=by walk_at"sc"
theorem C43:FnScope ["_law_heap_here","_law_first","_law_second","_law_third","_law_last","_law_amid"] ["_law_heap_here"] (defScope S66):=by walk_at"sc"
theorem C44:FnScope ["self","names","name"] ["self","names"] (defScope S72):=by walk_at"sc"
theorem C45:FnScope ["one"] ["one"] (defScope S7):=by walk_at"sc"
theorem C46:FnScope ["one","other"] ["one","other"] (defScope S11):=by walk_at"sc"
theorem C47:FnScope ["d","one","other"] ["d","one","other"] (defScope S12):=by walk_at"sc"
theorem C48:FnScope ["d","n"] ["d","n"] (defScope S17):=by walk_at"sc"
theorem C49:FnScope ["thing"] ["thing"] (defScope S27):=by walk_at"sc"
theorem C50:FnScope ["one","other"] ["one","other"] (defScope S33):=by walk_at"sc"
theorem C51:FnScope ["one","many","width","height"] ["one","many"] (defScope S34):=by walk_at"sc"
theorem C52:FnScope ["many","plan","more","names","unused","deeds","deed","name"] ["many","plan","more"] (defScope S42):=by walk_at"sc"
theorem C53:FnScope ["one","other"] ["one","other"] (defScope S44):=by walk_at"sc"
theorem C54:FnScope ["one","other"] ["one","other"] (defScope S49):=by walk_at"sc"
theorem C55:FnScope ["_law_d","_law_cells"] ["_law_d","_law_cells"] (defScope S64):=by walk_at"sc"
theorem C56:FnScope ["d","one","other","bottom"] ["d","one","other"] (defScope S13):=by walk_at"sc"
theorem C57:FnScope ["d","base","p","q"] ["d","base"] (defScope S18):=by walk_at"sc"
theorem C58:FnScope ["d","many","one"] ["d","many","one"] (defScope S24):=by walk_at"sc"
theorem C59:FnScope ["thing"] ["thing"] (defScope S28):=by walk_at"sc"
theorem C60:FnScope ["d","one","at"] ["d","one","at"] (defScope S32):=by walk_at"sc"
theorem C61:FnScope ["one","widths","heights"] ["one"] (defScope S47):=by walk_at"sc"
theorem C62:FnScope ["_law_d","_law_one","_law_script","_law_way","_law_width","_law_height","_law_a","_law_b"] ["_law_d","_law_one","_law_script","_law_way"] (defScope S68):=by walk_at"sc"
theorem C63:FnScope ["d","lengths","base","one","tops","bottom"] ["d","lengths"] (defScope S23):=by walk_at"sc"
theorem C64:FnScope ["d","heap","base","deeds","firsts","others","unused","name","one","pair","stacking"] ["d","heap","base"] (defScope S25):=by walk_at"sc"
theorem C65:FnScope ["heap","whole","one"] ["heap"] (defScope S46):=by walk_at"sc"
theorem C66:FnScope ["d","one","whole"] ["d","one"] (defScope S52):=by walk_at"sc"
theorem C67:FnScope ["self","deed","boards","word"] ["self","deed","boards"] (defScope S73):=by walk_at"sc"
theorem C68:FnScope ["d","one","gap","size","room","base","sides","share"] ["d","one","gap"] (defScope S53):=by walk_at"sc"
theorem C69:FnScope ["self","deed","names","fresh","name","one"] ["self","deed"] (defScope S71):=by walk_at"sc"
theorem C70:FnScope ["d","heap","plan","turning","yard","deed"] ["d","heap","plan","turning"] (defScope S35):=by walk_at"sc"
theorem C71:FnScope ["d","heap","gap","piece","fresh"] ["d","heap","gap"] (defScope S54):=by walk_at"sc"
theorem C72:FnScope ["d","heap","plan","turning"] ["d","heap","plan","turning"] (defScope S36):=by walk_at"sc"
theorem C73:FnScope ["d","heap","plan","yard","ends","renamed","place","named","unused","behind","deeds","deed","ahead","name"] ["d","heap","plan"] (defScope S39):=by walk_at"sc"
theorem C74:FnScope ["d","one","other","place","base","returning","plan"] ["d","one","other"] (defScope S51):=by walk_at"sc"
theorem C75:FnScope ["d","one","other","mine","theirs","place","gap","deeds","told"] ["d","one","other"] (defScope S55):=by walk_at"sc"
theorem C76:FnScope ["_law_script","_law_number","_law_d","_law_one","_law_other_here","_law_mine","_law_theirs","_law_spots","_law_found"] ["_law_script"] (defScope S69):=by walk_at"sc"
section
variable(P:Program)(w:World)(K:jj)(mg:Str->Option Value)(base:Heap)
abbrev O3x:=Own P w K mg base 1 "with_sign_of" ["divisor","bottom"] [] P5
abbrev O2x:=Own P w K mg base 1 "common_divisor" ["one","other"] [] P4
abbrev O0x:=Own P w K mg base 1 "is_whole" ["thing"] [] P0
abbrev O25x:=Own P w K mg base 1 "names_taken" ["deed"] [] P9
abbrev O26x:=Own P w K mg base 1 "count_put" ["deed"] [] P10
abbrev O55x:=Own P w K mg base 1 "_law_lowest" ["_law_a","_law_b","_law_n"] [] (P19 K)
abbrev O7x:=Own P w K mg base 2 "added" ["one","other"] [] (P30 K)
abbrev O4x:=Own P w K mg base 2 "length" ["a","b","n"] [] P28
abbrev O39x:=Own P w K mg base 2 "plus" ["one","other"] [] (P37 K)
abbrev O59x:=Own P w K mg base 2 "_law_side" ["_law_d","_law_cell","_law_at"] [] P40
abbrev O9x:=Own P w K mg base 3 "timed" ["d","one","other"] [] (P45 K)
abbrev O12x:=Own P w K mg base 2 "under" ["d","one","other"] [] (P31 K)
abbrev O8x:=Own P w K mg base 3 "taken" ["one","other"] [] P44
abbrev O60x:=Own P w K mg base 3 "_law_heap" ["_law_d","_law_cells"] [] (P53 K)
abbrev O52x:=Own P w K mg base 1 "_law_of" ["_law_script","_law_k"] [] (P16 K)
abbrev O14x:=Own P w K mg base 3 "first_base" ["d","n"] [] P46
abbrev O15x:=Own P w K mg base 4 "next_base" ["d","base"] [] P55
abbrev O17x:=Own P w K mg base 2 "counts" ["d","base","one"] [] P33
abbrev O20x:=Own P w K mg base 4 "times_over" ["d","many","one"] [] P56
abbrev O45x:=Own P w K mg base 3 "together" ["one","other"] [] (P52 K)
abbrev O10x:=Own P w K mg base 4 "parted" ["d","one","other"] [] (P54 K)
abbrev O31x(cs:Cs):=Own P w K mg base 7 "yard_behind" ["d","heap","plan","turning"] [] (P68 cs)
abbrev O46x:=Own P w K mg base 1 "first_unlike" ["one","other"] [] P15
abbrev O38x:=Own P w K mg base 3 "followed" ["many","plan","more"] [] P50
abbrev O42x:=Own P w K mg base 5 "table" ["heap"] [] (P63 K)
end
variable{f:Addr}{fd:FuncData}{its:List Value}
section
variable{P:Program}{w:World}{K:jj}{mg:Str->Option Value}{base:Heap}{cs:Cs}
theorem K1(F:Fun K "is_whole" "is_whole" S0 f fd)(B:Bl mg):FnOk P w K mg base CX0 1 f fd ["thing"] P0:=by refine F.okA C0 λcdv A outer s H vs Q E hr h=>?_;obtain⟨i,rfl,q⟩:=h;refine⟨_,(zc (zi (Bv (zp zY rfl B.isinstance zK (pa2 (pv 0) (xi (v:=.ty "int") rfl B.int F6 rfl))) (tz (Gp (zp zY rfl B.isinstance zK (pa2 (pv 0) (xi (v:=.ty "bool") rfl B.bool El rfl)))))))),?_⟩;walk_at"s";walk_at"r";exact q
theorem K2(F:Fun K "square_root_floor" "square_root_floor" S1 f fd)(B:Bl mg)(g_FAR_STEP:TopI mg "FAR_STEP" (4294967296)):FnOk P w K mg base CX0 1 f fd ["number"] P3:=by
 obtain⟨u_FAR_STEP,m_FAR_STEP,r_FAR_STEP⟩:=g_FAR_STEP;refine F.okA C4 λcdv A outer s H vs Q E hr h=>?_;obtain@⟨n,rfl,h0,hb,q⟩:=h;refine⟨_,(za (zy (zk vZ (pv 0) zd (zm _)) (zc (zi (pv 0))) zn) (za (ps_s 1 C4.nd (yf (v:=.int (4294967296)) rfl m_FAR_STEP r_FAR_STEP)) (za (xy PassesOwn.never (zk vZ (zf zj (pv 1) (pv 1)) (pv 0) (zm _)) (zc (ps_s 1 C4.nd (zf zj (pv 1) (yf (v:=.int (4294967296)) rfl m_FAR_STEP r_FAR_STEP))))) (za (ps_s 2 C4.nd (zf zL (zf zv (pv 1) (zf zL (pv 0) (pv 1))) zd)) (za (xy PassesOwn.never (zk vZ (pv 2) (pv 1) (zm _)) (za (ps_s 1 C4.nd (pv 2)) (zc (ps_s 2 C4.nd (zf zL (zf zv (pv 1) (zf zL (pv 0) (pv 1))) zd))))) (zc (zi (pv 1)))))))),?_⟩;walk_at"s";exists if_d (λc=>?_) (λc=>?_)
 .walk_at"r";have hn:n=0\/n=1:=by lia
  rcases hn with rfl|rfl
  .exact q 0 ⋯ ⋯ ⋯
  .exact q 1 ⋯ ⋯ ⋯
 have hFb:Bd 8040 (4294967296*n):=Bd.mono ((zr 4294967296).mul hb) (!3);exists AG (λσ' H'=>E1 λ(g:Int)=>A4 (σ'=[vI n,vI g,none]) (H'=H) (4294967296<=g) (g<=4294967296*n)) (λσ' _=>match σ' with|[_,some (.int g),_]=>(n - g).toNat|_=>0) ⟨_,rfl,rfl,by lia,by lia⟩ ?_;rintro σ' H1 ⟨g,rfl,rfl,g1,g2⟩;have hgb:Bd 8040 g:=hFb.of_le (!2);have hgg:g<=g*g:=by
  have:=dk (show(1:Int)<=g by lia) (show 0<=g by lia)
  lia
 exists if_d (λc1=>?_) (λc1=>?_)
 .refine wgo ?_;exists⟨⟨g*4294967296,rfl,rfl,by lia,by lia⟩,?_⟩;show(n - g*4294967296).toNat<(n - g).toNat
  lia
 .have hgp:CFp (0:Int) g:=⟨by lia,a9 hgb.log ⋯⟩
  have hc1:CFp n g:=hgp;exists AG (λσ' H'=>E1 λ(g:Int)=>A6 (σ'=[vI n,vI g,vI ((g+n / g) / 2)]) (H'=H') (1<=g) (Bd 8040 g) (n<(g+1)*(g+1)) (H'=H1)) (λσ' _=>match σ' with|[_,some (.int g),_]=>g.toNat|_=>0) ⟨g,rfl,rfl,by lia,hgb,?_,rfl⟩ ?_
  .have:(g+1)*(g+1)=g*g+g+g+1:=by rw[iK,iL];lia
   lia
  rintro σ' H' ⟨g,rfl,_,g1,gb,g3,rfl⟩;have hq0:0<=n / g:=Int.ediv_nonneg h0 (!2);exists if_d (λc2=>?_) (λc2=>?_)
  .have hb1:1<=(g+n / g) / 2:=by
    by_cases z:g=1
    .subst z;rw[Int.ediv_one]at*
     lia
    .lia
   have hb2:Bd 8040 ((g+n / g) / 2):=gb.of_le (!2);have hc2:CFp n ((g+n / g) / 2):=⟨by lia,a9 hb2.log ⋯⟩
   have hnw:=Kt (n:=n) (g:=g) (!2) h0;refine wgo ?_;exists⟨⟨(g+n / g) / 2,rfl,rfl,hb1,hb2,hnw,rfl⟩,?_⟩;show((g+n / g) / 2).toNat<g.toNat
   lia
  .exists q g (!2) ?_ g3;have h1:=fR n g;have h2:=cX n (show g≠0 by lia);have h3:g<=n / g:=by lia
   have h4:g*g<=g*(n / g):=dk h3 (!2)
   lia
theorem K3(F:Fun K "common_divisor" "common_divisor" S2 f fd)(B:Bl mg)(g_GREAT_BITS:TopI mg "GREAT_BITS" (8192)):FnOk P w K mg base CX0 1 f fd ["one","other"] P4:=by
 obtain⟨u_GREAT_BITS,m_GREAT_BITS,r_GREAT_BITS⟩:=g_GREAT_BITS;refine F.okA C5 λcdv A outer s H vs Q E hr h=>?_;obtain⟨a,b,rfl,hb,q⟩:=h;refine⟨_,(za (zy (zk wa (JH PySem.F.plainAttrs_int PySem.F.slot_int_bit_length PySem.F.type_int_bit_length Ie (pv 1)) (yf (v:=.int (8192)) rfl m_GREAT_BITS r_GREAT_BITS) (zm _)) DA zn) (za (xy PassesOwn.never (zk A2 (pv 1) zd (zm _)) (za (ps_s 3 C5.nd (zf Iy (pv 0) (pv 1))) (za (ps_s 0 C5.nd (pv 1)) (zc (ps_s 1 C5.nd (pv 3)))))) (zc (zi (zp wo rfl B.abs Bp (pa1 (pv 0))))))),?_⟩;walk_at"s";exists if_d (λc=>absurd c (IC hb)) (λ_=>?_);exists FB (λσ' H'=>E3 λ(x y:Int)(r:Option V)=>A3 (σ'=[vI x,vI y,none,r]) (H'=H) (Int.gcd x y=Int.gcd a b)) (λσ' _=>(mI σ' 1).natAbs) ⟨a,b,none,rfl,rfl,rfl⟩ ?_ ?_
 .rintro σ' H' ⟨x,y,r,rfl,rfl,hg⟩;exists AS (λc=>?_) (λc=>?_)
  .walk_at"r";exact⟨⟨y,x.fmod y,_,rfl,rfl,(FE x y).trans hg⟩,Hl c⟩
  .walk_at"r";have e:(if x<0 then -x else x)=((Int.gcd a b:Nat):Int):=by
    rw[<-hg,c,gP];split<;>lia
   rw[e];exact q
 .intro σ H Q Q' hq h;obtain⟨v,e,hs,k,e2,z⟩:=h;exact⟨v,e,hs,k,e2,hq _ _ z⟩
theorem K4(F:Fun K "with_sign_of" "with_sign_of" S3 f fd)(B:Bl mg):FnOk P w K mg base CX0 1 f fd ["divisor","bottom"] P5:=by
 refine F.okA C6 λcdv A outer s H vs Q E hr h=>?_;obtain⟨g,n,rfl,q⟩:=h;refine⟨_,(zc (zi (wW (zk vZ (pv 1) zd (zm _)) (wS xh (pv 0)) (pv 0)))),?_⟩;walk_at"s";exists if_d (λc=>?_) (λc=>?_)
 .walk_at"r";rw[iU c]at q;exact q
 .walk_at"r";rw[iV c]at q;exact q
theorem K5(F:Fun K "is_above_nought" "is_above_nought" S14 f fd)(B:Bl mg):FnOk P w K mg base CX0 1 f fd ["d","a","b"] P6:=by
 refine F.okA C7 λcdv A outer s H vs Q E hr h=>?_;obtain@⟨d,a,b,rfl,hd,ha,hb,q⟩:=h;refine⟨_,(za (zy (PW.pt (xF (zk EN (pv 1) zd (zm _)) (y9 (zk EN (pv 2) zd (zm _))))) (zc (zi (KN (yo wa (pv 1) zd (zm _)) (tz (yo wa (pv 2) zd (zm _)))))) zn) (za (zy (PW.pt (xF (zk Fk (pv 1) zd (zm _)) (y9 (zk Fk (pv 2) zd (zm _))))) (zc (zi wm)) zn) (za (zy (zk wa (pv 1) zd (zm _)) (zc (zi (yo wa (zf zj (pv 1) (pv 1)) (zf zj (zf zj (pv 0) (pv 2)) (pv 2)) (zm _)))) zn) (zc (zi (yo wa (zf zj (zf zj (pv 0) (pv 2)) (pv 2)) (zf zj (pv 1) (pv 1)) (zm _))))))),?_⟩;walk_at"s";exists if_d (λc1=>?_) (λc1=>?_)
 .exists if_d (λc2=>?_) (λc2=>?_)
  .exists if_d (λc3=>?_) (λc3=>?_)
   .exact bl_q (Eq.symm (jg (by unfold sgn;rw[iU ⟨c1,c2⟩,iU (!2)];decide))) q
   .walk_at"r";exact bl_q (decide_eq_decide.mpr (by unfold sgn;rw[iU ⟨c1,c2⟩];split<;>lia)) q
  .exists if_d (λc3=>?_) (λc3=>?_)
   .exists if_d (λc4=>?_) (λc4=>?_)
    .walk_at"r";exact bl_q (Eq.symm (iT (by unfold sgn;rw[iV (!2),iU ⟨c3,c4⟩];decide))) q
    .lia
   .exists if_d (λc4=>?_) (λc4=>?_)
    .walk_at"r";exact bl_q (decide_eq_decide.mpr (by unfold sgn;rw[iV (!2),iV (!2),iU c4];split<;>lia)) q
    .lia
 .exists if_d (λc3=>?_) (λc3=>?_)
  .exists if_d (λc4=>?_) (λc4=>?_)
   .walk_at"r";exact bl_q (Eq.symm (iT (by unfold sgn;rw[iV (!2),iU ⟨c3,c4⟩];decide))) q
   .exists if_d (λc5=>?_) (λc5=>?_)
    .lia
    .walk_at"r";exact bl_q (decide_eq_decide.mpr (by unfold sgn;rw[iV (!2),iV (!2),iV c5];split<;>lia)) q
  .lia
theorem K6(F:Fun K "crossed" "crossed" S20 f fd)(B:Bl mg):FnOk P w K mg base CX0 1 f fd ["one","other"] P7:=by refine F.okA C8 λcdv A outer s H vs Q E hr h=>?_;obtain⟨p,p',x,y,z,x',y',z',rfl,h1,h2,⟨b1,b2,b3,b4⟩,q⟩:=h;refine⟨_,(zc (zi (zf yH (zf zj (pit 0) (pit 1)) (zf zj (pit 0) (pit 1))))),?_⟩;walk_at"s";walk_at"r";exact q
theorem K7(F:Fun K "gathering" "gathering" S26 f fd)(B:Bl mg):FnOk P w K mg base CX0 1 f fd ["pieces","unused"] P8:=by
 refine F.okA C10 λcdv A outer s H vs Q E hr h=>?_;obtain@⟨a,us,pc,u,rfl,ha,hp,hl,hu,q⟩:=h;refine⟨_,(za (ps_s 2 C10.nd (zP yq)) (za (zU PassesOwn.never rfl (uF rfl B.enumerate (pa1 (pv 0))) (xZ (n:=2) rfl (zA (pg_n 3 C10.nd) (zA (pg_n 4 C10.nd) yP))) (za (zZ (wC bJ bF bH zJ (pv 2) (pa1 (zo (pa3 zH (pit 4) (pit 4)))))) (zc (zy (zk wa (pv 3) zd (zm _)) (za (ps_s 5 C10.nd (zf yH (zf zv (pv 1) (zp zx rfl B.len bS (pa1 (pv 2)))) zd)) (zc (zZ (wC bJ bF bH zJ (pv 2) (pa1 (zo (pa3 zH (pv 5) (zf yH (pv 5) zd)))))))) zn)))) (zc (zi (pv 2))))),?_⟩;walk_at"s";exists zB (!1) λD H1 nD s1 e1=>?_;have ha1:=s1 _ _ ha;have aD:a≠D:=zb ha nD;exists Bw ?_;exists⟨a,_,rfl,SqL.of ha1,wV (K:=K) (a:=a) (xs:=us.map V.ref) (λi σ H'=>E4 λv1 v2 v3 ps=>A4 (σ=[vR a,vI (u:Int),vR D,v1,v2,v3]) (H' D=some (.lst (ps.map V.ref))) (Runs H' ps (gth u pc i)) (∀b o,H1 b=some o->b≠D->H' b=some o)) ⟨_,_,_,[],rfl,e1,⟨rfl,λi p x h=>by simp at h⟩,λb o e _=>e⟩ (λi σ H' _ z'=>by obtain⟨_,_,_,_,_,_,_,z⟩:=z';exact SqL.of (z _ _ ha1 aD)) ?_ ?_⟩
 .rintro i x T σ H' hi hT ⟨v1,v2,v3,ps,rfl,eD,hrun,fr⟩;have hi':=(af.mp hi).1;rw[aa,hp.1]at hi';rw[ao]at hi;obtain⟨qa,hq,rfl⟩:=aB.mp hi;obtain⟨p,hpi⟩:∃p,pc[i]?=some p:=⟨_,ag hi'⟩
  have hqt:=s1 _ _ (hp.2 i qa p hq hpi);have hqt3:=fr _ _ hqt (zX hqt e1 (λz=>nomatch z));have hgl:=wB (u:=u) (pc:=pc) (t:=i) (bU hi');have hpl:ps.length=2*i - 1:=hrun.1.trans hgl;have eg:gth u pc (i+1)=gth u pc i++gd1 u i p:=by show gth u pc i++_=_;rw[hpi]
  rw[eg];have tkT:TupK H' (upd H' T (.tup [.int (i:Int),.ref qa])):=λb xs e=>by rw[zl (zb e hT)];exact e
  have eD':(upd H' T (.tup [.int (i:Int),.ref qa])) D=some (.lst (ps.map V.ref)):=by rw[zl (zb eD hT)];exact eD
  have eT:(upd H' T (.tup [.int (i:Int),.ref qa])) T=some (.tup [.int (i:Int),.ref qa]):=zg;have hqt4:=tkT _ _ hqt3;have frT:∀b o,H1 b=some o->b≠D->(upd H' T (.tup [.int (i:Int),.ref qa])) b=some o:=λb o e n=>by rw[zl (zb (fr b o e n) hT)];exact fr b o e n
  have hrunT:=hrun.tk tkT;generalize upd H' T (.tup [.int (i:Int),.ref qa])=G at eT eD' frT hqt4 hrunT ⊢;exists zC (!1) λt1 G1 n1 g1 f1=>?_;have eD1:=g1 _ _ eD';exists zq eD1 (by rw[aa];lia) λG2 x2 e2=>?_;have f2:=x2.tup f1 eD1;have hrun2:Runs G2 (ps++[t1]) (gth u pc i++[(Dd.shift false p.n p.m,p.n,p.n)]):=xn ((hrunT.same g1).sameX x2 eD1) f2;have fr2:∀b o,H1 b=some o->b≠D->G2 b=some o:=λb o e n=>x2 _ _ (g1 _ _ (frT b o e n)) n;have e2:G2 D=some (.lst ((ps++[t1]).map V.ref)):=by rw[aj];exact e2
  walk_at"r";by_cases c0:i=0
  .refine if_d (λc=>absurd c (!2)) (λ_=>?_);exists⟨_,_,_,ps++[t1],rfl,e2,?_,fr2⟩;unfold gd1;rw[iU c0];exact hrun2
  .refine if_d (λ_=>?_) (λc=>absurd (!2) c);have hlen:((((ps++[t1]).map V.ref).length:Nat):Int)=((2*i:Nat):Int):=by
    rw[aa,ai,hpl];simp only[au,aV]
    lia
   walk_at"r";rw[hlen];exists zC (!1) λt2 G3 n3 g3 f3=>?_;have e23:=g3 _ _ e2;exists zq e23 (by rw[aa,ai];simp only[au,aV];lia) λG4 x4 e4=>?_;have f4:=x4.tup f3 e23;exists⟨_,_,_,ps++[t1]++[t2],rfl,by rw[aj];exact e4,?_,λb o e n=>x4 _ _ (g3 _ _ (fr2 b o e n)) n⟩;have:gth u pc i++gd1 u i p=gth u pc i++[(Dd.shift false p.n p.m,p.n,p.n)]++[(Dd.glue true ((u+2*i - 1:Nat):Int) ((u+2*i - 2:Nat):Int),u+2*i - 1,u+2*i - 2)]:=by unfold gd1;rw[iV c0,bR];rfl
   rw[this];refine xn ((hrun2.same g3).sameX x4 e23) ?_;rw[show(u:Int)+((2*i:Nat):Int) - 1=((u+2*i - 1:Nat):Int) by lia,show((u+2*i - 1:Nat):Int) - 1=((u+2*i - 2:Nat):Int) by lia]at f4;exact f4
 rintro σ H5 ⟨v1,v2,v3,ps,rfl,eD,hrun,fr⟩;rw[aa,hp.1]at hrun;walk_at"r";exact q D ps H5 (λb o e=>fr _ _ (s1 _ _ e) (zb e nD)) nD eD hrun
theorem K8(F:Fun K "names_taken" "names_taken" S29 f fd)(B:Bl mg)(g_GLUINGS:TopT K mg "GLUINGS" [.str "beside",.str "atop"]):FnOk P w K mg base CX0 1 f fd ["deed"] P9:=by
 obtain⟨a_GLUINGS,m_GLUINGS,q_GLUINGS⟩:=g_GLUINGS;refine F.okA C11 λcdv A outer s H vs Q E hr h=>?_;obtain@⟨p,e,rfl,he,q⟩:=h;refine⟨_,(zc (zi (wW (zk yW (pit 0) (yf (v:=.ref a_GLUINGS) rfl m_GLUINGS rfl) (by with_unfolding_all rfl)) (zP (pa2 (pit 0) (pit 0))) (zP (pa1 (pit 0)))))),?_⟩;walk_at"s";cases e with
 |cut al n s =>
  obtain⟨pq,h0,hs⟩:=he;cases al
  all_goals
   simp[DdAt,Dd.wd]at h0;exists⟨_,_,rfl,.inr (q_GLUINGS H),rfl,rfl,?_⟩;rw[show(if false=true then !inV _ _ else inV _ _)=false from by decide+kernel];exists zB (!1) λr H1 hr s1 e1=>?_;exact q r H1 s1 hr e1
 |glue al n m =>
  have h0:=he;cases al
  all_goals
   simp[DdAt,Dd.wd]at h0;exists⟨_,_,rfl,.inr (q_GLUINGS H),rfl,rfl,?_⟩;rw[show(if false=true then !inV _ _ else inV _ _)=true from by decide+kernel];exists zB (!1) λr H1 hr s1 e1=>?_;exact q r H1 s1 hr e1
 |shift al n k =>
  have h0:=he;cases al
  all_goals
   simp[DdAt,Dd.wd]at h0;exists⟨_,_,rfl,.inr (q_GLUINGS H),rfl,rfl,?_⟩;rw[show(if false=true then !inV _ _ else inV _ _)=false from by decide+kernel];exists zB (!1) λr H1 hr s1 e1=>?_;exact q r H1 s1 hr e1
 |turn n =>
  have h0:=he;have h0:H p=some (.tup [.str (Str.ofString "turn"),.int n]):=h0;exists⟨_,_,rfl,.inr (q_GLUINGS H),rfl,rfl,?_⟩;rw[show(if false=true then !inV _ _ else inV _ _)=false from by decide+kernel];exists zB (!1) λr H1 hr s1 e1=>?_;exact q r H1 s1 hr e1
theorem K9(F:Fun K "count_put" "count_put" S30 f fd)(B:Bl mg)(g_CUTS:TopT K mg "CUTS" [.str "across",.str "along"]):FnOk P w K mg base CX0 1 f fd ["deed"] P10:=by
 obtain⟨a_CUTS,m_CUTS,q_CUTS⟩:=g_CUTS;refine F.okA C12 λcdv A outer s H vs Q E hr h=>?_;obtain@⟨p,e,rfl,he,q⟩:=h;refine⟨_,(zc (zi (wW (zk yW (pit 0) (yf (v:=.ref a_CUTS) rfl m_CUTS rfl) (by with_unfolding_all rfl)) zd zd))),?_⟩;walk_at"s";cases e with
 |cut al n s =>
  obtain⟨pq,h0,hs⟩:=he;cases al
  all_goals
   simp[DdAt,Dd.wd]at h0;exists⟨_,_,rfl,.inr (q_CUTS H),rfl,rfl,?_⟩;rw[show(if false=true then !inV _ _ else inV _ _)=true from by decide+kernel];walk_at"r";exact q
 |glue al n m =>
  have h0:=he;cases al
  all_goals
   simp[DdAt,Dd.wd]at h0;exists⟨_,_,rfl,.inr (q_CUTS H),rfl,rfl,?_⟩;rw[show(if false=true then !inV _ _ else inV _ _)=false from by decide+kernel];walk_at"r";exact q
 |shift al n k =>
  have h0:=he;cases al
  all_goals
   simp[DdAt,Dd.wd]at h0;exists⟨_,_,rfl,.inr (q_CUTS H),rfl,rfl,?_⟩;rw[show(if false=true then !inV _ _ else inV _ _)=false from by decide+kernel];walk_at"r";exact q
 |turn n =>
  have h0:=he;have h0:H p=some (.tup [.str (Str.ofString "turn"),.int n]):=h0;exists⟨_,_,rfl,.inr (q_CUTS H),rfl,rfl,?_⟩;rw[show(if false=true then !inV _ _ else inV _ _)=false from by decide+kernel];walk_at"r";exact q
theorem K10(F:Fun K "turned" "turned" S31 f fd)(B:Bl mg):FnOk P w K mg base CX0 1 f fd ["one"] P11:=by refine F.okA C13 λcdv A outer s H vs Q E hr h=>?_;obtain@⟨c,rfl,hc,q⟩:=h;refine⟨_,(zc (zi (zo (pa2 (pit 0) (pit 0))))),?_⟩;walk_at"s";have ct:=hc.t;exists zC (!1) λr H1 hr s1 e1=>?_;exact q r H1 s1 hr ⟨e1,s1 _ _ hc.h,s1 _ _ hc.w⟩
theorem K11(F:Fun K "places_of" "places_of" S38 f fd)(B:Bl mg):FnOk P w K mg base CX0 1 f fd ["names"] P12:=by
 refine F.okA C14 λcdv A outer s H vs Q E hr h=>?_;obtain@⟨a,ms,ts,rfl,ha,hp,up,hl,q⟩:=h;refine⟨_,(za (ps_s 1 C14.nd Bn) (za (zU PassesOwn.never rfl (uF rfl B.enumerate (pa1 (zp Cz rfl B.sorted CS (pa1 (pv 0))))) (xZ (n:=2) rfl (zA (pg_n 2 C14.nd) (zA (pg_n 3 C14.nd) yP))) (zc (vM (uV hr) (pv 1) (pv 3) (pv 2) rfl))) (zc (zi (zR ["name"] [1] rfl (zG (pv 0)) (λ_ _ _ _ _=>(pg_n 0 (show List.Nodup (α:=Str) ["name","places"] by decide+kernel))) (λ_ _ _ _ _=>zD) (λ_ _ _ _ _=>(AV (uV hr) (pv 1) (pv 0) (λ_ _=>rfl)))))))),?_⟩;walk_at"s";have hml:=hp.length_eq;have hnd:=xw up;exists EA λD H1 nD s1 e1=>?_;exists Bw ?_;exists Ho (s1 _ _ ha) (CY hp) (Ia up) (by rw[aa];lia) λb H2 nb s2 e2=>?_;have e12:=s2 _ _ e1;have bD:b≠D:=cH (zb e1 nb);exists⟨b,_,rfl,SqL.of e2,wV (K:=K) (a:=b) (xs:=(ts.map λn:Nat=>(n:Int)).map V.int) (λi σ H'=>E3 λv1 v2 kvs=>A5 (σ=[vR a,vR D,v1,v2]) (H' D=some (.dK kvs)) (kvs.length<=i) (Rn kvs (ts.take i) (rk ts)) (∀b o,H2 b=some o->b≠D->H' b=some o)) ⟨_,_,[],rfl,e12,ak _,λn hn=>by simp at hn,λb o e _=>e⟩ (λi σ H' _ z'=>by obtain⟨_,_,_,_,_,_,_,z⟩:=z';exact SqL.of (z _ _ e2 bD)) ?_ ?_⟩
 .rintro i x T σ H' hi hT ⟨v1,v2,kvs,rfl,eD,hkl,hR,fr⟩;have hi':=(af.mp hi).1;rw[ao,ao]at hi;obtain⟨z,hz,rfl⟩:=aB.mp hi;obtain⟨n,hn,rfl⟩:=aB.mp hz;have eD':(upd H' T (.tup [.int (i:Int),.int (n:Int)])) D=some (.dK kvs):=by rw[zl (zb eD hT)];exact eD
  have eT:(upd H' T (.tup [.int (i:Int),.int (n:Int)])) T=some (.tup [.int (i:Int),.int (n:Int)]):=zg;have frT:∀b o,H2 b=some o->b≠D->(upd H' T (.tup [.int (i:Int),.int (n:Int)])) b=some o:=λb o e n=>by rw[zl (zb (fr b o e n) hT)];exact fr b o e n
  generalize upd H' T (.tup [.int (i:Int),.int (n:Int)])=G at eT eD' frT ⊢;exists⟨D,_,rfl,DPut.k (k:=.inl (n:Int)) eD' (aQ (show _<1000 by simp only[aa]at hi';lia) (!3)),?_⟩;refine⟨_,_,_,rfl,zg,cf (yD ..) (!2),λj hj=>?_,λb o e n=>by rw[zl n];exact frT b o e n⟩;rw[xV];rw[bQ,hn]at hj;by_cases c:j=n
  .subst c;rw[iU rfl,Fj hnd hn]
  .have cj:¬ ((.inl (j:Int):Key)=.inl (n:Int)):=λh=>c (fh (gr h));rw[iV cj];refine hR j ?_;rcases aE.mp hj with h|h
   .exact h
   .exact absurd (by simpa using h) c
 rintro σ H3 ⟨v1,v2,kvs,rfl,eD,hkl,hR,fr⟩;rw[aa,aa,aG]at hR;have s3:Same H H3:=λb o e=>fr _ _ (s2 _ _ (s1 _ _ e)) (zb e nD);exists yL ?_;walk_at"r";have ha3:=s3 _ _ ha;refine⟨a,rfl,⟨_,SqL.of ha3⟩,λO hO=>ya (K:=K) (a:=a) (ys:=(ms.map λn:Nat=>(n:Int)).map V.int) (λi xs σ' H'=>E1 λ(v:Option V)=>A4 (σ'=[v,vR D]) (xs=(((ms.take i).map (rk ts)).map λn:Nat=>(n:Int)).map V.int) (H' O=some (.lst xs)) (SameX O H3 H')) ⟨none,rfl,rfl,zg,λb o e n=>by rw[zl n];exact e⟩ (λi xs σ' H' _ z=>by obtain⟨v,_,_,_,z⟩:=z;exact SqL.of (z _ _ ha3 (zb ha3 hO))) ?_ ?_⟩
 .rintro i x xs σ' H' hi ⟨v,rfl,rfl,eO,sx⟩;have hi':=(af.mp hi).1;rw[ao,ao]at hi;obtain⟨z,hz,rfl⟩:=aB.mp hi;obtain⟨n,hn,rfl⟩:=aB.mp hz;have hD':=sx _ _ eD (zb eD hO);have hmt:=hp.mem_iff.mp (ay hn);exists⟨D,_,rfl,DGet.k (k:=.inl (n:Int)) hD' |> (λz=>by rw[hR n hmt]at z;exact z),?_⟩;exists zq eO (by simp only[aa,aU]at hi' ⊢;lia) λH5 x5 e5=>?_;refine yx hi' ⟨_,rfl,rfl,?_,sx.trans x5⟩;rw[bQ,hn,aj,aj,aj];exact e5
 rintro xs σ' H5 ⟨v,rfl,rfl,eO,sx⟩;rw[aa,aa,aG]at eO;refine q O H5 (λb o e=>sx _ _ (s3 _ _ e) (zb (s3 _ _ e) hO)) ?_ eO;exact Same.nn s3 hO
theorem K12(F:Fun K "with_names" "with_names" S41 f fd)(B:Bl mg)(g_GLUINGS:TopT K mg "GLUINGS" [.str "beside",.str "atop"]):FnOk P w K mg base CX0 1 f fd ["deed","names"] P13:=by
 obtain⟨a_GLUINGS,m_GLUINGS,q_GLUINGS⟩:=g_GLUINGS;refine F.okA C15 λcdv A outer s H vs Q E hr h=>?_;obtain@⟨p,a,e,r,k,rfl,he,nT,ha,hn,q⟩:=h;refine⟨_,(za (zy (zk yW (pit 0) (yf (v:=.ref a_GLUINGS) rfl m_GLUINGS rfl) (by with_unfolding_all rfl)) (zc (zi (zo (pa3 (pit 0) (pe_i zQ (pv 1) (pit 0)) (pe_i zQ (pv 1) (pit 0)))))) zn) (zc (zi (zf GW (zo (pa2 (pit 0) (pe_i zQ (pv 1) (pit 0)))) (xa Jj (pv 0) (xu zd) wH))))),?_⟩;walk_at"s";cases e with
 |glue al n m =>
  have h0:H p=some (.tup [.str (Dd.glue al n m).wd,.int n,.int m]):=he;obtain⟨n',n1,rfl⟩:=hn n (by simp[Dd.names]);obtain⟨m',m1,rfl⟩:=hn m (by simp[Dd.names]);exists⟨_,_,rfl,.inr (q_GLUINGS H),rfl,rfl,?_⟩;rw[show(if false=true then !inV _ _ else inV _ _)=true from DX (.glue al n' m')];exists xb ha (Ca n1) ?_;exists xb ha (Ca m1) ?_;exists zC (!1) λb H1 nb s1 e1=>?_;exact q b H1 s1 nb e1
 |cut al n s =>
  obtain⟨pq,h0,hs⟩:=he;obtain⟨n',n1,rfl⟩:=hn n (by simp[Dd.names,Dd.n]);exists⟨_,_,rfl,.inr (q_GLUINGS H),rfl,rfl,?_⟩;rw[show(if false=true then !inV _ _ else inV _ _)=false from DX (.cut al n' s)];exists xb ha (Ca n1) ?_;exists zt (!1) λt1 H1 s1 e1=>?_;have h1:=s1 _ _ h0;exists GH h1 λt2 H2 s2 e2=>?_;refine EL (s2 _ _ e1) e2 (!1) (!1) (!1) λb H3 nb s3 e3=>?_;exact q b H3 ((s1.trans s2).trans s3) (Same.nn (s1.trans s2) nb) ⟨pq,e3,((s1.trans s2).trans s3) _ _ hs⟩
 |shift al n k' =>
  have h0:H p=some (.tup [.str (Dd.shift al n k').wd,.int n,.int k']):=he;obtain⟨n',n1,rfl⟩:=hn n (by simp[Dd.names,Dd.n]);exists⟨_,_,rfl,.inr (q_GLUINGS H),rfl,rfl,?_⟩;rw[show(if false=true then !inV _ _ else inV _ _)=false from DX (.shift al n' k')];exists xb ha (Ca n1) ?_;exists zt (!1) λt1 H1 s1 e1=>?_;have h1:=s1 _ _ h0;exists GH h1 λt2 H2 s2 e2=>?_;refine EL (s2 _ _ e1) e2 (!1) (!1) (!1) λb H3 nb s3 e3=>?_;exact q b H3 ((s1.trans s2).trans s3) (Same.nn (s1.trans s2) nb) e3
 |turn n=>exact nomatch nT
theorem K13(F:Fun K "over" "over" S48 f fd)(B:Bl mg):FnOk P w K mg base CX0 1 f fd ["one"] P14:=by refine F.okA C16 λcdv A outer s H vs Q E hr h=>?_;obtain@⟨p,t,rfl,⟨r0,r1,f0,f1,f2,f3,⟨hp,h0,h1,g0,g1,g2,g3'⟩⟩,q⟩:=h;refine⟨_,(zc (zi (zo (pa2 (zo (pa2 (pe_i zI (pit 0) zd) (pe_i zI (pit 0) zd))) (zo (pa2 (pe_i zI (pit 0) zd) (pe_i zI (pit 0) zd))))))),?_⟩;walk_at"s";exists zt (!1) λu0 H1 s1 e1=>?_;have hp:=s1 _ _ hp;have h0:=s1 _ _ h0;have h1:=s1 _ _ h1;have g0:=s1 _ _ g0;have g1:=s1 _ _ g1;have g2:=s1 _ _ g2;have g3':=s1 _ _ g3';exists zt (!1) λu1 H2 s2 e2=>?_;refine zt (!1) λu H3 s3 e3=>?_;exact q u H3 ((s1.trans s2).trans s3) ⟨u0,u1,f0,f2,f1,f3,e3,s3 _ _ (s2 _ _ e1),s3 _ _ e2,s3 _ _ (s2 _ _ g0),s3 _ _ (s2 _ _ g2),s3 _ _ (s2 _ _ g1),s3 _ _ (s2 _ _ g3')⟩
theorem K14(F:Fun K "first_unlike" "first_unlike" S50 f fd)(B:Bl mg):FnOk P w K mg base CX0 1 f fd ["one","other"] P15:=by
 refine F.okA C17 λcdv A outer s H vs Q E hr h=>?_;obtain@⟨p,p',s,t,rfl,h1,h2,qn,q⟩:=h;refine⟨_,(za (zU PassesOwn.never rfl (z9 rfl B.range (pa1 zd)) (pg_n 2 C17.nd) (zc (zU PassesOwn.never rfl (z9 rfl B.range (pa1 zd)) (pg_n 3 C17.nd) (zc (zy (zk (GR hr.units) (pe_i zI (pe_i zI (pv 0) (pv 2)) (pv 3)) (pe_i zI (pe_i zI (pv 1) (pv 2)) (pv 3)) (zm _)) (zc (zi (zo (pa2 (pv 2) (pv 3))))) zn))))) (zc (zi CN))),?_⟩;walk_at"s";exists uO ?_;exists⟨2,rfl,by decide,by decide,yV (lo:=0) (n:=2) (λi σ H'=>E2 λv v'=>A3 (σ=[vR p,vR p',v,v']) (H'=H) (∀k,k<2*i->cmT k s=cmT k t)) ⟨_,_,rfl,rfl,λk hk=>absurd hk (!2)⟩ ?_ ?_⟩
 .rintro i σ H' hi ⟨v,v',rfl,rfl,eqs⟩;exists uO ?_;exists⟨2,rfl,by decide,by decide,yV (lo:=0) (n:=2) (λj σ H2=>E1 λv'=>A3 (σ=[vR p,vR p',vI (0+(i:Int)),v']) (H2=H') (∀k,k<2*i+j->cmT k s=cmT k t)) ⟨_,rfl,rfl,eqs⟩ ?_ ?_⟩
  .rintro j σ H2 hj ⟨v',rfl,rfl,eqs⟩;obtain⟨xs,ys,rr,ff,a1,a2,a3,a4,a5⟩:=JA h1 hi hj;obtain⟨xs',ys',rr',ff',b1,b2,b3,b4,b5⟩:=JA h2 hi hj;exists uN a1 a2 ?_;exists uN a3 a4 ?_;exists uN b1 b2 ?_;exists uN b3 b4 ?_;exists KP a5 b5 ?_;exists AS (λc=>?_) (λc=>?_)
   .exists zt (!1) λr H3 s3 e3=>?_;rw[d6,d6]at e3;exact q r H3 i j s3 e3 ⟨hi,hj,eqs,λz=>c (by rw[z];exact⟨rfl,rfl⟩)⟩
   .exists⟨_,rfl,rfl,λk hk=>?_⟩;by_cases z:k<2*i+j
    .exact eqs k z
    .rw[show k=2*i+j by lia];exact Rat.ext c.1 (fh c.2)
  .rintro σ H2 ⟨v',rfl,rfl,eqs⟩;walk_at"r";exact⟨_,_,rfl,rfl,λk hk=>eqs k (!2)⟩
 rintro σ H' ⟨v,v',rfl,rfl,eqs⟩;walk_at"r";exact qn (HK λk hk=>eqs k (!2))
theorem K15(F:Fun K "_law_of" "_law_of" S56 f fd)(B:Bl mg):FnOk P w K mg base CX0 1 f fd ["_law_script","_law_k"] (P16 K):=by
 refine F.okA C18 λcdv A outer s H vs Q E hr h=>?_;obtain@⟨p,ns,k,rfl,hS,hk,hb,q⟩:=h;refine⟨_,(za (zy (zk vZ (pv 1) (zp zx rfl B.len bS (pa1 (pv 0))) (zm _)) (zc (zi (pe_i zQ (pv 0) (pv 1)))) zn) (zc (zi zd))),?_⟩;walk_at"s";exists⟨p,_,rfl,.inl hS,?_⟩;exists if_d (λc=>?_) (λc=>?_)
 .walk_at"r";rw[aa]at c;obtain⟨d,hd,e⟩:=GN (xs:=ns) (i:=k) hk c;exact⟨p,_,_,_,rfl,rfl,hS,e,q d (hb d hd)⟩
 .walk_at"r";exact q 0 (by exact(zr 0).mono (!3))
theorem K16(F:Fun K "_law_mixed" "_law_mixed" S57 f fd)(B:Bl mg):FnOk P w K mg base CX0 1 f fd ["_law_script","_law_most"] (P17 K):=by
 refine F.okA C19 λcdv A outer s H vs Q E hr h=>?_;obtain@⟨p,ns,rfl,hS,hb,hl,q⟩:=h;refine⟨_,(za (zy (zk (Gm hr.units) (pv 0) (zP yq) (zm _)) (zc (zi (zP yq))) zn) (za (zy (zk ye (zf yz (pil 0) zd) zd (zm _)) (zc (zi (zf wN (zP (pa1 (zf zL (zp (uu rfl) rfl B.max Gd (pa2 (pil 0) (zf yH (wS xh zd) (pil 0)))) zd))) (zR ["_law_cell"] [] rfl (zG (xa wI (pv 0) (xu zd) (xu (pv 1)))) (λ_ _ _ _ _=>(pg_n 0 (show List.Nodup (α:=Str) ["_law_cell"] by decide+kernel))) (λ_ _ _ _ _=>zD) (λ_ _ _ _ _=>(zp (uu rfl) rfl B.max Gd (pa2 (pv 0) (zf yH (wS xh zd) (pv 0))))))))) zn) (za (ps_s 2 C19.nd (zf Ep zd zd)) (zc (zi (zR ["_law_cell"] [2] rfl (zG (xa wI (pv 0) wH (xu (pv 1)))) (λ_ _ _ _ _=>(pg_n 0 (show List.Nodup (α:=Str) ["_law_cell","_law_factor"] by decide+kernel))) (λ_ _ _ _ _=>zD) (λ_ _ _ _ _=>(zf yz (zf zj (pv 0) (pv 1)) (zf yH (zf Go zd zd) zd))))))))),?_⟩;walk_at"s";exists zB (!1) λL0 H1 nL s1 e1=>?_;have hS1:=s1.seq hS;refine⟨p,L0,_,rfl,rfl,hS1,SqL.of e1,?_⟩;cases ns with
 |nil =>
  exists zB (!1) λr H2 nr s2 e2=>?_;exact q r H2 [] (s1.trans s2) (Same.nn s1 nr) e2 (λx hx=>absurd hx (!1))
 |cons c cs =>
  refine⟨_,rfl,if_f ?_⟩;have hc:=hb c aH;have hs:∀x∈cs,Bd 1048576 x:=λx hx=>hb x (aC _ hx);exists⟨p,_,_,.int c,rfl,rfl,hS1,yl (xs:=(c::cs).map V.int) (j:=0) rfl,?_⟩;exists if_d (λc1=>?_) (λc1=>?_)
  .exists⟨p,_,_,.int c,rfl,rfl,hS1,yl (xs:=(c::cs).map V.int) (j:=0) rfl,?_⟩;exists⟨p,_,_,.int c,rfl,rfl,hS1,yl (xs:=(c::cs).map V.int) (j:=0) rfl,?_⟩;exists Gw ?_;exists zB (!1) λL1 H2 nL1 s2 e2=>?_;exists yL ?_;exists G9 (i:=1) (j:=24) (s2.seq hS1) λps H3 nps s3 e3=>?_;have hm:∀x∈(((c::cs).drop 1).take (24 - 1)),Bd 1048576 x:=λx hx=>hb x (dH (bW hx));have hml:(((c::cs).drop 1).take (24 - 1)).length<=23:=by rw[aU];lia
   generalize ((c::cs).drop 1).take (24 - 1)=ks at*
   refine⟨ps,rfl,⟨_,SqL.of e3⟩,λO hO=>ya (K:=K) (a:=ps) (ys:=ks.map V.int) (λi xs σ' Hc=>E2 λ(v:Option V)(ms:List Int)=>A6 (σ'=[v]) (xs=ms.map V.int) (ms.length=i) ((∀x∈ms,Bd 1048576 x)) (Hc O=some (.lst xs)) (SameX O H3 Hc)) ⟨none,[],rfl,rfl,rfl,λc hc=>absurd hc (!1),zg,λb o e n=>by rw[zl n];exact e⟩ (λi xs σ' Hc _ z=>by obtain⟨v,L,_,_,_,_,_,z⟩:=z;exact SqL.of (z _ _ e3 (zb e3 hO))) ?_ ?_⟩
   .rintro i x xs σ' Hc hi ⟨v,ms,rfl,rfl,hml',hmb,eO,sx⟩;have hi':=(af.mp hi).1;rw[ao]at hi;obtain⟨z,hz,rfl⟩:=aB.mp hi;have bz:=hm z (ay hz);exists Gw ?_;exists zq eO (by rw[aa]at hi' ⊢;lia) λH4 x4 e4=>?_;refine yx hi' ⟨_,ms++[_],rfl,by rw[aj];rfl,by rw[ai,hml'];rfl,λc' hc'=>?_,e4,sx.trans x4⟩;rcases aE.mp hc' with h|h
    .exact hmb c' h
    .rw[aq.mp h];exact Dq bz
   rintro xs σ' H4 ⟨v,ms,rfl,rfl,hml',hmb,eO,sx⟩;have s4:Same H3 H4:=λb o e=>sx b o e (zb e hO);have s14:=s2.trans (s3.trans s4);exists ur ((s3.trans s4) _ _ e2) eO (by simp only[aa,au,aV]at hml' ⊢;lia) λr H5 nr s5 e5=>?_;refine q r H5 (_::ms) ((s1.trans s14).trans s5) (Same.nn (s1.trans s14) nr) e5 λx hx=>?_;rcases aW.mp hx with rfl|hx
   .exact Df (Dq hc)
   .exact hmb x hx
  .walk_at"r";obtain⟨mm,e521,bm,pm⟩:∃mm:Int,(1:Int)*2 ^ (521:Int).toNat - 1=mm/\Bd 521 mm/\0<mm:=⟨_,rfl,by decide+kernel,by decide+kernel⟩
   have bf:Bd 507 ((105152070229383420083013462309641843003:Int) ^ (4:Int).toNat):=by decide+kernel
   generalize (105152070229383420083013462309641843003:Int) ^ (4:Int).toNat=fac at*
   refine yL ?_;exists Lc hS1 λps H3 ks hmem hkl s3 e3=>?_;have hm:∀x∈ks,Bd 1048576 x:=λx hx=>hb x (hmem x hx);have hml:ks.length<=63:=cf hkl hl;refine⟨ps,rfl,⟨_,SqL.of e3⟩,λO hO=>ya (K:=K) (a:=ps) (ys:=ks.map V.int) (λi xs σ' Hc=>E2 λ(v:Option V)(ms:List Int)=>A6 (σ'=[v,vI fac]) (xs=ms.map V.int) (ms.length=i) ((∀x∈ms,Bd 1048576 x)) (Hc O=some (.lst xs)) (SameX O H3 Hc)) ⟨none,[],rfl,rfl,rfl,λc hc=>absurd hc (!1),zg,λb o e n=>by rw[zl n];exact e⟩ (λi xs σ' Hc _ z=>by obtain⟨v,L,_,_,_,_,_,z⟩:=z;exact SqL.of (z _ _ e3 (zb e3 hO))) ?_ ?_⟩
   .rintro i x xs σ' Hc hi ⟨v,ms,rfl,rfl,hml',hmb,eO,sx⟩;have hi':=(af.mp hi).1;rw[ao]at hi;obtain⟨z,hz,rfl⟩:=aB.mp hi;have bz:=hm z (ay hz);walk_at"r";rw[e521];exists zq eO (by rw[aa]at hi' ⊢;lia) λH4 x4 e4=>?_;refine yx hi' ⟨_,ms++[_],rfl,by rw[aj];rfl,by rw[ai,hml'];rfl,λc' hc'=>?_,e4,sx.trans x4⟩;rcases aE.mp hc' with h|h
    .exact hmb c' h
    .rw[aq.mp h];exact(CL bm pm).mono (!3)
   rintro xs σ' H4 ⟨v,ms,rfl,rfl,hml',hmb,eO,sx⟩;have s4:Same H3 H4:=λb o e=>sx b o e (zb e hO);exact q O H4 ms (s1.trans (s3.trans s4)) (Same.nn (s1.trans s3) hO) eO hmb
theorem K17(F:Fun K "_law_digit" "_law_digit" S58 f fd)(B:Bl mg):FnOk P w K mg base CX0 1 f fd ["_law_cell","_law_k"] P18:=by
 refine F.okA C20 λcdv A outer s H vs Q E hr h=>?_;obtain@⟨c,k,rfl,hc,hk,q⟩:=h;refine⟨_,(za (ps_s 2 C20.nd (zf JT (pv 0) (zf zj zd (pv 1)))) (za (zy (zk wa (pv 2) zd (zm _)) (zc (zi (zf yz (pv 2) (zf Go zd zd)))) zn) (za (ps_s 3 C20.nd (zf yz (zf zj (zf yz (zf zv (zf zv (pv 0) (zf zj (zf zj zd (pv 1)) (pv 1))) (pv 1)) zd) zd) zd)) (zc (zi (zf yz (zf zj (pv 3) (pv 3)) zd)))))),?_⟩;walk_at"s";have e24:(1:Int)*2 ^ (24:Int).toNat=16777216:=by decide+kernel
 have bk:Bd 5 (k:Int):=zE (B:=20) (!2) (!2) ⋯;exists if_d (λc1=>?_) (λc1=>?_)
 .walk_at"r";rw[e24];walk_at"r";exact q _ (!2) (!2)
 .walk_at"r";exact q _ (!2) (!2)
def chn(a b n:Int):Nat->Int
 |0=>((a.natAbs:Nat):Int)
 |1=>((Int.gcd a b:Nat):Int)
 |_=>((Int.gcd (Int.gcd a b) n:Nat):Int)
theorem GY{b n:Int}(h:1<=n):chn a b n 2=gd a b n:=by show((Int.gcd (Int.gcd a b) n:Nat):Int)=_;unfold gd;rw[iV (!2),La]
theorem K18(F:Fun K "_law_lowest" "_law_lowest" S59 f fd)(B:Bl mg):FnOk P w K mg base CX0 1 f fd ["_law_a","_law_b","_law_n"] (P19 K):=by
 refine F.okA C21 λcdv A outer s H vs Q E hr h=>?_;obtain@⟨a,b,n,rfl,hn,hb,q⟩:=h;refine⟨_,(za (ps_s 3 C21.nd (zp wo rfl B.abs Bp (pa1 (pv 0)))) (za (zU PassesOwn.never rfl (zG (zP (pa2 (zp wo rfl B.abs Bp (pa1 (pv 1))) (pv 2)))) (pg_n 4 C21.nd) (zc (xy PassesOwn.never (zk A2 (pv 4) zd (zm _)) (zc (Ji (i:=3) (j:=4) rfl C21.nd rfl rfl ⋯ rfl rfl (pa2 (pv 4) (zf yz (pv 3) (pv 4))) rfl))))) (zc (zi (zo (pa3 (zf zM (pv 0) (pv 3)) (zf zM (pv 1) (pv 3)) (zf zM (pv 2) (pv 3)))))))),?_⟩;walk_at"s";have hc:∀x,CFd x (gd a b n):=λx=>⟨GU (!2),a9 (Hv (!2) hb).log ⋯⟩
 exists yX ?_;exists zB (!1) λL H1 nL s1 e1=>?_;refine⟨L,rfl,⟨_,SqL.of e1⟩,z5 (K:=K) (a:=L) (λi σ H'=>E2 λv (x:Int)=>A4 (σ=[vI a,vI b,vI n,vI x,v]) (H'=H1) (0<=x) (x=chn a b n i)) ⟨_,_,rfl,rfl,?_,?_⟩ (λi σ H' _ z=>by obtain⟨_,_,_,rfl,_⟩:=z;exact SqL.of e1) ?_ ?_⟩
 .split<;>lia
 .show _=((a.natAbs:Nat):Int)
  split<;>lia
 .rintro i y σ Hz hi ⟨v,x,rfl,rfl,x0,hx⟩;obtain⟨z,rfl,z0,hz⟩:∃z:Int,y=.int z/\0<=z/\((Int.gcd x z:Nat):Int)=chn a b n (i+1):=by
   match i with
   |0 =>
    refine⟨_,(aJ hi).symm,by split<;>lia,?_⟩;rw[hx];show((Int.gcd ((a.natAbs:Nat):Int) (if b<0 then -b else b):Nat):Int)=((Int.gcd a b:Nat):Int)
    rw[<-FR a b,show((a.natAbs:Nat):Int)=if a<0 then -a else a by split<;>lia]
   |1 =>
    refine⟨_,(aJ hi).symm,by lia,?_⟩;rw[hx];rfl
   |k+2=>simp at hi
  have hl:i<2:=(af.mp hi).1;exists AG (λσ' H'=>E2 λ(x' y':Int)=>A5 (σ'=[vI a,vI b,vI n,vI x',vI y']) (H'=Hz) (0<=x') (0<=y') (Int.gcd x' y'=Int.gcd x z)) (λσ' _=>match σ' with|[_,_,_,_,some (.int y)]=>y.natAbs|_=>0) ⟨_,_,rfl,rfl,x0,z0,rfl⟩ ?_;rintro σ' H' ⟨x',y',rfl,rfl,hx',hy',hg⟩;exists AS (λc=>?_) (λc=>?_)
  .refine wgo ?_;exists⟨⟨y',x' % y',rfl,rfl,hy',cX _ (!2),(Fb x' y').trans hg⟩,?_⟩;have h1:=cX x' (show y'≠0 by lia);have h2:=dC x' (show 0<y' by lia);show(x' % y').natAbs<y'.natAbs
   lia
  .walk_at"r";subst c;refine⟨_,x',rfl,rfl,hx',?_⟩;rw[<-hz,<-hg,gP]
   lia
 rintro σ H' ⟨v,x,rfl,rfl,x0,hx⟩;have hx:x=gd a b n:=hx.trans (GY hn);subst hx;walk_at"r"
 .exact zt (!1) λp H' s e=>q p H' (s1.trans s) e
 all_goals exact hc _
theorem K19(F:Fun K "_law_is_above" "_law_is_above" S60 f fd)(B:Bl mg):FnOk P w K mg base CX0 1 f fd ["_law_d","_law_one"] P20:=by
 refine F.okA C22 λcdv A outer s H vs Q E hr h=>?_;obtain@⟨d,p,s,rfl,h1,hd,bx,by',q⟩:=h;refine⟨_,(za (B7 (pv 1) (xZ (n:=3) rfl (zA (pg_n 2 C22.nd) (zA (pg_n 3 C22.nd) (zA (pg_n 4 C22.nd) yP))))) (za (zy (PW.pt (xF (zk EN (pv 2) zd (zm _)) (y9 (zk EN (pv 3) zd (zm _))))) (zc (zi (yo wa (zf zv (pv 2) (pv 3)) zd (zm _)))) zn) (za (zy (PW.pt (xF (zk Fk (pv 2) zd (zm _)) (y9 (zk Fk (pv 3) zd (zm _))))) (zc (zi wm)) zn) (za (zy (zk wa (pv 2) zd (zm _)) (zc (zi (yo wa (zf zj (pv 2) (pv 2)) (zf zj (zf zj (pv 0) (pv 3)) (pv 3)) (zm _)))) zn) (zc (zi (yo wa (zf zj (zf zj (pv 0) (pv 3)) (pv 3)) (zf zj (pv 2) (pv 2)) (zm _)))))))),?_⟩;walk_at"s";have h1':H p=some (.tup [.int s.x,.int s.y,.int s.z]):=h1;exists if_d (λc1=>?_) (λc1=>?_)
 .exists if_d (λc2=>?_) (λc2=>?_)
  .walk_at"r";exact bl_q (decide_eq_decide.mpr (by rw[wO c1 c2];split<;>lia)) q
  .exists if_d (λc3=>?_) (λc3=>?_)
   .exists if_d (λc4=>?_) (λc4=>?_)
    .walk_at"r";exact bl_q (iT (by rw[Am (!2) c3 c4];decide)).symm q
    .lia
   .exists if_d (λc4=>?_) (λc4=>?_)
    .walk_at"r";exact bl_q (decide_eq_decide.mpr (by rw[BG c4 (!2)];split<;>lia)) q
    .lia
 .exists if_d (λc3=>?_) (λc3=>?_)
  .exists if_d (λc4=>?_) (λc4=>?_)
   .walk_at"r";exact bl_q (iT (by rw[Am (!2) c3 c4];decide)).symm q
   .exists if_d (λc5=>?_) (λc5=>?_)
    .lia
    .walk_at"r";exact bl_q (decide_eq_decide.mpr (by rw[BI (!2) (!2)];split<;>lia)) q
  .lia
theorem K20(F:Fun K "_law_root" "_law_root" S62 f fd)(B:Bl mg):FnOk P w K mg base CX0 1 f fd ["_law_cell"] P21:=by
 refine F.okA C23 λcdv A outer s H vs Q E hr h=>?_;obtain@⟨c,rfl,q⟩:=h;refine⟨_,(za (EC (i:=1) C23.nd rfl rfl ["_law_number"] [] rfl (wf rfl B.range (pa2 zd zd)) (λ_ _ _ _ _=>(pg_n 0 (show List.Nodup (α:=Str) ["_law_number"] by decide+kernel))) (λ_ _ _ _ _=>(BO (zk (r:=rIn K true) t8 (pv 0) (zo (zu zd (zu zd (zu zd (zu zd (zu zd (zu zd (zu zd (zu zd yq))))))))) (by with_unfolding_all rfl)))) (λ_ _ _ _ _=>(pv 0))) (zc (zi (pe_i zQ (pv 1) (zf yz (pv 0) (zp zx rfl B.len bS (pa1 (pv 1)))))))),?_⟩;walk_at"s";exists BB ?_;exists⟨2,100,rfl,by decide,λD hD=>yj (λi xs σ' H'=>(∃v,σ'=[v])/\xs=(yF i).map V.int/\H' D=some (.lst xs)/\SameX D H H') ⟨⟨none,rfl⟩,rfl,zg,λb o e n=>by rw[zl n];exact e⟩ ?_ ?_⟩
 .rintro i xs σ' H' hi ⟨⟨v,rfl⟩,rfl,eD,sx⟩;have hi:i<98:=hi;exists zt (!1) λp H2 s2 e2=>?_;refine EU e2 rfl rfl ?_;rw[Hn];walk_at"r";have hlen:(yF i).length<=i:=cf (fM ..) (!1);by_cases hs:sqs.contains ((2:Int)+(i:Int))=true
  .rw[hs];exists yx hi ⟨⟨_,rfl⟩,rfl,?_,sx.trans (s2.sameX D)⟩;rw[wL,iU hs,dU];exact s2 _ _ eD
  .rw[Bool.not_eq_true _ |>.mp hs];exists zq (s2 _ _ eD) (by rw[aa];lia) λH3 sx3 e3=>?_;refine yx hi ⟨⟨_,rfl⟩,rfl,?_,(sx.trans (s2.sameX D)).trans sx3⟩;rw[wL,iV hs,aj];exact e3
 .rintro xs σ' H' ⟨_,rfl,eD,sx⟩;have eD:H' D=some (.lst ((yF 98).map V.int)):=eD;have s':Same H H':=λb o e=>sx b o e (zb e hD);walk_at"r";have hl:((List.map V.int (yF 98)).length:Int)=90:=by rw[aa,tL];rfl
  rw[hl];walk_at"r";obtain⟨d,hd,e⟩:=GN (xs:=yF 98) (i:=c % 90) (!2) (by rw[tL];lia);exact xb eD e (q d H' (Cf (ak _) hd) s')
theorem K21(F:Fun K "_law_shares" "_law_shares" S65 f fd)(B:Bl mg):FnOk P w K mg base CX0 1 f fd ["_law_heap_here"] (P22 K):=by
 refine F.okA C24 λcdv A outer s H vs Q E hr h=>?_;obtain@⟨a,L,d,D,M,K',rfl,ha,hA,ob,zz,hMK,hl,q⟩:=h;refine⟨_,(za (ps_s 1 C24.nd (zP yq)) (za (zU PassesOwn.never rfl (z9 rfl B.range (pa1 zd)) (pg_n 2 C24.nd) (zc (zU PassesOwn.never rfl (z9 rfl B.range (pa1 zd)) (pg_n 3 C24.nd) (za (ps_s 4 C24.nd zd) (za (ps_s 5 C24.nd zd) (za (zU PassesOwn.never rfl (zG (pv 0)) (xZ (n:=2) rfl (zA (pg_n 6 C24.nd) (zA (pg_n 7 C24.nd) yP))) (za (ps_s 8 C24.nd (zf zj (pit 6) (pit 7))) (za (ps_s 4 C24.nd (zf zv (zf zj (pv 4) (pv 8)) (zf zj (zf zj (pe_i zI (pv 6) (pv 2)) (pe_i zI (pv 7) (pv 3))) (pv 5)))) (zc (ps_s 5 C24.nd (zf zj (pv 5) (pv 8))))))) (zc (zZ (wC bJ bF bH zJ (pv 1) (pa1 (zo (pa2 (pv 4) (pv 5))))))))))))) (zc (zi (pv 1))))),?_⟩;walk_at"s";obtain⟨hM,hK⟩:=hMK;exists zB (!1) λl H1 nl s1 e1=>?_;have al:a≠l:=zb ha nl;have ha1:=s1 _ _ ha;exists uO ?_;exists⟨2,rfl,by decide,by decide,yV (lo:=0) (n:=(2:Int).toNat) (λi σ H'=>E8 λ(v1 v2 v3 v4 v5 v6 v7:Option V)(fs:List Addr)=>A5 (σ=[vR a,vR l,v1,v2,v3,v4,v5,v6,v7]) (SameX l H1 H') (H' l=some (.lst (fs.map V.ref))) (fs.length=2*i) (∀(k:Nat)(p:Addr),fs[k]?=some p->∃x y:Int,H' p=some (.tup [.int x,.int y])/\Shr 10000 x y (cm k (tbs (L.map Cell.b))))) ⟨_,_,_,_,_,_,_,[],rfl,λb o e _=>e,e1,rfl,by simp⟩ ?_ ?_⟩
 .rintro i σ H' hi ⟨v1,v2,v3,v4,v5,v6,v7,fs,rfl,sx,el,hfl,hfs⟩;have hi2:i<2:=hi;exists uO ?_;exists⟨2,rfl,by decide,by decide,yV (lo:=0) (n:=(2:Int).toNat) (λj σ H'=>E7 λ(v2 v3 v4 v5 v6 v7:Option V)(fs:List Addr)=>A5 (σ=[vR a,vR l,vI (0+(i:Int)),v2,v3,v4,v5,v6,v7]) (SameX l H1 H') (H' l=some (.lst (fs.map V.ref))) (fs.length=2*i+j) (∀(k:Nat)(p:Addr),fs[k]?=some p->∃x y:Int,H' p=some (.tup [.int x,.int y])/\Shr 10000 x y (cm k (tbs (L.map Cell.b))))) ⟨_,_,_,_,_,_,fs,rfl,sx,el,hfl,hfs⟩ ?_ ?_⟩
  .clear hfs hfl el sx;rintro j σ H' hj ⟨v2,v3,v4,v5,v6,v7,fs,rfl,sx,el,hfl,hfs⟩;have hj2:j<2:=hj;have ha':=sx _ _ ha1 al;exists yX ?_;exists⟨a,rfl,⟨_,SqL.of ha'⟩,z5 (K:=K) (a:=a) (xs:=L.map Cell.v) (λk σ H2=>E5 λ(v5 v6 v7:Option V)(x y:Int)=>A3 (σ=[vR a,vR l,vI (0+(i:Int)),vI (0+(j:Int)),vI x,vI y,v5,v6,v7]) (H2=H') (Shr (661*k+1) x y (cm (2*i+j) (tbs ((L.take k).map Cell.b))))) ⟨_,_,_,0,1,rfl,rfl,⟨by decide,by decide,by decide,by rw[show cm (2*i+j) (tbs ((L.take 0).map Cell.b))=0 from HW _];rfl⟩⟩ (λk σ H2 _ z=>by obtain⟨_,_,_,_,_,_,rfl,_⟩:=z;exact SqL.of ha') ?_ ?_⟩
   .rintro k v σ H2 hk ⟨v5,v6,v7,x,y,rfl,rfl,sh⟩;obtain⟨c,rfl,hc,hkc⟩:=xX hk;have hk14:k<14:=by have:=(af.mp hkc).1;lia
    have hc2:c.At H2:=⟨sx.tup (s1 _ _ (hA c hc).t) e1,sx.tup (s1 _ _ (hA c hc).w) e1,sx.tup (s1 _ _ (hA c hc).h) e1⟩
    have ct:=hc2.t;have cw:H2 c.pw=some (.tup [.int c.b.w.x,.int c.b.w.y,.int c.b.w.z]):=hc2.w;have ch:H2 c.ph=some (.tup [.int c.b.h.x,.int c.b.h.y,.int c.b.h.z]):=hc2.h;have sw:SK 330 330 c.b.w:=((ob c hc).1.sk zz.d1 zz.bd).mono hM hK;have sh':SK 330 330 c.b.h:=((ob c hc).2.sk zz.d1 zz.bd).mono hM hK;have nx:cm (2*i+j) (tbs ((L.take (k+1)).map Cell.b))=cm (2*i+j) (tbs ((L.take k).map Cell.b))+Rat.divInt (prt c.b.w i) c.b.w.z*Rat.divInt (prt c.b.h j) c.b.h.z:=by rw[bQ,hkc,aj,yU,Kn,<-KL hi2 hj2];congr 1;exact congrArg _ (wA _)
    have bw:Bd 330 (prt c.b.w i):=by unfold prt;split;exact sw.bx;exact sw.by'
    have bh:Bd 330 (prt c.b.h j):=by unfold prt;split;exact sh'.bx;exact sh'.by'
    have gw:atI [V.int c.b.w.x,V.int c.b.w.y,V.int c.b.w.z] (0+(i:Int))=some (.int (prt c.b.w i)):=GO hi2;have gh:atI [V.int c.b.h.x,V.int c.b.h.y,V.int c.b.h.z] (0+(j:Int))=some (.int (prt c.b.h j)):=GO hj2;have bx:Bd 10000 x:=sh.bt.mono (!2);have by':Bd 10000 y:=sh.bb.mono (!2);have bzw:=sw.bz;have bzh:=sh'.bz;repeat (first|walk_at"rd" |refine uN cw gw ?_|refine uN ch gh ?_)
    refine⟨_,_,_,_,_,rfl,rfl,?_⟩;rw[nx];exact sh.step (ob c hc).1.z1 (ob c hc).2.z1 bw bh bzw bzh
   rintro σ H2 ⟨v5,v6,v7,x,y,rfl,rfl,sh⟩;rw[aa,aG]at sh;exists zC (!1) λt H3 nt s3 e3=>?_;exists zq (s3 _ _ el) (by rw[aa];lia) λH4 x4 e4=>?_;have x24:SameX l H2 H4:=(s3.sameX l).trans x4;refine⟨_,_,_,_,_,_,fs++[t],rfl,sx.trans x24,by rw[aj];exact e4,by rw[ai,hfl];rfl,λk p hk=>?_⟩;by_cases ck:k<fs.length
   .rw[aT ck]at hk;obtain⟨x',y',h1,h2⟩:=hfs k p hk;exact⟨x',y',x24.tup h1 el,h2⟩
   .rw[aP (!2)]at hk;have hk0:k - fs.length=0:=by
     have:=(af.mp hk).1;simp at this
     lia
    rw[hk0]at hk;have hk:t=p:=aJ hk;subst hk;refine⟨x,y,x4.tup e3 (s3 _ _ el),?_⟩;rw[show k=2*i+j by lia];exact⟨sh.b1,sh.bt.mono (!2),sh.bb.mono (!2),sh.e⟩
  rintro σ H2 ⟨v2,v3,v4,v5,v6,v7,fs2,rfl,sx2,el2,hfl2,hfs2⟩;walk_at"r";exact⟨_,_,_,_,_,_,_,fs2,rfl,sx2,el2,by have:((2:Int).toNat)=2:=rfl;lia,hfs2⟩
 rintro σ H2 ⟨v1,v2,v3,v4,v5,v6,v7,fs,rfl,sx,el,hfl,hfs⟩;walk_at"r";exact q l H2 (λb o e=>sx _ _ (s1 _ _ e) (zb e nl)) nl ⟨fs,by have:((2:Int).toNat)=2:=rfl;lia,el,hfs⟩
theorem K22(F:Fun K "_law_is_whole" "_law_is_whole" S67 f fd)(B:Bl mg):FnOk P w K mg base CX0 1 f fd ["_law_found"] P23:=by refine F.okA C25 λcdv A outer s H vs Q E hr h=>?_;obtain@⟨n,rfl,q⟩:=h;refine⟨_,(zc (zi (Bv (zp zY rfl B.isinstance zK (pa2 (pv 0) (xi (v:=.ty "int") rfl B.int F6 rfl))) (tz (Gp (zp zY rfl B.isinstance zK (pa2 (pv 0) (xi (v:=.ty "bool") rfl B.bool El rfl)))))))),?_⟩;walk_at"s";walk_at"r";exact q
theorem K23(F:FunD K "__init__" "Yard.__init__" S70 f fd its)(B:Bl mg)(X:Xs K mg cs):FnOk P w K mg base CX0 1 f fd ["self","d","heap","turning"] (P24 cs):=by
 refine F.okA C26 λcdv A outer s H vs Q E hr h=>?_;obtain⟨p,dx,hp,d,tn,cl,rfl,h0,hh,hat,hlen,q⟩:=h;refine⟨_,(za (Ag (pv 0) (pv 1) rfl) (za (Ag (pv 0) (pv 3) rfl) (za (Ag (pv 0) (yR Ar rfl B.list AU (pa1 (pv 2))) rfl) (za (Ag (pv 0) (yR (ue rfl) rfl B.dict DP (pa1 (zR ["name"] [] rfl (z9 rfl B.range (pa1 (zp zx rfl B.len bS (pa1 (pv 2))))) (λ_ _ _ _ _=>(pg_n 0 (show List.Nodup (α:=Str) ["name"] by decide+kernel))) (λ_ _ _ _ _=>zD) (λ_ _ _ _ _=>(zo (pa2 (pv 0) wm)))))) rfl) (zc (Ag (pv 0) (zP yq) rfl)))))),?_⟩;walk_at"s";exists tW h0 X.c_Yard X.n_Yard_root (!1) λH1 x1 e1=>?_;exists tW e1 X.c_Yard X.n_Yard_turning (yN (!1)) λH2 x2 e2=>?_;have np:hp≠p:=zX hh h0 (λz=>nomatch z);have hh2:=x2 _ _ (x1 _ _ hh np) np;exists DG hh2 λk H3 nk s3 ek=>?_;have e3:=s3 _ _ e2;have kp:k≠p:=zX ek e3 (λz=>nomatch z);exists tW e3 X.c_Yard X.n_Yard_known (yN (yN (!1))) λH4 x4 e4=>?_;have ek4:=x4 _ _ ek kp;have hh4:=x4 _ _ (s3 _ _ hh2) np;exists xA ?_;exists⟨_,rfl,by simp only[aa];lia,by simp only[aa];lia,λD hD=>yj (lo:=0) (n:=((cl.map Cell.v).length:Int).toNat) (λi xs σ' H'=>E2 λ(v:Option V)(ps:List Addr)=>A6 (σ'=[v]) (xs=ps.map V.ref) (ps.length=i) (H' D=some (.lst xs)) (SameX D H4 H') (∀(j:Nat)(p':Addr),ps[j]?=some p'->H' p'=some (.tup [.int (j:Int),.bl true]))) ⟨none,[],rfl,rfl,rfl,zg,λb o e n=>by rw[zl n];exact e,by simp⟩ ?_ ?_⟩
 .rintro i xs σ' H' hi ⟨v,ps,rfl,rfl,hl,eD,sx,hps⟩;exists zC (!1) λr H5 hr s5 e5=>?_;walk_at"r";have hi':i<61:=by simp only[aa]at hi;lia
  refine zq (s5 _ _ eD) (by rw[aa];lia) λH6 x6 e6=>?_;have rD:r≠D:=zX e5 (s5 _ _ eD) (λz=>nomatch z);refine yx hi ⟨_,ps++[r],rfl,rfl,by rw[ai,hl];rfl,by rw[aj];exact e6,sx.trans ((SameX.of s5).trans x6),?_⟩;intro j p' hj;by_cases c:j<ps.length
  .rw[aT c]at hj;have:=hps j p' hj;exact x6.tup (s5 _ _ this) (s5 _ _ eD)
  .rw[aP (!2)]at hj;have hj1:=(af.mp hj).1;have j0:j - ps.length=0:=by simpa using hj1
   rw[j0]at hj;injection hj with hj;subst hj;have:j=i:=by lia
   subst this;have:=x6.tup e5 (s5 _ _ eD);simpa using this
 .rintro xs σ' H' ⟨v,ps,rfl,rfl,hl,eD,sx,hps⟩;have s5:Same H4 H':=λb o e=>sx b o e (zb e hD);have hl:ps.length=cl.length:=by rw[hl];simp
  exists D8 (kvs:=nmK (List.range cl.length)) eD (by simp[nmK,hl]) (λi p' kv h1 h2=>?_) (Ad cN) (by simp[nmK];lia) λl H6 nl s6 el=>?_
  .have h3:=hps i p' h1;have hi:=(af.mp h1).1;rw[nmK,ao,dM (!2)]at h2;injection h2 with h2;rw[<-h2];exact h3
  have e6:=s6 _ _ (s5 _ _ e4);have lp:l≠p:=zX el e6 (λz=>nomatch z);exists tW e6 X.c_Yard X.n_Yard_lying (yN (yN (yN (!1)))) λH7 x7 e7=>?_;exists zB (!1) λt H8 nt s8 et=>?_;have e8:=s8 _ _ e7;have tp:t≠p:=zX et e8 (λz=>nomatch z);exists tW e8 X.c_Yard X.n_Yard_done (yN (yN (yN (yN (!1))))) λH9 x9 e9=>?_;have ek7:=x7 _ _ (s6 _ _ (s5 _ _ ek4)) kp;have xx:SameX p H H9:=x1.trans (x2.trans ((SameX.of s3).trans (x4.trans ((SameX.of (s5.trans s6)).trans (x7.trans ((SameX.of s8).trans x9))))));have pn:∀{b:Addr}{G:Hp},SameX p H G->b≠p->G b=none->H b=none:=λ{b G} x n g=>by
   cases e:H b with
   |none=>rfl
   |some o=>rw[x _ _ e n]at g;cases g
  refine q ⟨p,dx,k,l,t⟩ H9 rfl rfl xx ⟨e9,x9 _ _ (s8 _ _ ek7) kp,x9 _ _ (s8 _ _ (x7 _ _ el lp)) lp,x9 _ _ et tp,zb ek7 nt,λc hc=>?_,cN,λn hn=>ca.mp hn,by lia,by simp⟩ (pn (x1.trans x2) kp nk) (pn (x1.trans (x2.trans ((SameX.of s3).trans (x4.trans (SameX.of s5))))) lp nl) (pn (x1.trans (x2.trans ((SameX.of s3).trans (x4.trans ((SameX.of (s5.trans s6)).trans x7))))) tp nt);have hc:=hat c hc;exact⟨xx _ _ hc.t (zX hc.t h0 (λz=>nomatch z)),xx _ _ hc.w (zX hc.w h0 (λz=>nomatch z)),xx _ _ hc.h (zX hc.h h0 (λz=>nomatch z))⟩
theorem K24(F:Fun K "board_ever" "Yard.board_ever" S74 f fd)(B:Bl mg)(X:Xs K mg cs):FnOk P w K mg base CX0 1 f fd ["self","name"] (P25 cs):=by refine F.okA C27 λcdv A outer s H vs Q E hr h=>?_;obtain@⟨y,d,tn,cl,ns,lg,n,c,rfl,hy,hc,q⟩:=h;refine⟨_,(zc (zi (pe_i zQ (yd (K:=K) rfl (pv 0) rfl) (pv 1)))),?_⟩;walk_at"s";exists⟨_,_,_,_,_,rfl,hy.o,X.c_Yard,X.n_Yard_known,rfl,?_⟩;exists xb hy.k (v:=c.v) (yl (by rw[ao,hc];rfl)) ?_;walk_at"r";exact q
theorem K25(F:Fun K "boards" "Yard.boards" S75 f fd)(B:Bl mg)(X:Xs K mg cs):FnOk P w K mg base CX0 1 f fd ["self"] (P26 cs):=by
 refine F.okA C28 λcdv A outer s H vs Q E hr h=>?_;obtain@⟨y,d,tn,cl,ns,lg,rfl,hy,q⟩:=h;refine⟨_,(zc (zi (Bb ["name"] [0] rfl (D9 (yd (K:=K) rfl (pv 0) rfl)) (λ_ _ _ _ _=>(pg_n 0 (show List.Nodup (α:=Str) ["name","self"] by decide+kernel))) (λ_ _ _ _ _=>zD) (λ_ _ _ _ _=>(zo (pa2 (pv 0) (pe_i (r:=rIxL K) zQ (yd (K:=K) rfl (pv 1) rfl) (pv 0)))))))),?_⟩;walk_at"s";refine i_ret ?_;refine DY ?_;exists⟨_,_,_,_,_,rfl,hy.o,X.c_Yard,X.n_Yard_lying,rfl,?_⟩;refine⟨y.l,nmK ns,rfl,hy.l,λob nf D hD=>t6 (d:=y.l) (ob:=ob) (kvs:=nmK ns) (λi xs σ' H'=>E1 λ(v:Option V)=>A5 (σ'=[v,vR y.p]) ((∃ps:List Addr,xs=ps.map V.ref/\ps.length=i/\∀(j:Nat)(p:Addr),ps[j]?=some p->∃n c,ns[j]?=some n/\cl[n]?=some c/\H' p=some (.tup [.int (n:Int),.ref c.p]))) (H' D=some (.lst xs)) (H' y.l=some (.frz ob (.dK (nmK ns)))) (∀b o,H b=some o->b≠y.l->H' b=some o)) ?_ (λi xs σ' H' _ z=>by obtain⟨_,_,_,_,z,_⟩:=z;exact z) ?_ ?_⟩
 .have nl:D≠y.l:=λc=>by rw[c,zg]at hD;cases hD
  have hD':H D=none:=by rw[zl nl]at hD;exact hD
  exact⟨none,rfl,⟨[],rfl,rfl,by simp⟩,zg,by rw[zl (cH nl),zg],λb o e n=>by rw[zl (zb e hD'),zl n];exact e⟩
 .rintro i kv xs σ' H' hi ⟨v,rfl,⟨ps,rfl,hl,hps⟩,eD,el,sx⟩;have nl0:D≠y.l:=λc=>by rw[c,zg]at hD;cases hD
  have hD':H D=none:=by rw[zl nl0]at hD;exact hD
  rw[nmK,ao]at hi;obtain⟨n,hn,rfl⟩:=aB.mp hi;have hlt:=hy.lt n (ay hn);obtain⟨c,hc⟩:∃c,cl[n]?=some c:=⟨_,ag hlt⟩
  have nl:∀{b:Addr}{o:HO},H b=some o->(∀k,o≠.dK k)->b≠y.l:=λe h z=>by rw[z,hy.l]at e;injection e with e;exact h _ e.symm
  have eo:=sx _ _ hy.o (nl hy.o (λ_ z=>nomatch z));have ek:=sx _ _ hy.k (nl hy.k (λ_ z=>nomatch z));exists⟨_,_,_,_,_,rfl,eo,X.c_Yard,X.n_Yard_known,rfl,?_⟩;exists xb ek (v:=c.v) (yl (by rw[ao,hc];rfl)) ?_;have hi3:=(af.mp hn).1;have l1:=BZ hy.up hy.lt;have l2:=hy.lc;exists zC (!1) λr H5 hr s5 e5=>?_;walk_at"r";have eD5:=s5 _ _ eD;refine zq eD5 (by rw[aa];lia) λH3 x3 e3=>?_;refine yx (by simp only[nmK,aa];exact hi3) ⟨_,rfl,⟨ps++[r],rfl,by rw[ai,hl];rfl,?_⟩,by rw[aj];exact e3,x3 _ _ (s5 _ _ el) (zX (s5 _ _ el) eD5 (λz=>nomatch z)),λb o e n=>x3 _ _ (s5 _ _ (sx b o e n)) (zb e hD')⟩;intro j p' hj;by_cases cj:j<ps.length
  .rw[aT cj]at hj;obtain⟨n',c',h1,h2,h3⟩:=hps j p' hj;exact⟨n',c',h1,h2,x3.tup (s5 _ _ h3) eD5⟩
  .rw[aP (!2)]at hj;have hj1:=(af.mp hj).1;have j0:j - ps.length=0:=by simpa using hj1
   rw[j0]at hj;injection hj with hj;subst hj;have:j=i:=by lia
   subst this;exact⟨n,c,hn,hc,x3.tup e5 eD5⟩
 .rintro xs σ' H' ⟨v,rfl,⟨ps,rfl,hl,hps⟩,eD,el,sx⟩;have nl0:D≠y.l:=λc=>by rw[c,zg]at hD;cases hD
  have hD':H D=none:=by rw[zl nl0]at hD;exact hD
  refine⟨y.l,ob,nmK ns,nf,el,?_⟩;refine q D _ ps (λb o e=>?_) hD' (by rw[zl nl0];exact eD) ⟨by rw[hl,nmK,aa],λj p' hj=>?_⟩;rotate_left
  .obtain⟨n',c',h1,h2,h3⟩:=hps j p' hj;exact⟨n',c',h1,h2,by rw[zl (zX h3 el (λz=>nomatch z))];exact h3⟩
  by_cases c:b=y.l
  .rw[c,zg];rw[c,hy.l]at e;exact e
  .rw[zl c];exact sx b o e c
theorem K26(F:Fun K "heap" "Yard.heap" S76 f fd)(B:Bl mg)(X:Xs K mg cs):FnOk P w K mg base CX0 1 f fd ["self"] (P27 cs):=by
 refine F.okA C29 λcdv A outer s H vs Q E hr h=>?_;obtain@⟨y,d,tn,cl,ns,lg,rfl,hy,q⟩:=h;refine⟨_,(zc (zi (Bb ["name"] [0] rfl (D9 (yd (K:=K) rfl (pv 0) rfl)) (λ_ _ _ _ _=>(pg_n 0 (show List.Nodup (α:=Str) ["name","self"] by decide+kernel))) (λ_ _ _ _ _=>zD) (λ_ _ _ _ _=>(pe_i (r:=rIxL K) zQ (yd (K:=K) rfl (pv 1) rfl) (pv 0)))))),?_⟩;walk_at"s";refine i_ret ?_;refine DY ?_;exists⟨_,_,_,_,_,rfl,hy.o,X.c_Yard,X.n_Yard_lying,rfl,?_⟩;refine⟨y.l,nmK ns,rfl,hy.l,λob nf D hD=>t6 (d:=y.l) (ob:=ob) (kvs:=nmK ns) (λi xs σ' H'=>E1 λ(v:Option V)=>A5 (σ'=[v,vR y.p]) (xs=(pick cl (ns.take i)).map Cell.v) (H' D=some (.lst xs)) (H' y.l=some (.frz ob (.dK (nmK ns)))) (∀b o,H b=some o->b≠y.l->H' b=some o)) ?_ (λi xs σ' H' _ z=>by obtain⟨_,_,_,_,z,_⟩:=z;exact z) ?_ ?_⟩
 .have nl:D≠y.l:=λc=>by rw[c,zg]at hD;cases hD
  have hD':H D=none:=by rw[zl nl]at hD;exact hD
  exact⟨none,rfl,rfl,zg,by rw[zl (cH nl),zg],λb o e n=>by rw[zl (zb e hD'),zl n];exact e⟩
 .rintro i kv xs σ' H' hi ⟨v,rfl,rfl,eD,el,sx⟩;have nl0:D≠y.l:=λc=>by rw[c,zg]at hD;cases hD
  have hD':H D=none:=by rw[zl nl0]at hD;exact hD
  rw[nmK,ao]at hi;obtain⟨n,hn,rfl⟩:=aB.mp hi;have hlt:=hy.lt n (ay hn);obtain⟨c,hc⟩:∃c,cl[n]?=some c:=⟨_,ag hlt⟩
  have nl:∀{b:Addr}{o:HO},H b=some o->(∀k,o≠.dK k)->b≠y.l:=λe h z=>by rw[z,hy.l]at e;injection e with e;exact h _ e.symm
  have eo:=sx _ _ hy.o (nl hy.o (λ_ z=>nomatch z));have ek:=sx _ _ hy.k (nl hy.k (λ_ z=>nomatch z));exists⟨_,_,_,_,_,rfl,eo,X.c_Yard,X.n_Yard_known,rfl,?_⟩;exists xb ek (v:=c.v) (yl (by rw[ao,hc];rfl)) ?_;have hi3:=(af.mp hn).1;have l1:=BZ hy.up hy.lt;have l2:=hy.lc;have l3:=Bh (cl:=cl) (ns:=ns.take i);rw[aU]at l3;exists zq eD (by rw[aa];lia) λH3 x3 e3=>?_;refine yx (by simp only[nmK,aa];exact hi3) ⟨_,rfl,rfl,by rw[Es hn hc,aj];exact e3,x3 _ _ el (zX el eD (λz=>nomatch z)),λb o e n=>x3 _ _ (sx b o e n) (zb e hD')⟩
 .rintro xs σ' H' ⟨v,rfl,rfl,eD,el,sx⟩;have nl0:D≠y.l:=λc=>by rw[c,zg]at hD;cases hD
  have hD':H D=none:=by rw[zl nl0]at hD;exact hD
  refine⟨y.l,ob,nmK ns,nf,el,?_⟩;rw[show ns.take (nmK ns).length=ns by rw[nmK,aa,aG]]at eD;refine q D _ (λb o e=>?_) hD' (by rw[zl nl0];exact eD);by_cases c:b=y.l
  .rw[c,zg];rw[c,hy.l]at e;exact e
  .rw[zl c];exact sx b o e c
theorem K27(F:FunD K "length" "length" S5 f fd its)(B:Bl mg)(o3x:O3x P w K mg base)(o2x:O2x P w K mg base)(o0x:O0x P w K mg base):FnOk P w K mg base CX0 2 f fd ["a","b","n"] P28:=by
 refine F.okA C30 λcdv A outer s H vs Q E hr h=>?_;obtain⟨a,b,n,rfl,hn,hb,⟨ha8,hb8⟩,q⟩:=h;refine⟨_,(za (zy (yJ (PW.pt (xF (yp (ze o0x hr rfl (pa1 (pv 0)))) (xF (yp (ze o0x hr rfl (pa1 (pv 1)))) (y9 (yp (ze o0x hr rfl (pa1 (pv 2))))))))) (zc yA) zn) (za (zy (zk ye (pv 2) zd (zm _)) (zc yA) zn) (za (ps_s 3 C30.nd (ze o3x hr rfl (pa2 (ze o2x hr rfl (pa2 (ze o2x hr rfl (pa2 (pv 2) (pv 0))) (pv 1))) (pv 2)))) (zc (zi (zo (pa3 (zf zM (pv 0) (pv 3)) (zf zM (pv 1) (pv 3)) (zf zM (pv 2) (pv 3))))))))),?_⟩;walk_at"s";have hc:∀x,CFd x (gd a b n):=λx=>⟨GU hn,a9 (Hv hn hb).log ⋯⟩
 exists if_d (λc=>absurd c hn) (λ_=>?_);walk_at"r"
 .exact zt (!1) λp H' s e=>q p H' s e
 all_goals exact hc _
theorem K28(F:FunD K "fraction" "fraction" S6 f fd its)(B:Bl mg)(o3x:O3x P w K mg base)(o2x:O2x P w K mg base):FnOk P w K mg base CX0 2 f fd ["top","bottom"] P29:=by
 refine F.okA C31 λcdv A outer s H vs Q E hr h=>?_;obtain⟨t,b,rfl,hn,hb,q⟩:=h;refine⟨_,(za (ps_s 2 C31.nd (ze o3x hr rfl (pa2 (ze o2x hr rfl (pa2 (pv 0) (pv 1))) (pv 1)))) (zc (zi (zo (pa2 (zf zM (pv 0) (pv 2)) (zf zM (pv 1) (pv 2))))))),?_⟩;walk_at"s";have hc:∀x,CFd x (fg t b):=λx=>⟨Lq hn,a9 (Lf hn hb).log ⋯⟩
 walk_at"r"
 .exact zt (!1) λp H' s e=>q p H' s e
 all_goals exact hc _
theorem K29(F:Fun K "added" "added" S10 f fd)(B:Bl mg)(o2x:O2x P w K mg base):FnOk P w K mg base CX0 2 f fd ["one","other"] (P30 K):=by
 refine F.okA C32 λcdv A outer s H vs Q E hr h=>?_;obtain⟨p,p',x,y,z,x',y',z',rfl,h1,h2,n1,n2,k1,k2,⟨b1,b2,b3,b4,b5,b6⟩,q⟩:=h;refine⟨_,(za (ps_s 2 C32.nd (ze o2x hr rfl (pa2 (pit 0) (pit 1)))) (za (ps_s 3 C32.nd (zf zM (pit 1) (pv 2))) (za (ps_s 4 C32.nd (zf zM (pit 0) (pv 2))) (za (ps_s 5 C32.nd (zf zv (zf zj (pit 0) (pv 3)) (zf zj (pit 1) (pv 4)))) (za (ps_s 6 C32.nd (zf zv (zf zj (pit 0) (pv 3)) (zf zj (pit 1) (pv 4)))) (za (ps_s 7 C32.nd (ze o2x hr rfl (pa2 (ze o2x hr rfl (pa2 (pv 2) (pv 5))) (pv 6)))) (zc (zi (zo (pa3 (zf zM (pv 5) (pv 7)) (zf zM (pv 6) (pv 7)) (zf zj (pv 4) (zf zM (pit 1) (pv 7))))))))))))),?_⟩;walk_at"s";obtain⟨as1,al1,ea,eb,en⟩:=Hy n1 n2 k1 k2;have gb:Bd 2900 (aS z z'):=uI (!2) b3;have lb:Bd 2900 (aL x y z x' y' z'):=uI (by have:=cZ (aA x z x' z') (show aS z z'≠0 by lia);lia) (uI (!2) gb);have ba8:Bd 8192 (aA x z x' z'):=Bd.mono (Bd.add (k:=7900) (b1.mul (b6.fdiv _)) (b4.mul (b3.fdiv _))) ⋯;have bb8:Bd 8192 (aA y z y' z'):=Bd.mono (Bd.add (k:=7900) (b2.mul (b6.fdiv _)) (b5.mul (b3.fdiv _))) ⋯;have hs:∀t,CFd t (aS z z'):=λt=>⟨by lia,a9 gb.log ⋯⟩
 have hl:∀t,CFd t (aL x y z x' y' z'):=λt=>⟨by lia,a9 lb.log ⋯⟩
 rw[<-ea,<-eb,<-en]at q;walk_at"r"
 .exact zt (!1) λr H' s e=>q r H' s e
 all_goals first|exact hs _|exact hl _
theorem K30(F:Fun K "under" "under" S15 f fd)(B:Bl mg)(o11x:Own P w K mg base 1 "is_above_nought" ["d","a","b"] [] P6):FnOk P w K mg base CX0 2 f fd ["d","one","other"] (P31 K):=by refine F.okA C33 λcdv A outer s H vs Q E hr h=>?_;obtain⟨d,p,p',x,y,z,x',y',z',rfl,h1,h2,hd,⟨b1,b2,b3,b4,b5,b6⟩,q⟩:=h;refine⟨_,(zc (zi (ze o11x hr rfl (pa3 (pv 0) (zf yH (zf zj (pit 2) (pit 1)) (zf zj (pit 1) (pit 2))) (zf yH (zf zj (pit 2) (pit 1)) (zf zj (pit 1) (pit 2))))))),?_⟩;walk_at"s";walk_at"r";exact wE rfl hd ((Bd.sub (b4.mul b3) (b1.mul b6)).mono ⋯) ((Bd.sub (b5.mul b3) (b2.mul b6)).mono ⋯) q
theorem K31(F:Fun K "floor_of" "floor_of" S16 f fd)(B:Bl mg)(o1x:Own P w K mg base 1 "square_root_floor" ["number"] [] P3):FnOk P w K mg base CX0 2 f fd ["d","one"] P32:=by
 refine F.okA C34 λcdv A outer s H vs Q E hr h=>?_;obtain⟨d,p,x,y,z,rfl,h1,⟨hd1,hd2⟩,hz,⟨b1,b2,b3⟩,q⟩:=h;refine⟨_,(za (ps_s 2 C34.nd (ze o1x hr rfl (pa1 (zf zj (zf zj (pv 0) (pit 1)) (pit 1))))) (za (BU (zy (zk vZ (pit 1) zd (zm _)) (zc (ps_s 2 C34.nd (zf yH (wS xh (pv 2)) zd))) zn)) (zc (zi (zf zL (zf zv (pit 1) (pv 2)) (pit 1)))))),?_⟩;walk_at"s";have hd:Bd 7 d:=zE (!2) hd2 ⋯;have hcz:∀t,CFp t z:=λt=>⟨by lia,a9 b3.log ⋯⟩
 exists xP rfl (ug hd1 y) (Bd.mono (by walk_at"bd") (!3)) λr r0 r1 r2=>?_;exists FJ (T:=λσ' H'=>σ'=[vI d,vR p,vI (rpart y r)]/\H'=H) ?_ ?_
 .exists if_d (λc=>?_) (λc=>?_)
  .exists⟨?_,rfl⟩;unfold rpart;rw[iU c]
  .exists⟨?_,rfl⟩;unfold rpart;rw[iV c]
 rintro σ' H' ⟨rfl,rfl⟩;have hcz':=hcz (x+rpart y r);walk_at"r";exact q r r0 r1 r2
theorem K32(F:Fun K "counts" "counts" S21 f fd)(B:Bl mg)(o16x:Own P w K mg base 1 "crossed" ["one","other"] [] P7):FnOk P w K mg base CX0 2 f fd ["d","base","one"] P33:=by
 refine F.okA C35 λcdv A outer s H vs Q E hr h=>?_;obtain⟨d,d',p,r1,r2,o,s,N,x,y,rfl,⟨h0,h1,h2⟩,ho,hN,hb,g,⟨bx,by'⟩,q⟩:=h;refine⟨_,(za (ps_s 3 C35.nd (pit 1)) (za (ps_s 4 C35.nd (pit 1)) (za (ps_s 5 C35.nd (zf zj (pit 2) (ze o16x hr rfl (pa2 (pv 3) (pv 4))))) (zc (zi (zo (pa2 (zf zM (zf zj (ze o16x hr rfl (pa2 (pv 2) (pv 4))) (pit 3)) (pv 5)) (zf zM (zf zj (ze o16x hr rfl (pa2 (pv 3) (pv 2))) (pit 4)) (pv 5))))))))),?_⟩;walk_at"s";obtain⟨b0,ci,cj⟩:=Ld (x:=x) (y:=y) g hN;have k1:Bd 1500 (lA s.a s.b N):=g.ba.fdiv _;have k2:Bd 1500 (lB s.a s.b N):=g.bb.fdiv _;have k3:Bd 1500 (lN s.a s.b N):=hb.fdiv _;have k4:Bd 1500 (lA s.c s.e N):=g.bc.fdiv _;have k5:Bd 1500 (lB s.c s.e N):=g.be.fdiv _;have k6:Bd 1500 (lN s.c s.e N):=hb.fdiv _;have k7:Bd 1500 (lA x y N):=bx.fdiv _;have k8:Bd 1500 (lB x y N):=by'.fdiv _;have k9:Bd 1500 (lN x y N):=hb.fdiv _;have bb:Bd 4600 (lN x y N*(lA s.a s.b N*lB s.c s.e N - lB s.a s.b N*lA s.c s.e N)):=Bd.mono (k9.mul ((k1.mul k5).sub (k2.mul k4))) ⋯;have hc:∀t,CFd t (lN x y N*(lA s.a s.b N*lB s.c s.e N - lB s.a s.b N*lA s.c s.e N)):=λt=>⟨b0,a9 bb.log ⋯⟩
 rw[<-ci,<-cj]at q;exists vF h1 h2 k1 k2 k4 k5 ?_;exists vF ho h2 k7 k8 k4 k5 ?_;walk_at"r"
 .refine vF h1 ho k1 k2 k7 k8 ?_;walk_at"r"
  .exact zt (!1) λr H' s' e=>q r H' s' e
  exact hc _
 all_goals exact hc _
theorem K33(F:Fun K "common_bottom" "common_bottom" S22 f fd)(B:Bl mg)(o2x:O2x P w K mg base):FnOk P w K mg base CX0 2 f fd ["lengths"] (P34 K):=by
 refine F.okA C36 λcdv A outer s H vs Q E hr h=>?_;obtain@⟨d,k,p,L,rfl,hL,hlen,hNb,q⟩:=h;refine⟨_,(za (ps_s 1 C36.nd zd) (za (zU PassesOwn.never rfl (zG (pv 0)) (pg_n 2 C36.nd) (zc (ps_s 1 C36.nd (zf zj (zf zM (pv 1) (ze o2x hr rfl (pa2 (pv 1) (pit 2)))) (pit 2))))) (zc (zi (pv 1))))),?_⟩;walk_at"s";exists yX ?_;exists⟨p,rfl,⟨_,SqL.of hL.l⟩,z5 (K:=K) (a:=p) (xs:=L.map Ln.v) (λi σ H'=>∃ (v:Option V),σ=[vR p,vI (cbs ((L.take i).map λc=>c.s.z)),v]/\H'=H) ⟨none,rfl,rfl⟩ (λi σ H' _ z'=>by obtain⟨_,_,e⟩:=z';exact by rw[e];exact SqL.of hL.l) ?_ ?_⟩
 .rintro i y σ H' hi ⟨v,rfl,rfl⟩;obtain⟨c,rfl,hc,hic⟩:=Ko hi;have e0:=hL.at' c hc;have ok:=hL.ok c hc;have bz:=ok.bz;have z1:=ok.z1;obtain⟨f1,fb⟩:=FU hL.ok hNb i;have hn:0<Int.gcd (cbs ((L.take i).map λc=>c.s.z)) c.s.z:=cZ _ (!2);have gb:Bd 990 ((Int.gcd (cbs ((L.take i).map λc=>c.s.z)) c.s.z:Nat):Int):=uI (!2) fb;have hcf:∀t,CFd t ((Int.gcd (cbs ((L.take i).map λc=>c.s.z)) c.s.z:Nat):Int):=λt=>⟨by lia,a9 gb.log ⋯⟩
  walk_at"r"
  .exact⟨some (.ref c.p),by rw[A9 hic,Fp];rfl,rfl⟩
  all_goals exact hcf _
 .rintro σ H' ⟨v,rfl,rfl⟩;rw[aa,aG];walk_at"r";exact q
theorem K34(F:Fun K "undoing" "undoing" S37 f fd)(B:Bl mg)(o70x:OwnM P w K mg base CX0 cs.Yard 1 "board_ever" ["self","name"] [] (P25 cs)):FnOk P w K mg base CX0 2 f fd ["yard","deed","names"] (P35 cs):=by
 refine F.okA C37 λcdv A outer s H vs Q E hr h=>?_;obtain@⟨y,d,tn,cl,ns,lg,p,a,e,n,c,m,m',rfl,hy,he,ha,hn,hc,q⟩:=h;refine⟨_,(za (ps_s 3 C37.nd (pit 1)) (za (zy (zk ye (pv 3) zH (zm _)) (zc (zi (zo (pa3 zH (pil 2) (pil 2))))) zn) (za (zy (zk ye (pv 3) zH (zm _)) (zc (zi (zo (pa3 zH (pil 2) (pil 2))))) zn) (za (zy (zk ye (pv 3) zH (zm _)) (zc (zi (zo (pa3 zH (pil 2) (pe_i zI (vC o70x uP hr (pv 0) (pa1 (pit 1))) zd))))) zn) (za (zy (zk ye (pv 3) zH (zm _)) (zc (zi (zo (pa3 zH (pil 2) (pe_i zI (vC o70x uP hr (pv 0) (pa1 (pit 1))) zd))))) zn) (za (zy (zk ye (pv 3) zH (zm _)) (zc (zi (zo (pa3 zH (pil 2) (pit 1))))) zn) (za (zy (zk ye (pv 3) zH (zm _)) (zc (zi (zo (pa3 zH (pil 2) (pit 1))))) zn) (zc (zi (zo (pa2 zH (pil 2)))))))))))),?_⟩;walk_at"s";cases e with
 |cut al n1 s' =>
  obtain⟨pq,h0,hs⟩:=he;have ga:al=al:=rfl;cases al
  all_goals
   simp[DdAt,Dd.wd]at h0;have ha:H a=some (.lst [.int m,.int m']):=ha;first
    |have:false=false:=ga
    |(walk_at"r";refine ifn ?_)
   exists if_d (λ_=>?_) (λc=>absurd rfl c);exists zC (!1) λr H1 nr s1 e1=>?_;exact q r H1 s1 nr e1
 |glue al n1 m1 =>
  have h0:=he;have ga:al=al:=rfl;cases al
  all_goals
   simp[DdAt,Dd.wd]at h0;have ha:H a=some (.lst [.int m]):=ha;first
    |have:false=false:=ga
    |(walk_at"r";refine ifn ?_)
   exists ifn ?_;exists ifn ?_;exists if_d (λ_=>?_) (λc=>absurd rfl c);walk_at"r";have hn:n1=(n:Int):=hn;subst hn;refine⟨_,_,_,rfl,hy.o,rfl,?_⟩;exists wt rfl hy hc ?_;have hc':=hy.at' c (ay hc);have ht:=hc'.t;exists zC (!1) λr H1 nr s1 e1=>?_;first
    |(have:false=false:=ga;exact q r H1 s1 nr ⟨c.pw,e1,s1 _ _ hc'.w⟩)
    |exact q r H1 s1 nr ⟨c.ph,e1,s1 _ _ hc'.h⟩
 |shift al n1 k =>
  have h0:=he;have ga:al=al:=rfl;cases al
  all_goals
   simp[DdAt,Dd.wd]at h0;have ha:H a=some (.lst [.int m]):=ha;first
    |have:false=false:=ga
    |(walk_at"r";refine ifn ?_)
   exists ifn ?_;exists ifn ?_;exists ifn ?_;exists ifn ?_;exists if_d (λ_=>?_) (λc=>absurd rfl c);exists zC (!1) λr H1 nr s1 e1=>?_;exact q r H1 s1 nr e1
 |turn n1 =>
  have h0:=he;have h0:H p=some (.tup [.str (Str.ofString "turn"),.int n1]):=h0;have ha:H a=some (.lst [.int m]):=ha;exists ifn ?_;exists ifn ?_;exists ifn ?_;exists ifn ?_;exists ifn ?_;exists ifn ?_;exists zC (!1) λr H1 nr s1 e1=>?_;exact q r H1 s1 nr e1
theorem K35(F:Fun K "names_behind" "names_behind" S40 f fd)(B:Bl mg)(o25x:O25x P w K mg base)(o26x:O26x P w K mg base):FnOk P w K mg base CX0 2 f fd ["many","plan"] P36:=by
 refine F.okA C38 λcdv A outer s H vs Q E hr h=>?_;obtain@⟨pl,ps,bs,es,d,tn,rfl,b1,b30,hpl,plen,hr',hw,q⟩:=h;refine⟨_,(za (ps_s 2 C38.nd (yR (ue rfl) rfl B.dict DP (pa1 (zR ["name"] [] rfl (z9 rfl B.range (pa1 (pv 0))) (λ_ _ _ _ _=>(pg_n 0 (show List.Nodup (α:=Str) ["name"] by decide+kernel))) (λ_ _ _ _ _=>zD) (λ_ _ _ _ _=>(zo (pa2 (pv 0) wm))))))) (za (ps_s 3 C38.nd (pv 0)) (za (zU PassesOwn.never rfl (zG (pv 1)) (pg_n 4 C38.nd) (za (zU PassesOwn.never rfl (zG (ze o25x hr rfl (pa1 (pv 4)))) (pg_n 5 C38.nd) (zc (zZ (BF (pv 2) (pv 5) ⟨rfl,rfl,rfl,rfl⟩)))) (za (zU PassesOwn.never rfl (wf rfl B.range (pa2 (pv 3) (zf zv (pv 3) (ze o26x hr rfl (pa1 (pv 4)))))) (pg_n 5 C38.nd) (zc (vM (uV hr) (pv 2) (pv 5) wm rfl))) (zc (ps_s 3 C38.nd (zf zv (pv 3) (ze o26x hr rfl (pa1 (pv 4))))))))) (zc (zi (yR (D5 rfl) rfl B.list AU (pa1 (pv 2)))))))),?_⟩;walk_at"s";exists xA ?_;exists⟨_,rfl,by lia,by lia,λD hD=>yj (lo:=0) (n:=((bs.length:Nat):Int).toNat) (λi xs σ' H'=>E2 λ(v:Option V)(zs:List Addr)=>A6 (σ'=[v]) (xs=zs.map V.ref) (zs.length=i) (H' D=some (.lst xs)) (SameX D H H') (∀(j:Nat)(p':Addr),zs[j]?=some p'->H' p'=some (.tup [.int (j:Int),.bl true]))) ⟨none,[],rfl,rfl,rfl,zg,λb o e n=>by rw[zl n];exact e,by simp⟩ ?_ ?_⟩
 .rintro i xs σ' H' hi ⟨v,zs,rfl,rfl,hl,eD,sx,hzs⟩;exists zC (!1) λr H5 hr s5 e5=>?_;walk_at"r";have hi':i<61:=by lia
  refine zq (s5 _ _ eD) (by rw[aa];lia) λH6 x6 e6=>?_;have rD:r≠D:=zX e5 (s5 _ _ eD) (λz=>nomatch z);refine yx hi ⟨_,zs++[r],rfl,rfl,by rw[ai,hl];rfl,by rw[aj];exact e6,sx.trans ((SameX.of s5).trans x6),?_⟩;intro j p' hj;by_cases c:j<zs.length
  .rw[aT c]at hj;have:=hzs j p' hj;exact x6.tup (s5 _ _ this) (s5 _ _ eD)
  .rw[aP (!2)]at hj;have hj1:=(af.mp hj).1;have j0:j - zs.length=0:=by simpa using hj1
   rw[j0]at hj;injection hj with hj;subst hj;have:j=i:=by lia
   subst this;have:=x6.tup e5 (s5 _ _ eD);simpa using this
 .rintro xs σ' H' ⟨v,zs,rfl,rfl,hl,eD,sx,hzs⟩;have s5:Same H H':=λb o e=>sx b o e (zb e hD);have hl:zs.length=bs.length:=by rw[hl];lia
  exists D8 (kvs:=nmK (List.range bs.length)) eD (by simp[nmK,hl]) (λi p' kv h1 h2=>?_) (Ad cN) (by simp[nmK];lia) λl H6 nl s6 el=>?_
  .have h3:=hzs i p' h1;have hi:=(af.mp h1).1;rw[nmK,ao,dM (!2)]at h2;injection h2 with h2;rw[<-h2];exact h3
  have hpl6:=(s5.trans s6) _ _ hpl;have npl:pl≠l:=zb (s5 _ _ hpl) nl;have hn0:H l=none:=Same.nn s5 nl;have oks:=z4 (v8 b1 b30) hw;have hel:es.length<=150:=by rw[<-hr'.1];exact plen
  exists yX ?_;exists⟨pl,rfl,⟨_,SqL.of hpl6⟩,z5 (K:=K) (a:=pl) (xs:=ps.map V.ref) (λi σ G=>E2 λv4 v5=>A3 (σ=[vI ((bs.length:Nat):Int),vR pl,vR l,vI ((ends (As.sb bs) (es.take i)).k:Nat),v4,v5]) (G l=some (.dK (nmK (ends (As.sb bs) (es.take i)).ns))) (∀b o,H6 b=some o->b≠l->G b=some o)) ⟨_,_,rfl,el,λb o e _=>e⟩ (λi σ G _ z'=>by obtain⟨_,_,_,_,z⟩:=z';exact SqL.of (z _ _ hpl6 npl)) ?_ ?_⟩
  .rintro i x σ G hi ⟨v4,v5,rfl,elG,fr⟩;rw[ao]at hi;obtain⟨p,hp',rfl⟩:=aB.mp hi;have hie:i<es.length:=by rw[<-hr'.1];exact(af.mp hp').1
   obtain⟨e,n,m,hx⟩:∃e n m,es[i]?=some (e,n,m):=⟨_,_,_,ag hie⟩
   have st:=hw i _ hx;have sG:Same H G:=λb o z=>fr _ _ ((s5.trans s6) _ _ z) (zb z hn0);have he:=(hr'.2 i p _ hp' hx).same sG;have oki:=oks i (bU hie);have klb:=oki.kl;have nk:=xf (ends (As.sb bs) (es.take i)) (e,n,m);rw[yn hx];have hsn:(ends (As.sb bs) (es.take i)).next (e,n,m)=⟨(ends (As.sb bs) (es.take i)).k+e.puts,zT (ends (As.sb bs) (es.take i)).ns e.names++List.range' (ends (As.sb bs) (es.take i)).k e.puts,((ends (As.sb bs) (es.take i)).next (e,n,m)).g⟩:=by show(⟨_,_,_⟩:As)=_;rw[Dd.puts_new];rfl
   rw[hsn];generalize ((ends (As.sb bs) (es.take i)).next (e,n,m)).g=gg at*
   generalize ends (As.sb bs) (es.take i)=s at*
   have pu:=puts_le e;have he:DdAt G p e:=he;exists yX ?_;exists y4 rfl he λa H2 s2 na ea=>?_;have el2:=s2 _ _ elG;have al:a≠l:=cH (zb elG na);exists⟨a,rfl,⟨_,SqL.of ea⟩,z5 (K:=K) (a:=a) (xs:=e.names.map V.int) (λj σ G2=>E1 λv5=>A3 (σ=[vI ((bs.length:Nat):Int),vR pl,vR l,vI (s.k:Nat),vR p,v5]) (G2 l=some (.dK (nmK (zT s.ns (e.names.take j))))) (SameX l H2 G2)) ⟨_,rfl,el2,λb o e _=>e⟩ (λj σ G2 _ z'=>by obtain⟨_,_,_,z⟩:=z';exact SqL.of (z _ _ ea al)) ?_ ?_⟩
   .rintro j y σ G2 hj ⟨w5,rfl,elj,sxj⟩;rw[ao]at hj;obtain⟨nm,hm',rfl⟩:=aB.mp hj;obtain⟨n',hn',rfl⟩:=st.nms.names_in nm (ay hm');have hn':n'∈s.ns:=hn';have hnd:e.names.Nodup:=st.nms.nodup;have hni:(n':Int)∉e.names.take j:=by
     intro hh;obtain⟨k,hk⟩:=ei hh;have hk1:=(af.mp hk).1;rw[aU]at hk1;rw[eQ (!2)]at hk;have:=(fH (i:=k) (!2) hnd).mp (hk.trans hm'.symm)
     lia
    exists⟨l,rfl,.inl ⟨_,.inl elj⟩,?_⟩;exists⟨_,.inl (n':Int),_,elj,rfl,vb (mem_ndrop.mpr ⟨hn',hni⟩),?_⟩;refine⟨_,rfl,?_,λb o e n=>by rw[zl n];exact sxj b o e n⟩;rw[zg,vn,bQ,hm',show((some (n':Int)).toList)=[(n':Int)] from rfl,wq]
   rintro σ H3 ⟨w5,rfl,el3,sx3⟩;rw[aa,aG]at el3;have fr3:∀b o,G b=some o->b≠l->H3 b=some o:=λb o z n=>sx3 _ _ (s2 _ _ z) n;have he3:DdAt H3 p e:=he.tk λb xs z=>fr3 _ _ z (zX z elG (λq=>nomatch q));have dl:=BZ (xB (ms:=e.names) oki.up) (λn h=>oki.lt n (mem_ndrop.mp h).1);exists En ?_;exists yc rfl he3 ?_;exists⟨(s.k:Int),(s.k:Int)+(e.puts:Nat),rfl,⟨by lia,by lia,by lia,by lia⟩,yV (lo:=(s.k:Int)) (n:=((s.k:Int)+(e.puts:Nat) - (s.k:Int)).toNat) (λj σ G2=>E1 λv5=>A3 (σ=[vI ((bs.length:Nat):Int),vR pl,vR l,vI (s.k:Nat),vR p,v5]) (G2 l=some (.dK (nmK (zT s.ns e.names++List.range' s.k j)))) (SameX l H3 G2)) ⟨_,rfl,by simpa using el3,λb o e _=>e⟩ ?_ ?_⟩
   .rintro j σ G2 hj ⟨w6,rfl,elj,sxj⟩;walk_at"r";rw[show(s.k:Int)+(j:Int)=((s.k+j:Nat):Int) by lia];refine⟨l,_,rfl,DPut.k (k:=.inl ((s.k+j:Nat):Int)) elj (by simp only[nmK,aa,ai,dS];exact aQ (show _<1000 by lia) (!3)),?_⟩;refine⟨_,rfl,?_,λb o e n=>by rw[zl n];exact sxj b o e n⟩;rw[zg,B0 _ (wx (λn hn=>?_))]
    .rw[List.range'_concat,<-bR];simp[nmK]
    .rcases aE.mp hn with hn|hn
     .have:=oki.lt n (mem_ndrop.mp hn).1
      lia
     .have:=dr.mp hn
      lia
   rintro σ H4 ⟨w6,rfl,el4,sx4⟩;rw[show((s.k:Int)+(e.puts:Nat) - (s.k:Int)).toNat=e.puts by lia]at el4;have he4:DdAt H4 p e:=he3.tk λb xs z=>sx4 _ _ z (zX z el3 (λq=>nomatch q));exists yc rfl he4 ?_;walk_at"r";exact⟨_,_,by rw[show(s.k:Int)+(e.puts:Nat)=((s.k+e.puts:Nat):Int) by lia],el4,λb o z n=>sx4 _ _ (fr3 _ _ (fr _ _ z n) n) n⟩
  rintro σ G ⟨v4,v5,rfl,elG,fr⟩;rw[aa,hr'.1,aG]at elG;have okN:=oks es.length (ak _);rw[aG]at okN;have nlN:=okN.nl;exists Jv (ns:=(ends (As.sb bs) es).ns.map λn:Nat=>(n:Int)) elG (by simp[nmK]) (by simp only[nmK,aa];lia) λr H7 nr s7 e7=>?_;exact q r H7 (λb o z=>s7 _ _ (fr _ _ ((s5.trans s6) _ _ z) (zb z hn0))) (by
   cases z:H r with
   |none=>rfl
   |some o=>rw[fr _ _ ((s5.trans s6) _ _ z) (zb z hn0)]at nr;cases nr) e7
theorem K36(F:Fun K "plus" "plus" S43 f fd)(B:Bl mg)(o2x:O2x P w K mg base):FnOk P w K mg base CX0 2 f fd ["one","other"] (P37 K):=by
 refine F.okA C39 λcdv A outer s H vs Q E hr h=>?_;obtain⟨p,p',x,y,rfl,h1,h2,⟨⟨b1,b2⟩,⟨b3,b4⟩⟩,q⟩:=h;refine⟨_,(za (ps_s 2 C39.nd (ze o2x hr rfl (pa2 (pit 0) (pit 1)))) (za (ps_s 3 C39.nd (zf zv (zf zj (pit 0) (zf zL (pit 1) (pv 2))) (zf zj (pit 1) (zf zL (pit 0) (pv 2))))) (za (ps_s 4 C39.nd (ze o2x hr rfl (pa2 (pv 3) (pv 2)))) (zc (zi (zo (pa2 (zf zL (pv 3) (pv 4)) (zf zj (zf zL (pit 0) (pv 2)) (zf zL (pit 1) (pv 4)))))))))),?_⟩;walk_at"s";have hs:(0:Int)<(Int.gcd x.den y.den:Nat):=ym (a:=(x.den:Int)) (den_pos y);have hl:(0:Int)<(Int.gcd (plT x.num x.den y.num y.den) (Int.gcd x.den y.den:Nat):Nat):=ym (!2);have ks:Bd 8000 ((Int.gcd x.den y.den:Nat):Int):=BN (xg y) b4;have kl:Bd 8000 ((Int.gcd (plT x.num x.den y.num y.den) (Int.gcd x.den y.den:Nat):Nat):Int):=BN (!2) ks;have hcs:∀z,CFp z ((Int.gcd x.den y.den:Nat):Int):=λz=>⟨hs,a9 ks.log ⋯⟩
 have hcl:∀z,CFp z ((Int.gcd (plT x.num x.den y.num y.den) (Int.gcd x.den y.den:Nat):Nat):Int):=λz=>⟨hl,a9 kl.log ⋯⟩
 unfold plT at hcl;have c1:=hcs y.den;have c2:=hcl y.den;walk_at"r";exact zt (!1) λr H' s e=>q r H' s (HS e)
theorem K37(F:Fun K "times" "times" S45 f fd)(B:Bl mg)(o2x:O2x P w K mg base):FnOk P w K mg base CX0 2 f fd ["one","other"] P38:=by
 refine F.okA C40 λcdv A outer s H vs Q E hr h=>?_;obtain⟨p,p',x,y,rfl,h1,h2,⟨⟨b1,b2⟩,⟨b3,b4⟩⟩,q⟩:=h;refine⟨_,(za (ps_s 2 C40.nd (ze o2x hr rfl (pa2 (pit 0) (pit 1)))) (za (ps_s 3 C40.nd (ze o2x hr rfl (pa2 (pit 1) (pit 0)))) (zc (zi (zo (pa2 (zf zj (zf zL (pit 0) (pv 2)) (zf zL (pit 1) (pv 3))) (zf zj (zf zL (pit 0) (pv 3)) (zf zL (pit 1) (pv 2))))))))),?_⟩;walk_at"s";have hs:(0:Int)<(Int.gcd x.num y.den:Nat):=ym (den_pos y);have hl:(0:Int)<(Int.gcd y.num x.den:Nat):=ym (den_pos x);have ks:Bd 8000 ((Int.gcd x.num y.den:Nat):Int):=BN (xg y) b4;have kl:Bd 8000 ((Int.gcd y.num x.den:Nat):Int):=BN (xg x) b2;have hcs:∀z,CFp z ((Int.gcd x.num y.den:Nat):Int):=λz=>⟨hs,a9 ks.log ⋯⟩
 have hcl:∀z,CFp z ((Int.gcd y.num x.den:Nat):Int):=λz=>⟨hl,a9 kl.log ⋯⟩
 have c1:=hcs y.den;have c2:=hcl y.den;walk_at"r";exact zt (!1) λr H' s e=>q r H' s (EY e)
theorem K38(F:Fun K "_law_sum" "_law_sum" S61 f fd)(B:Bl mg)(o55x:O55x P w K mg base):FnOk P w K mg base CX0 2 f fd ["_law_one","_law_more"] P39:=by refine F.okA C41 λcdv A outer s H vs Q E hr h=>?_;obtain@⟨p,p',s,t,rfl,h1,h2,o1,o2,q⟩:=h;refine⟨_,(za (ps_s 2 C41.nd (zf zv (zf zj (pit 0) (pit 1)) (zf zj (pit 1) (pit 0)))) (za (ps_s 3 C41.nd (zf zv (zf zj (pit 0) (pit 1)) (zf zj (pit 1) (pit 0)))) (zc (zi (ze o55x hr rfl (pa3 (pv 2) (pv 3) (zf zj (pit 0) (pit 1)))))))),?_⟩;walk_at"s";have h1':H p=some (.tup [.int s.x,.int s.y,.int s.z]):=h1;have h2':H p'=some (.tup [.int t.x,.int t.y,.int t.z]):=h2;have b1:=o1.bx;have b2:=o1.by';have b3:=o1.bz;have z1:=o1.z1;have z2:=o2.z1;have c1:=o2.bx;have c2:=o2.by';have c3:=o2.bz;exists y8 rfl (aM (!2) (!2)) (Bd.mono (b3.mul c3) ⋯) λr H' s' e=>q r H' s' ?_;exact e
theorem K39(F:Fun K "_law_side" "_law_side" S63 f fd)(B:Bl mg)(o55x:O55x P w K mg base)(o56x:Own P w K mg base 1 "_law_is_above" ["_law_d","_law_one"] [] P20)(o54x:Own P w K mg base 1 "_law_digit" ["_law_cell","_law_k"] [] P18):FnOk P w K mg base CX0 2 f fd ["_law_d","_law_cell","_law_at"] P40:=by
 refine F.okA C42 λcdv A outer s H vs Q E hr h=>?_;obtain@⟨d,c,k,rfl,hR,hc,hk,q⟩:=h;refine⟨_,(za (ps_s 3 C42.nd (pe_i zQ (zP (pa3 zd zd (zf Ep zd zd))) (zf yz (ze o54x hr rfl (pa2 (pv 1) (pv 2))) zd))) (za (ps_s 4 C42.nd (zf yH (zf yz (ze o54x hr rfl (pa2 (pv 1) (zf zv (pv 2) zd))) (zf zv (zf zj zd (pv 3)) zd)) (pv 3))) (za (ps_s 5 C42.nd (zf yH (zf yz (ze o54x hr rfl (pa2 (pv 1) (zf zv (pv 2) zd))) (zf zv (zf zj zd (pv 3)) zd)) (pv 3))) (za (ps_s 6 C42.nd (zf zv zd (zf yz (ze o54x hr rfl (pa2 (pv 1) (zf zv (pv 2) zd))) (pe_i zQ (zP (zu zd (zu zd (zu zd (zu zd yq))))) (zf yz (ze o54x hr rfl (pa2 (pv 1) (zf zv (pv 2) zd))) zd))))) (za (BU (zy (zk ye (zf yz (ze o54x hr rfl (pa2 (pv 1) (zf zv (pv 2) zd))) zd) zd (zm _)) (zc (ps_s 5 C42.nd zd)) zn)) (za (BU (zy (PW.pt (xF (zk ye (pv 4) zd (zm _)) (y9 (zk ye (pv 5) zd (zm _))))) (zc (ps_s 4 C42.nd zd)) zn)) (za (BU (zy (yJ (yp (ze o56x hr rfl (pa2 (pv 0) (zo (pa3 (pv 4) (pv 5) (pv 6))))))) (za (ps_s 4 C42.nd (zf yH zd (pv 4))) (zc (ps_s 5 C42.nd (zf yH zd (pv 5))))) zn)) (zc (zi (ze o55x hr rfl (pa3 (pv 4) (pv 5) (pv 6)))))))))))),?_⟩;walk_at"s";have e6:(10:Int) ^ (6:Int).toNat=1000000:=by decide+kernel
 have dlo:=hR.lo;have hd:Bd 64 d:=zE (B:=99) (!2) hR.hi (!3);walk_at"r";rw[e6];refine zB (!1) λL0 H1 nL s1 e1=>?_;exists yi rfl hc (!2) λr0 r00 r01=>?_;walk_at"r";obtain⟨M,hM,m4,m6⟩:∃M:Int,atI [V.int 4,V.int 30,V.int 1000000] (r0 % 3)=some (.int M)/\4<=M/\M<=1000000:=by
  have h3:r0 % 3=0\/r0 % 3=1\/r0 % 3=2:=by lia
  rcases h3 with h|h|h<;>rw[h]
  .exact⟨4,rfl,by decide,by decide⟩
  .exact⟨30,rfl,by decide,by decide⟩
  .exact⟨1000000,rfl,by decide,by decide⟩
 refine xb e1 hM ?_;have bM:Bd 20 M:=zE (B:=1000000) (!2) m6 ⋯;walk_at"r";rw[show(k:Int)+1=((k+1:Nat):Int) by lia];refine yi rfl hc (!2) λr1 r10 r11=>?_;walk_at"r";rw[show(k:Int)+2=((k+2:Nat):Int) by lia];refine yi rfl hc (!2) λr2 r20 r21=>?_;walk_at"r";rw[show(k:Int)+3=((k+3:Nat):Int) by lia];refine yi rfl hc (!2) λr3 r30 r31=>?_;exists zB (!1) λL1 H2 nL1 s2 e2=>?_;walk_at"r";rw[show(k:Int)+4=((k+4:Nat):Int) by lia];refine yi rfl hc (!2) λr4 r40 r41=>?_;walk_at"r";obtain⟨N,hN,n2,n7⟩:∃N:Int,atI [V.int 2,V.int 6,V.int 12,V.int 720] (r4 % 4)=some (.int N)/\2<=N/\N<=720:=by
  have h3:r4 % 4=0\/r4 % 4=1\/r4 % 4=2\/r4 % 4=3:=by lia
  rcases h3 with h|h|h|h<;>rw[h]
  .exact⟨2,rfl,by decide,by decide⟩
  .exact⟨6,rfl,by decide,by decide⟩
  .exact⟨12,rfl,by decide,by decide⟩
  .exact⟨720,rfl,by decide,by decide⟩
 refine xb e2 hN ?_;have in1:∀r:Int,Bd 21 (r % (2*M+1) - M):=λr=>by
  have h1:=cX r (show 2*M+1≠0 by lia);have h2:=dC r (show 0<2*M+1 by lia);generalize r % (2*M+1)=z at*
  unfold Bd
  lia
 have n1:=cX r3 (show N≠0 by lia);have n3:=dC r3 (show 0<N by lia);walk_at"r";have ba:=in1 r1;have bb:=in1 r2;generalize r1 % (2*M+1) - M=a0 at*
 generalize r2 % (2*M+1) - M=b0 at*
 obtain⟨n,hn⟩:∃n:Int,1+r3 % N=n:=⟨_,rfl⟩
 rw[hn];have hn1:1<=n:=by lia
 have hn7:n<=720:=by lia
 clear hn n1 n3 in1;refine FJ (T:=λσ' H'=>E1 λ(b:Int)=>A3 (σ'=[vI d,vI c,vI (k:Int),vI M,vI a0,vI b,vI n]) (H'=H2) (Bd 21 b)) ?_ ?_
 .walk_at"r";rw[show(k:Int)+5=((k+5:Nat):Int) by lia];refine yi rfl hc (!2) λr5 r50 r51=>?_;exists if_d (λ_=>?_) (λ_=>?_)
  .walk_at"r";exact⟨0,rfl,rfl,by decide⟩
  .walk_at"r";exact⟨b0,rfl,rfl,bb⟩
 rintro σ' H' ⟨b,rfl,rfl,bb⟩;exists FJ (T:=λσ' H''=>E1 λ(a:Int)=>A4 (σ'=[vI d,vI c,vI (k:Int),vI M,vI a,vI b,vI n]) (H''=H') (Bd 21 a) (¬ (a=0/\b=0))) ?_ ?_
 .exists KS (q:=b=0) (λc0=>?_) (λc1 hB=>?_)
  .walk_at"r";exact⟨a0,rfl,rfl,ba,c0⟩
  .exists if_d (λc2=>?_) (λc2=>hB (λz=>c2 z.2));walk_at"r";exact⟨1,rfl,rfl,by decide,λz=>absurd z.1 ⋯⟩
 rintro σ' H'' ⟨a,rfl,rfl,ba,n0⟩;exists FJ (T:=λσ' Hz=>E2 λ(a b:Int)=>A5 (σ'=[vI d,vI c,vI (k:Int),vI M,vI a,vI b,vI n]) (Same H'' Hz) (Bd 21 a) (Bd 21 b) (sgn d a b=1)) ?_ ?_
 .exists zC (!1) λt H3 nt s3 e3=>?_;refine vB rfl (s:=⟨a,b,n⟩) e3 hd (ba.mono ⋯) (bb.mono ⋯) ?_;exists AS (λcn=>?_) (λcp=>?_)
  .walk_at"r";have ba:=ba;refine⟨_,_,rfl,s3,?_,?_,?_⟩
   .rw[iH];exact ba.neg
   .rw[iH];exact bb.neg
   .rw[iH,iH,xT hR];rcases sgn_tri hR a b with h|h|h
    .exact absurd (by show 0<sgn d a b;lia) cn
    .rw[h];decide
    .exact absurd h n0
  .exists⟨a,b,rfl,s3,ba,bb,?_⟩;have cp:0<sgn d a b:=cp;rcases sgn_tri hR a b with h|h|h
   .exact h
   .lia
   .exact absurd h n0
 rintro σ' H3 ⟨a',b',rfl,s3,ba,bb,up⟩;exists y8 rfl hn1 (zE (k:=8000) (B:=720) (!2) hn7 (aQ (show(720:Int).natAbs<2 ^ 20 by decide) (Nat.pow_le_pow_right ⋯ ⋯))) λr H4 s4 e4=>?_;exact q r H4 ⟨lA a' b' n,lB a' b' n,lN a' b' n⟩ (((s1.trans s2).trans s3).trans s4) e4 (Dw.low hR ba bb hn1 hn7 up)
theorem K40(F:Fun K "_law_with_over" "_law_with_over" S66 f fd)(B:Bl mg)(o61x:Own P w K mg base 1 "_law_shares" ["_law_heap_here"] [] (P22 K)):FnOk P w K mg base CX0 2 f fd ["_law_heap_here"] P41:=by
 refine F.okA C43 λcdv A outer s H vs Q E hr h=>?_;obtain@⟨d,D,a,L,rfl,ha,hA,ob,hD,ln,q⟩:=h;refine⟨_,(za (B7 (ze o61x hr rfl (pa1 (pv 0))) (Ky (n:=4) rfl (zA (pg_n 1 C43.nd) (zA (pg_n 2 C43.nd) (zA (pg_n 3 C43.nd) (zA (pg_n 4 C43.nd) yP)))))) (za (ps_s 5 C43.nd (zo (pa2 (zf zv (zf zj (pit 2) (pit 3)) (zf zj (pit 3) (pit 2))) (zf zj (pit 2) (pit 3))))) (zc (zi (WE.w (Ev (zV (tY (zV (wT (zf zj zd (pit 1))) (zV (wT (pit 1)) wK))) (zV (wT (pv 5)) (zV (wT (pv 5)) (zV (tY (zV (wT (zf zj zd (pit 4))) (zV (wT (pit 4)) wK))) wK)))))))))),?_⟩;walk_at"s";exists uJ rfl ha hA ob ⟨hD.1,hD.2,by decide,by decide⟩ ⟨by decide,by decide⟩ ln λp H1 s1 n1 hS4=>?_;generalize tbs (L.map Cell.b)=t at*
 obtain⟨fs,fl,fe,ff⟩:=hS4;obtain⟨f0,f1,f2,f3,rfl⟩:∃f0 f1 f2 f3,fs=[f0,f1,f2,f3]:=by
  match fs,fl with
  |[a,b,c,d],_=>exact⟨a,b,c,d,rfl⟩
 obtain⟨x0,y0,e0,h0⟩:=ff 0 f0 rfl;obtain⟨x1,y1,e1,h1⟩:=ff 1 f1 rfl;obtain⟨x2,y2,e2,h2⟩:=ff 2 f2 rfl;obtain⟨x3,y3,e3,h3⟩:=ff 3 f3 rfl;have fe:H1 p=some (.lst [.ref f0,.ref f1,.ref f2,.ref f3]):=fe;have u0:=h0.bt;have u1:=h1.bt;have u2:=h2.bt;have u3:=h3.bt;have v0:=h0.bb;have v1:=h1.bb;have v2:=h2.bb;have v3:=h3.bb;have m1:Bd 20000 (x1*y2):=u1.mul v2;have m2:Bd 20000 (x2*y1):=u2.mul v1;have m3:Bd 20000 (y1*y2):=v1.mul v2;refine Iu fe rfl ?_;exists zt (!1) λfa H2 s2 ea=>?_;have e02:=s2 _ _ e0;have e32:=s2 _ _ e3;exists zt (!1) λg0 H3 s3 eg0=>?_;have e33:=s3 _ _ e32;exists zt (!1) λg3' H4 s4 eg3=>?_;exists Ku (!1) λr H5 s5 er=>?_;walk_at"r";have y1':=h1.b1;have y2':=h2.b1;have z0:=Qd.z_ne' (show 0<y0 by have:=h0.b1;lia);have z1:=Qd.z_ne' (show 0<y1 by lia);have z2:=Qd.z_ne' (show 0<y2 by lia);have z3:=Qd.z_ne' (show 0<y3 by have:=h3.b1;lia);have ha':t.a=Rat.divInt x0 y0:=h0.e;have hb':t.b=Rat.divInt x1 y1:=h1.e;have hc':t.c=Rat.divInt x2 y2:=h2.e;have he':t.e=Rat.divInt x3 y3:=h3.e;have am:t.b+t.c=Rat.divInt (x1*y2+x2*y1) (y1*y2):=by rw[hb',hc'];simp only[bC];grind
 have ba:Bd 20010 (x1*y2+x2*y1):=(m1.add m2).mono ⋯;have mid:Shr 20010 (x1*y2+x2*y1) (y1*y2) (t.b+t.c):=⟨aM (!2) (!2),ba,m3.mono ⋯,am⟩
 refine q r H5 ((((s1.trans s2).trans s3).trans s4).trans s5) ⟨[g0,fa,fa,g3'],rfl,er,λi p hp=>?_⟩
 match i,hp with
 |0,hp =>
  cases hp
  exact⟨_,_,(s4.trans s5) _ _ eg0,h0.b1,((zr 2).mul u0).mono ⋯,v0.mono ⋯,show t.a+t.a=_ by rw[ha'];simp only[bC];grind⟩
 |1,hp =>
  cases hp
  exact⟨_,_,((s3.trans s4).trans s5) _ _ ea,mid⟩
 |2,hp =>
  cases hp
  exact⟨_,_,((s3.trans s4).trans s5) _ _ ea,by show Shr 20010 _ _ (t.c+t.b);rw[gL];exact mid⟩
 |3,hp =>
  cases hp
  exact⟨_,_,s5 _ _ eg3,h3.b1,((zr 2).mul u3).mono ⋯,v3.mono ⋯,show t.e+t.e=_ by rw[he'];simp only[bC];grind⟩
theorem K41(F:Fun K "check_names" "Yard.check_names" S72 f fd)(B:Bl mg)(X:Xs K mg cs)(o0x:O0x P w K mg base):FnOk P w K mg base CX0 2 f fd ["self","names"] (P42 cs):=by
 refine F.okA C44 λcdv A outer s H vs Q E hr h=>?_;obtain@⟨y,d,tn,cl,ns,lg,a,ms,rfl,hy,ha,hm,hn,hl,q⟩:=h;refine⟨_,(za (zU PassesOwn.never rfl (zG (pv 1)) (pg_n 2 C44.nd) (zc (zy (PW.pt (t9 (yJ (yp (ze o0x hr rfl (pa1 (pv 2))))) (uk (II (CK (uV hr) (pv 2) (yd (K:=K) rfl (pv 0) rfl)))))) (zc yA) zn))) (zc (zy (PW.pt (xF (zk ye (zp zx rfl B.len bS (pa1 (pv 1))) zd (zm _)) (y9 (zk ye (pil 1) (pil 1) (zm _))))) (zc yA) zn))),?_⟩;walk_at"s";refine KD ?_;refine yX ?_;exists⟨a,rfl,⟨_,SqL.of ha⟩,z5 (K:=K) (a:=a) (xs:=ms.map V.int) (λi σ H'=>∃v,σ=[vR y.p,vR a,v]/\H'=H) ⟨none,rfl,rfl⟩ (λi σ H' _ z'=>by obtain⟨_,_,e⟩:=z';exact by rw[e];exact SqL.of ha) ?_ ?_⟩
 .rintro i x σ H' hi ⟨v,rfl,rfl⟩;obtain⟨m,hm',rfl⟩:=bV.mp (ay hi);obtain⟨n,hn',rfl⟩:=hm m hm';exists⟨_,_,_,_,_,rfl,hy.o,X.c_Yard,X.n_Yard_lying,rfl,?_⟩;refine⟨y.l,_,rfl,DGet.k (k:=.inl (n:Int)) hy.l,?_⟩;rw[vb hn',show(!(some (V.bl true)).isSome)=false from rfl];walk_at"r";exact⟨_,rfl,rfl⟩
 .rintro σ H' ⟨v,rfl,rfl⟩;walk_at"r";rcases ms with _|⟨m1,_|⟨m2,_|⟨m3,ms⟩⟩⟩
  .refine if_d (λc=>absurd c (!1)) (λ_=>?_);walk_at"r";exact q
  .refine if_d (λc=>absurd c (!1)) (λ_=>?_);walk_at"r";exact q
  .have ha:H' a=some (.lst [.int m1,.int m2]):=ha;refine if_d (λ_=>?_) (λc=>absurd (!1) c);walk_at"r";have ne:m1≠m2:=by simpa using hn
   refine if_d (λc=>absurd c ne) (λ_=>?_);walk_at"r";exact q
  .simp at hl
theorem K42(F:Fun K "parts" "parts" S7 f fd)(B:Bl mg)(o5x:Own P w K mg base 2 "fraction" ["top","bottom"] [] P29):FnOk P w K mg base CX0 3 f fd ["one"] P43:=by refine F.okA C45 λcdv A outer s H vs Q E hr h=>?_;obtain@⟨p,a,b,n,rfl,h1,hn,hb,q⟩:=h;refine⟨_,(zc (zi (zo (pa2 (ze o5x hr rfl (pa2 (pit 0) (pit 0))) (ze o5x hr rfl (pa2 (pit 0) (pit 0))))))),?_⟩;walk_at"s";exists uv rfl hn hb λr1 H1 s1 e1=>?_;have h1':=s1 _ _ h1;exists uv rfl hn hb λr2 H2 s2 e2=>?_;walk_at"r";exact zt (!1) λr H' s e=>q r r1 r2 H' ((s1.trans s2).trans s) e (s _ _ (s2 _ _ e1)) (s _ _ e2)
theorem K43(F:Fun K "taken" "taken" S11 f fd)(B:Bl mg)(o7x:O7x P w K mg base):FnOk P w K mg base CX0 3 f fd ["one","other"] P44:=by refine F.okA C46 λcdv A outer s H vs Q E hr h=>?_;obtain⟨p,p',x,y,z,x',y',z',rfl,h1,h2,n1,n2,k1,k2,⟨b1,b2,b3,b4,b5,b6⟩,q⟩:=h;refine⟨_,(zc (zi (ze o7x hr rfl (pa2 (pv 0) (zo (pa3 (wS xh (pit 1)) (wS xh (pit 1)) (pit 1))))))),?_⟩;walk_at"s";exists zt (!1) λt H2 s2 e2=>?_;walk_at"r";exact Eo (K:=K) (SqT.of (s2 _ _ h1)) e2 n1 n2 k1 (by rw[JC];exact k2) b1 b2 b3 b4.neg b5.neg b6 λr H' s' e'=>q r H' (s2.trans s') e'
theorem K44(F:Fun K "timed" "timed" S12 f fd)(B:Bl mg)(o4x:O4x P w K mg base):FnOk P w K mg base CX0 3 f fd ["d","one","other"] (P45 K):=by refine F.okA C47 λcdv A outer s H vs Q E hr h=>?_;obtain⟨d,p,p',x,y,z,x',y',z',rfl,h1,h2,hd,⟨b1,b2,b3,b4,b5,b6⟩,n1,n2,q⟩:=h;refine⟨_,(zc (zi (ze o4x hr rfl (pa3 (zf zv (zf zj (pit 1) (pit 2)) (zf zj (zf zj (pv 0) (pit 1)) (pit 2))) (zf zv (zf zj (pit 1) (pit 2)) (zf zj (pit 1) (pit 2))) (zf zj (pit 1) (pit 2)))))),?_⟩;walk_at"s";walk_at"r";exact yB rfl (aI n1 n2) (Bd.mono (b3.mul b6) ⋯) q (KQ hd b1 b2 b4 b5 ⋯) (Lj b1 b2 b4 b5 ⋯)
theorem K45(F:Fun K "first_base" "first_base" S17 f fd)(B:Bl mg)(o4x:O4x P w K mg base):FnOk P w K mg base CX0 3 f fd ["d","n"] P46:=by refine F.okA C48 λcdv A outer s H vs Q E hr h=>?_;obtain@⟨d,N,rfl,hN,hb,q⟩:=h;refine⟨_,(zc (zi (zo (pa2 (ze o4x hr rfl (pa3 zd zd (pv 1))) (ze o4x hr rfl (pa3 zd zd (pv 1))))))),?_⟩;walk_at"s";exists yB rfl (!2) (hb.mono ⋯) λr1 H1 s1 e1=>?_;exists yB rfl (!2) (hb.mono ⋯) λr2 H2 s2 e2=>?_;walk_at"r";exact zt (!1) λp H' s e=>q p r1 r2 H' ((s1.trans s2).trans s) ⟨e,s _ _ (s2 _ _ e1),s _ _ e2⟩
theorem K46(F:Fun K "is_length" "is_length" S27 f fd)(B:Bl mg)(o4x:O4x P w K mg base)(o0x:O0x P w K mg base):FnOk P w K mg base CX0 3 f fd ["thing"] P47:=by
 refine F.okA C49 λcdv A outer s H vs Q E hr h=>?_;obtain@⟨p,s,rfl,h1,ok,q⟩:=h;refine⟨_,(za (zy (PW.pt (t9 (yJ (yp (zp zY rfl B.isinstance zK (pa2 (pv 0) (xi (v:=.ty "tuple") rfl B.tuple wX rfl))))) (uk (zk A2 (zp zx rfl B.len bS (pa1 (pv 0))) zd (zm _))))) (zc (zi wm)) zn) (za (zy (PW.pt (t9 (yJ (yp (zp (Ej rfl) rfl B.all IK (pa1 (zR ["number"] [] rfl (GQ (pv 0)) (λ_ _ _ _ _=>(pg_n 0 (show List.Nodup (α:=Str) ["number"] by decide+kernel))) (λ_ _ _ _ _=>zD) (λ_ _ _ _ _=>(ze o0x hr rfl (pa1 (pv 0))))))))) (uk (zk vZ (pit 0) zd (zm _))))) (zc (zi wm)) zn) (zc (zi (yo (GM hr.units) (ze o4x hr rfl (pa3 (pit 0) (pit 0) (pit 0))) (pv 0) (zm _)))))),?_⟩;walk_at"s";have z1:=ok.z1;exists Ct (by rfl) ?_;exists EJ ?_;exists⟨p,rfl,⟨_,SqT.of h1⟩,λD hD=>BY (ys:=[V.int s.x,V.int s.y,V.int s.z]) (λi ys σ' H'=>(∃v,σ'=[v])/\ys=([V.int s.x,V.int s.y,V.int s.z].take i).map (λ_=>V.bl true)/\H' D=some (.lst ys)/\SameX D H H') ⟨⟨none,rfl⟩,rfl,zg,λb o e n=>by rw[zl n];exact e⟩ (λi ys σ' H' _ p=>SqT.of (p.2.2.2 _ _ h1 (zb h1 hD))) ?_ ?_⟩
 .rintro i x ys σ' H' hi ⟨⟨v,rfl⟩,rfl,eD,sx⟩;obtain⟨n,rfl⟩:∃n:Int,x=.int n:=by
   have:=ay hi;simp only[aW,List.not_mem_nil,or_false]at this;rcases this with rfl|rfl|rfl<;>exact⟨_,rfl⟩
  have hi3:=(af.mp hi).1;exists zq eD (by rw[aa,aU];simp only[au,aV]at hi3 ⊢;lia) λH3 sx3 e3=>?_;refine yx hi3 ⟨⟨_,rfl⟩,rfl,?_,sx.trans sx3⟩;rw[bQ,hi,aj];exact e3
 .rintro ys σ' H' ⟨_,rfl,eD,sx⟩;have s':Same H H':=λb o e=>sx b o e (zb e hD);have h1':=s' _ _ h1;have eD':H' D=some (.lst ([true,true,true].map V.bl)):=eD;exists IE (SqL.of eD') ?_;rw[show([true,true,true]:List Bool).all id=true from rfl];exists if_d (λc=>absurd c (!2)) (λ_=>?_);exists yB rfl ok.ne (ok.bz.mono ⋯) (λr H2 s2 e2=>?_) (ok.bx.mono ⋯) (ok.by'.mono ⋯);exists Lv e2 (s2 _ _ h1') ?_;exact bl_q (jg (Fv ok.z1 ok.g)) (q H2 (s'.trans s2))
theorem K47(F:Fun K "glued_beside" "glued_beside" S33 f fd)(B:Bl mg)(o7x:O7x P w K mg base):FnOk P w K mg base CX0 3 f fd ["one","other"] P48:=by refine F.okA C50 λcdv A outer s H vs Q E hr h=>?_;obtain@⟨c,c',rfl,hc,hc',eh,okw,oks,q⟩:=h;refine⟨_,(za (zy (zk (GR hr.units) (pit 0) (pit 1) (zm _)) (zc yA) zn) (zc (zi (zo (pa2 (ze o7x hr rfl (pa2 (pit 0) (pit 1))) (pit 0)))))),?_⟩;walk_at"s";have ct:=hc.t;have ct':=hc'.t;have cw:H c.pw=some (.tup [.int c.b.w.x,.int c.b.w.y,.int c.b.w.z]):=hc.w;have cw':H c'.pw=some (.tup [.int c'.b.w.x,.int c'.b.w.y,.int c'.b.w.z]):=hc'.w;have ch:H c.ph=some (.tup [.int c.b.h.x,.int c.b.h.y,.int c.b.h.z]):=hc.h;have ch':H c'.ph=some (.tup [.int c'.b.h.x,.int c'.b.h.y,.int c'.b.h.z]):=hc'.h;exists Le ch ch' ?_;rw[eh];exists AS (λc=>absurd ⟨rfl,rfl,rfl⟩ c) (λ_=>?_);exists Eo (K:=K) (SqT.of cw) cw' okw.z1 oks.z1 okw.g oks.g (okw.bx.mono ⋯) (okw.by'.mono ⋯) (okw.bz.mono ⋯) (oks.bx.mono ⋯) (oks.by'.mono ⋯) (oks.bz.mono ⋯) λr2 H2 s2 e2=>?_;have ct2:=s2 _ _ ct;exists zC (!1) λr3 H3 hr3 s3 e3=>?_;exact q ⟨r3,r2,c.ph,⟨adS c.b.w c'.b.w,c.b.h⟩⟩ H3 (s2.trans s3) (Same.nn s2 hr3) ⟨e3,s3 _ _ e2,s3 _ _ (s2 _ _ hc.h)⟩ rfl
theorem K48(F:Fun K "stacked" "stacked" S34 f fd)(B:Bl mg)(o4x:O4x P w K mg base):FnOk P w K mg base CX0 3 f fd ["one","many"] P49:=by
 refine F.okA C51 λcdv A outer s H vs Q E hr h=>?_;obtain@⟨c,k,rfl,hc,k1,bk,okw,okh,q⟩:=h;refine⟨_,(za (ps_s 2 C51.nd (pit 0)) (za (ps_s 3 C51.nd (pit 0)) (zc (zi (zo (pa2 (ze o4x hr rfl (pa3 (pit 2) (pit 2) (zf zj (pit 2) (pv 1)))) (ze o4x hr rfl (pa3 (zf zj (pit 3) (pv 1)) (zf zj (pit 3) (pv 1)) (pit 3))))))))),?_⟩;walk_at"s";have ct:=hc.t;have cw:H c.pw=some (.tup [.int c.b.w.x,.int c.b.w.y,.int c.b.w.z]):=hc.w;have ch:H c.ph=some (.tup [.int c.b.h.x,.int c.b.h.y,.int c.b.h.z]):=hc.h;have m1:IntMulOk c.b.w.z k:=Bd.ok okw.bz bk (!3);have m2:IntMulOk c.b.h.x k:=Bd.ok okh.bx bk (!3);have m3:IntMulOk c.b.h.y k:=Bd.ok okh.by' bk (!3);have bz:Bd 4600 (c.b.w.z*k):=okw.bz.mul bk;have bx:Bd 7400 (c.b.h.x*k):=okh.bx.mul bk;have by2:Bd 7400 (c.b.h.y*k):=okh.by'.mul bk;exists yB rfl (aI okw.ne (!2)) (bz.mono ⋯) (λr1 H1 s1 e1=>?_) (okw.bx.mono ⋯) (okw.by'.mono ⋯);have ch1:=s1 _ _ ch;exists yB rfl okh.ne (okh.bz.mono ⋯) (λr2 H2 s2 e2=>?_) (bx.mono ⋯) (by2.mono ⋯);exists zC (!1) λr3 H3 hr3 s3 e3=>?_;refine q ⟨r3,r1,r2,⟨shS c.b.w 1 k,shS c.b.h k 1⟩⟩ H3 ((s1.trans s2).trans s3) (Same.nn (s1.trans s2) hr3) ⟨e3,?_,?_⟩ rfl
 .have:=s3 _ _ (s2 _ _ e1);simpa only[SdAt,shS,dg] using this
 .have:=s3 _ _ e2;simpa only[SdAt,shS,dg] using this
theorem K49(F:Fun K "followed" "followed" S42 f fd)(B:Bl mg)(o36x:Own P w K mg base 2 "names_behind" ["many","plan"] [] P36)(o37x:Own P w K mg base 1 "with_names" ["deed","names"] [] P13)(o26x:O26x P w K mg base):FnOk P w K mg base CX0 3 f fd ["many","plan","more"] P50:=by
 refine F.okA C52 λcdv A outer s H vs Q E hr h=>?_;obtain@⟨pl,ml,ps,ms,bs,F,es,fs,d,tn,rfl,b1,b30,hpl,plen,hr',hw,hml,mlen,hm,eF,hwF,q⟩:=h;refine⟨_,(za (ps_s 3 C52.nd (ze o36x hr rfl (pa2 (pv 0) (pv 1)))) (za (ps_s 4 C52.nd (zf zv (pv 0) (zp (Au rfl) rfl B.sum GL (pa1 (zR ["deed"] [] rfl (zG (pv 1)) (λ_ _ _ _ _=>(pg_n 0 (show List.Nodup (α:=Str) ["deed"] by decide+kernel))) (λ_ _ _ _ _=>zD) (λ_ _ _ _ _=>(ze o26x hr rfl (pa1 (pv 0))))))))) (za (ps_s 5 C52.nd (yR Ar rfl B.list AU (pa1 (pv 1)))) (za (zU PassesOwn.never rfl (zG (pv 2)) (pg_n 6 C52.nd) (za (zZ (wC bJ bF bH zJ (pv 5) (pa1 (ze o37x hr rfl (pa2 (pv 6) (pv 3)))))) (za (zU PassesOwn.never rfl (wf rfl B.range (pa2 (pv 4) (zf zv (pv 4) (ze o26x hr rfl (pa1 (pv 6)))))) (pg_n 7 C52.nd) (zc (zZ (wC bJ bF bH zJ (pv 3) (pa1 (pv 7)))))) (zc (ps_s 4 C52.nd (zf zv (pv 4) (ze o26x hr rfl (pa1 (pv 6))))))))) (zc (zi (pv 5))))))),?_⟩;walk_at"s";have okN:=z4 (v8 b1 b30) hw es.length (ak _);rw[aG]at okN;have klN:=okN.kl;have hel:es.length<=150:=by rw[<-hr'.1];exact plen
 have hfl:fs.length<=150:=by rw[<-hm.1];exact mlen
 have l0:=led0 okN.up okN.lt eF;have F1:1<=F.length:=by rw[<-eF,aa];exact cB.mpr okN.ne
 have okF:=z4 (v8 F1 (ak _)) hwF;have lF:F.length<=180:=by
  rw[<-eF,aa];have:=okN.nl
  lia
 exists v9 rfl b1 b30 hpl plen hr' hw λa H1 s1 na ea=>?_;have e0:((ends (As.sb bs) es).ns.map λn:Nat=>(n:Int)).map V.int=nmI (nmr (ends (As.sb bs) es)) F.length:=by unfold nmI;congr 1;rw[l0.ns,List.map_map];rfl
 rw[e0]at ea;have hpl1:=s1 _ _ hpl;exists yL ?_;exists⟨pl,rfl,⟨_,SqL.of hpl1⟩,λO hO=>ya (K:=K) (a:=pl) (ys:=ps.map V.ref) (λi xs σ' H'=>E1 λ(v:Option V)=>A4 (σ'=[v]) (xs=((es.take i).map λx=>((x.1.puts:Nat):Int)).map V.int) (H' O=some (.lst xs)) (SameX O H1 H')) ⟨none,rfl,rfl,zg,λb o e n=>by rw[zl n];exact e⟩ (λi xs σ' H' _ z=>by obtain⟨v,_,_,_,z⟩:=z;exact SqL.of (z _ _ hpl1 (zb hpl1 hO))) ?_ ?_⟩
 .rintro i x xs σ' H' hi ⟨v,rfl,rfl,eO,sx⟩;have hi':=(af.mp hi).1;rw[ao]at hi;obtain⟨p,hp',rfl⟩:=aB.mp hi;have hie:i<es.length:=by rw[<-hr'.1];exact(af.mp hp').1
  have hx:=ag hie;have he:=((hr'.2 i p _ hp' hx).same s1).same (λb o e=>sx b o e (zb e hO));exists yc rfl he ?_;exists zq eO (by simp only[aa,aU];lia) λH5 x5 e5=>?_;refine yx hi' ⟨_,rfl,rfl,?_,sx.trans x5⟩;rw[bQ,hx,aj,aj];exact e5
 rintro xs σ' H2 ⟨v,rfl,rfl,eO2,sx2⟩;have s2:Same H1 H2:=λb o e=>sx2 b o e (zb e hO);rw[aa,hr'.1,aG]at eO2;exists Js (SqL.of eO2) ?_;have hsum:((bs.length:Nat):Int)+(es.map λx=>((x.1.puts:Nat):Int)).sum=((ends (As.sb bs) es).k:Nat):=by
  rw[BD,xl];show _=((bs.length+_:Nat):Int)
  lia
 walk_at"r";rw[hsum];have s12:=s1.trans s2;refine DG (s12 _ _ hpl) λD H3 nD s3 eD=>?_;have ea3:=s3 _ _ (s2 _ _ ea);have aD:a≠D:=zb (s2 _ _ ea) nD;have hml3:=(s12.trans s3) _ _ hml;have mlD:ml≠D:=zb (s12 _ _ hml) nD;have mla:ml≠a:=zb hml na;have hD0:H D=none:=Same.nn s12 nD;exists yX ?_;exists⟨ml,rfl,⟨_,SqL.of hml3⟩,z5 (K:=K) (a:=ml) (xs:=ms.map V.ref) (λi σ H'=>E3 λ(v6 v7:Option V)(qs:List Addr)=>A4 (σ=[vI ((bs.length:Nat):Int),vR pl,vR ml,vR a,vI (((ends (As.sb bs) es).k+((ends (As.sb F) (fs.take i)).k - F.length):Nat):Int),vR D,v6,v7]) ((H' D=some (.lst ((ps++qs).map V.ref))/\Runs H' (ps++qs) (es++(fs.take i).map (rnx (nmr (ends (As.sb bs) es))))/\qs.length=i)) (H' a=some (.lst (nmI (nmr (ends (As.sb bs) es)) (ends (As.sb F) (fs.take i)).k))) (∀b o,H3 b=some o->b≠D->b≠a->H' b=some o)) ⟨none,none,[],?_,⟨by rw[dU];exact eD,by rw[dU];show Runs H3 ps (es++[]);rw[dU];exact hr'.same (s12.trans s3),rfl⟩,ea3,λb o e _ _=>e⟩ (λi σ H' _ z'=>by obtain⟨_,_,_,_,_,_,z⟩:=z';exact SqL.of (z _ _ hml3 mlD mla)) ?_ ?_⟩
 .rw[show(ends (As.sb F) (fs.take 0)).k=F.length from rfl,dE,iF]
 .rintro i x σ H' hi ⟨v6,v7,qs,rfl,⟨eD',hrun,hql⟩,ea',fr⟩;rw[ao]at hi;obtain⟨p,hp',rfl⟩:=aB.mp hi;have hie:i<fs.length:=by rw[<-hm.1];exact(af.mp hp').1
  obtain⟨e,n,m,hx⟩:∃e n m,fs[i]?=some (e,n,m):=⟨_,_,_,ag hie⟩
  have st:=hwF i _ hx;have s0':Same H H':=λb o z=>fr _ _ ((s12.trans s3) _ _ z) (zb z hD0) (zb z na);have he:DdAt H' p e:=(hm.2 i p _ hp' hx).same s0';have oki:=okF i (bU hie);have kli:=oki.kl;have kge:F.length<=(ends (As.sb F) (fs.take i)).k:=by
   rw[xl];show F.length<=F.length+_
   lia
  have nk:=xf (ends (As.sb F) (fs.take i)) (e,n,m);have nk:((ends (As.sb F) (fs.take i)).next (e,n,m)).k=(ends (As.sb F) (fs.take i)).k+e.puts:=nk;have tk':(fs.take (i+1)).map (rnx (nmr (ends (As.sb bs) es)))=(fs.take i).map (rnx (nmr (ends (As.sb bs) es)))++[rnx (nmr (ends (As.sb bs) es)) (e,n,m)]:=by rw[bQ,hx,aj];rfl
  rw[yn hx,nk,tk'];have lk:∀j,nmr (ends (As.sb bs) es) (F.length+j)=(ends (As.sb bs) es).k+j:=l0.k;generalize ends (As.sb F) (fs.take i)=s at*
  have pu:=puts_le e;have nT:e.isT=false:=by
   cases z:e.isT with
   |false=>rfl
   |true=>exact nomatch st.tn z
  exists tD rfl he nT ea' (λm' hm'=>?_) λb H4 s4 nb eb=>?_
  .obtain⟨j,hj,rfl⟩:=st.nms.names_in m' hm';exact⟨j,oki.lt j hj,rfl⟩
  have eD4:=s4 _ _ eD';have ea4:=s4 _ _ ea';exists zq eD4 (by rw[aa,ai];lia) λH5 x5 e5=>?_;have ea5:=x5 _ _ ea4 aD;have eb5:=eb.sameX x5 eD4;have he5:DdAt H5 p e:=(he.same s4).sameX x5 eD4;have hr5:Runs H5 (ps++qs) (es++(fs.take i).map (rnx (nmr (ends (As.sb bs) es)))):=(hrun.same s4).sameX x5 eD4;have hr6:=xn (x:=rnx (nmr (ends (As.sb bs) es)) (e,n,m)) hr5 eb5;exists En ?_;exists yc rfl he5 ?_;exists⟨_,_,rfl,⟨by lia,by lia,by lia,by lia⟩,yV (lo:=(((ends (As.sb bs) es).k+(s.k - F.length):Nat):Int)) (n:=((((ends (As.sb bs) es).k+(s.k - F.length):Nat):Int)+(e.puts:Nat) - (((ends (As.sb bs) es).k+(s.k - F.length):Nat):Int)).toNat) (λj σ G=>E1 λ(v7:Option V)=>A3 (σ=[vI ((bs.length:Nat):Int),vR pl,vR ml,vR a,vI (((ends (As.sb bs) es).k+(s.k - F.length):Nat):Int),vR D,vR p,v7]) (G a=some (.lst (nmI (nmr (ends (As.sb bs) es)) (s.k+j)))) (SameX a H5 G)) ⟨_,rfl,ea5,λb o e _=>e⟩ ?_ ?_⟩
  .rintro j σ G hj ⟨w7,rfl,eaj,sxj⟩;exists zq eaj (by unfold nmI;simp only[aa,cq];lia) λG2 x2 e2=>?_;exists⟨_,rfl,?_,sxj.trans x2⟩;rw[show(((ends (As.sb bs) es).k+(s.k - F.length):Nat):Int)+(j:Int)=(((ends (As.sb bs) es).k+(s.k - F.length+j):Nat):Int) by lia,<-lk,show F.length+(s.k - F.length+j)=s.k+j by lia]at e2;rw[show s.k+(j+1)=(s.k+j)+1 by lia,FK,e2]
  rintro σ H6 ⟨w7,rfl,ea6,sx6⟩;rw[show((((ends (As.sb bs) es).k+(s.k - F.length):Nat):Int)+(e.puts:Nat) - (((ends (As.sb bs) es).k+(s.k - F.length):Nat):Int)).toNat=e.puts by lia]at ea6;have he6:DdAt H6 p e:=he5.sameX sx6 ea5;exists yc rfl he6 ?_;exists⟨some (.ref p),w7,qs++[b],?_,⟨?_,?_,by rw[ai,hql];rfl⟩,ea6,λb' o z n1 n2=>sx6 _ _ (x5 _ _ (s4 _ _ (fr _ _ z n1 n2)) n1) n2⟩
  .rw[show(((ends (As.sb bs) es).k+(s.k - F.length):Nat):Int)+(e.puts:Nat)=(((ends (As.sb bs) es).k+(s.k+e.puts - F.length):Nat):Int) by lia]
  .rw[<-bR,aj];exact sx6 _ _ e5 (cH aD)
  .rw[<-bR,<-bR];exact hr6.sameX sx6 ea5
 rintro σ H4 ⟨v6,v7,qs,rfl,⟨eD',hrun,hql⟩,ea',fr⟩;rw[aa,hm.1,aG]at hrun;walk_at"r";exact q D qs H4 (λb o z=>fr _ _ ((s12.trans s3) _ _ z) (zb z hD0) (zb z na)) hD0 eD' hrun
theorem K50(F:Fun K "minus" "minus" S44 f fd)(B:Bl mg)(o39x:O39x P w K mg base):FnOk P w K mg base CX0 3 f fd ["one","other"] P51:=by refine F.okA C53 λcdv A outer s H vs Q E hr h=>?_;obtain⟨p,p',x,y,rfl,h1,h2,⟨⟨b1,b2⟩,⟨b3,b4⟩⟩,q⟩:=h;refine⟨_,(zc (zi (ze o39x hr rfl (pa2 (pv 0) (zo (pa2 (wS xh (pit 1)) (pit 1))))))),?_⟩;walk_at"s";exists zt (!1) λr1 H1 s1 e1=>?_;walk_at"r";exact Kr (s1 _ _ h1) (IP e1) ⟨b1,b2⟩ (Bq.neg ⟨b3,b4⟩) λr H' s e=>q r H' (s1.trans s) (KC e (gO x y).symm)
theorem K51(F:Fun K "together" "together" S49 f fd)(B:Bl mg)(o39x:O39x P w K mg base):FnOk P w K mg base CX0 3 f fd ["one","other"] (P52 K):=by refine F.okA C54 λcdv A outer s H vs Q E hr h=>?_;obtain@⟨p,p',s,t,rfl,⟨r0',r1',f0,f1,f2,f3,⟨hp,h0,h1,g0,g1,g2,g3'⟩⟩,⟨u0,u1,i0,i1,i2,i3,⟨kp,k0,k1,l0,l1,l2,l3⟩⟩,bs,bt,q⟩:=h;refine⟨_,(zc (zi (zo (pa2 (zo (pa2 (ze o39x hr rfl (pa2 (pe_i zI (pit 0) zd) (pe_i zI (pit 1) zd))) (ze o39x hr rfl (pa2 (pe_i zI (pit 0) zd) (pe_i zI (pit 1) zd))))) (zo (pa2 (ze o39x hr rfl (pa2 (pe_i zI (pit 0) zd) (pe_i zI (pit 1) zd))) (ze o39x hr rfl (pa2 (pe_i zI (pit 0) zd) (pe_i zI (pit 1) zd))))))))),?_⟩;walk_at"s";exists vH g0 l0 (bs.a.bq ⋯ ⋯) (bt.a.bq ⋯ ⋯) λt0 H3 s3 et0=>?_;have hp:=s3.sqT hp;have h0:=s3.sqT h0;have h1:=s3.sqT h1;have g0:=s3.sqT g0;have g1:=s3.sqT g1;have g2:=s3.sqT g2;have g3':=s3.sqT g3';have kp:=s3 _ _ kp;have k0:=s3 _ _ k0;have k1:=s3 _ _ k1;have l0:=s3 _ _ l0;have l1:=s3 _ _ l1;have l2:=s3 _ _ l2;have l3:=s3 _ _ l3;exists vH g1 l1 (bs.b.bq ⋯ ⋯) (bt.b.bq ⋯ ⋯) λt1 H4 s4 et1=>?_;have hp:=s4.sqT hp;have h0:=s4.sqT h0;have h1:=s4.sqT h1;have g0:=s4.sqT g0;have g1:=s4.sqT g1;have g2:=s4.sqT g2;have g3':=s4.sqT g3';have kp:=s4 _ _ kp;have k0:=s4 _ _ k0;have k1:=s4 _ _ k1;have l0:=s4 _ _ l0;have l1:=s4 _ _ l1;have l2:=s4 _ _ l2;have l3:=s4 _ _ l3;have et0:=s4 _ _ et0;exists zt (!1) λr0 G0 z0 er0=>?_;have hp:=z0.sqT hp;have h0:=z0.sqT h0;have h1:=z0.sqT h1;have g0:=z0.sqT g0;have g1:=z0.sqT g1;have g2:=z0.sqT g2;have g3':=z0.sqT g3';have kp:=z0 _ _ kp;have k0:=z0 _ _ k0;have k1:=z0 _ _ k1;have l0:=z0 _ _ l0;have l1:=z0 _ _ l1;have l2:=z0 _ _ l2;have l3:=z0 _ _ l3;have et0:=z0 _ _ et0;have et1:=z0 _ _ et1;exists vH g2 l2 (bs.c.bq ⋯ ⋯) (bt.c.bq ⋯ ⋯) λt2 H5 s5 et2=>?_;have hp:=s5.sqT hp;have h0:=s5.sqT h0;have h1:=s5.sqT h1;have g0:=s5.sqT g0;have g1:=s5.sqT g1;have g2:=s5.sqT g2;have g3':=s5.sqT g3';have kp:=s5 _ _ kp;have k0:=s5 _ _ k0;have k1:=s5 _ _ k1;have l0:=s5 _ _ l0;have l1:=s5 _ _ l1;have l2:=s5 _ _ l2;have l3:=s5 _ _ l3;have et0:=s5 _ _ et0;have et1:=s5 _ _ et1;have er0:=s5 _ _ er0;exists vH g3' l3 (bs.e.bq ⋯ ⋯) (bt.e.bq ⋯ ⋯) λt3 H6 s6 et3=>?_;have hp:=s6.sqT hp;have h0:=s6.sqT h0;have h1:=s6.sqT h1;have g0:=s6.sqT g0;have g1:=s6.sqT g1;have g2:=s6.sqT g2;have g3':=s6.sqT g3';have kp:=s6 _ _ kp;have k0:=s6 _ _ k0;have k1:=s6 _ _ k1;have l0:=s6 _ _ l0;have l1:=s6 _ _ l1;have l2:=s6 _ _ l2;have l3:=s6 _ _ l3;have et0:=s6 _ _ et0;have et1:=s6 _ _ et1;have et2:=s6 _ _ et2;have er0:=s6 _ _ er0;exists zt (!1) λr1 G1 z1 er1=>?_;have hp:=z1.sqT hp;have h0:=z1.sqT h0;have h1:=z1.sqT h1;have g0:=z1.sqT g0;have g1:=z1.sqT g1;have g2:=z1.sqT g2;have g3':=z1.sqT g3';have kp:=z1 _ _ kp;have k0:=z1 _ _ k0;have k1:=z1 _ _ k1;have l0:=z1 _ _ l0;have l1:=z1 _ _ l1;have l2:=z1 _ _ l2;have l3:=z1 _ _ l3;have et0:=z1 _ _ et0;have et1:=z1 _ _ et1;have et2:=z1 _ _ et2;have et3:=z1 _ _ et3;have er0:=z1 _ _ er0;exists zt (!1) λr G z er=>?_;exact q r G ((((((s3.trans s4).trans z0).trans s5).trans s6).trans z1).trans z) ⟨r0,r1,t0,t1,t2,t3,er,z _ _ er0,z _ _ er1,z _ _ et0,z _ _ et1,z _ _ et2,z _ _ et3⟩
theorem K52(F:Fun K "_law_heap" "_law_heap" S64 f fd)(B:Bl mg)(o59x:O59x P w K mg base):FnOk P w K mg base CX0 3 f fd ["_law_d","_law_cells"] (P53 K):=by
 refine F.okA C55 λcdv A outer s H vs Q E hr h=>?_;obtain@⟨d,p,ns,rfl,hR,hS,hb,hl,q⟩:=h;refine⟨_,(zc (zi (zR ["_law_cell"] [0] rfl (zG (pv 1)) (λ_ _ _ _ _=>(pg_n 0 (show List.Nodup (α:=Str) ["_law_cell","_law_d"] by decide+kernel))) (λ_ _ _ _ _=>zD) (λ_ _ _ _ _=>(zo (pa2 (ze o59x hr rfl (pa3 (pv 1) (pv 0) zd)) (ze o59x hr rfl (pa3 (pv 1) (pv 0) zd)))))))),?_⟩;walk_at"s";exists yL ?_;exists⟨p,rfl,⟨_,hS⟩,λO hO=>ya (K:=K) (a:=p) (ys:=ns.map V.int) (λi xs σ' Hc=>E2 λ(v:Option V)(L:List Cell)=>A7 (σ'=[v,vI d]) (xs=L.map Cell.v) (L.length=i) ((∀c∈L,c.At Hc)) ((∀c∈L,Dw d c.b.w/\Dw d c.b.h)) (Hc O=some (.lst xs)) (SameX O H Hc)) ⟨none,[],rfl,rfl,rfl,λc hc=>absurd hc (!1),λc hc=>absurd hc (!1),zg,λb o e n=>by rw[zl n];exact e⟩ (λi xs σ' Hc _ z=>by obtain⟨v,L,_,_,_,_,_,_,z⟩:=z;exact SqL.mv hS λo e=>z _ _ e (zb e hO)) ?_ ?_⟩
 .rintro i x xs σ' Hc hi ⟨v,L,rfl,rfl,hLl,hLA,hLD,eO,sx⟩;have hi':=(af.mp hi).1;rw[ao]at hi;obtain⟨c,hc,rfl⟩:=aB.mp hi;have bc:=hb c (ay hc);rw[aa]at hi';exists xM rfl (k:=0) hR bc ⋯ λr1 H1 w s1 e1 dw=>?_;exists xM rfl (k:=6) hR bc ⋯ λr2 H2 h s2 e2 dh=>?_;exists zC (!1) λt H3 nt s3 e3=>?_;have s03:=(s1.trans s2).trans s3;refine zq (s03 _ _ eO) (by rw[aa];lia) λH4 x4 e4=>?_;have x04:SameX O Hc H4:=(s03.sameX O).trans x4;refine yx (by rw[aa];exact hi') ⟨_,L++[⟨t,r1,r2,⟨w,h⟩⟩],rfl,by rw[aj];rfl,by rw[ai,hLl];rfl,λc' hc'=>?_,λc' hc'=>?_,e4,sx.trans x04⟩
  .rcases aE.mp hc' with z|z
   .exact(hLA c' z).sameX x04 eO
   .rw[aq.mp z];exact⟨x4.tup e3 (s03 _ _ eO),x4.tup ((s2.trans s3) _ _ e1) (s03 _ _ eO),x4.tup (s3 _ _ e2) (s03 _ _ eO)⟩
  .rcases aE.mp hc' with z|z
   .exact hLD c' z
   .rw[aq.mp z];exact⟨dw,dh⟩
 rintro xs σ' H3 ⟨v,L,rfl,rfl,hLl,hLA,hLD,eO,sx⟩;rw[aa]at hLl;exact q O H3 L (λb o e=>sx b o e (zb e hO)) hO eO hLA hLD hLl
theorem K53(F:Fun K "parted" "parted" S13 f fd)(B:Bl mg)(g_NOUGHT:TopT K mg "NOUGHT" [.int 0,.int 0,.int 1])(o9x:O9x P w K mg base)(o4x:O4x P w K mg base):FnOk P w K mg base CX0 4 f fd ["d","one","other"] (P54 K):=by obtain⟨a_NOUGHT,m_NOUGHT,q_NOUGHT⟩:=g_NOUGHT;refine F.okA C56 λcdv A outer s H vs Q E hr h=>?_;obtain@⟨d,p,p',s,t,rfl,h1,h2,hd,bs,bt,n1,n2,n3,q⟩:=h;refine⟨_,(za (zy (zk (GM hr.units) (pv 2) (yf (v:=.ref a_NOUGHT) rfl m_NOUGHT rfl) (zm _)) (zc yA) zn) (za (ps_s 3 C56.nd (zf yH (zf zj (pit 2) (pit 2)) (zf zj (zf zj (pv 0) (pit 2)) (pit 2)))) (zc (zi (ze o9x hr rfl (pa3 (pv 0) (pv 1) (ze o4x hr rfl (pa3 (zf zj (pit 2) (pit 2)) (zf zj (wS xh (pit 2)) (pit 2)) (pv 3))))))))),?_⟩;walk_at"s";obtain⟨b1,b2,b3⟩:=bs;obtain⟨b4,b5,b6⟩:=bt;have h2':H p'=some (.tup [.int t.x,.int t.y,.int t.z]):=h2;exists Jq (SqT.of h2') (q_NOUGHT H) ?_;exists if_d (λ(c:t.x=0/\t.y=0/\t.z=1)=>absurd ⟨c.1,c.2.1⟩ n3) (λ_=>?_);walk_at"r";have hN:Bd 1900 (t.x*t.x - d*t.y*t.y):=(Bd.sub (k:=1864) ((b4.mul b4).mono ⋯) ((hd.mul b5).mul b5)).mono ⋯;refine yB rfl n2 (hN.mono ⋯) λr H1 s1 e1=>?_;walk_at"r";have bi1:Bd 1800 (t.z*t.x):=Bd.mono (b6.mul b4) ⋯;have bi2:Bd 1800 (-t.z*t.y):=Bd.mono (b6.neg.mul b5) ⋯;have n4:=l_n (a:=t.z*t.x) (b:=-t.z*t.y) n2;exact Fa (s1.sqT h1) e1 hd (b1.mono ⋯) (b2.mono ⋯) (b3.mono ⋯) ((bi1.fdiv _).mono ⋯) ((bi2.fdiv _).mono ⋯) ((hN.fdiv _).mono ⋯) n1 (!2) λr' H' s' e'=>q r' H' (s1.trans s') e'
theorem K54(F:Fun K "next_base" "next_base" S18 f fd)(B:Bl mg)(o12x:O12x P w K mg base)(o8x:O8x P w K mg base):FnOk P w K mg base CX0 4 f fd ["d","base"] P55:=by
 refine F.okA C57 λcdv A outer s H vs Q E hr h=>?_;obtain@⟨d,p,r1,r2,s,N,rfl,⟨h0,h1,h2⟩,hR,hN,hb,g,q⟩:=h;refine⟨_,(za (ps_s 2 C57.nd (pit 1)) (za (ps_s 3 C57.nd (pit 1)) (za (zy (yp (ze o12x hr rfl (pa3 (pv 0) (pv 3) (pv 2)))) (zc (zi (zo (pa2 (ze o8x hr rfl (pa2 (pv 2) (pv 3))) (pv 3))))) zn) (zc (zi (zo (pa2 (pv 2) (ze o8x hr rfl (pa2 (pv 3) (pv 2)))))))))),?_⟩;walk_at"s";have n0:N≠0:=by lia
 have dlo:=hR.lo;have dhi:=hR.hi;have hd:Bd 64 d:=zE (B:=99) (!2) hR.hi (!3);have k1:Bd 1500 (lA s.a s.b N):=g.ba.fdiv _;have k2:Bd 1500 (lB s.a s.b N):=g.bb.fdiv _;have k3:Bd 1500 (lN s.a s.b N):=hb.fdiv _;have k4:Bd 1500 (lA s.c s.e N):=g.bc.fdiv _;have k5:Bd 1500 (lB s.c s.e N):=g.be.fdiv _;have k6:Bd 1500 (lN s.c s.e N):=hb.fdiv _;exists uC (K:=K) (SqT.of h2) h1 hd (k4.mono ⋯) (k5.mono ⋯) (k6.mono ⋯) (k1.mono ⋯) (k2.mono ⋯) (k3.mono ⋯) ?_;rw[Fo hR hN];exists if_d (λc=>?_) (λc=>?_)
 .have e:s.nx d=⟨s.a - s.c,s.b - s.e,s.c,s.e⟩:=iU c;rw[e]at q;exists AY h1 h2 (l_n n0) (l_n n0) (xj n0) (xj n0) (k1.mono ⋯) (k2.mono ⋯) (k3.mono ⋯) (k4.mono ⋯) (k5.mono ⋯) (k6.mono ⋯) λr H1 s1 e1=>?_;obtain⟨t1,t2,t3⟩:=BA (a:=s.a) (b:=s.b) (c:=s.c) (e:=s.e) hN;rw[ve,ve,t1,t2,t3]at e1;walk_at"r";exact zt (!1) λp' H' s' e'=>q p' r r2 H' (s1.trans s') ⟨e',s' _ _ e1,s' _ _ (s1 _ _ h2)⟩
 .have e:s.nx d=⟨s.a,s.b,s.c - s.a,s.e - s.b⟩:=iV c;rw[e]at q;exists AY h2 h1 (l_n n0) (l_n n0) (xj n0) (xj n0) (k4.mono ⋯) (k5.mono ⋯) (k6.mono ⋯) (k1.mono ⋯) (k2.mono ⋯) (k3.mono ⋯) λr H1 s1 e1=>?_;obtain⟨t1,t2,t3⟩:=BA (a:=s.c) (b:=s.e) (c:=s.a) (e:=s.b) hN;rw[ve,ve,t1,t2,t3]at e1;walk_at"r";exact zt (!1) λp' H' s' e'=>q p' r1 r H' (s1.trans s') ⟨e',s' _ _ (s1 _ _ h1),s' _ _ e1⟩
theorem K55(F:Fun K "times_over" "times_over" S24 f fd)(B:Bl mg)(o9x:O9x P w K mg base):FnOk P w K mg base CX0 4 f fd ["d","many","one"] P56:=by refine F.okA C58 λcdv A outer s H vs Q E hr h=>?_;obtain@⟨d,m,p,s,rfl,h1,hd,hm,ok,q⟩:=h;refine⟨_,(zc (zi (ze o9x hr rfl (pa3 (pv 0) (zo (pa3 (pv 1) zd zd)) (pv 2))))),?_⟩;walk_at"s";have z1:=ok.z1;exists zt (!1) λp1 H1 s1 e1=>?_;exists vP e1 (s1 _ _ h1) hd (hm.mono ⋯) (!3) (!3) (ok.bx.mono ⋯) (ok.by'.mono ⋯) (ok.bz.mono ⋯) ⋯ (!2) λr H2 s2 e2=>?_;rw[show m*s.x+d*0*s.y=m*s.x by rw[cK,cG,cM],show m*s.y+0*s.x=m*s.y by rw[cG,cM],gA]at e2;exact q r H2 (s1.trans s2) e2
theorem K56(F:Fun K "is_deed" "is_deed" S28 f fd)(B:Bl mg)(g_CUTS:TopT K mg "CUTS" [.str "across",.str "along"])(g_SHIFTS:TopT K mg "SHIFTS" [.str "stack",.str "spread"])(g_GLUINGS:TopT K mg "GLUINGS" [.str "beside",.str "atop"])(g_TURN:TopS mg "TURN" (Str.ofString "turn"))(o23x:Own P w K mg base 3 "is_length" ["thing"] [] P47)(o0x:O0x P w K mg base):FnOk P w K mg base CX0 4 f fd ["thing"] P57:=by
 obtain⟨a_CUTS,m_CUTS,q_CUTS⟩:=g_CUTS;obtain⟨a_SHIFTS,m_SHIFTS,q_SHIFTS⟩:=g_SHIFTS;obtain⟨a_GLUINGS,m_GLUINGS,q_GLUINGS⟩:=g_GLUINGS;obtain⟨u_TURN,m_TURN,r_TURN⟩:=g_TURN;refine F.okA C59 λcdv A outer s H vs Q E hr h=>?_;obtain@⟨p,e,rfl,he,ok,q⟩:=h;refine⟨_,(za (zy (PW.pt (t9 (yJ (yp (zp zY rfl B.isinstance zK (pa2 (pv 0) (xi (v:=.ty "tuple") rfl B.tuple wX rfl))))) (t9 (zk vZ (zp zx rfl B.len bS (pa1 (pv 0))) zd (zm _)) (uk (yJ (yp (zp zY rfl B.isinstance zK (pa2 (pit 0) (xi (v:=.ty "str") rfl B.str Ka rfl))))))))) (zc (zi wm)) zn) (za (zy (zk ye (zp zx rfl B.len bS (pa1 (pv 0))) zd (zm _)) (zc (zi (yo ye (pit 0) (yf (v:=.str (Str.ofString "turn")) rfl m_TURN r_TURN) (zm _)))) zn) (za (zy (zk A2 (zp zx rfl B.len bS (pa1 (pv 0))) zd (zm _)) (zc (zi wm)) zn) (za (zy (zk yW (pit 0) (yf (v:=.ref a_CUTS) rfl m_CUTS rfl) (by with_unfolding_all rfl)) (zc (zi (ze o23x hr rfl (pa1 (pit 0))))) zn) (za (zy (zk yW (pit 0) (yf (v:=.ref a_SHIFTS) rfl m_SHIFTS rfl) (by with_unfolding_all rfl)) (zc (zi (Bv (ze o0x hr rfl (pa1 (pit 0))) (tz (yo EN (pit 0) zd (zm _)))))) zn) (zc (zi (yo yW (pit 0) (yf (v:=.ref a_GLUINGS) rfl m_GLUINGS rfl) (by with_unfolding_all rfl))))))))),?_⟩;walk_at"s";cases e with
 |cut al n s =>
  obtain⟨pq,h0,hs⟩:=he;cases al
  all_goals
   simp[DdAt,Dd.wd]at h0;exists if_d (λc=>absurd c (!1)) (λ_=>?_);exists if_d (λc=>absurd c (!1)) (λ_=>?_);exists Ct (!1) ?_;exists⟨_,_,rfl,.inr (q_CUTS H),rfl,rfl,?_⟩;rw[show(if false=true then !inV _ _ else inV _ _)=true from by decide+kernel];walk_at"r";exact AH rfl hs ok λH' s1=>q H' s1
 |glue al n m =>
  have h0:=he;cases al
  all_goals
   simp[DdAt,Dd.wd]at h0;exists if_d (λc=>absurd c (!1)) (λ_=>?_);exists if_d (λc=>absurd c (!1)) (λ_=>?_);exists Ct (!1) ?_;exists⟨_,_,rfl,.inr (q_CUTS H),rfl,rfl,?_⟩;rw[show(if false=true then !inV _ _ else inV _ _)=false from by decide+kernel];exists⟨_,_,rfl,.inr (q_SHIFTS H),rfl,rfl,?_⟩;rw[show(if false=true then !inV _ _ else inV _ _)=false from by decide+kernel];exists⟨_,_,rfl,.inr (q_GLUINGS H),rfl,rfl,?_⟩;rw[show(if false=true then !inV _ _ else inV _ _)=true from by decide+kernel];walk_at"r";exact q H (Same.refl H)
 |shift al n k =>
  have h0:=he;cases al
  all_goals
   simp[DdAt,Dd.wd]at h0;exists if_d (λc=>absurd c (!1)) (λ_=>?_);exists if_d (λc=>absurd c (!1)) (λ_=>?_);exists Ct (!1) ?_;exists⟨_,_,rfl,.inr (q_CUTS H),rfl,rfl,?_⟩;rw[show(if false=true then !inV _ _ else inV _ _)=false from by decide+kernel];exists⟨_,_,rfl,.inr (q_SHIFTS H),rfl,rfl,?_⟩;rw[show(if false=true then !inV _ _ else inV _ _)=true from by decide+kernel];walk_at"r";exact bl_q (jg ok.1) (q H (Same.refl H))
 |turn n =>
  have h0:=he;have h0:H p=some (.tup [.str (Str.ofString "turn"),.int n]):=h0;exists if_d (λc=>absurd c (!1)) (λ_=>?_);exists if_d (λ_=>?_) (λc=>absurd (!1) c);walk_at"r";exact bl_q (!3) (q H (Same.refl H))
theorem K57(F:Fun K "cut_across" "cut_across" S32 f fd)(B:Bl mg)(g_NOUGHT:TopT K mg "NOUGHT" [.int 0,.int 0,.int 1])(o12x:O12x P w K mg base)(o8x:O8x P w K mg base):FnOk P w K mg base CX0 4 f fd ["d","one","at"] P58:=by obtain⟨a_NOUGHT,m_NOUGHT,q_NOUGHT⟩:=g_NOUGHT;refine F.okA C60 λcdv A outer s H vs Q E hr h=>?_;obtain@⟨d,c,p,s,rfl,hc,hs,hd,okw,oks,up,un,q⟩:=h;refine⟨_,(za (zy (yJ (PW.pt (xF (yp (ze o12x hr rfl (pa3 (pv 0) (yf (v:=.ref a_NOUGHT) rfl m_NOUGHT rfl) (pv 2)))) (y9 (yp (ze o12x hr rfl (pa3 (pv 0) (pv 2) (pit 1)))))))) (zc yA) zn) (zc (zi (zP (pa2 (zo (pa2 (pv 2) (pit 1))) (zo (pa2 (ze o8x hr rfl (pa2 (pit 1) (pv 2))) (pit 1)))))))),?_⟩;walk_at"s";have ct:=hc.t;have cw:=hc.w;have hs':H p=some (.tup [.int s.x,.int s.y,.int s.z]):=hs;have cw':H c.pw=some (.tup [.int c.b.w.x,.int c.b.w.y,.int c.b.w.z]):=cw;exists uC (q_NOUGHT H) hs' hd (!3) (!3) (!3) (oks.bx.mono ⋯) (oks.by'.mono ⋯) (oks.bz.mono ⋯) ?_;rw[show decide (0<sgn d (s.x*1 - 0*s.z) (s.y*1 - 0*s.z))=true from jg (by simpa only[dg,cG,Int.sub_zero] using up)];exists uC (SqT.of hs') cw' hd (oks.bx.mono ⋯) (oks.by'.mono ⋯) (oks.bz.mono ⋯) (okw.bx.mono ⋯) (okw.by'.mono ⋯) (okw.bz.mono ⋯) ?_;rw[show decide (0<sgn d (c.b.w.x*s.z - s.x*c.b.w.z) (c.b.w.y*s.z - s.y*c.b.w.z))=true from jg un];exists zC (!1) λr1 H1 hr1 s1 e1=>?_;have ct1:=s1 _ _ ct;exists AY (s1 _ _ cw') (s1 _ _ hs') okw.z1 oks.z1 okw.g oks.g (okw.bx.mono ⋯) (okw.by'.mono ⋯) (okw.bz.mono ⋯) (oks.bx.mono ⋯) (oks.by'.mono ⋯) (oks.bz.mono ⋯) λr2 H2 s2 e2=>?_;have ct2:=s2 _ _ ct1;exists zC (!1) λr3 H3 hr3 s3 e3=>?_;exists zB (!1) λr H4 hr s4 e4=>?_;have t4:=((s1.trans s2).trans s3).trans s4;exact q r ⟨r1,p,c.ph,⟨s,c.b.h⟩⟩ ⟨r3,r2,c.ph,⟨tkS c.b.w s,c.b.h⟩⟩ H4 t4 (Same.nn ((s1.trans s2).trans s3) hr) e4 ⟨s4 _ _ (s3 _ _ (s2 _ _ e1)),t4 _ _ hs,t4 _ _ hc.h⟩ ⟨s4 _ _ e3,s4 _ _ (s3 _ _ e2),t4 _ _ hc.h⟩ rfl rfl
theorem K58(F:Fun K "board_table" "board_table" S47 f fd)(B:Bl mg)(o6x:Own P w K mg base 3 "parts" ["one"] [] P43)(o41x:Own P w K mg base 2 "times" ["one","other"] [] P38):FnOk P w K mg base CX0 4 f fd ["one"] P59:=by refine F.okA C61 λcdv A outer s H vs Q E hr h=>?_;obtain@⟨c,rfl,⟨ht,hw,hh⟩,⟨ow,oh⟩,q⟩:=h;refine⟨_,(za (ps_s 1 C61.nd (ze o6x hr rfl (pa1 (pit 0)))) (za (ps_s 2 C61.nd (ze o6x hr rfl (pa1 (pit 0)))) (zc (zi (zo (pa2 (zo (pa2 (ze o41x hr rfl (pa2 (pit 1) (pit 2))) (ze o41x hr rfl (pa2 (pit 1) (pit 2))))) (zo (pa2 (ze o41x hr rfl (pa2 (pit 1) (pit 2))) (ze o41x hr rfl (pa2 (pit 1) (pit 2))))))))))),?_⟩;walk_at"s";exists ED rfl hw ow.nz (ow.bz.mono ⋯) λa0 a1 a2 H1 s1 ea ea1 ea2=>?_;have ea1:=FI ow.nz ea1;have ea2:=FI ow.nz ea2;have ht:=s1 _ _ ht;have hh:=s1 _ _ hh;exists ED rfl hh oh.nz (oh.bz.mono ⋯) λb0 b1 b2 H2 s2 eb eb1 eb2=>?_;have eb1:=FI oh.nz eb1;have eb2:=FI oh.nz eb2;have ea:=s2 _ _ ea;have ea1:=s2 _ _ ea1;have ea2:=s2 _ _ ea2;exists u6 ea1 eb1 ow.p8 oh.p8 λt0 H3 s3 et0=>?_;have ea:=s3 _ _ ea;have eb:=s3 _ _ eb;have ea1:=s3 _ _ ea1;have ea2:=s3 _ _ ea2;have eb1:=s3 _ _ eb1;have eb2:=s3 _ _ eb2;exists u6 ea1 eb2 ow.p8 oh.q8 λt1 H4 s4 et1=>?_;have ea:=s4 _ _ ea;have eb:=s4 _ _ eb;have ea1:=s4 _ _ ea1;have ea2:=s4 _ _ ea2;have eb1:=s4 _ _ eb1;have eb2:=s4 _ _ eb2;have et0:=s4 _ _ et0;exists zt (!1) λr0 G0 z0 er0=>?_;have ea:=z0 _ _ ea;have eb:=z0 _ _ eb;have ea1:=z0 _ _ ea1;have ea2:=z0 _ _ ea2;have eb1:=z0 _ _ eb1;have eb2:=z0 _ _ eb2;have et0:=z0 _ _ et0;have et1:=z0 _ _ et1;exists u6 ea2 eb1 ow.q8 oh.p8 λt2 H5 s5 et2=>?_;have ea:=s5 _ _ ea;have eb:=s5 _ _ eb;have ea1:=s5 _ _ ea1;have ea2:=s5 _ _ ea2;have eb1:=s5 _ _ eb1;have eb2:=s5 _ _ eb2;have et0:=s5 _ _ et0;have et1:=s5 _ _ et1;have er0:=s5 _ _ er0;exists u6 ea2 eb2 ow.q8 oh.q8 λt3 H6 s6 et3=>?_;have ea:=s6 _ _ ea;have eb:=s6 _ _ eb;have ea1:=s6 _ _ ea1;have ea2:=s6 _ _ ea2;have eb1:=s6 _ _ eb1;have eb2:=s6 _ _ eb2;have et0:=s6 _ _ et0;have et1:=s6 _ _ et1;have et2:=s6 _ _ et2;have er0:=s6 _ _ er0;exists zt (!1) λr1 G1 z1 er1=>?_;have ea:=z1 _ _ ea;have eb:=z1 _ _ eb;have ea1:=z1 _ _ ea1;have ea2:=z1 _ _ ea2;have eb1:=z1 _ _ eb1;have eb2:=z1 _ _ eb2;have et0:=z1 _ _ et0;have et1:=z1 _ _ et1;have et2:=z1 _ _ et2;have et3:=z1 _ _ et3;have er0:=z1 _ _ er0;exists zt (!1) λr G z er=>?_;exact q r G ((((((((s1.trans s2).trans s3).trans s4).trans z0).trans s5).trans s6).trans z1).trans z) ⟨r0,r1,t0,t1,t2,t3,er,z _ _ er0,z _ _ er1,z _ _ et0,z _ _ et1,z _ _ et2,z _ _ et3⟩
theorem Bu{K:jj}{Q:VK}{a:Addr}{xs:List V}{v:V}(h:H a=some (.lst (xs++[v])))(q:∀(p:Addr)(H2:Hp),Same H H2->H2 p=some (.lst xs)->Q (.ref p) H2):rSlL K (.ref a) none (some (-1)) H Q:=by
 refine⟨a,_,rfl,SqL.of h,λp hp=>?_⟩;refine q p _ (zF hp _) ?_;rw[zg];congr 2;have e:HT.sIx (xs++[v]).length (xs++[v]).length (some (-1))=xs.length:=by unfold HT.sIx;rw[ai];simp;try lia
 unfold cutV;rw[e,HT.sIx_none,iI,gQ,List.take_left]
theorem Kq{K:jj}{Q:VK}{a:Addr}{xs:List V}{k:Nat}(h:H a=some (.lst xs))(q:∀(p:Addr)(H2:Hp),Same H H2->H2 p=some (.lst (xs.take k))->Q (.ref p) H2):rSlL K (.ref a) none (some (k:Int)) H Q:=by
 refine⟨a,_,rfl,SqL.of h,λp hp=>?_⟩;refine q p _ (zF hp _) ?_;rw[zg];unfold cutV;rw[HT.sIx_none,HT.sIx_nat,iI,gQ];congr 2;rcases iD k xs.length with z|z
 .rw[fq z]
 .rw[gi z,aG,bT z]
theorem K59(F:Fun K "_law_other" "_law_other" S68 f fd)(B:Bl mg)(o60x:O60x P w K mg base)(o52x:O52x P w K mg base)(o55x:O55x P w K mg base)(o57x:Own P w K mg base 2 "_law_sum" ["_law_one","_law_more"] [] P39)(o59x:O59x P w K mg base):FnOk P w K mg base CX0 4 f fd ["_law_d","_law_one","_law_script","_law_way"] (P60 K):=by
 refine F.okA C62 λcdv A outer s H vs Q E hr h=>?_;obtain@⟨d,w,p1,sc,L,ms,rfl,hA1,hA,dw,ln,hR,esc,hms,hw,q⟩:=h;refine⟨_,(za (zy (zk ye (pv 3) zd (zm _)) (zc (zi (ze o60x hr rfl (pa2 (pv 0) (zR ["_law_k"] [2] rfl (z9 rfl B.range (pa1 (zp zx rfl B.len bS (pa1 (pv 1))))) (λ_ _ _ _ _=>(pg_n 0 (show List.Nodup (α:=Str) ["_law_k","_law_script"] by decide+kernel))) (λ_ _ _ _ _=>zD) (λ_ _ _ _ _=>(ze o52x hr rfl (pa2 (pv 1) (zf zv zd (pv 0)))))))))) zn) (za (zy (zk ye (pv 3) zd (zm _)) (zc (zi (zf wN (pv 1) (ze o60x hr rfl (pa2 (pv 0) (zP (pa1 (ze o52x hr rfl (pa2 (pv 2) zd))))))))) zn) (za (zy (zk ye (pv 3) zd (zm _)) (za (B7 (pe_i zQ (pv 1) (wS xh zd)) (xZ (n:=2) rfl (zA (pg_n 4 C62.nd) (zA (pg_n 5 C62.nd) yP)))) (zc (zi (zf wN (xa wI (pv 1) wH (xu (wS xh zd))) (WE.w (Ev (zV (tY (zV (wT (pv 4)) (zV (wT (ze o57x hr rfl (pa2 (pv 5) (ze o59x hr rfl (pa3 (pv 0) (ze o52x hr rfl (pa2 (pv 2) zd)) zd))))) wK))) wK))))))) zn) (za (zy (zk ye (pv 3) zd (zm _)) (zc (zi (zf wN (zR ["_law_width","_law_height"] [] rfl (zG (xa wI (pv 1) wH (xu zd))) (λ_ _ _ _ _=>(Ix (n:=2) (K:=K) rfl rfl (zA (pg_n 0 (show List.Nodup (α:=Str) ["_law_width","_law_height"] by decide+kernel)) (zA (pg_n 1 (show List.Nodup (α:=Str) ["_law_width","_law_height"] by decide+kernel)) yP)))) (λ_ _ _ _ _=>zD) (λ_ _ _ _ _=>(zo (pa2 (pv 1) (pv 0))))) (xa wI (pv 1) (xu zd) wH)))) zn) (za (B7 (pe_i zQ (pv 1) (wS xh zd)) (xZ (n:=2) rfl (zA (pg_n 4 C62.nd) (zA (pg_n 5 C62.nd) yP)))) (za (ps_s 6 C62.nd (zf zv (zf zj (pit 4) (pit 5)) (zf zj (zf zj (pv 0) (pit 4)) (pit 5)))) (za (ps_s 7 C62.nd (zf zv (zf zj (pit 4) (pit 5)) (zf zj (pit 4) (pit 5)))) (zc (zi (zf wN (xa wI (pv 1) wH (xu (wS xh zd))) (WE.w (Ev (zV (tY (zV (tY (zV (wT zd) (zV (wT zd) (zV (wT zd) wK)))) (zV (wT (ze o55x hr rfl (pa3 (pv 6) (pv 7) (zf zj (pit 4) (pit 5))))) wK))) wK))))))))))))),?_⟩;walk_at"s";have hd:Bd 64 d:=zE (B:=99) (by have:=hR.lo;lia) hR.hi (!3);obtain⟨ln1,ln4⟩:=ln;exists if_d (λw0=>?_) (λw0=>?_)
 .have hlm:(L.map Cell.v).length=L.length:=aa _;exists xA ?_;exists⟨(((L.map Cell.v).length:Nat):Int),rfl,by lia,by lia,λO3 hO=>yj (lo:=0) (n:=((((L.map Cell.v).length:Nat):Int)).toNat) (λi xs σ' Hc=>E2 λ(v:Option V)(ks:List Int)=>A6 (σ'=[v,vR sc]) (xs=ks.map V.int) (ks.length=i) ((∀x∈ks,Bd 1048576 x)) (Hc O3=some (.lst xs)) (SameX O3 H Hc)) ⟨none,[],rfl,rfl,rfl,λc hc=>absurd hc (!1),zg,λb o e n=>by rw[zl n];exact e⟩ ?_ ?_⟩
  .rintro i xs σ' Hc hi ⟨v,ks,rfl,rfl,hkl,hkb,eO,sx⟩;have hi9:i<9:=by lia
   have eS:=sx _ _ esc (zb esc hO);exists xo rfl (SqL.of eS) (!2) hms λc bc=>?_;exists zq eO (by rw[aa];lia) λHd x4 e4=>?_;refine yx hi ⟨_,ks++[c],rfl,by rw[aj];rfl,by rw[ai,hkl];rfl,λc' hc'=>?_,e4,sx.trans x4⟩;rcases aE.mp hc' with h|h
   .exact hkb c' h
   .rw[aq.mp h];exact bc
  rintro xs σ' H3 ⟨v,k3,rfl,rfl,hl_k3,hb_k3,e_O3,sx⟩;have s_H3:Same H H3:=λb o e=>sx b o e (zb e hO);clear sx;exists xL rfl (ns:=k3) hR (SqL.of e_O3) (λx hx=>(hb_k3 x hx).mono (!3)) (!2) λr4 H4 N s4 n4 e4 hN dN lN=>?_;walk_at"r";exact q r4 H4 N (s_H3.trans s4) e4 hN (Oth.dw dN (!2) (!2))
 exists if_d (λw1=>?_) (λw1=>?_)
 .exists xo rfl (SqL.of esc) ⋯ hms λc8 b8=>?_;exists zB (!1) λl2 H2 n2 s2 e2=>?_;exists xL rfl (ns:=[c8]) hR (SqL.of e2) (λx hx=>by rw[aq.mp hx];exact b8.mono (!3)) (!1) λr3 H3 N s3 n3 e3 hN dN lN=>?_;have s23:=s2.trans s3;exists ur (s23 _ _ hA1) e3 (by rw[aa,aa,lN];simp;lia) λr H4 n4 s4 e4=>?_;have u:=s23.trans s4;walk_at"r";have lN:N.length=1:=lN;refine q r H4 (L++N) u (by rw[aj];exact e4) (λc hc=>?_) (Oth.dw (λc hc=>?_) (by rw[ai];lia) (by rw[ai];lia))
  .rcases aE.mp hc with h|h
   .exact(hA c h).same u
   .exact(hN c h).same s4
  .rcases aE.mp hc with h|h
   .exact dw c h
   .exact dN c h
 obtain⟨O,cL,rfl⟩:∃O cL,L=O++[cL]:=⟨L.dropLast,L.getLast (λz=>by rw[z]at ln1;simp at ln1),(List.dropLast_concat_getLast _).symm⟩
 have mL:cL∈O++[cL]:=by simp
 have hO:∀c∈O,c∈O++[cL]:=λc hc=>cg _ hc;have hA1':=hA1;rw[aj]at hA1';have acl:=hA cL mL;have aclt:=acl.t;obtain⟨dwc,dhc⟩:=dw cL mL;have lO:O.length<=3:=by rw[ai]at ln4;simp at ln4;lia
 exists if_d (λw2=>?_) (λw2=>?_)
 .exists xb hA1' (v:=.ref cL.p) (Bs _ _) ?_;exists Bu hA1' λp1 H1 s1 e1=>?_;exists xo rfl (SqL.of (s1 _ _ esc)) ⋯ hms λc8 b8=>?_;exists xM rfl (k:=0) hR (b8.mono (!3)) ⋯ λrp H2 sp s2 ep dp=>?_;have sy:SY cL.b.h:=(dhc.so.sk dhc.z1 dhc.bz).mono ⋯ ⋯;have syp:SY sp:=(dp.so.sk dp.z1 dp.bz).mono ⋯ ⋯;exists Cw rfl ((s1.trans s2) _ _ acl.h) ep sy syp λrs H3 s3 es=>?_;exists zC (!1) λt4 H4 n4 s4 e4=>?_;exists zB (!1) λl5 H5 n5 s5 e5=>?_;have s25:=((s2.trans s3).trans s4).trans s5;exists ur (s25 _ _ e1) e5 (by simp only[aa,au,aV];lia) λr H6 n6 s6 e6=>?_;have u:=(s1.trans s25).trans s6;walk_at"r";have ae:=JL hR (D:=cL.b.h.z*sp.z) (dhc.so.scale dp.bz) ((by have:=dp.so.scale dhc.bz;rw[av]at this;exact this):So d (cL.b.h.z*sp.z) 31 sp);have ab:Bd 32 (adS cL.b.h sp).x/\Bd 32 (adS cL.b.h sp).y/\Bd 20 (adS cL.b.h sp).z:=⟨(Bd.add (dhc.bx.mul dp.bz) (dp.bx.mul dhc.bz)).fdiv _,(Bd.add (dhc.by'.mul dp.bz) (dp.by'.mul dhc.bz)).fdiv _,(dhc.bz.mul dp.bz).fdiv _⟩
  refine q r H6 (O++[⟨t4,cL.pw,rs,⟨cL.b.w,adS cL.b.h sp⟩⟩]) u (by rw[aj];exact e6) (λc hc=>?_) (Oth.last (k:=sp.z) (j:=10) (jw:=21) (jh:=32) (kz:=30) dw ln4 dp.z1 dp.bz ⋯ (λD D1 bD ow oh=>?_) dwc.z1 ae.z1 ⟨dwc.bx,dwc.by'⟩ ⟨ab.1,ab.2.1⟩ (dwc.bz.mul ab.2.2) ⋯ ⋯)
  .rcases aE.mp hc with h|h
   .exact(hA c (hO c h)).same u
   .rw[aq.mp h];exact⟨(s5.trans s6) _ _ e4,u _ _ acl.w,((s4.trans s5).trans s6) _ _ es⟩
  .have hp:=dp.so.scale bD;rw[av]at hp;exact⟨(ow.scale dp.bz).mono ⋯,(JL hR (oh.scale dp.bz) (hp.mono ⋯)).mono ⋯⟩
 exists if_d (λw3=>?_) (λw3=>?_)
 .exists yL ?_;exists Kq (k:=2) hA1 λpc H1 s1 e1=>?_;rw[<-h8]at e1;obtain⟨C3,hC3,m3⟩:∃C3,(O++[cL]).take 2=C3/\(∀c∈C3,c∈O++[cL]):=⟨_,rfl,λc hc=>bW hc⟩
  have l3:C3.length+((O++[cL]).drop 2).length=(O++[cL]).length:=by rw[<-hC3,<-ai,dW]
  rw[hC3]at e1;refine⟨pc,rfl,⟨_,SqL.of e1⟩,λG hG=>ya (K:=K) (a:=pc) (ys:=C3.map Cell.v) (λi xs σ' Hc=>E3 λ(v1 v2:Option V)(N:List Cell)=>A7 (σ'=[v1,v2]) (xs=N.map Cell.v) (N.length=i) ((∀c∈N,c.At Hc)) ((∀c∈N,Dw d c.b.w/\Dw d c.b.h)) (Hc G=some (.lst xs)) (SameX G H1 Hc)) ⟨none,none,[],rfl,rfl,rfl,λc hc=>absurd hc (!1),λc hc=>absurd hc (!1),zg,λb o e n=>by rw[zl n];exact e⟩ (λi xs σ' Hc _ z=>by obtain⟨_,_,_,_,_,_,_,_,_,z⟩:=z;exact SqL.of (z _ _ e1 (zb e1 hG))) ?_ ?_⟩
  .rintro i x xs σ' Hc hi ⟨v1,v2,N,rfl,rfl,hN,aN,dN,eG,sx⟩;have hi':=(af.mp hi).1;obtain⟨c,rfl,hc,hic⟩:=xX hi;have ac:c.At Hc:=⟨sx _ _ (s1 _ _ (hA c (m3 c hc)).t) (zb (s1 _ _ (hA c (m3 c hc)).t) hG),sx _ _ (s1 _ _ (hA c (m3 c hc)).w) (zb (s1 _ _ (hA c (m3 c hc)).w) hG),sx _ _ (s1 _ _ (hA c (m3 c hc)).h) (zb (s1 _ _ (hA c (m3 c hc)).h) hG)⟩
   have act:=ac.t;rw[aa]at hi';have hi4:i<=4:=by lia
   exists zt (!1) λt2 Hd s2 e2=>?_;refine zq (s2 _ _ eG) (by rw[aa];lia) λHe sxe ee=>?_;have eGd:=s2 _ _ eG;refine yx (by rw[aa];exact hi') ⟨_,_,N++[⟨t2,c.ph,c.pw,⟨c.b.h,c.b.w⟩⟩],rfl,by rw[aj];rfl,by rw[ai,hN];rfl,λy hy=>?_,λy hy=>?_,ee,(sx.trans (s2.sameX G)).trans sxe⟩
   .rcases aE.mp hy with h|h
    .exact((aN y h).same s2).sameX sxe eGd
    .rw[aq.mp h];exact Cell.At.sameX (c:=⟨t2,c.ph,c.pw,⟨c.b.h,c.b.w⟩⟩) ⟨e2,s2 _ _ ac.h,s2 _ _ ac.w⟩ sxe eGd
   .rcases aE.mp hy with h|h
    .exact dN y h
    .rw[aq.mp h];exact⟨(dw c (m3 c hc)).2,(dw c (m3 c hc)).1⟩
  rintro xs σ' Hb ⟨v1,v2,N,rfl,rfl,hN,aN,dN,eG,sx⟩;rw[aa]at hN;have sb:Same H1 Hb:=λb o e=>sx b o e (zb e hG);have s1b:=s1.trans sb;exists FT (i:=2) (s1b _ _ hA1) λp4 H4 s4 e4=>?_;rw[<-h9]at e4;exists ur (s4 _ _ eG) e4 (by rw[aa,aa];lia) λr H5 n5 s5 e5=>?_;have u:=(s1b.trans s4).trans s5;exists q r H5 (N++(O++[cL]).drop 2) u (by rw[aj];exact e5) (λc hc=>?_) (Oth.dw (λc hc=>?_) (by rw[ai];lia) (by rw[ai];lia))
  .rcases aE.mp hc with h|h
   .exact((aN c h).same s4).same s5
   .exact(hA c (dH h)).same u
  .rcases aE.mp hc with h|h
   .exact dN c h
   .exact dw c (dH h)
 have aw:H cL.pw=some (.tup [.int cL.b.w.x,.int cL.b.w.y,.int cL.b.w.z]):=acl.w;have ah:H cL.ph=some (.tup [.int cL.b.h.x,.int cL.b.h.y,.int cL.b.h.z]):=acl.h;have b1:=dwc.bx;have b2:=dwc.by';have b3:=dwc.bz;have b4:=dhc.bx;have b5:=dhc.by';have b6:=dhc.bz;have bz:Bd 20 (cL.b.w.z*cL.b.h.z):=b3.mul b6;have n1:1<=cL.b.w.z*cL.b.h.z:=aM (by have:=dwc.z1;lia) (by have:=dhc.z1;lia);have hd7:Bd 7 d:=zE (B:=99) (by have:=hR.lo;lia) hR.hi ⋯;have bA:Bd 50 (cL.b.w.x*cL.b.h.x+d*cL.b.w.y*cL.b.h.y):=(Bd.add (k:=49) ((b1.mul b4).mono ⋯) (((hd7.mul b2).mul b5).mono ⋯)).mono ⋯;have bB:Bd 50 (cL.b.w.x*cL.b.h.y+cL.b.w.y*cL.b.h.x):=(Bd.add (b1.mul b5) (b2.mul b4)).mono ⋯;have up:=Aq hR dwc.up dhc.up;exists xb hA1' (v:=.ref cL.p) (Bs _ _) ?_;walk_at"r";generalize cL.b.w.x*cL.b.h.x+d*cL.b.w.y*cL.b.h.y=a at*
 generalize cL.b.w.x*cL.b.h.y+cL.b.w.y*cL.b.h.x=b at*
 exists Bu hA1' λp1 H1 s1 e1=>?_;have aw1:=s1 _ _ aw;have ah1:=s1 _ _ ah;exists zC (!1) λt2 H2 n2 s2 e2=>?_;have aw2:=s2 _ _ aw1;have ah2:=s2 _ _ ah1;walk_at"r";generalize hk:cL.b.w.z*cL.b.h.z=k at*
 refine y8 rfl n1 (bz.mono ⋯) λrh H3 s3 e3=>?_;exists zC (!1) λt4 H4 n4 s4 e4=>?_;exists zB (!1) λl5 H5 n5 s5 e5=>?_;have s25:=((s2.trans s3).trans s4).trans s5;exists ur (s25 _ _ e1) e5 (by simp only[aa,au,aV];lia) λr H6 n6 s6 e6=>?_;have u:=(s1.trans s25).trans s6;walk_at"r";have soh:So d k 50 ⟨lA a b k,lB a b k,lN a b k⟩:=⟨l_n (!2),xj (!2),(yC hR n1).trans up,a,b,bA,bB,l_a,l_b⟩
 refine q r H6 (O++[⟨t4,t2,rh,⟨⟨1,0,1⟩,⟨lA a b k,lB a b k,lN a b k⟩⟩⟩]) u (by rw[aj];exact e6) (λc hc=>?_) (Oth.last (k:=k) (j:=20) (jw:=1) (jh:=50) (kz:=21) dw ln4 n1 bz ⋯ (λD D1 bD ow oh=>?_) (by show(1:Int)<=1;decide) soh.z1 ⟨(by show Bd 1 (1:Int);decide),(by show Bd 1 (0:Int);decide)⟩ ⟨bA.fdiv _,bB.fdiv _⟩ (by show Bd 21 (1*lN a b k);rw[gA];exact(bz.fdiv _).mono ⋯) ⋯ ⋯)
 .rcases aE.mp hc with h|h
  .exact(hA c (hO c h)).same u
  .rw[aq.mp h];exact⟨(s5.trans s6) _ _ e4,(((s3.trans s4).trans s5).trans s6) _ _ e2,((s4.trans s5).trans s6) _ _ e3⟩
 .have hp:=soh.scale bD;rw[av]at hp;exact⟨⟨by show(1:Int)<=1;decide,by show g3 1 0 1=1;decide,by show sgn d 1 0=1;rw[wO ⋯ ⋯];rfl,D*k,0,(bD.mul bz).mono ⋯,(zr 0).mono ⋯,by show 1*(D*k)=D*k*1;lia,by show 0*(D*k)=0*1;lia⟩,hp.mono ⋯⟩
theorem K60(F:Fun K "serving" "serving" S23 f fd)(B:Bl mg)(o14x:O14x P w K mg base)(o18x:Own P w K mg base 2 "common_bottom" ["lengths"] [] (P34 K))(o15x:O15x P w K mg base)(o4x:O4x P w K mg base)(o17x:O17x P w K mg base):FnOk P w K mg base CX0 5 f fd ["d","lengths"] (P61 K):=by
 refine F.okA C63 λcdv A outer s H vs Q E hr h=>?_;obtain@⟨d,p,L,k,rfl,hL,hR,hlen,hF,hNb,q⟩:=h;refine⟨_,(za (ps_s 2 C63.nd (ze o14x hr rfl (pa2 (pv 0) zd))) (za (zU PassesOwn.never rfl (zG (pv 1)) (pg_n 3 C63.nd) (za (ps_s 4 C63.nd (zo (pa3 (pit 3) (pit 3) zd))) (zc (xy PassesOwn.never (zk vZ (zp (Dx rfl) rfl B.min IG (pa1 (ze o17x hr rfl (pa3 (pv 0) (pv 2) (pv 4))))) zd (zm _)) (zc (ps_s 2 C63.nd (ze o15x hr rfl (pa2 (pv 0) (pv 2))))))))) (za (ps_s 5 C63.nd (ze o18x hr rfl (pa1 (pv 1)))) (zc (zi (yR D3 rfl B.tuple wX (pa1 (zR ["side"] [5] rfl (GQ (pv 2)) (λ_ _ _ _ _=>(pg_n 0 (show List.Nodup (α:=Str) ["side","bottom"] by decide+kernel))) (λ_ _ _ _ _=>zD) (λ_ _ _ _ _=>(ze o4x hr rfl (pa3 (pe_i (r:=rIxT K) zI (pv 0) zd) (pe_i (r:=rIxT K) zI (pv 0) zd) (pv 1)))))))))))),?_⟩;walk_at"s";obtain⟨N1,_,_⟩:=DR (IY hL.ok);obtain⟨ups,bds⟩:=Ij hL.ok;have gK:=Fst.gb hR ⋯ hF ups bds;exists wQ rfl ⋯ (!3) λp0 a1 a2 H1 s1 f1=>?_;exists yX ?_;exists⟨p,rfl,⟨_,SqL.of (hL.same s1).l⟩,z5 (K:=K) (a:=p) (xs:=L.map Ln.v) (λi σ H'=>E7 λ(pb r1 r2:Addr)(n:Nat)(v3 v4 v5:Option V)=>A4 (σ=[vI d,vR p,vR pb,v3,v4,v5]) (Same H1 H') (BsAt H' pb r1 r2 (st d n) 1) (Fst d ((L.take i).map Ln.u) n)) ⟨p0,a1,a2,0,_,_,_,rfl,Same.refl _,f1,λu hu=>absurd hu (!1),λn hn=>absurd hn (!2)⟩ (λi σ H' _ z'=>by obtain⟨_,_,_,_,_,_,_,_,s,_⟩:=z';exact SqL.of ((hL.same s1).same s).l) ?_ ?_⟩
 .rintro i y σ H' hi ⟨pb,r1,r2,n,v3,v4,v5,rfl,si,fb,hn⟩;obtain⟨c,rfl,hc,hic⟩:=Ko hi;have e0:H' c.p=some (.tup [.int c.s.x,.int c.s.y,.int c.s.z]):=si _ _ (s1 _ _ (hL.at' c hc));have ok:=hL.ok c hc;obtain⟨ups',bds'⟩:=Ij (HM hL.ok (i+1));obtain⟨M,hM⟩:=Gv hR ups';rw[A9 hic]at hM ups' bds';have ucM:c.u∈(L.take i).map Ln.u++[c.u]:=by simp
  have hnM:n<=M:=by refine Nat.not_lt.mp λz=>?_;obtain⟨u,hu,nu⟩:=hn.2 M z;exact nu (hM.1 u (cg _ hu))
  exists zt (!1) λt H2 s2 e2=>?_;obtain⟨o1,o2,o3⟩:=vG c.s.x c.s.y;have e2':H2 t=some (.tup [.int (lA c.s.x c.s.y 1),.int (lB c.s.x c.s.y 1),.int (lN c.s.x c.s.y 1)]):=by rw[o1,o2,o3];exact e2
  exists Eg (λm σ H'=>E4 λ(pb r1 r2:Addr)(n:Nat)=>A5 (σ=[vI d,vR p,vR pb,vR c.p,vR t,v5]) (Same H2 H') (BsAt H' pb r1 r2 (st d n) 1) (n+m=M) (∀u∈(L.take i).map Ln.u,(st d n).srv u.1 u.2)) ⟨M - n,pb,r1,r2,n,rfl,Same.refl _,fb.same s2,by lia,hn.1⟩ ?_;rintro m σ H3 ⟨pb,r1,r2,n,rfl,s3,fb,hm,hs⟩;have g:GB d 1500 (st d n):=(Fst.gb_le hR (k:=970) ⋯ hM (show n<=M by lia) ups' bds').mono ⋯;exists Bi fb (s3 _ _ e2') ⋯ (!3) g (ok.bx.mono ⋯) (ok.by'.mono ⋯) λr H4 s4 e4=>?_;exists J2 e4 λw hw w1 w2=>?_;have hw0:=Ik hw w1 w2;exists if_d (λcc=>?_) (λcc=>?_)
  .have ns:¬ (st d n).srv c.u.1 c.u.2:=hw0.mp cc;have lt:n<M:=by
    refine Nat.not_le.mp λz=>?_;exact ns (DQ (hM.1 c.u ucM) z)
   refine wgn ?_;exists vQ rfl (fb.same s4) hR ⋯ (!3) g λpb' r1' r2' H5 s5 f5=>?_;walk_at"r";exact⟨m - 1,by lia,pb',r1',r2',n+1,rfl,(s3.trans s4).trans s5,f5,by lia,λu hu=>Ga d (hs u hu)⟩
  .have sv:(st d n).srv c.u.1 c.u.2:=dG λz=>cc (hw0.mpr z);have all:∀u∈(L.take i).map Ln.u++[c.u],(st d n).srv u.1 u.2:=λu hu=>by
    rcases aE.mp hu with z|z
    .exact hs u z
    .have:u=c.u:=by simpa using z
     subst this;exact sv
   have eq:n=M:=by refine Nat.le_antisymm (!2) (Nat.not_lt.mp λz=>?_);obtain⟨u,hu,nu⟩:=hM.2 n z;exact nu (all u hu)
   exists⟨pb,r1,r2,n,_,_,_,rfl,((si.trans s2).trans s3).trans s4,fb.same s4,?_⟩;rw[A9 hic,eq];exact hM
 .rintro σ H' ⟨pb,r1,r2,n,v3,v4,v5,rfl,si,fb,hn⟩;rw[aa,aG]at hn;have en:=hn.unique (λ_=>Iff.rfl) hF;subst en;have q1:=gK.ba;have q2:=gK.bb;have q3:=gK.bc;have q4:=gK.be;have hL':=(hL.same s1).same si;exists vz rfl hL' hlen hNb ?_;have hNb8:Bd 8000 (cbs (L.map λc=>c.s.z)):=hNb.mono ⋯;generalize cbs (L.map λc=>c.s.z)=N at*
  obtain⟨o1,o2,o3⟩:=vG (st d n).a (st d n).b;obtain⟨o4,o5,o6⟩:=vG (st d n).c (st d n).e;obtain⟨f0,f1,f2⟩:=fb;rw[o1,o2,o3]at f1;rw[o4,o5,o6]at f2;exists EJ ?_;exists⟨pb,rfl,⟨_,SqT.of f0⟩,λD hD=>BY (K:=K) (a:=pb) (ys:=[.ref r1,.ref r2]) (λi xs σ' H2=>E1 λ(v:Option V)=>A4 (σ'=[v,vI N]) (H2 D=some (.lst xs)) (SameX D H' H2) (((i=0/\xs=[])\/(i=1/\∃q1,xs=[.ref q1]/\H2 q1=some (.tup [.int (lA (st d n).a (st d n).b N),.int (lB (st d n).a (st d n).b N),.int (lN (st d n).a (st d n).b N)]))\/(i=2/\∃q1 q2,xs=[.ref q1,.ref q2]/\H2 q1=some (.tup [.int (lA (st d n).a (st d n).b N),.int (lB (st d n).a (st d n).b N),.int (lN (st d n).a (st d n).b N)])/\H2 q2=some (.tup [.int (lA (st d n).c (st d n).e N),.int (lB (st d n).c (st d n).e N),.int (lN (st d n).c (st d n).e N)]))))) ⟨none,rfl,zg,λb o e n=>by rw[zl n];exact e,.inl ⟨rfl,rfl⟩⟩ (λi xs σ' H2 _ z=>by obtain⟨v,_,_,z,_⟩:=z;exact SqT.of (z _ _ f0 (zb f0 hD))) ?_ ?_⟩
  .rintro i x xs σ' H2 hi ⟨v,rfl,eD,sx,hx⟩;have k1:H2 r1=some (.tup [.int (st d n).a,.int (st d n).b,.int 1]):=sx _ _ f1 (zb f1 hD);have k2:H2 r2=some (.tup [.int (st d n).c,.int (st d n).e,.int 1]):=sx _ _ f2 (zb f2 hD);have hi':=(af.mp hi).1;rcases hx with⟨rfl,rfl⟩|⟨rfl,q1,rfl,hq1⟩|⟨rfl,_⟩
   .obtain rfl:V.ref r1=x:=aJ hi;exists yB rfl (!2) hNb8 λt H3 s3 e3=>?_;have eD3:=s3 _ _ eD;refine zq eD3 (!1) λH4 sx4 e4=>?_;exact yx hi' ⟨_,rfl,e4,(sx.trans (s3.sameX D)).trans sx4,.inr (.inl ⟨rfl,t,rfl,sx4.tup e3 eD3⟩)⟩
   .obtain rfl:V.ref r2=x:=aJ hi;exists yB rfl (!2) hNb8 λt H3 s3 e3=>?_;have eD3:=s3 _ _ eD;refine zq eD3 (!1) λH4 sx4 e4=>?_;exact yx hi' ⟨_,rfl,e4,(sx.trans (s3.sameX D)).trans sx4,.inr (.inr ⟨rfl,q1,t,rfl,sx4.tup (s3 _ _ hq1) eD3,sx4.tup e3 eD3⟩)⟩
   .exact absurd hi' (!1)
  .rintro xs σ' H2 ⟨v,rfl,eD,sx,hx⟩;rcases hx with⟨h0,_⟩|⟨h0,_⟩|⟨_,q1,q2,rfl,hq1,hq2⟩
   .exact absurd h0 (!1)
   .exact absurd h0 (!1)
   have sD:Same H' H2:=λb o e=>sx b o e (zb e hD);exists Jl eD λt H3 s3 e3=>?_;exact q t q1 q2 H3 (((s1.trans si).trans sD).trans s3) ⟨e3,s3 _ _ hq1,s3 _ _ hq2⟩
theorem K61(F:Fun K "normal_plan" "normal_plan" S25 f fd)(B:Bl mg)(o22x:Own P w K mg base 1 "gathering" ["pieces","unused"] [] P8)(o17x:O17x P w K mg base)(o20x:O20x P w K mg base):FnOk P w K mg base CX0 5 f fd ["d","heap","base"] P62:=by
 refine F.okA C64 λcdv A outer s H vs Q E hr h=>?_;obtain@⟨d,d',p,pb,r1,r2,s',N,D,px,py,C,hb,rfl,hl,hA,fb,hN,hNb,gb,hlen,h60,hd,hD,hP,okP,hc,q⟩:=h;refine⟨_,(za (ps_s 3 C64.nd (zP yq)) (za (ps_s 4 C64.nd (zP yq)) (za (ps_s 5 C64.nd (zP yq)) (za (ps_s 6 C64.nd (zp zx rfl B.len bS (pa1 (pv 1)))) (za (zU PassesOwn.never rfl (uF rfl B.enumerate (pa1 (pv 1))) (xZ (n:=2) rfl (zA (pg_n 7 C64.nd) (zA (pg_n 8 C64.nd) yP))) (za (ps_s 9 C64.nd (ze o17x hr rfl (pa3 (pv 0) (pv 2) (pit 8)))) (zc (zy (zk ye (pit 9) zd (zm _)) (zc (zZ (wC bJ bF bH zJ (pv 4) (pa1 (zo (pa2 (pv 7) (pit 9))))))) (zc (zy (zk ye (pit 9) zd (zm _)) (zc (zZ (wC bJ bF bH zJ (pv 5) (pa1 (zo (pa2 (pv 7) (pit 9))))))) (za (zZ (wC bJ bF bH zJ (pv 3) (pa1 (zo (pa3 zH (pv 7) (ze o20x hr rfl (pa3 (pv 0) (pit 9) (pit 2)))))))) (za (zZ (wC bJ bF bH zJ (pv 4) (pa1 (zo (pa2 (pv 6) (pit 9)))))) (za (zZ (wC bJ bF bH zJ (pv 5) (pa1 (zo (pa2 (zf zv (pv 6) zd) (pit 9)))))) (zc (ps_s 6 C64.nd (zf zv (pv 6) zd)))))))))))) (za (ps_s 10 C64.nd (ze o22x hr rfl (pa2 (pv 4) (pv 6)))) (zc (zi (zf wN (zf wN (pv 3) (pv 10)) (ze o22x hr rfl (pa2 (pv 5) (zf zv (pv 6) (zp zx rfl B.len bS (pa1 (pv 10))))))))))))))),?_⟩;walk_at"s";exists zB (!1) λDD H1 nD s1 e1=>?_;exists zB (!1) λFF H2 nF s2 e2=>?_;exists zB (!1) λOO H3 nO s3 e3=>?_;have z3:=(s1.trans s2).trans s3;have hl3:=z3 _ _ hl;have DF:DD≠FF:=zb e1 nF;have DO:DD≠OO:=zb (s2 _ _ e1) nO;have FO:FF≠OO:=zb e2 nO;have pD:p≠DD:=zb hl nD;have pF:p≠FF:=zb (s1 _ _ hl) nF;have pO:p≠OO:=zb ((s1.trans s2) _ _ hl) nO;exists Bw ?_;walk_at"r";rw[aa,hlen];refine⟨p,_,rfl,SqL.of hl3,wV (K:=K) (a:=p) (xs:=C.map Cell.v) (λt σ H'=>E6 λ(v1 v2 v3:Option V)(ps fs os:List Addr)=>A6 (σ=[vI d,vR p,vR pb,vR DD,vR FF,vR OO,vI ((np1 D px py hb.length hb t).u:Int),v1,v2,v3,none]) ((H' DD=some (.lst (ps.map V.ref))/\Runs H' ps (np1 D px py hb.length hb t).ds/\ps.length<=t)) ((H' FF=some (.lst (fs.map V.ref))/\PcAt H' fs (np1 D px py hb.length hb t).F/\fs.length<=t)) ((H' OO=some (.lst (os.map V.ref))/\PcAt H' os (np1 D px py hb.length hb t).O/\os.length<=t)) ((np1 D px py hb.length hb t).u<=hb.length+2*t) (∀b o,H3 b=some o->b≠DD->b≠FF->b≠OO->H' b=some o)) ⟨_,_,_,[],[],[],rfl,⟨s3 _ _ (s2 _ _ e1),⟨rfl,λi p x h=>by simp at h⟩,ak _⟩,⟨s3 _ _ e2,⟨rfl,λi p x h=>by simp at h⟩,ak _⟩,⟨e3,⟨rfl,λi p x h=>by simp at h⟩,ak _⟩,ak _,λb o e _ _ _=>e⟩ (λt σ H' _ z=>by obtain⟨_,_,_,_,_,_,_,_,_,_,_,z⟩:=z;exact SqL.of (z _ _ hl3 pD pF pO)) ?_ ?_⟩
 .rintro t x T σ H' ht hT ⟨v1,v2,v3,ps,fs,os,rfl,⟨eD,hrun,pl⟩,⟨eF,hF,fl⟩,⟨eO,hO,ol⟩,hu,fr⟩;obtain⟨c,rfl,hcm,htc⟩:=xX ht;have ht':t<hb.length:=by rw[<-hlen];exact(af.mp htc).1
  obtain⟨b,hbt⟩:∃b,hb[t]?=some b:=⟨_,ag ht'⟩
  obtain⟨X,Y,hw,bX,bY,hi,hj,bi⟩:=hc t c b htc hbt;have tk3:TupK H3 H':=λb xs e=>fr _ _ e (zX e (s3 _ _ (s2 _ _ e1)) (λz=>nomatch z)) (zX e (s3 _ _ e2) (λz=>nomatch z)) (zX e e3 (λz=>nomatch z));have eq:np1 D px py hb.length hb (t+1)=if b.j=0 then ⟨(np1 D px py hb.length hb t).ds,(np1 D px py hb.length hb t).F++[⟨t,b.i,b.x,b.y⟩],(np1 D px py hb.length hb t).O,(np1 D px py hb.length hb t).u⟩
   else if b.i=0 then ⟨(np1 D px py hb.length hb t).ds,(np1 D px py hb.length hb t).F,(np1 D px py hb.length hb t).O++[⟨t,b.j,b.x,b.y⟩],(np1 D px py hb.length hb t).u⟩
   else ⟨(np1 D px py hb.length hb t).ds++[(.cut false t (sdO D (px*b.i) (py*b.i)),t,t)],(np1 D px py hb.length hb t).F++[⟨(np1 D px py hb.length hb t).u,b.i,b.x,b.y⟩],(np1 D px py hb.length hb t).O++[⟨(np1 D px py hb.length hb t).u+1,b.j,b.x,b.y⟩],(np1 D px py hb.length hb t).u+2⟩:=by
   show(match hb[t]? with|none=>_|some b=>_)=_;rw[hbt]
  rw[eq];generalize np1 D px py hb.length hb t=r at*
  have tkT:TupK H' (upd H' T (.tup [.int (t:Int),.ref c.p])):=λb xs e=>by rw[zl (zb e hT)];exact e
  have sT:Same H' (upd H' T (.tup [.int (t:Int),.ref c.p])):=zF hT _;have eT:(upd H' T (.tup [.int (t:Int),.ref c.p])) T=some (.tup [.int (t:Int),.ref c.p]):=zg;generalize upd H' T (.tup [.int (t:Int),.ref c.p])=G at eT sT tkT ⊢;have tkG:TupK H3 G:=λb xs e=>tkT _ _ (tk3 _ _ e);have cA:=(hA c hcm).same z3;have ct:=tkG _ _ cA.t;have cw:G c.pw=some (.tup [.int (lA X Y N),.int (lB X Y N),.int (lN X Y N)]):=tkG _ _ (by have:=cA.w;rw[hw]at this;exact this);have fbG:BsAt G pb r1 r2 s' N:=⟨tkG _ _ (fb.same z3).t,tkG _ _ (fb.same z3).f,tkG _ _ (fb.same z3).g⟩
  exists Bi fbG cw hN hNb gb bX bY λr4 G1 t1 e4=>?_;rw[<-hi,<-hj]at e4;have sG1:=sT.trans t1;have eD1:=sG1 _ _ eD;have eF1:=sG1 _ _ eF;have eO1:=sG1 _ _ eO;exists if_d (λcj=>?_) (λcj=>?_)
  .rw[iU cj];exists zC (!1) λk1 G2 nk tk2 ek=>?_;have eF2:=tk2 _ _ (sG1 _ _ eF);exists zq eF2 (by rw[aa];lia) λG3 x3 e5=>?_;have s02:=sG1.trans tk2;have tkA:TupK H' G3:=λb xs e=>x3.tup (s02 _ _ e) eF2;exists⟨_,_,_,ps,fs++[k1],os,rfl,⟨x3 _ _ (s02 _ _ eD) DF,hrun.tk tkA,by lia⟩,⟨by rw[aj];exact e5,(hF.tk tkA).snoc (x3.tup ek eF2),by rw[ai];simp only[au,aV];lia⟩,⟨x3 _ _ (s02 _ _ eO) (cH FO),hO.tk tkA,by lia⟩,by show r.u<=_;lia,λb o e n1 n2 n3=>x3 _ _ (s02 _ _ (fr _ _ e n1 n2 n3)) n2⟩
  .rw[iV cj];exists if_d (λci=>?_) (λci=>?_)
   .rw[iU ci];exists zC (!1) λk1 G2 nk tk2 ek=>?_;have eO2:=tk2 _ _ (sG1 _ _ eO);exists zq eO2 (by rw[aa];lia) λG3 x3 e5=>?_;have s02:=sG1.trans tk2;have tkA:TupK H' G3:=λb xs e=>x3.tup (s02 _ _ e) eO2;exists⟨_,_,_,ps,fs,os++[k1],rfl,⟨x3 _ _ (s02 _ _ eD) DO,hrun.tk tkA,by lia⟩,⟨x3 _ _ (s02 _ _ eF) FO,hF.tk tkA,by lia⟩,⟨by rw[aj];exact e5,(hO.tk tkA).snoc (x3.tup ek eO2),by rw[ai];simp only[au,aV];lia⟩,by show r.u<=_;lia,λb o e n1 n2 n3=>x3 _ _ (s02 _ _ (fr _ _ e n1 n2 n3)) n3⟩
   .rw[iV ci];have bt1:=t1 _ _ fbG.t;have bf1:SdAt G1 r1 (bw1 s' N):=t1 _ _ fbG.f;exists xm rfl bf1 hd bi okP λra G2 t2 ea=>?_;rw[hP,Jw hD]at ea;have e42:=t2 _ _ e4;exists zC (!1) λk1 G3 nk t3 ek=>?_;have s03:=(sG1.trans t2).trans t3;have eD3:=s03 _ _ eD;have e43:=t3 _ _ e42;exists zq eD3 (by rw[aa];lia) λG4 x4 e5=>?_;have e44:=x4.tup e43 eD3;have ek4:DdAt G4 k1 (.cut false t (sdO D (px*b.i) (py*b.i))):=⟨ra,x4.tup ek eD3,x4.tup (t3 _ _ ea) eD3⟩
    have eF4:=x4 _ _ (s03 _ _ eF) (cH DF);exists zC (!1) λk2 G5 nk2 t5 ek2=>?_;have eF5:=t5 _ _ (x4 _ _ (s03 _ _ eF) (cH DF));have e45:=t5 _ _ e44;exists zq eF5 (by rw[aa];lia) λG6 x6 e7=>?_;have e46:=x6.tup e45 eF5;have eO6:=x6 _ _ (t5 _ _ (x4 _ _ (s03 _ _ eO) (cH DO))) (cH FO);exists zC (!1) λk3 G7 nk3 t7 ek3=>?_;have eO7:=t7 _ _ (x6 _ _ (t5 _ _ (x4 _ _ (s03 _ _ eO) (cH DO))) (cH FO));exists zq eO7 (by rw[aa];lia) λG8 x8 e9=>?_;have tkA:TupK H' G8:=λb xs e=>x8.tup (t7 _ _ (x6.tup (t5 _ _ (x4.tup (s03 _ _ e) eD3)) eF5)) eO7;have tkB:TupK G4 G8:=λb xs e=>x8.tup (t7 _ _ (x6.tup (t5 _ _ e) eF5)) eO7;have tkC:TupK G5 G8:=λb xs e=>x8.tup (t7 _ _ (x6.tup e eF5)) eO7;exists⟨_,_,_,ps++[k1],fs++[k2],os++[k3],by rw[show((r.u:Nat):Int)+2=((r.u+2:Nat):Int) by lia],⟨by rw[aj];exact x8 _ _ (t7 _ _ (x6 _ _ (t5 _ _ e5) DF)) DO,xn (hrun.tk tkA) (ek4.tk tkB),by rw[ai];simp only[au,aV];lia⟩,⟨by rw[aj];exact x8 _ _ (t7 _ _ e7) FO,(hF.tk tkA).snoc (tkC _ _ ek2),by rw[ai];simp only[au,aV];lia⟩,⟨by rw[aj];exact e9,(hO.tk tkA).snoc (x8.tup (by rw[show((r.u:Nat):Int)+1=((r.u+1:Nat):Int) by lia]at ek3;exact ek3) eO7),by rw[ai];simp only[au,aV];lia⟩,by show r.u+2<=_;lia,λb o e n1 n2 n3=>x8 _ _ (t7 _ _ (x6 _ _ (t5 _ _ (x4 _ _ (s03 _ _ (fr _ _ e n1 n2 n3)) n1)) n2)) n3⟩
 rintro σ H5 ⟨v1,v2,v3,ps,fs,os,rfl,⟨eD,hrun,pl⟩,⟨eF,hF,fl⟩,⟨eO,hO,ol⟩,hu,fr⟩;rw[aa,hlen]at hrun hF hO hu pl fl ol;rw[aa,hlen];have s05:Same H H5:=λb o e=>fr _ _ (z3 _ _ e) (zb e nD) (zb (s1 _ _ e) nF) (zb ((s1.trans s2) _ _ e) nO);have q':∀(r:Addr)(ps:List Addr)(H':Hp),Same H H'->H r=none->H' r=some (.lst (ps.map V.ref))->Runs H' ps (npl D px py hb)->Q (.ref r) H':=q;unfold npl at q';generalize np1 D px py hb.length hb hb.length=r at*
 have lF:=hF.1;have lO:=hO.1;have glF:=wB (u:=r.u) (pc:=r.F) (ak _);have glO:=wB (u:=r.u+(2*r.F.length - 1)) (pc:=r.O) (ak _);exists vt rfl eF hF (!2) (!2) λra pa G1 t1 na ea hra=>?_;have lpa:pa.length=2*r.F.length - 1:=hra.1.trans glF;exists IZ (t1 _ _ eD) ea (by simp only[aa];lia) λo2 G2 t2 e2'=>?_;have eO2:=(t1.trans t2) _ _ eO;have ea2:=t2 _ _ ea;walk_at"r";have hlen2:((r.u:Nat):Int)+(((pa.map V.ref).length:Nat):Int)=((r.u+(2*r.F.length - 1):Nat):Int):=by rw[aa,lpa];lia
 rw[hlen2];refine vt rfl eO2 (hO.tk λb xs e=>(t1.trans t2) _ _ e) (!2) (!2) λrb pb' G3 t3 nb eb hrb=>?_;have lpb:pb'.length=2*r.O.length - 1:=hrb.1.trans glO;exists ur (t3 _ _ e2') eb (by simp only[ai,aa];lia) λo4 G4 n4 t4 e4=>?_;refine q' o4 (ps++(pa++pb')) G4 (((s05.trans t1).trans t2).trans (t3.trans t4)) (Same.nn (((s05.trans t1).trans t2).trans t3) n4) (by rw[e4];simp only[aj,bR]) ?_;exact BV ((((hrun.same t1).same t2).same t3).same t4) (BV (((hra.same t2).same t3).same t4) (hrb.same t4))
theorem K62(F:Fun K "table" "table" S46 f fd)(B:Bl mg)(g_EMPTY:TopE K mg "EMPTY")(o45x:O45x P w K mg base)(o43x:Own P w K mg base 4 "board_table" ["one"] [] P59):FnOk P w K mg base CX0 5 f fd ["heap"] (P63 K):=by
 obtain⟨a_EMPTY,m_EMPTY,q_EMPTY⟩:=g_EMPTY;refine F.okA C65 λcdv A outer s H vs Q E hr h=>?_;obtain@⟨p,L,rfl,h1,hA,ok0,hbt,ln,q⟩:=h;refine⟨_,(za (ps_s 1 C65.nd (yf (v:=.ref a_EMPTY) rfl m_EMPTY rfl)) (za (zU PassesOwn.never rfl (zG (pv 0)) (pg_n 2 C65.nd) (zc (ps_s 1 C65.nd (ze o45x hr rfl (pa2 (pv 1) (ze o43x hr rfl (pa1 (pv 2)))))))) (zc (zi (pv 1))))),?_⟩;walk_at"s";exists yX ?_;exists⟨p,rfl,⟨_,SqL.of h1⟩,z5 (K:=K) (a:=p) (xs:=L.map Cell.v) (λi σ H'=>E2 λ(r:Addr)(v:Option V)=>A4 (σ=[vR p,vR r,v]) (Same H H') ((∃r0 r1 f0 f1 f2 f3:Addr,TbS K H' r r0 r1 f0 f1 f2 f3 (tbs ((L.take i).map Cell.b)))) ((0<i->TbAt H' r (tbs ((L.take i).map Cell.b))))) ⟨a_EMPTY,_,rfl,Same.refl _,q_EMPTY H,λz=>absurd z ⋯⟩ (λi σ H' _ z'=>by obtain⟨_,_,_,s,_⟩:=z';exact SqL.of (s _ _ h1)) ?_ ?_⟩
 .rintro i t σ H' hi ⟨r,v,rfl,s,⟨r0,r1,f0,f1,f2,f3,hT⟩,_⟩;obtain⟨c,rfl,hc,hci⟩:=xX hi;have hi':=(af.mp hi).1;rw[aa]at hi';have bt:=hbt i hi';have sk:=ok0 c hc;have bc:=S19.tb sk;exists uD rfl ((hA c hc).same s) sk λr2 H2 s2 e2=>?_;exists wy rfl ⟨r0,r1,f0,f1,f2,f3,hT.same s2⟩ e2 bt bc λr3 H3 s3 e3=>?_;have e3:=e3.eq (u:=tbs ((L.take (i+1)).map Cell.b)) (by rw[CD hci,FH]);exists⟨r3,_,rfl,(s.trans s2).trans s3,?_,λ_=>e3⟩;obtain⟨r0,r1,f0,f1,f2,f3,e3⟩:=e3;exact⟨r0,r1,f0,f1,f2,f3,e3.s⟩
 .rintro σ H' ⟨r,v,rfl,s,_,hT⟩;rw[aa]at hT;have hpos:0<L.length:=by lia
  have hT:=hT hpos;rw[aG]at hT;walk_at"r";exact q r H' s hT
theorem K63(F:Fun K "plain_within" "plain_within" S52 f fd)(B:Bl mg)(g_ONE:TopT K mg "ONE" [.int 1,.int 0,.int 1])(o13x:Own P w K mg base 2 "floor_of" ["d","one"] [] P32)(o10x:O10x P w K mg base):FnOk P w K mg base CX0 5 f fd ["d","one"] (P64 K):=by
 obtain⟨a_ONE,m_ONE,q_ONE⟩:=g_ONE;refine F.okA C66 λcdv A outer s H vs Q E hr h=>?_;obtain@⟨R,p,s,u,v,t,k,ku,rfl,hs,lw,up,bs,hk,hu,hv,q⟩:=h;refine⟨_,(za (ps_s 2 C66.nd (ze o13x hr rfl (pa2 (pv 0) (pv 1)))) (za (zy (zk wa (pv 2) zd (zm _)) (zc (zi (zo (pa3 (pv 2) zd zd)))) zn) (zc (zi (zo (pa3 zd zd (zf zv (ze o13x hr rfl (pa2 (pv 0) (ze o10x hr rfl (pa3 (pv 0) (yf (v:=.ref a_ONE) rfl m_ONE rfl) (pv 1))))) zd))))))),?_⟩;walk_at"s";obtain⟨z1,g1⟩:=lw;obtain⟨bx,bY,bz⟩:=bs;obtain⟨t1,bu,bv,k19,bt⟩:=hu;have hs':H p=some (.tup [.int s.x,.int s.y,.int s.z]):=hs;have hd:Bd 64 R.d:=zE (B:=99) (by have:=R.h.lo;lia) R.h.hi (!3);exists uz hs' ⟨R.h.lo,R.h.hi⟩ z1 (bx.mono (!2)) (bY.mono (!2)) (bz.mono ⋯) λr r0 r1 r2=>?_;have f:=Qd.floor (R:=R) (x:=s.x) z1 r0 r1 r2;generalize (s.x+rpart s.y r) / s.z=n at*
 clear r1 r2 r0 r;exists if_d (λc=>?_) (λc=>?_)
 .exists zt (!1) λr1 H1 s1 e1=>?_;exact q r1 ⟨n,0,1⟩ H1 s1 e1 (Qd.pw_whole z1 bx bY (!2) f)
 have nN:=Qd.nN (R:=R) (t:=s) up;have us:0<Sdv R s:=(Qd.v_ps z1).mpr up;exists vd rfl (s:=⟨1,0,1⟩) (q_ONE H) hs hd ⟨(zr 1).mono ⋯,(zr 0).mono ⋯,(zr 1).mono ⋯⟩ ⟨bx.mono hk,bY.mono hk,bz⟩ ⋯ nN (Qd.ne0 up) λr1 H1 s1 e1=>?_;have lf:=Qd.pt_lw (R:=R) (s:=⟨1,0,1⟩) (t:=s) ⋯ nN;have ef:=Qd.pt_v (R:=R) (s:=⟨1,0,1⟩) (t:=s) ⋯ (!2) nN;have e1':Sdv R ⟨1,0,1⟩=1:=by have:=Qd.v_mul (R:=R) (s:=⟨1,0,1⟩) ⋯;rw[show(((⟨1,0,1⟩:Sd).z:Int):Qd R)=1 from Qd.c_one,Qd.of_0,Qd.c_one]at this;grind
 rw[e1']at ef;generalize ptV R.d ⟨1,0,1⟩ s=f' at*
 have eu:Sdv R f'*(t:Qd R)=Qd.of R u v:=by rw[<-hv];grind
 obtain⟨o1,o2,o3,_⟩:=Qd.low_bd lf (!2) eu;have bf1:=o1 bu;have bf2:=o2 bv;have bf3:=Bd.dvd_le bt t1 o3;have e1':H1 r1=some (.tup [.int f'.x,.int f'.y,.int f'.z]):=e1;exists uz e1' ⟨R.h.lo,R.h.hi⟩ lf.1 (bf1.mono (!2)) (bf2.mono (!2)) (bf3.mono ⋯) λr r0 r1 r2=>?_;have fm:=Qd.floor (R:=R) (x:=f'.x) lf.1 r0 r1 r2;generalize (f'.x+rpart f'.y r) / f'.z=m at*
 rw[<-Qd.v_mul (show f'.z≠0 by have:=lf.1;lia)]at fm;have pz:=Qd.c_ps (R:=R) lf.1;have fm':(m:Qd R)<=Sdv R f'/\Sdv R f'<(m:Qd R)+1:=⟨Qd.le_of_mul pz fm.1,Qd.lt_of_mul (bL pz) fm.2⟩
 have bm:Bd 2000 m:=(Qd.part_bd us ef t1 eu bu bv fm').mono (!2);exists zt (!1) λr3 H3 s3 e3=>?_;exact q r3 ⟨1,0,m+1⟩ H3 (s1.trans s3) e3 (Qd.pw_part (n:=n) z1 us (!2) f.2 (Sdv R f') ef t1 eu bu bv fm')
theorem K64(F:Fun K "put_by" "Yard.put_by" S73 f fd)(B:Bl mg)(X:Xs K mg cs)(o28x:Own P w K mg base 4 "cut_across" ["d","one","at"] [] P58)(o27x:Own P w K mg base 1 "turned" ["one"] [] P11)(o29x:Own P w K mg base 3 "glued_beside" ["one","other"] [] P48)(o30x:Own P w K mg base 3 "stacked" ["one","many"] [] P49):FnOk P w K mg base CX0 5 f fd ["self","deed","boards"] (P65 cs):=by
 refine F.okA C67 λcdv A outer s H vs Q E hr h=>?_;obtain@⟨y,d,tn,cl,ns,lg,p,a,e,c,c',rfl,hy,he,ha,hc,hc',hd,hf,q⟩:=h;refine⟨_,(za (ps_s 3 C67.nd (pit 1)) (za (zy (zk ye (pv 3) zH (zm _)) (zc (zi (ze o28x hr rfl (pa3 (yd (K:=K) rfl (pv 0) rfl) (pil 2) (pit 1))))) zn) (za (zy (zk ye (pv 3) zH (zm _)) (zc (zi (zR ["one"] [] rfl (zG (ze o28x hr rfl (pa3 (yd (K:=K) rfl (pv 0) rfl) (ze o27x hr rfl (pa1 (pil 2))) (pit 1)))) (λ_ _ _ _ _=>(pg_n 0 (show List.Nodup (α:=Str) ["one"] by decide+kernel))) (λ_ _ _ _ _=>zD) (λ_ _ _ _ _=>(ze o27x hr rfl (pa1 (pv 0))))))) zn) (za (zy (zk ye (pv 3) zH (zm _)) (zc (zi (zP (pa1 (ze o29x hr rfl (pa2 (pil 2) (pil 2))))))) zn) (za (zy (zk ye (pv 3) zH (zm _)) (zc (zi (zP (pa1 (ze o27x hr rfl (pa1 (ze o29x hr rfl (pa2 (ze o27x hr rfl (pa1 (pil 2))) (ze o27x hr rfl (pa1 (pil 2))))))))))) zn) (za (zy (zk ye (pv 3) zH (zm _)) (zc (zi (zP (pa1 (ze o30x hr rfl (pa2 (pil 2) (pit 1))))))) zn) (za (zy (zk ye (pv 3) zH (zm _)) (zc (zi (zP (pa1 (ze o27x hr rfl (pa1 (ze o30x hr rfl (pa2 (ze o27x hr rfl (pa1 (pil 2))) (pit 1))))))))) zn) (zc (zi (zP (pa1 (ze o27x hr rfl (pa1 (pil 2)))))))))))))),?_⟩;walk_at"s";cases e with
 |cut al n s =>
  obtain⟨pq,h0,hs⟩:=he;cases al with
  |false =>
   have h0:H p=some (.tup [.str (Str.ofString "across"),.int n,.ref pq]):=h0;have ha:H a=some (.lst [.ref c.p]):=ha;exists if_d (λ_=>?_) (λc=>absurd rfl c);walk_at"r";obtain⟨f1,f2,f3,f4⟩:=hf;refine⟨_,_,_,_,_,rfl,hy.o,X.c_Yard,X.n_Yard_root,rfl,?_⟩;exists wJ rfl hc hs hd f1 f2 f3 f4 λr c1 c2 H1 s1 hr e1 a1 a2 b1 b2=>?_;refine q r [c1,c2] H1 s1 hr e1 (λx hx=>?_) ?_
   .rcases aW.mp hx with rfl|hx
    .exact a1
    .rw[aq.mp hx];exact a2
   .show [c1.b,c2.b]=_;rw[b1,b2];rfl
  |true =>
   have h0:H p=some (.tup [.str (Str.ofString "along"),.int n,.ref pq]):=h0;have ha:H a=some (.lst [.ref c.p]):=ha;exists ifn ?_;exists if_d (λ_=>?_) (λc=>absurd rfl c);walk_at"r";obtain⟨f1,f2,f3,f4⟩:=hf;refine yL ?_;exists⟨_,_,_,_,_,rfl,hy.o,X.c_Yard,X.n_Yard_root,rfl,?_⟩;exists yK rfl hc λr1 H1 s1 nr1 a1=>?_;have h01:=s1 _ _ h0;exists wJ rfl a1 (s1 _ _ hs) hd f1 f2 f3 f4 λr c1 c2 H2 s2 hr e2 a2 a3 b1 b2=>?_;have t2:=s1.trans s2;have hat:∀x∈[c1,c2],x.At H2:=λx hx=>by
    rcases aW.mp hx with rfl|hx
    .exact a2
    .rw[aq.mp hx];exact a3
   refine⟨r,rfl,⟨_,SqL.of e2⟩,λD hD=>ya (K:=K) (a:=r) (ys:=[c1,c2].map Cell.v) (λi xs σ' H'=>E2 λ(v:Option V)(N:List Cell)=>A7 (σ'=[v]) (xs=N.map Cell.v) (H' D=some (.lst xs)) (SameX D H2 H') ((∀x∈N,x.At H')) (N.length=i) (N.map Cell.b=([c1,c2].take i).map (λx=>⟨x.b.h,x.b.w⟩))) ⟨none,[],rfl,rfl,zg,λb o e n=>by rw[zl n];exact e,λx hx=>absurd hx (!1),rfl,rfl⟩ (λi xs σ' H' _ z=>by obtain⟨v,N,_,_,_,z,_⟩:=z;exact SqL.of (z _ _ e2 (zb e2 hD))) ?_ ?_⟩
   .rintro i x xs σ' H' hi ⟨v,N,rfl,rfl,eD,sx,hN,hl,hb⟩;rw[ao]at hi;obtain⟨cx,hcx,rfl⟩:=aB.mp hi;have hi3:=(af.mp hcx).1;have s':Same H2 H':=λb o e=>sx b o e (zb e hD);exists yK rfl ((hat cx (ay hcx)).same s') λr3 H3 s3 nr3 a3=>?_;exists zq (s3 _ _ eD) (by rw[aa,hl];simp only[au,aV]at hi3;lia) λH4 x4 e4=>?_;refine yx hi3 ⟨_,N++[⟨r3,cx.ph,cx.pw,⟨cx.b.h,cx.b.w⟩⟩],rfl,rfl,by rw[aj];exact e4,sx.trans ((SameX.of s3).trans x4),λx hx=>?_,by rw[ai,hl];rfl,?_⟩
    .rcases aE.mp hx with hx|hx
     .exact((hN x hx).same s3).sameX x4 (s3 _ _ eD)
     .rw[aq.mp hx];exact a3.sameX x4 (s3 _ _ eD)
    .rw[bQ,hcx,aj,aj,hb];rfl
   .rintro xs σ' H' ⟨v,N,rfl,rfl,eD,sx,hN,hl,hb⟩;have s':Same H2 H':=λb o e=>sx b o e (zb e hD);exists q D N H' (t2.trans s') (Same.nn t2 hD) eD hN ?_;rw[hb];show [(⟨c1.b.h,c1.b.w⟩:Bo),⟨c2.b.h,c2.b.w⟩]=_;rw[b1,b2];rfl
 |glue al n m =>
  have h0:=he;cases al with
  |false =>
   have h0:H p=some (.tup [.str (Str.ofString "beside"),.int n,.int m]):=h0;have ha:H a=some (.lst [.ref c.p,.ref c'.p]):=ha;exists ifn ?_;exists ifn ?_;exists if_d (λ_=>?_) (λc=>absurd rfl c);exists xG rfl hc hc' hf.1 hf.2.1 hf.2.2 λc1 H1 s1 n1 a1 hb=>?_;exists zB (!1) λr HL nr sL eL=>?_;refine q r [c1] HL (Same.trans s1 sL) (Same.nn s1 nr) eL (λx hx=>?_) ?_
   .rw[aq.mp hx];exact a1.same sL
   .exact congrArg (λz=>[z]) hb
  |true =>
   have h0:H p=some (.tup [.str (Str.ofString "atop"),.int n,.int m]):=h0;have ha:H a=some (.lst [.ref c.p,.ref c'.p]):=ha;exists ifn ?_;exists ifn ?_;exists ifn ?_;exists if_d (λ_=>?_) (λc=>absurd rfl c);exists yK rfl hc λr1 H1 s1 nr1 a1=>?_;have ha1:=s1 _ _ ha;exists yK rfl (hc'.same s1) λr2 H2 s2 nr2 a2=>?_;exists xG rfl (a1.same s2) a2 hf.1 hf.2.1 hf.2.2 λc1 H3 s3 n3 a3 hb=>?_;exists yK rfl a3 λr4 H4 s4 nr4 a4=>?_;replace hb:(⟨c1.b.h,c1.b.w⟩:Bo)=⟨c.b.w,adS c.b.h c'.b.h⟩:=by rw[hb]
   exists zB (!1) λr HL nr sL eL=>?_;refine q r [⟨r4,c1.ph,c1.pw,⟨c1.b.h,c1.b.w⟩⟩] HL (Same.trans (((s1.trans s2).trans s3).trans s4) sL) (Same.nn (((s1.trans s2).trans s3).trans s4) nr) eL (λx hx=>?_) ?_
   .rw[aq.mp hx];exact a4.same sL
   .exact congrArg (λz=>[z]) hb
 |shift al n k =>
  have h0:=he;cases al with
  |false =>
   have h0:H p=some (.tup [.str (Str.ofString "stack"),.int n,.int k]):=h0;have ha:H a=some (.lst [.ref c.p]):=ha;exists ifn ?_;exists ifn ?_;exists ifn ?_;exists ifn ?_;exists if_d (λ_=>?_) (λc=>absurd rfl c);exists Ab rfl hc hf.1 hf.2.1 hf.2.2.1 hf.2.2.2 λc1 H1 s1 n1 a1 hb=>?_;exists zB (!1) λr HL nr sL eL=>?_;refine q r [c1] HL (Same.trans s1 sL) (Same.nn s1 nr) eL (λx hx=>?_) ?_
   .rw[aq.mp hx];exact a1.same sL
   .exact congrArg (λz=>[z]) hb
  |true =>
   have h0:H p=some (.tup [.str (Str.ofString "spread"),.int n,.int k]):=h0;have ha:H a=some (.lst [.ref c.p]):=ha;exists ifn ?_;exists ifn ?_;exists ifn ?_;exists ifn ?_;exists ifn ?_;exists if_d (λ_=>?_) (λc=>absurd rfl c);exists yK rfl hc λr1 H1 s1 nr1 a1=>?_;have h01:=s1 _ _ h0;exists Ab rfl a1 hf.1 hf.2.1 hf.2.2.2 hf.2.2.1 λc1 H3 s3 n3 a3 hb=>?_;exists yK rfl a3 λr4 H4 s4 nr4 a4=>?_;replace hb:(⟨c1.b.h,c1.b.w⟩:Bo)=⟨shS c.b.w k 1,shS c.b.h 1 k⟩:=by rw[hb]
   exists zB (!1) λr HL nr sL eL=>?_;refine q r [⟨r4,c1.ph,c1.pw,⟨c1.b.h,c1.b.w⟩⟩] HL (Same.trans ((s1.trans s3).trans s4) sL) (Same.nn ((s1.trans s3).trans s4) nr) eL (λx hx=>?_) ?_
   .rw[aq.mp hx];exact a4.same sL
   .exact congrArg (λz=>[z]) hb
 |turn n =>
  have h0:=he;have h0:H p=some (.tup [.str (Str.ofString "turn"),.int n]):=h0;have ha:H a=some (.lst [.ref c.p]):=ha;exists ifn ?_;exists ifn ?_;exists ifn ?_;exists ifn ?_;exists ifn ?_;exists ifn ?_;exists yK rfl hc λr1 H1 s1 nr1 a1=>?_;have hb:(⟨c.b.h,c.b.w⟩:Bo)=⟨c.b.h,c.b.w⟩:=rfl;exists zB (!1) λr HL nr sL eL=>?_;refine q r [⟨r1,c.ph,c.pw,⟨c.b.h,c.b.w⟩⟩] HL (Same.trans s1 sL) (Same.nn s1 nr) eL (λx hx=>?_) ?_
  .rw[aq.mp hx];exact a1.same sL
  .exact congrArg (λz=>[z]) hb
set_option tactic.hygienic true in
theorem K65(F:Fun K "piece_to_turn" "piece_to_turn" S53 f fd)(B:Bl mg)(o48x:Own P w K mg base 5 "plain_within" ["d","one"] [] (P64 K))(o14x:O14x P w K mg base)(o10x:O10x P w K mg base)(o12x:O12x P w K mg base)(o15x:O15x P w K mg base)(o9x:O9x P w K mg base)(o20x:O20x P w K mg base):FnOk P w K mg base CX0 6 f fd ["d","one","gap"] (P66 K):=by
 refine F.okA C68 λcdv A outer s H vs Q E hr h=>?_;obtain@⟨R,c,pg,g,rfl,hc,hg,lw,up,bw,bh,bg,g0,q⟩:=h;refine⟨_,(za (ps_s 3 C68.nd (zo (pa3 (zp wo rfl B.abs Bp (pa1 (pit 2))) zd (pit 2)))) (za (ps_s 4 C68.nd (ze o48x hr rfl (pa2 (pv 0) (ze o10x hr rfl (pa3 (pv 0) (ze o9x hr rfl (pa3 (pv 0) (pit 1) (pit 1))) (ze o20x hr rfl (pa3 (pv 0) zd (pv 3)))))))) (za (ps_s 5 C68.nd (ze o14x hr rfl (pa2 (pv 0) zd))) (za (xy PassesOwn.never (yJ (yp (ze o12x hr rfl (pa3 (pv 0) (ze o9x hr rfl (pa3 (pv 0) (pit 5) (pit 5))) (pv 4))))) (zc (ps_s 5 C68.nd (ze o15x hr rfl (pa2 (pv 0) (pv 5)))))) (za (ps_s 6 C68.nd (wW (zk wa (pit 2) zd (zm _)) (pv 5) (zo (pa2 (pit 5) (pit 5))))) (za (ps_s 7 C68.nd (ze o48x hr rfl (pa2 (pv 0) (ze o10x hr rfl (pa3 (pv 0) (pit 1) (ze o20x hr rfl (pa3 (pv 0) zd (pit 6)))))))) (zc (zi (zo (pa2 (ze o9x hr rfl (pa3 (pv 0) (pv 7) (pit 6))) (ze o9x hr rfl (pa3 (pv 0) (ze o10x hr rfl (pa3 (pv 0) (pv 3) (pv 7))) (pit 6))))))))))))),?_⟩;walk_at"s";obtain⟨lww,lwh⟩:=lw;obtain⟨uw,uh⟩:=up;obtain⟨bwx,bwy,bwz⟩:=bw;obtain⟨bhx,bhy,bhz⟩:=bh;obtain⟨bG,bn⟩:=bg;have hd:Bd 64 R.d:=zE (B:=99) (by have:=R.h.lo;lia) R.h.hi (!3);have hd7:Bd 7 R.d:=zE (B:=99) (by have:=R.h.lo;lia) R.h.hi (!3);obtain⟨ct,cw,ch⟩:H c.p=some (.tup [.ref c.pw,.ref c.ph])/\H c.pw=some (.tup [.int c.b.w.x,.int c.b.w.y,.int c.b.w.z])/\H c.ph=some (.tup [.int c.b.h.x,.int c.b.h.y,.int c.b.h.z]):=⟨hc.t,hc.w,hc.h⟩
 have hg':H pg=some (.tup [.int g.num,.int (g.den:Int)]):=hg;have n1:(1:Int)<=(g.den:Int):=by have:=g.den_pos;lia
 have bA:Bd 240 (if g.num<0 then -g.num else g.num):=bG.abs;have Gn:(if g.num<0 then -g.num else g.num)=g.num.natAbs:=by split<;>lia
 have cop:Nat.Coprime g.num.natAbs g.den:=g.reduced;have uw':=(Qd.v_ps lww.1).mpr uw;have uh':=(Qd.v_ps lwh.1).mpr uh;walk_at"r";generalize (if g.num<0 then -g.num else g.num)=G at*
 have G1:1<=G:=by lia
 generalize hn:(g.den:Int)=n at*
 have g31:g3 G 0 n=1:=by unfold g3;rw[gP,cr,Gn,<-hn,dn];exact cop
 refine zt (!1) λps H1 s1 e1=>?_;have ct1:=s1 _ _ ct;obtain⟨fN,f0,lo1,up1,bx1,by1,bz1,ev1,u1,v1,t1,t11,bu1,bv1,bt1,et1⟩:=Qd.rm (R:=R) lww lwh uw' uh' bwx bwy bwz bhx bhy bhz G1 n1 bA bn;obtain⟨ax,aY,az⟩:=Qd.tm_bd (R:=R) bwx bwy bwz bhx bhy bhz;have ma:(tmV R.d c.b.w c.b.h).z≠0:=by have:=(Qd.tm_lw (d:=R.d) (s:=c.b.w) (t:=c.b.h) (by have:=lww.1;lia) (by have:=lwh.1;lia)).1;lia
 obtain⟨fb1,fb2,fb3⟩:=Qd.tmS_bd (m:=4) (s:=⟨G,0,n⟩) (zr 4) bA ((zr 0).mono ⋯) bn;have fb:Bd 900 (tmS 4 ⟨G,0,n⟩).x/\Bd 900 (tmS 4 ⟨G,0,n⟩).y/\Bd 900 (tmS 4 ⟨G,0,n⟩).z:=⟨fb1.mono ⋯,fb2.mono ⋯,fb3.mono ⋯⟩
 exists vP (K:=K) (s1 _ _ cw) (s1 _ _ ch) hd (bwx.mono ⋯) (bwy.mono ⋯) (bwz.mono ⋯) (bhx.mono ⋯) (bhy.mono ⋯) (bhz.mono ⋯) (by have:=lww.1;lia) (by have:=lwh.1;lia) λpa H2 s2 e2=>?_;exists xm rfl (s:=⟨G,0,n⟩) (s2 _ _ e1) hd ((zr 4).mono ⋯) ⟨n1,g31,bA.mono ⋯,(zr 0).mono ⋯,bn.mono ⋯⟩ λp4 H3 s3 e3=>?_;exists vd rfl (s:=tmV R.d c.b.w c.b.h) (SqT.of (s3 _ _ e2)) e3 hd ⟨ax.mono ⋯,aY.mono ⋯,az.mono ⋯⟩ fb ma fN f0 λp5 H4 s4 e4=>?_;generalize ptV R.d (tmV R.d c.b.w c.b.h) (tmS 4 ⟨G,0,n⟩)=o1 at*
 exists xK rfl (k:=233) (ku:=313) e4 lo1 up1 ⟨bx1,by1,bz1.mono ⋯⟩ ⋯ ⟨t11,bu1,bv1,by decide,bt1.mono ⋯⟩ et1 λpr room H5 s5 e5 P1=>?_;have o10:0<Sdv R o1:=(Qd.v_ps lo1.1).mpr up1;have r0:=Qd.pw_ps P1 o10;obtain⟨N,N1,bN,hN⟩:=Qd.room_N P1;obtain⟨σ0,τ0,er,g01,t01,bst0⟩:=Qd.pw_st P1;have er1:H5 pr=some (.tup [.int room.x,.int room.y,.int room.z]):=e5;have br:Bd 1500 room.x/\Bd 1500 room.y/\Bd 1500 room.z/\1<=room.z:=by
  rw[er];rcases bst0 with⟨h1,h2⟩|⟨h1,h2⟩
  .exact⟨h1.mono ⋯,(zr 0).mono ⋯,by rw[h2];exact(zr 1).mono ⋯,t01⟩
  .exact⟨by rw[h1];exact(zr 1).mono ⋯,(zr 0).mono ⋯,h2.mono ⋯,t01⟩
 obtain⟨br1,br2,br3,br4⟩:=br;exists wQ rfl ⋯ (!3) λp0 a1 a2 H6 s6 f6=>?_;exists Eg (λm σ H'=>E4 λ(pb r1 r2:Addr)(k:Nat)=>A5 (σ=[vI R.d,vR c.p,vR pg,vR ps,vR pr,vR pb,none,none]) (Same H6 H') (BsAt H' pb r1 r2 (st R.d k) 1) (GB R.d 325 (st R.d k)) ((m:Int)+(((st R.d k).b - (st R.d k).a)+((st R.d k).c - (st R.d k).e))=4*2 ^ 325)) ⟨(4*2 ^ 325 - 2:Int).toNat,p0,a1,a2,0,rfl,Same.refl _,f6,(w8 R.d).mono ⋯,by show(((4*2 ^ 325 - 2:Int).toNat:Nat):Int)+((1 - 0)+(1 - 0):Int)=4*2 ^ 325;decide+kernel⟩ ?_;rintro m σ H7 ⟨pb,r1,r2,k,rfl,s7,f7,g7,hm⟩;obtain⟨o1',o2',o3'⟩:=vG (st R.d k).a (st R.d k).b;obtain⟨o4',o5',o6'⟩:=vG (st R.d k).c (st R.d k).e;obtain⟨j0,j1,j2⟩:=id f7;rw[o1',o2',o3']at j1;rw[o4',o5',o6']at j2;have pq0:=Qd.of_ps (R:=R) g7.p1;have qq0:=Qd.of_ps (R:=R) g7.q1;have z1':∀x y:Int,(⟨x,y,1⟩:Sd).z≠0:=λx y=>by show(1:Int)≠0;decide
 have tl:=Qd.tm_lw (d:=R.d) (z1' (st R.d k).a (st R.d k).b) (z1' (st R.d k).c (st R.d k).e);have tv:=Qd.tm_v (R:=R) (z1' (st R.d k).a (st R.d k).b) (z1' (st R.d k).c (st R.d k).e);rw[Qd.v_1,Qd.v_1]at tv;obtain⟨tb1,tb2,tb3⟩:=Qd.tm_bd (R:=R) (s:=⟨(st R.d k).a,(st R.d k).b,1⟩) (t:=⟨(st R.d k).c,(st R.d k).e,1⟩) g7.ba g7.bb (zr 1) g7.bc g7.be (zr 1);exists vP (K:=K) j1 j2 hd (g7.ba.mono ⋯) (g7.bb.mono ⋯) ((zr 1).mono ⋯) (g7.bc.mono ⋯) (g7.be.mono ⋯) ((zr 1).mono ⋯) ⋯ ⋯ λpt H8 s8 e8=>?_;have e8:SdAt H8 pt (tmV R.d ⟨(st R.d k).a,(st R.d k).b,1⟩ ⟨(st R.d k).c,(st R.d k).e,1⟩):=e8;generalize tmV R.d ⟨(st R.d k).a,(st R.d k).b,1⟩ ⟨(st R.d k).c,(st R.d k).e,1⟩=tt at*
 have e8':H8 pt=some (.tup [.int tt.x,.int tt.y,.int tt.z]):=e8;have s58:=(s6.trans s7).trans s8;have er8:=s58 _ _ er1;have ul:=Qd.v_lt (R:=R) tl.1 br4;rw[tv]at ul;exists uC (K:=K) (SqT.of e8') er8 hd (tb1.mono ⋯) (tb2.mono ⋯) (tb3.mono ⋯) (br1.mono ⋯) (br2.mono ⋯) (br3.mono ⋯) ?_;walk_at"r";by_cases U:0<sgn R.d (room.x*tt.z - tt.x*room.z) (room.y*tt.z - tt.y*room.z)
 .have lt:=ul.mp U;have s05:=(((s1.trans s2).trans s3).trans s4).trans s5;have hg8:=s58 _ _ (s05 _ _ hg');have f8:=s8 _ _ j0;have j18:=s8 _ _ j1;have j28:=s8 _ _ j2;have det:=Qd.st_det (d:=R.d) k;have dt:(st R.d k).a*(st R.d k).e - (st R.d k).b*(st R.d k).c=-1:=det;rw[jg U];walk_at"r";rename_i N' hN';have key:∀(psd q1 q2:Addr)(a b c' e:Int)(Hx:Hp),Same H8 Hx->Hx psd=some (.tup [.ref q1,.ref q2])->Hx q1=some (.tup [.int a,.int b,.int 1])->Hx q2=some (.tup [.int c',.int e,.int 1])->Bd 325 a->Bd 325 b->Bd 325 c'->Bd 325 e->0<Qd.of R a b->0<Qd.of R c' e->Qd.of R a b*Qd.of R c' e<Sdv R room->(c'*b - a*e)*g.num.natAbs=g.num->N' [vI R.d,vR c.p,vR pg,vR ps,vR pr,vR pb,vR psd,none] Hx:=by
   intro psd q1 q2 a b c' e Hx sx h0 h1 h2 ba bb bc be pa pc lt dt';refine hN' _ _ ?_;clear hN' U ul dt det j18 j28 f8 hm f7 j0 j1 j2;have s8x:=s58.trans sx;have s0x:=s05.trans s8x;have ctx:=s0x _ _ ct;have psx:=(((s2.trans s3).trans s4).trans s5).trans s8x;have g1x:g3 a b 1=1:=by unfold g3;simp
   obtain⟨fN2,f02,lo2,up2,bx2,by2,bz2,ev2,u2,v2,t2,t21,bu2,bv2,bt2,et2⟩:=Qd.shr (R:=R) lww uw' bwx bwy bwz ba bb pa;obtain⟨fb1',fb2',fb3'⟩:=Qd.tmS_bd (m:=2) (s:=⟨a,b,1⟩) (zr 2) ba bb (zr 1);exists xm rfl (s:=⟨a,b,1⟩) h1 hd ((zr 2).mono ⋯) ⟨by show(1:Int)<=1;decide,g1x,ba.mono ⋯,bb.mono ⋯,(zr 1).mono ⋯⟩ λp9 H9 s9 e9=>?_;exists vd rfl (s:=c.b.w) (SqT.of (s9 _ _ (s0x _ _ cw))) e9 hd ⟨bwx.mono ⋯,bwy.mono ⋯,bwz.mono ⋯⟩ ⟨fb1'.mono ⋯,fb2'.mono ⋯,fb3'.mono ⋯⟩ (by have:=lww.1;lia) fN2 f02 λpB HB sB eB=>?_;generalize ptV R.d c.b.w (tmS 2 ⟨a,b,1⟩)=o2 at*
   exists xK rfl (k:=355) (ku:=366) eB lo2 up2 ⟨bx2,by2,bz2.mono ⋯⟩ ⋯ ⟨t21,bu2,bv2,by decide,bt2.mono ⋯⟩ et2 λpC share HC sC eC P2=>?_;have PI:=Qd.pie (g:=g.num) (n:=n) uw' uh' G1 n1 ev1 P1 pa pc lt ev2 P2 ba bb bc be Gn dt';have o20:0<Sdv R o2:=(Qd.v_ps lo2.1).mpr up2;obtain⟨σ,τ,es,g1,t1',bst⟩:=Qd.pw_st P2;have N2:share.x*share.x - R.d*share.y*share.y≠0:=by rw[es];exact Qd.sh_N g1
   have bsh:Bd 800 share.x/\Bd 800 share.y/\Bd 800 share.z/\share.z≠0/\¬ (share.x=0/\share.y=0):=by
    rw[es];refine⟨?_,(zr 0).mono ⋯,?_,by show τ≠0;lia,λz=>by have:σ=0:=z.1;lia⟩
    .rcases bst with⟨h1,h2⟩|⟨h1,h2⟩
     .exact h1.mono ⋯
     .rw[h1];exact(zr 1).mono ⋯
    .rcases bst with⟨h1,h2⟩|⟨h1,h2⟩
     .rw[h2];exact(zr 1).mono ⋯
     .exact h2.mono ⋯
   obtain⟨bs1,bs2,bs3,sz,sne⟩:=bsh;have n0:(⟨G,0,n⟩:Sd).z≠0:=by show n≠0;lia
   have lq:=Qd.pt_lw (R:=R) (s:=⟨G,0,n⟩) (t:=share) n0 N2;have vq:=Qd.pt_v (R:=R) (s:=⟨G,0,n⟩) (t:=share) n0 sz N2;have bq:Bd 2600 (ptV R.d ⟨G,0,n⟩ share).x/\Bd 2600 (ptV R.d ⟨G,0,n⟩ share).y/\Bd 2600 (ptV R.d ⟨G,0,n⟩ share).z:=by
    have vs:Sdv R share*(τ:Qd R)=(σ:Qd R):=by rw[es];exact Qd.v_c t1'
    have vc:=Qd.v_c (R:=R) (G:=G) n1;have rep:Sdv R (ptV R.d ⟨G,0,n⟩ share)*((n*σ:Int):Qd R)=Qd.of R (G*τ) 0:=by rw[Qd.of_0,Qd.c_mul,Qd.c_mul,<-vs,<-vc,<-vq];grind
    obtain⟨l1,l2,l3,_⟩:=Qd.low_bd lq (aI (!2) (!2)) rep;have bτ:Bd 800 τ:=by rw[es]at bs3;exact bs3
    have bσ:Bd 800 σ:=by rw[es]at bs1;exact bs1
    exact⟨l1 ((bA.mul bτ).mono ⋯),l2 ((zr 0).mono ⋯),Bd.dvd_le ((bn.mul bσ).mono ⋯) (aM (!2) (!2)) l3⟩
   obtain⟨bq1,bq2,bq3⟩:=bq;have lqz:(ptV R.d ⟨G,0,n⟩ share).z≠0:=by have:=lq.1;lia
   have sxC:=(s9.trans sB).trans sC;have h0C:=sxC _ _ h0;have eC':HC pC=some (.tup [.int share.x,.int share.y,.int share.z]):=eC;exists vP (K:=K) eC' (sxC _ _ h1) hd (bs1.mono ⋯) (bs2.mono ⋯) (bs3.mono ⋯) (ba.mono ⋯) (bb.mono ⋯) ((zr 1).mono ⋯) sz ⋯ λpD HD sD eD=>?_;have h0D:=sD _ _ h0C;exists vd rfl (s:=⟨G,0,n⟩) (SqT.of ((sxC.trans sD) _ _ (psx _ _ e1))) (sD _ _ eC) hd ⟨bA.mono ⋯,(zr 0).mono ⋯,bn.mono ⋯⟩ ⟨bs1.mono ⋯,bs2.mono ⋯,bs3.mono ⋯⟩ n0 N2 sne λpE HE sE eE=>?_;have h0E:=sE _ _ h0D;have eE':HE pE=some (.tup [.int (ptV R.d ⟨G,0,n⟩ share).x,.int (ptV R.d ⟨G,0,n⟩ share).y,.int (ptV R.d ⟨G,0,n⟩ share).z]):=eE;exists vP (K:=K) eE' (((sxC.trans sD).trans sE) _ _ h2) hd bq1 bq2 bq3 (bc.mono ⋯) (be.mono ⋯) ((zr 1).mono ⋯) lqz ⋯ λpF HF sF eF=>?_;exists zt (!1) λpr' HG sG eG=>?_;walk_at"r";exact q pr' pD pF _ _ HG ((s0x.trans sxC).trans (((sD.trans sE).trans sF).trans sG)) eG (((sE.trans sF).trans sG) _ _ eD) (sG _ _ eF) PI
  clear hN';exists if_d (λcg=>?_) (λcg=>?_)
  .walk_at"r";exact key pb r1 r2 _ _ _ _ H8 (Same.refl _) f8 j18 j28 g7.ba g7.bb g7.bc g7.be pq0 qq0 lt (by rw[show(st R.d k).c*(st R.d k).b - (st R.d k).a*(st R.d k).e=1 by grind];lia)
  .exists zt (!1) λpsd Hx sx ex=>?_;walk_at"r";exact key psd r2 r1 _ _ _ _ Hx sx ex (sx _ _ j28) (sx _ _ j18) g7.bc g7.be g7.ba g7.bb qq0 pq0 (by rw[show Qd.of R (st R.d k).c (st R.d k).e*Qd.of R (st R.d k).a (st R.d k).b=Qd.of R (st R.d k).a (st R.d k).b*Qd.of R (st R.d k).c (st R.d k).e by grind];exact lt) (by rw[show(st R.d k).a*(st R.d k).e - (st R.d k).c*(st R.d k).b=-1 by grind];lia)
 .rw[iT U];walk_at"r";have hge:1<=Qd.of R (st R.d k).a (st R.d k).b*Qd.of R (st R.d k).c (st R.d k).e*(N:Qd R):=by
   have h1:Sdv R room<=Qd.of R (st R.d k).a (st R.d k).b*Qd.of R (st R.d k).c (st R.d k).e:=a8 λz=>U (ul.mpr (by grind));have h2:=Qd.mul_nn (show 0<=Qd.of R (st R.d k).a (st R.d k).b*Qd.of R (st R.d k).c (st R.d k).e - Sdv R room by grind) (show(0:Qd R)<=(N:Qd R) from Qd.c_nn.mpr (!2));grind
  have gn:GB R.d 325 (st R.d (k+1)):=Qd.base_next N1 bN hge;have sm:=IQ R.h k;refine wgn ?_;exists vQ rfl (f7.same s8) R.h ⋯ (!3) (g7.mono ⋯) λpb' r1' r2' H9 s9 f9=>?_;walk_at"r";have ga:=gn.ba;have gb:=gn.bb;have gc:=gn.bc;have ge:=gn.be;unfold Bd at ga gb gc ge;have hB:((2 ^ 325:Nat):Int)=(2:Int) ^ 325:=by decide+kernel
  refine⟨(4*2 ^ 325 - (((st R.d (k+1)).b - (st R.d (k+1)).a)+((st R.d (k+1)).c - (st R.d (k+1)).e))).toNat,?_,pb',r1',r2',k+1,rfl,(s7.trans s8).trans s9,f9,gn,?_⟩
  .rw[<-hB]at hm ⊢;generalize (2:Nat) ^ 325=B at*
   lia
  .rw[<-hB];generalize (2:Nat) ^ 325=B at*
   lia
theorem K66(F:Fun K "do" "Yard.do" S71 f fd)(B:Bl mg)(X:Xs K mg cs)(g_TURN:TopS mg "TURN" (Str.ofString "turn"))(o25x:O25x P w K mg base)(o68x:OwnM P w K mg base CX0 cs.Yard 2 "check_names" ["self","names"] [] (P42 cs))(o69x:OwnM P w K mg base CX0 cs.Yard 5 "put_by" ["self","deed","boards"] [] (P65 cs))(o24x:Own P w K mg base 4 "is_deed" ["thing"] [] P57):FnOk P w K mg base CX0 6 f fd ["self","deed"] (P67 cs):=by
 obtain⟨u_TURN,m_TURN,r_TURN⟩:=g_TURN;refine F.okA C69 λcdv A outer s H vs Q E hr h=>?_;obtain@⟨y,d,tn,cl,ns,lg,p,e,c,c',rfl,hy,he,ok,hm,hn,ht,hc,hf,hd,l1,l2,q⟩:=h;refine⟨_,(za (zy (yJ (yp (ze o24x hr rfl (pa1 (pv 1))))) (zc yA) zn) (za (ps_s 2 C69.nd (ze o25x hr rfl (pa1 (pv 1)))) (za (zZ (vC o68x uP hr (pv 0) (pa1 (pv 2)))) (za (zy (PW.pt (xF (zk ye (pit 1) (yf (v:=.str (Str.ofString "turn")) rfl m_TURN r_TURN) (zm _)) (y9 (yJ (yp (yd (K:=K) rfl (pv 0) rfl)))))) (zc yA) zn) (za (ps_s 3 C69.nd (vC o69x uP hr (pv 0) (pa2 (pv 1) (zR ["name"] [0] rfl (zG (pv 2)) (λ_ _ _ _ _=>(pg_n 0 (show List.Nodup (α:=Str) ["name","self"] by decide+kernel))) (λ_ _ _ _ _=>zD) (λ_ _ _ _ _=>(pe_i (r:=rIxL K) zQ (yd (K:=K) rfl (pv 1) rfl) (pv 0))))))) (za (zU PassesOwn.never rfl (zG (pv 2)) (pg_n 4 C69.nd) (zc (zZ (BF (yd (K:=K) rfl (pv 0) rfl) (pv 4) ⟨rfl,rfl,rfl,rfl⟩)))) (za (zU PassesOwn.never rfl (zG (pv 3)) (pg_n 5 C69.nd) (za (vM (uV hr) (yd (K:=K) rfl (pv 0) rfl) (zp zx rfl B.len bS (pa1 (yd (K:=K) rfl (pv 0) rfl))) wm rfl) (zc (zZ (wC bJ bF bH zJ (yd (K:=K) rfl (pv 0) rfl) (pa1 (pv 5))))))) (zc (zZ (wC bJ bF bH zJ (yd (K:=K) rfl (pv 0) rfl) (pa1 (pv 1)))))))))))),?_⟩;walk_at"s";exists De rfl he ok λH1 s1=>?_;exists y4 rfl (he.same s1) λa H2 s2 na ea=>?_;have t2:=s1.trans s2;walk_at"r";have hy2:=hy.same t2;have he2:=he.same t2;refine⟨_,_,_,rfl,hy2.o,rfl,?_⟩;exists xW rfl hy2 ea hm hn e.names_len ?_;walk_at"r";obtain⟨rs,hp⟩:=he2.tup;refine uN hp (yl (j:=0) rfl) ?_;exists KF ?_ (λct hB=>?_);rotate_left
 .exists⟨_,_,_,_,_,rfl,hy2.o,X.c_Yard,X.n_Yard_turning,rfl,?_⟩;rw[ht (GT ct)];walk_at"rd";exact if_nt hB
 exists⟨_,_,_,rfl,hy2.o,rfl,?_⟩;exists yL ?_;exists⟨a,rfl,⟨_,SqL.of ea⟩,λD hD=>ya (K:=K) (a:=a) (ys:=e.names.map V.int) (λi xs σ' H'=>E1 λ(v:Option V)=>A4 (σ'=[v,vR y.p]) (xs=((e.cells c c').take i).map Cell.v) (H' D=some (.lst xs)) (SameX D H2 H')) ⟨none,rfl,rfl,zg,λb o e n=>by rw[zl n];exact e⟩ (λi xs σ' H' _ z=>by obtain⟨v,_,_,_,z⟩:=z;exact SqL.of (z _ _ ea (zb ea hD))) ?_ ?_⟩
 .rintro i x xs σ' H' hi ⟨v,rfl,rfl,eD,sx⟩;rw[ao]at hi;obtain⟨m,hm',rfl⟩:=aB.mp hi;obtain⟨n,x,rfl,hx,hcx⟩:=AR hc hm';have hi3:=(af.mp hm').1;have hn2:=e.names_len;have s':Same H2 H':=λb o e=>sx b o e (zb e hD);have hy':=hy2.same s';exists⟨_,_,_,_,_,rfl,hy'.o,X.c_Yard,X.n_Yard_known,rfl,?_⟩;exists xb hy'.k (v:=x.v) (yl (by rw[ao,hx];rfl)) ?_;exists zq eD (by rw[aa,aU];lia) λH3 x3 e3=>?_;refine yx (by rw[aa];exact hi3) ⟨_,rfl,rfl,?_,sx.trans x3⟩;rw[bQ,hcx,aj];exact e3
 rintro xs σ' H3 ⟨v,rfl,rfl,eD,sx⟩;have s3:Same H2 H3:=λb o e=>sx b o e (zb e hD);have t3:=t2.trans s3;have hy3:=hy.same t3;rw[aa,<-e.cells_len c c',aG]at eD;exists uS rfl hy3 (he.same t3) (by rw[eD];unfold Dd.cells;cases e.two<;>rfl) (hy3.at' c hc.mem.1) (hy3.at' c' hc.mem.2) hd hf λr N H4 s4 nr er hN hNb=>?_;have t4:=t3.trans s4;have hy4:=hy.same t4;have ea4:=s4 _ _ (s3 _ _ ea);have kl:y.k≠y.l:=zX hy4.k hy4.l (λz=>nomatch z);have tl:y.t≠y.l:=zX hy4.t hy4.l (λz=>nomatch z);have ol:y.p≠y.l:=zX hy4.o hy4.l (λz=>nomatch z);have ok':y.p≠y.k:=zX hy4.o hy4.k (λz=>nomatch z);have ot:y.p≠y.t:=zX hy4.o hy4.t (λz=>nomatch z);have al:a≠y.l:=zX ea4 hy4.l (λz=>nomatch z);have rl:r≠y.l:=zX er hy4.l (λz=>nomatch z);have rk:r≠y.k:=cH (zb hy3.k nr);exists yX ?_;exists⟨a,rfl,⟨_,SqL.of ea4⟩,z5 (K:=K) (a:=a) (xs:=e.names.map V.int) (λi σ H'=>E1 λv=>A3 (σ=[vR y.p,vR p,vR a,vR r,v,none]) (H' y.l=some (.dK (nmK (zT ns (e.names.take i))))) (SameX y.l H4 H')) ⟨_,rfl,hy4.l,λb o e _=>e⟩ (λi σ H' _ z'=>by obtain⟨_,_,_,x⟩:=z';exact SqL.of (x _ _ ea4 al)) ?_ ?_⟩
 .rintro i x σ H' hi ⟨v,rfl,el,sx5⟩;rw[ao]at hi;obtain⟨m,hm',rfl⟩:=aB.mp hi;obtain⟨n,hn',rfl⟩:=hm m (ay hm');have hni:(n:Int)∉e.names.take i:=by
   intro hh;obtain⟨j,hj⟩:=ei hh;have hj1:=(af.mp hj).1;rw[aU]at hj1;rw[eQ (!2)]at hj;have:=(fH (i:=j) (!2) hn).mp (hj.trans hm'.symm)
   lia
  have eo:=sx5 _ _ hy4.o ol;exists⟨_,_,_,_,_,rfl,eo,X.c_Yard,X.n_Yard_lying,rfl,?_⟩;refine⟨y.l,rfl,.inl ⟨_,.inl el⟩,?_⟩;exists⟨_,.inl (n:Int),_,el,rfl,vb (mem_ndrop.mpr ⟨hn',hni⟩),?_⟩;refine⟨_,rfl,?_,λb o e n=>by rw[zl n];exact sx5 b o e n⟩;rw[zg,vn,bQ,hm',show((some (n:Int)).toList)=[(n:Int)] from rfl,wq]
 rintro σ H5 ⟨v,rfl,el5,sx5⟩;rw[aa,aG]at el5;have er5:=sx5 _ _ er rl;have ek5:=sx5 _ _ hy4.k kl;have hN2:N.length<=2:=by rw[<-aa (f:=Cell.b),hNb];exact AW e _ _
 have dl:=BZ (xB (ms:=e.names) hy.up) (λn h=>hy.lt n (mem_ndrop.mp h).1);exists yX ?_;exists⟨r,rfl,⟨_,SqL.of er5⟩,z5 (K:=K) (a:=r) (xs:=N.map Cell.v) (λi σ H'=>E2 λv v'=>A4 (σ=[vR y.p,vR p,vR a,vR r,v,v']) (H' y.l=some (.dK (nmK (zT ns e.names++List.range' cl.length i)))) (H' y.k=some (.lst ((cl++N.take i).map Cell.v))) (∀b o,H5 b=some o->b≠y.k->b≠y.l->H' b=some o)) ⟨_,_,rfl,by simpa using el5,by simpa using ek5,λb o e _ _=>e⟩ (λi σ H' _ z'=>by obtain⟨_,_,_,_,_,x⟩:=z';exact SqL.of (x _ _ er5 rk rl)) ?_ ?_⟩
 .rintro i x σ H' hi ⟨v1,v2,rfl,el,ek,sx6⟩;rw[ao]at hi;obtain⟨cx,hcx,rfl⟩:=aB.mp hi;have hi3:=(af.mp hcx).1;have eo:=sx6 _ _ (sx5 _ _ hy4.o ol) ok' ol;have lk:((cl++N.take i).map Cell.v).length=cl.length+i:=by rw[aa,ai,aU];lia
  exists⟨_,_,_,_,_,rfl,eo,X.c_Yard,X.n_Yard_lying,rfl,?_⟩;exists⟨_,_,_,_,_,rfl,eo,X.c_Yard,X.n_Yard_known,rfl,?_⟩;walk_at"r";rw[lk];refine⟨y.l,_,rfl,DPut.k (k:=.inl ((cl.length+i:Nat):Int)) el (by simp only[nmK,aa,ai,dS];exact aQ (show _<1000 by lia) (!3)),?_⟩;have ek':upd H' y.l (.dK (putK (nmK (zT ns e.names++List.range' cl.length i)) (.inl ((cl.length+i:Nat):Int)) (.bl true))) y.k=some (.lst ((cl++N.take i).map Cell.v)):=by rw[zl kl];exact ek
  exists⟨_,_,_,_,_,rfl,by rw[zl ol];exact eo,X.c_Yard,X.n_Yard_known,rfl,?_⟩;exists zq ek' (by rw[lk];lia) λH7 x7 e7=>?_;refine⟨_,_,rfl,?_,?_,λb o e n1 n2=>x7 _ _ (by rw[zl n2];exact sx6 b o e n1 n2) n1⟩
  .rw[x7 _ _ zg (cH kl)];rw[B0 _ (wx (λn hn=>?_))]
   .rw[List.range'_concat,<-bR];simp[nmK]
   .rcases aE.mp hn with hn|hn
    .have:=hy.lt n (mem_ndrop.mp hn).1
     lia
    .have:=dr.mp hn
     lia
  .rw[bQ,hcx,<-bR,aj];exact e7
 rintro σ H6 ⟨v1,v2,rfl,el6,ek6,sx6⟩;rw[aa]at el6 ek6;rw[aG]at ek6;have eo6:=sx6 _ _ (sx5 _ _ hy4.o ol) ok' ol;have et6:=sx6 _ _ (sx5 _ _ hy4.t tl) (cH hy.kt) tl;exists⟨_,_,_,_,_,rfl,eo6,X.c_Yard,X.n_Yard_done,rfl,?_⟩;exists zq et6 (!2) λH7 x7 e7=>?_;walk_at"r";have keep:∀x:Cell,x.At H4->x.At H7:=λx hx=>by have f:∀{b:Addr}{ys:List V},H4 b=some (.tup ys)->H7 b=some (.tup ys):=λ{b ys} e=>x7 _ _ (sx6 _ _ (sx5 _ _ e (zX e hy4.l (λz=>nomatch z))) (zX e hy4.k (λz=>nomatch z)) (zX e hy4.l (λz=>nomatch z))) (zX e hy4.t (λz=>nomatch z));exact⟨f hx.t,f hx.w,f hx.h⟩
 refine q N H7 ⟨x7 _ _ eo6 ot,x7 _ _ ek6 hy.kt,x7 _ _ el6 (cH tl),e7,hy.kt,λx hx=>?_,?_,λn hn=>?_,by rw[ai];lia,by rw[ai];simp only[au,aV];lia⟩ hNb (λb o e n1 n2 n3=>x7 _ _ (sx6 _ _ (sx5 _ _ (t4 _ _ e) n2) n1 n2) n3)
 .rcases aE.mp hx with hx|hx
  .exact keep x (hy4.at' x hx)
  .exact keep x (hN x hx)
 .refine List.pairwise_append.mpr ⟨xB hy.up,ie ..,λn1 h1 n2 h2=>?_⟩;have:=hy.lt n1 (mem_ndrop.mp h1).1;have:=dr.mp h2
  lia
 .rw[ai];rcases aE.mp hn with hn|hn
  .have:=hy.lt n (mem_ndrop.mp hn).1
   lia
  .have:=dr.mp hn
   lia
theorem K67(F:Fun K "yard_behind" "yard_behind" S35 f fd)(B:Bl mg)(X:Xs K mg cs)(o66x:OwnI P w K mg base CX0 cs.Yard 1 "Yard" ["self","d","heap","turning"] [] (P24 cs))(o67x:OwnM P w K mg base CX0 cs.Yard 6 "do" ["self","deed"] [] (P67 cs)):FnOk P w K mg base CX0 7 f fd ["d","heap","plan","turning"] (P68 cs):=by
 refine F.okA C70 λcdv A outer s H vs Q E hr h=>?_;obtain@⟨hp,pl,d,tn,L,ps,es,rfl,hh,hA,l30,hpl,plen,hd,hr',hw,q⟩:=h;refine⟨_,(za (ps_s 4 C70.nd (Ih o66x uP hr rfl (pa3 (pv 0) (pv 1) (pv 3)))) (za (zU PassesOwn.never rfl (zG (pv 2)) (pg_n 5 C70.nd) (zc (zZ (vC o67x uP hr (pv 4) (pa1 (pv 5)))))) (zc (zi (pv 4))))),?_⟩;walk_at"s";exists Kv ?_;walk_at"r";intro x dx nx ndx ndxx;refine vK (tn:=tn) rfl nx ndx hh hA (!2) λy H1 ep s1 hy1 k1 l1 t1=>?_;subst ep;refine⟨rfl,?_⟩;have hpl1:=s1 _ _ hpl;have plk:pl≠y.k:=zb hpl k1;have plt:pl≠y.t:=zb hpl t1;have hel:es.length<=150:=by rw[<-hr'.1];exact plen
 have st0:YdS cs.Yard H1 y d tn (As.st L) []:=⟨L,hy1,rfl,λn hn=>by have hn:n<L.length:=hn;exact⟨_,ag hn,by show _=(fL L n).b;rw[JJ (ag hn)]⟩⟩
 exists yX ?_;exists⟨pl,rfl,⟨_,SqL.of hpl1⟩,z5 (K:=K) (a:=pl) (xs:=ps.map V.ref) (λi σ H'=>E1 λv=>A3 (σ=[vI d,vR hp,vR pl,some (.bl tn),vR y.p,v]) (Same H H') (YdS cs.Yard H' y d tn (ends (As.st L) (es.take i)) ((ps.take i).map V.ref))) ⟨_,rfl,s1,st0⟩ (λi σ H' _ z'=>by obtain⟨_,_,s,_⟩:=z';exact SqL.of (s _ _ hpl)) ?_ ?_⟩
 .rintro i x σ H' hi ⟨v,rfl,s',⟨cl,hyc,hk,hrel⟩⟩;rw[ao]at hi;obtain⟨p,hp',rfl⟩:=aB.mp hi;have ci:=(af.mp hp').1;have hkk:=IR (s:=As.st L) (es:=es.take i);have hk0:(As.st L).k=L.length:=rfl;rw[aU]at hkk;have hlg:((ps.take i).map V.ref).length<=150:=by rw[aa,aU];lia
  have hie:i<es.length:=by rw[<-hr'.1];exact ci
  obtain⟨e,n,m,hx⟩:∃e n m,es[i]?=some (e,n,m):=⟨_,_,_,ag hie⟩
  have st:=hw i _ hx;have he:=(hr'.2 i p _ hp' hx).same s';obtain⟨cn,hcn,hbn⟩:=hrel n (hk ▸ hyc.lt n st.nms.hn);obtain⟨cm,hcm,hbm⟩:=hrel m (hk ▸ hyc.lt m st.nms.hm);exists⟨_,_,_,rfl,hyc.o,rfl,?_⟩;exists CJ rfl (c:=cn) (c':=cm) hyc he st.ok st.nms.names_in st.nms.nodup st.tn (st.nms.cells hcn hcm) (by rw[hbn,hbm];exact st.fit) hd (!2) (!2) λN H2 hy2 hN fr2=>?_;rw[hbn,hbm]at hN;exists⟨_,rfl,λb o e=>fr2 _ _ (s' _ _ e) (zb e k1) (zb e l1) (zb e t1),?_⟩;rw[yn hx,bQ,hp',aj];exact YdS.next hk hrel hy2 hN
 rintro σ H' ⟨v,rfl,s',st⟩;rw[aa,aG,hr'.1,aG]at st;walk_at"r";exact q y H' s' st
theorem K68(F:Fun K "turning_deeds" "turning_deeds" S54 f fd)(B:Bl mg)(o49x:Own P w K mg base 6 "piece_to_turn" ["d","one","gap"] [] (P66 K)):FnOk P w K mg base CX0 7 f fd ["d","heap","gap"] (P69 K):=by
 refine F.okA C71 λcdv A outer s H vs Q E hr h=>?_;obtain@⟨R,hp,pg,c,L,g,rfl,hh,hc,hg,ln,lw,up,bw,bh,bg,g0,q⟩:=h;refine⟨_,(za (ps_s 3 C71.nd (ze o49x hr rfl (pa3 (pv 0) (pil 1) (pv 2)))) (za (ps_s 4 C71.nd (zp zx rfl B.len bS (pa1 (pv 1)))) (zc (zi (zP (pa3 (zo (pa3 zH zd (pit 3))) (zo (pa3 zH (pv 4) (pit 3))) (zo (pa2 zH (zf zv (pv 4) zd))))))))),?_⟩;walk_at"s";have g0':atI ((c::L).map Cell.v) 0=some (.ref c.p):=yl (j:=0) rfl;repeat (first|walk_at"rd" |refine xb hh g0' ?_)
 refine vE rfl hc hg lw up bw bh bg g0 λr1 pa pb pw ph H1 s1 e1 ea eb P=>?_;have hh1:=s1 _ _ hh;walk_at"r";rw[aa,au];exists zt (!1) λt1 H2 s2 e2=>?_;have e12:=s2 _ _ e1;exists zt (!1) λt2 H3 s3 e3=>?_;exists zt (!1) λt3 H4 s4 e4=>?_;exists zB (!1) λo H5 n5 s5 e5=>?_;walk_at"r";have s35:=(s3.trans s4).trans s5;refine q o [t1,t2,t3] pw ph H5 (((s1.trans s2).trans s3).trans (s4.trans s5)) (Same.nn (((s1.trans s2).trans s3).trans s4) n5) e5 ⟨rfl,λi p x hp hx=>?_⟩ P
 match i,hp,hx with
 |0,hp,hx=>cases hp;cases hx;exact⟨pa,s35 _ _ e2,(s2.trans s35) _ _ ea⟩
 |1,hp,hx=>cases hp;cases hx;exact⟨pb,by have:=(s4.trans s5) _ _ e3;exact this,(s2.trans s35) _ _ eb⟩
 |2,hp,hx=>cases hp;cases hx;exact s5 _ _ e4
theorem Gc{cl:List Cell}{g:Nat->Bo}:∀{ns:List Nat},(∀n∈ns,∃c,cl[n]?=some c/\c.b=g n)->(pick cl ns).map Cell.b=ns.map g
 |[],_=>rfl
 |n::ns,h=>by obtain⟨c,h1,h2⟩:=h n aH;have ih:=Gc (ns:=ns) λm hm=>h m (aC _ hm);simp only[pick,du,h1,a6,h2]at ih ⊢;rw[ih]
theorem K69(F:FunD K "walked" "walked" S36 f fd its)(B:Bl mg)(o72x:OwnM P w K mg base CX0 cs.Yard 1 "heap" ["self"] [] (P27 cs))(o31x:O31x P w K mg base cs):FnOk P w K mg base CX0 8 f fd ["d","heap","plan","turning"] (P70 cs):=by refine F.okA C72 λcdv A outer s H vs Q E hr h=>?_;obtain@⟨hp,pl,d,tn,L,ps,es,rfl,hh,hA,l30,hpl,plen,hd,hr',hw,q⟩:=h;refine⟨_,(zc (zi (Bf o72x uP hr (ze o31x hr rfl (zu (pv 0) (zu (pv 1) (zu (pv 2) (zu (pv 3) yq)))))))),?_⟩;walk_at"s";exists wj rfl hh hA l30 hpl plen hd hr' hw λy H1 s1 st=>?_;obtain⟨cl,hyc,hk,hrel⟩:=st;refine⟨_,_,_,rfl,hyc.o,rfl,?_⟩;exists AE rfl hyc λr H2 s2 nr e2=>?_;exact q r _ H2 (s1.trans s2) (Same.nn s1 nr) e2 (λc hc=>(hyc.at' c (F2 hc)).same s2) (Gc λn hn=>hrel n (hk ▸ hyc.lt n hn))
theorem K70(F:Fun K "back" "back" S39 f fd)(B:Bl mg)(o31x:O31x P w K mg base cs)(o71x:OwnM P w K mg base CX0 cs.Yard 1 "boards" ["self"] [] (P26 cs))(o25x:O25x P w K mg base)(o34x:Own P w K mg base 1 "places_of" ["names"] [] P12)(o26x:O26x P w K mg base)(o33x:Own P w K mg base 2 "undoing" ["yard","deed","names"] [] (P35 cs)):FnOk P w K mg base CX0 8 f fd ["d","heap","plan"] (P71 cs):=by
 refine F.okA C73 λcdv A outer s H vs Q E hr h=>?_;obtain@⟨hp,pl,d,tn,L,ps,es,D0,K',M,rfl,hh,hA,l1,l6,hpl,plen,hR,hr',hw,z,ev,q⟩:=h;refine⟨_,(za (ps_s 3 C73.nd (ze o31x hr rfl (zu (pv 0) (zu (pv 1) (zu (pv 2) (zu wm yq)))))) (za (ps_s 4 C73.nd (Bf o71x uP hr (pv 3))) (za (ps_s 5 C73.nd Bn) (za (zU PassesOwn.never rfl (uF rfl B.enumerate (pa1 (pv 4))) (xZ (n:=2) rfl (zA (pg_n 6 C73.nd) (zA (pg_n 7 C73.nd) yP))) (zc (vM (uV hr) (pv 5) (pit 7) (pv 6) rfl))) (za (ps_s 8 C73.nd (zp zx rfl B.len bS (pa1 (pv 4)))) (za (ps_s 9 C73.nd (zf zv (zp zx rfl B.len bS (pa1 (pv 1))) (zp (Au rfl) rfl B.sum GL (pa1 (zR ["deed"] [] rfl (zG (pv 2)) (λ_ _ _ _ _=>(pg_n 0 (show List.Nodup (α:=Str) ["deed"] by decide+kernel))) (λ_ _ _ _ _=>zD) (λ_ _ _ _ _=>(ze o26x hr rfl (pa1 (pv 0))))))))) (za (ps_s 10 C73.nd (zP yq)) (za (zU PassesOwn.never rfl (Hq rfl B.reversed (pa1 (pv 2))) (pg_n 11 C73.nd) (za (ps_s 12 C73.nd (zf yH (pv 9) (ze o26x hr rfl (pa1 (pv 11))))) (za (zZ (wC bJ bF bH zJ (pv 10) (pa1 (ze o33x hr rfl (pa3 (pv 3) (pv 11) (zR ["name"] [5] rfl (wf rfl B.range (pa2 (pv 12) (pv 9))) (λ_ _ _ _ _=>(pg_n 0 (show List.Nodup (α:=Str) ["name","renamed"] by decide+kernel))) (λ_ _ _ _ _=>zD) (λ_ _ _ _ _=>(AV (uV hr) (pv 1) (pv 0) (λ_ _=>rfl))))))))) (za (zU PassesOwn.never rfl (zG (ze o25x hr rfl (pa1 (pv 11)))) (pg_n 13 C73.nd) (za (vM (uV hr) (pv 5) (pv 13) (pv 8) rfl) (zc (ps_s 8 C73.nd (zf zv (pv 8) zd))))) (zc (ps_s 9 C73.nd (pv 12))))))) (zc (zi (zo (pa2 (pv 10) (ze o34x hr rfl (pa1 (zR ["name"] [5] rfl (z9 rfl B.range (pa1 (zp zx rfl B.len bS (pa1 (pv 1))))) (λ_ _ _ _ _=>(pg_n 0 (show List.Nodup (α:=Str) ["name","renamed"] by decide+kernel))) (λ_ _ _ _ _=>zD) (λ_ _ _ _ _=>(AV (uV hr) (pv 1) (pv 0) (λ_ _=>rfl)))))))))))))))))),?_⟩;walk_at"s";have hel:es.length<=100:=by rw[<-hr'.1];exact plen
 have dlo:=hR.lo;have hd64:Bd 64 d:=zE (B:=99) (!2) hR.hi (!3);have ok0:As.Ok 20 (As.st L) 0:=by rw[Cr];exact v8 (by rw[aa];exact l1) (by rw[aa];exact l6)
 have oks:=z4 ok0 hw;have okN:=oks es.length (ak _);rw[aG]at okN;have nlN:=okN.nl;have klN:=okN.kl;have ndN:=xw okN.up;exists wj rfl hh hA (!2) hpl (!2) hd64 hr' (Dk hw) λy H1 s1 st=>?_;obtain⟨cl,hyc,hk,hrel⟩:=st;exists⟨_,_,_,rfl,hyc.o,rfl,?_⟩;exists uX rfl hyc λr2 H2 prs s2 nr2 e2 hprs=>?_;exists EA λD H3 nD s3 e3=>?_;have e23:=s3 _ _ e2;have r2D:r2≠D:=zb e2 nD;exists Bw ?_;exists⟨r2,_,rfl,SqL.of e23,wV (K:=K) (a:=r2) (xs:=prs.map V.ref) (λi σ H'=>E3 λv1 v2 kvs=>A5 (σ=[vI d,vR hp,vR pl,vR y.p,vR r2,vR D,v1,v2,none,none,none,none,none,none]) (H' D=some (.dK kvs)) (kvs.length<=i) (Rn kvs ((ends (As.st L) es).ns.take i) (rk (ends (As.st L) es).ns)) (∀b o,H3 b=some o->b≠D->H' b=some o)) ⟨_,_,[],rfl,e3,ak _,λn hn=>by simp at hn,λb o e _=>e⟩ (λi σ H' _ z'=>by obtain⟨_,_,_,_,_,_,_,z⟩:=z';exact SqL.of (z _ _ e23 r2D)) ?_ ?_⟩
 .rintro i x T σ H' hi hT ⟨v1,v2,kvs,rfl,eD,hkl,hRn,fr⟩;have hi':=(af.mp hi).1;rw[aa,hprs.1]at hi';rw[ao]at hi;obtain⟨p,hp',rfl⟩:=aB.mp hi;obtain⟨n,c,hn,hc,hpt⟩:=hprs.2 i p hp';have hpt3:=fr _ _ (s3 _ _ hpt) (zX (s3 _ _ hpt) e3 (λz=>nomatch z));have eD':(upd H' T (.tup [.int (i:Int),.ref p])) D=some (.dK kvs):=by rw[zl (zb eD hT)];exact eD
  have eT:(upd H' T (.tup [.int (i:Int),.ref p])) T=some (.tup [.int (i:Int),.ref p]):=zg;have hpt4:(upd H' T (.tup [.int (i:Int),.ref p])) p=some (.tup [.int (n:Int),.ref c.p]):=by rw[zl (zb hpt3 hT)];exact hpt3
  have frT:∀b o,H3 b=some o->b≠D->(upd H' T (.tup [.int (i:Int),.ref p])) b=some o:=λb o e n=>by rw[zl (zb (fr b o e n) hT)];exact fr b o e n
  generalize upd H' T (.tup [.int (i:Int),.ref p])=G at eT eD' frT hpt4 ⊢;exists⟨D,_,rfl,DPut.k (k:=.inl (n:Int)) eD' (aQ (show _<1000 by lia) (!3)),?_⟩;refine⟨_,_,_,rfl,zg,cf (yD ..) (!2),λj hj=>?_,λb o e n=>by rw[zl n];exact frT b o e n⟩;rw[xV];rw[bQ,hn]at hj;by_cases c:j=n
  .subst c;rw[iU rfl,Fj ndN hn]
  .rw[iV (B6 c)];refine hRn j ?_;rcases aE.mp hj with h|h
   .exact h
   .exact absurd (by simpa using h) c
 rintro σ H4 ⟨w1,w2,kvs0,rfl,eD4,hkl4,hR4,fr4⟩;rw[aa,hprs.1]at hkl4 hR4;rw[aG]at hR4;have s4:Same H2 H4:=λb o e=>fr4 _ _ (s3 _ _ e) (zb e nD);have s04:=(s1.trans s2).trans s4;have e24:=s4 _ _ e2;have hh4:=s04 _ _ hh;exists yL ?_;walk_at"r";have hpl4:=s04 _ _ hpl;refine⟨pl,rfl,⟨_,SqL.of hpl4⟩,λO hO=>ya (K:=K) (a:=pl) (ys:=ps.map V.ref) (λi xs σ' H'=>E1 λ(v:Option V)=>A4 (σ'=[v]) (xs=((es.take i).map λx=>((x.1.puts:Nat):Int)).map V.int) (H' O=some (.lst xs)) (SameX O H4 H')) ⟨none,rfl,rfl,zg,λb o e n=>by rw[zl n];exact e⟩ (λi xs σ' H' _ z=>by obtain⟨v,_,_,_,z⟩:=z;exact SqL.of (z _ _ hpl4 (zb hpl4 hO))) ?_ ?_⟩
 .rintro i x xs σ' H' hi ⟨v,rfl,rfl,eO,sx⟩;have hi':=(af.mp hi).1;rw[ao]at hi;obtain⟨p,hp',rfl⟩:=aB.mp hi;have hie:i<es.length:=by rw[<-hr'.1];exact(af.mp hp').1
  have hx:=ag hie;have he:=((hr'.2 i p _ hp' hx).same s04).same (λb o e=>sx b o e (zb e hO));exists yc rfl he ?_;exists zq eO (by simp only[aa,aU];lia) λH5 x5 e5=>?_;refine yx hi' ⟨_,rfl,rfl,?_,sx.trans x5⟩;rw[bQ,hx,aj,aj];exact e5
 rintro xs σ' H5 ⟨v,rfl,rfl,eO5,sx5⟩;have s5:Same H4 H5:=λb o e=>sx5 b o e (zb e hO);rw[aa,hr'.1,aG]at eO5;exists Js (SqL.of eO5) ?_;have hsum:((L.map Cell.v).length:Int)+(es.map λx=>((x.1.puts:Nat):Int)).sum=((ends (As.st L) es).k:Nat):=by
  rw[BD,xl,aa];show _=((L.length+_:Nat):Int)
  lia
 walk_at"r";rw[hsum];refine zB (!1) λa H6 na s6 e6=>?_;have s46:=s5.trans s6;have s06:=s04.trans s46;have eD6:=s46 _ _ eD4;have Da:D≠a:=zb (s5 _ _ eD4) na;have hy6:=((hyc.same s2).same s4).same s46;have hD0:H D=none:=Same.nn (s1.trans s2) nD;have ha0:H a=none:=Same.nn (s04.trans s5) na;have hpl6:=s06 _ _ hpl;have plD:pl≠D:=zb hpl hD0;have pla:pl≠a:=zb hpl ha0;exists IH ?_;walk_at"r";have hplen2:(prs.map V.ref).length=(ends (As.st L) es).ns.length:=by rw[aa,hprs.1]
 rw[hplen2];refine⟨pl,_,rfl,SqL.of hpl6,FV (K:=K) (a:=pl) (xs:=ps.map V.ref) (λj σ H'=>E9 λ(v1 v2 v3 v4 v5:Option V)(kvs:List (Key×V))(r:Nat->Nat)(ps':List Addr)(es':DL)=>A5 (σ=[vI d,vR hp,vR pl,vR y.p,vR r2,vR D,v1,v2,vI ((ends (As.sb ((ends (As.st L) es).ns.map (ends (As.st L) es).g)) es').k:Nat),vI ((ends (As.st L) (es.take (es.length - j))).k:Nat),vR a,v3,v4,v5]) ((H' D=some (.dK kvs)/\kvs.length<=130+2*j/\Rn kvs (ends (As.st L) (es.take (es.length - j))).ns r)) ((H' a=some (.lst (ps'.map V.ref))/\Runs H' ps' es'/\ps'.length=j)) ((Walk d tn (As.sb ((ends (As.st L) es).ns.map (ends (As.st L) es).g)) es'/\es'.length=j/\Sim r (ends (As.st L) (es.take (es.length - j))) (ends (As.sb ((ends (As.st L) es).ns.map (ends (As.st L) es).g)) es')/\∀i,i<=j->∀n∈(ends (As.sb ((ends (As.st L) es).ns.map (ends (As.st L) es).g)) (es'.take i)).ns,BoD d D0 M ((ends (As.sb ((ends (As.st L) es).ns.map (ends (As.st L) es).g)) (es'.take i)).g n))) (∀b o,H6 b=some o->b≠D->b≠a->H' b=some o)) ⟨w1,w2,none,none,none,kvs0,rk (ends (As.st L) es).ns,[],[],?_,⟨eD6,by lia,?_⟩,⟨e6,⟨rfl,λi p x h=>by simp at h⟩,rfl⟩,⟨λi x h=>by simp at h,rfl,?_,λi hi n hn=>?_⟩,λb o e _ _=>e⟩ (λj σ H' _ z=>by obtain⟨_,_,_,_,_,_,_,_,_,_,_,_,_,z⟩:=z;exact SqL.of (z _ _ hpl6 plD pla)) ?_ ?_⟩
 .rw[gQ,aG];show _=[vI d,vR hp,vR pl,vR y.p,vR r2,vR D,w1,w2,vI ((((ends (As.st L) es).ns.map (ends (As.st L) es).g).length:Nat):Int),vI ((ends (As.st L) es).k:Nat),vR a,none,none,none]
  rw[aa]
 .rw[gQ,aG];exact hR4
 .rw[gQ,aG];exact sim0 ndN
 .have hi:i=0:=by lia
  subst hi;obtain⟨n0,h0,rfl⟩:=(sim0 ndN).on n hn;show BoD d D0 M ((As.sb ((ends (As.st L) es).ns.map (ends (As.st L) es).g)).g (rk (ends (As.st L) es).ns n0));rw[(sim0 ndN).g n0 h0];exact ev n0 (okN.lt n0 h0)
 .rintro j x σ H' hj hi ⟨v1,v2,v3,v4,v5,kvs,r,ps',es',rfl,⟨eD,hkl,hRn⟩,⟨ea,hrun,hpsl⟩,⟨hwk,hesl,sim,hbs⟩,fr⟩;rw[aa,hr'.1]at hj hi;rw[ao]at hi;obtain⟨p,hp',rfl⟩:=aB.mp hi;have hie:es.length - 1 - j<es.length:=by lia
  have hx:=ag hie;generalize es[es.length - 1 - j]=xd at hx;have st:=hw _ _ hx;have hen:=yn (s:=As.st L) hx;rw[GK hj,hen]at hRn sim;rw[GK hj,hen];have oki:=oks (es.length - 1 - j) (!2);have ev1:=tH ev (es.length - 1 - j+1);rw[hen]at ev1;have ev0:=tH ev (es.length - 1 - j);have gk:∀n,n<(ends (As.st L) (es.take (es.length - 1 - j))).k->(ends (As.st L) es).g n=(ends (As.st L) (es.take (es.length - 1 - j))).g n:=λn hn=>by
   conv=>lhs;rw[vO (es:=es) (i:=es.length - 1 - j)]
   exact uA hn
  have kN:(ends (As.st L) (es.take (es.length - 1 - j))).k<=(ends (As.st L) es).k:=Ap;have e0:es.length - (j+1)=es.length - 1 - j:=by lia
  have t0ok:As.Ok 120 (As.sb ((ends (As.st L) es).ns.map (ends (As.st L) es).g)) 0:=v8 (by
   rw[aa];have:=cB.mpr okN.ne
   lia) (by rw[aa];lia)
  have okt:=z4 t0ok hwk j (!2);rw[show es'.take j=es' by rw[<-hesl,aG]]at okt;generalize hs:ends (As.st L) (es.take (es.length - 1 - j))=s at*
  generalize ht0:(As.sb ((ends (As.st L) es).ns.map (ends (As.st L) es).g))=t0 at*
  generalize ht:ends t0 es'=t at*
  have kls:=oki.kl;have so:∀n∈s.ns,BoD d D0 M (s.g n):=λn hn=>ev0 n (oki.lt n hn);have sn:=Fm ev1;have us:=Fg hR z st so sn sim;have um:=FM z.d1 st so sn sim oki.lt okt.lt;have nk:=xf s xd;have pl2:=puts_le xd.1;have s0':Same H H':=λb o e=>fr _ _ (s06 _ _ e) (zb e hD0) (zb e ha0);have s6':∀b o,H6 b=some o->(∀kv,o≠.dK kv)->b≠a->H' b=some o:=λb o e h n=>fr _ _ e (λc=>by rw[c,eD6]at e;exact h _ (aJ e).symm) n;have he:=(hr'.2 _ p _ hp' hx).same s0';have yka:y.k≠a:=zb ((s2.trans (s4.trans s5)) _ _ hyc.k) na;have yta:y.t≠a:=zb ((s2.trans (s4.trans s5)) _ _ hyc.t) na;have ypa:y.p≠a:=zb ((s2.trans (s4.trans s5)) _ _ hyc.o) na;have yla:y.l≠a:=zb ((s2.trans (s4.trans s5)) _ _ hyc.l) na;have ylD:y.l≠D:=zb (s2 _ _ hyc.l) nD;have hy':YdAt cs.Yard H' y d true cl (ends (As.st L) es).ns (ps.map V.ref):=hy6.mv λb o e h=>by
   rcases h with⟨xs,rfl⟩|rfl|rfl|rfl|rfl
   .exact s6' _ _ e (λ_ z=>nomatch z) (zX e e6 (λz=>nomatch z))
   .rw[hy6.o]at e;exact s6' _ _ hy6.o (λ_ z=>nomatch z) ypa |>.trans e
   .rw[hy6.k]at e;exact s6' _ _ hy6.k (λ_ z=>nomatch z) yka |>.trans e
   .rw[hy6.l]at e;exact(fr _ _ hy6.l ylD yla).trans e
   .rw[hy6.t]at e;exact s6' _ _ hy6.t (λ_ z=>nomatch z) yta |>.trans e
  exists yc rfl he ?_;walk_at"r";rw[show(((s.next xd).k:Nat):Int) - (xd.1.puts:Nat)=(s.k:Int) by lia];rw[nk];exists BB ?_;exists⟨(s.k:Int),((s.k+xd.1.puts:Nat):Int),rfl,⟨by lia,by lia,by lia,by lia⟩,λO hO=>yj (lo:=(s.k:Int)) (n:=(((s.k+xd.1.puts:Nat):Int) - (s.k:Int)).toNat) (λi xs σ' Hc=>E1 λ(v:Option V)=>A4 (σ'=[v,vR D]) (xs=(((List.range i).map λq=>r (s.k+q)).map λn:Nat=>(n:Int)).map V.int) (Hc O=some (.lst xs)) (SameX O H' Hc)) ⟨none,rfl,rfl,zg,λb o e n=>by rw[zl n];exact e⟩ ?_ ?_⟩
  .rintro i xs σ' H9 hi ⟨v,rfl,rfl,eO,sx⟩;have hi2:i<xd.1.puts:=by lia
   have hD9:=sx _ _ eD (zb eD hO);walk_at"r";rw[show(s.k:Int)+(i:Int)=((s.k+i:Nat):Int) by lia];refine⟨D,_,rfl,DGet.k (k:=.inl ((s.k+i:Nat):Int)) hD9 |> (λz=>by rw[hRn (s.k+i) (mem_next.mpr (.inr ⟨by lia,by lia⟩))]at z;exact z),?_⟩;exists zq eO (by simp only[aa,cq];lia) λG5 x5 e5=>?_;refine yx hi ⟨_,rfl,rfl,?_,sx.trans x5⟩;rw[fi,aj,aj,aj];exact e5
  rintro xs σ' G2 ⟨v,rfl,rfl,eO,sx⟩;have sO:Same H' G2:=λb o e=>sx b o e (zb e hO);rw[show(((s.k+xd.1.puts:Nat):Int) - (s.k:Int)).toNat=xd.1.puts by lia]at eO;have eO':G2 O=some (.lst (if xd.1.puts=2 then [.int ((r s.k:Nat):Int),.int ((r (s.k+1):Nat):Int)] else [.int ((r s.k:Nat):Int)])):=by
   rcases pl2 with h|h
   .rw[h,iV ⋯];rw[h]at eO;exact eO
   .rw[h,iU rfl];rw[h]at eO;exact eO
  obtain⟨c,hc,hcb⟩:=hrel xd.2.1 (aQ (oki.lt _ st.nms.hn) kN);rw[gk _ (oki.lt _ st.nms.hn)]at hcb;exists EB rfl (hy'.same sO) (he.same sO) eO' st.nms.en hc λpr G3 s3' npr epr=>?_;rw[hcb]at epr;have sG3:=sO.trans s3';have ea3:=sG3 _ _ ea;exists zq ea3 (by rw[aa];lia) λG4 x4 e4=>?_;have eD4':=x4 _ _ (sG3 _ _ eD) Da;have he4:DdAt G4 p xd.1:=(he.same sG3).sameX x4 ea3;exists yX ?_;exists y4 rfl he4 λnl G5 s5' nnl enl=>?_;have eD5:=s5' _ _ eD4';have nlD:nl≠D:=cH (zb eD4' nnl);have enn:((t.k:Nat):Int)=((t.k+0:Nat):Int):=rfl;have nml:=names_len st.nms;have hdl:=vj;refine⟨nl,rfl,⟨_,SqL.of enl⟩,z5 (K:=K) (a:=nl) (xs:=xd.1.names.map V.int) (λi σ H'=>E1 λv=>A3 (σ=[vI d,vR hp,vR pl,vR y.p,vR r2,vR D,v1,v2,vI ((t.k+i:Nat):Int),vI ((s.k+xd.1.puts:Nat):Int),vR a,vR p,vI (s.k:Nat),v]) (H' D=some (.dK (deal kvs (xd.1.names.take i) t.k))) (∀b o,G5 b=some o->b≠D->H' b=some o)) ⟨_,rfl,eD5,λb o e _=>e⟩ (λi σ H' _ z'=>by obtain⟨_,_,_,z⟩:=z';exact SqL.of (z _ _ enl nlD)) ?_ ?_⟩
  .rintro i x σ G6 hi6 ⟨v,rfl,eD6',fr6⟩;have hi7:=(af.mp hi6).1;rw[aa]at hi7;rw[ao]at hi6;obtain⟨m,hm,rfl⟩:=aB.mp hi6;have hn2:xd.1.names.length<=2:=xd.1.names_len;have hd1:=vj (xd.1.names.take i) kvs t.k;rw[aU]at hd1;exists⟨D,_,rfl,DPut.k (k:=.inl m) eD6' (aQ (show _<1000 by lia) (!3)),?_⟩;exists⟨_,by rw[show((t.k+i:Nat):Int)+1=((t.k+(i+1):Nat):Int) by lia],?_,λb o e n=>by rw[zl n];exact fr6 b o e n⟩;rw[zg,bQ,hm];show _=some (HO.dK (deal kvs (xd.1.names.take i++[m]) t.k));rw[tj,aU,fq (!2)]
  rintro σ G7 ⟨v,rfl,eD7,fr7⟩;rw[aa,aG]at eD7;have hd2:=vj xd.1.names kvs t.k;have tk7:TupK H' G7:=λb xs e=>fr7 _ _ (s5' _ _ (x4.tup (sG3 _ _ e) ea3)) (zX e eD (λz=>nomatch z));have tk3:TupK G3 G7:=λb xs e=>fr7 _ _ (s5' _ _ (x4.tup e ea3)) (zX e (sG3 _ _ eD) (λz=>nomatch z));walk_at"r";have eap:ends t0 (es'++[undo s xd r])=t.next (undo s xd r):=by rw[w4,ht]
  have kap:t.k+xd.1.names.length=(t.next (undo s xd r)).k:=by rw[xf,nml];congr 1;exact(Bj _ _ _ _).symm
  rw[e0,hs];refine⟨v1,v2,vR p,vI (s.k:Nat),v,deal kvs xd.1.names t.k,ren r xd t.k,ps'++[pr],es'++[undo s xd r],?_,⟨eD7,?_,Hr hRn st.nms⟩,⟨?_,xn (hrun.tk tk7) (epr.tk tk3),?_⟩,⟨?_,?_,?_,?_⟩,λb o e n1 n2=>?_⟩
  .rw[eap,<-kap];rw[aa]
  .have:xd.1.names.length<=2:=xd.1.names_len
   lia
  .rw[aj];exact fr7 _ _ (s5' _ _ e4) (cH Da)
  .rw[ai,hpsl];rfl
  .exact DC hwk (by rw[ht];exact us)
  .rw[ai,hesl];rfl
  .rw[eap];exact um
  .intro i hi n hn;by_cases ci:i<=j
   .rw[cU (!2)]at hn ⊢;exact hbs i ci n hn
   .have:i=j+1:=by lia
    subst this;rw[show(es'++[undo s xd r]).take (j+1)=es'++[undo s xd r] by rw[bT];rw[ai,hesl];exact ak _,eap]at hn ⊢;obtain⟨n0,h0,rfl⟩:=um.on n hn;rw[um.g n0 h0];exact so n0 h0
  .exact fr7 _ _ (s5' _ _ (x4 _ _ (sG3 _ _ (fr _ _ e n1 n2)) n2)) n1
 rintro σ H7 ⟨v1,v2,v3,v4,v5,kvs,r,ps',es',rfl,⟨eD,hkl,hRn⟩,⟨ea,hrun,hpsl⟩,⟨hwk,hesl,sim,hbs⟩,fr⟩;rw[aa,hr'.1]at hesl;rw[aa,hr'.1,dE]at hRn sim;have s07:Same H H7:=λb o e=>fr _ _ (s06 _ _ e) (zb e hD0) (zb e ha0);have hh7:=s07 _ _ hh;have t0ok:As.Ok 120 (As.sb ((ends (As.st L) es).ns.map (ends (As.st L) es).g)) 0:=v8 (by
  rw[aa];have:=cB.mpr okN.ne
  lia) (by rw[aa];lia)
 have okt:=z4 t0ok hwk es'.length (ak _);rw[aG]at okt;have tnl:=okt.nl;exists xA ?_;exists⟨((L.length:Nat):Int),by rw[aa],by lia,by lia,λO hO=>yj (lo:=0) (n:=((L.length:Nat):Int).toNat) (λi xs σ' Hc=>E1 λ(v:Option V)=>A4 (σ'=[v,vR D]) (xs=(((List.range i).map λq=>r (0+q)).map λn:Nat=>(n:Int)).map V.int) (Hc O=some (.lst xs)) (SameX O H7 Hc)) ⟨none,rfl,rfl,zg,λb o e n=>by rw[zl n];exact e⟩ ?_ ?_⟩
 .rintro i xs σ' H9 hi ⟨v,rfl,rfl,eO,sx⟩;have hi2:i<L.length:=by lia
  have hD9:=sx _ _ eD (zb eD hO);walk_at"r";rw[show(0:Int)+(i:Int)=((0+i:Nat):Int) by lia];refine⟨D,_,rfl,DGet.k (k:=.inl ((0+i:Nat):Int)) hD9 |> (λz=>by rw[hRn (0+i) (ca.mpr (!2))]at z;exact z),?_⟩;exists zq eO (by simp only[aa,cq];lia) λG5 x5 e5=>?_;refine yx hi ⟨_,rfl,rfl,?_,sx.trans x5⟩;rw[fi,aj,aj,aj];exact e5
 rintro xs σ' G2 ⟨v,rfl,rfl,eO,sx⟩;have sO:Same H7 G2:=λb o e=>sx b o e (zb e hO);rw[show((L.length:Nat):Int).toNat=L.length by lia,show(λq=>r (0+q))=r from funext λq=>by rw[Nat.zero_add]]at eO;have sim:Sim r (As.sb (L.map Cell.b)) (ends (As.sb ((ends (As.st L) es).ns.map (ends (As.st L) es).g)) es'):=by rw[<-Cr];exact sim
 have hpm:((List.range L.length).map r).Perm (ends (As.sb ((ends (As.st L) es).ns.map (ends (As.st L) es).g)) es').ns:=by
  have h:=Be sim (ij (n:=(L.map Cell.b).length)) (xw okt.up);have e:(As.sb (L.map Cell.b)).ns=List.range L.length:=by show List.range _=_;rw[aa]
  rwa[e]at h
 exists AZ rfl eO hpm okt.up (by rw[<-hpm.length_eq,aa,cq];lia) λqa G3 s3' nqa eqa=>?_;exists zC (!1) λr9 G4 nr9 s4' e4=>?_;have s79:=(sO.trans s3').trans s4';have tof:=DN hwk (λi hi n hn=>hbs i (by have:=hrun.1;lia) n hn) sim (xw okt.up);rw[aa]at tof;have naq:a≠qa:=zb ((sO) _ _ ea) nqa;exact q r9 a qa ps' es' _ G4 (s07.trans s79) e4 ha0 (Same.nn s07 (Same.nn sO nqa)) naq (s79 _ _ ea) (s4' _ _ eqa) (hrun.same s79) hesl tof
theorem DS{N:Int}{p pb:Addr}{s:B4}{Q:VK}{X:XK}(hl:H p=some (.lst (C.map Cell.v)))(hA:∀c∈C,c.At H)(fb:BsAt H pb r1 r2 s N)(hN:1<=N)(hNb:Bd 1500 N)(gb:GB d 1500 s)(h60:C.length<=60)(hd:Bd 64 d)(hE:1<=E)(hC:∀c∈C,BK d s N E M0 M c.b)(q:∀(r:Addr)(ps:List Addr)(H':Hp),Same H H'->H r=none->H' r=some (.lst (ps.map V.ref))->Runs H' ps (npl (N*E) (s.a*E) (s.b*E) ((C.map Cell.b).map (bxD s N (N*E))))->Q (.ref r) H'):P62 ([.int d,.ref p,.ref pb]++[]) H Q X:=by
 have hl':((C.map Cell.b).map (bxD s N (N*E))).length=C.length:=by rw[aa,aa]
 refine uL rfl (D:=N*E) (px:=s.a*E) (py:=s.b*E) (hb:=(C.map Cell.b).map (bxD s N (N*E))) hl hA fb hN hNb gb hl'.symm (!2) hd (aM (!2) (!2)) (J0 hN hE).1 (Kx hN gb.ba gb.bb hNb) (λk c b hc hb=>?_) q;rw[ao,ao,hc]at hb;have e:b=bxD s N (N*E) c.b:=(aJ hb).symm;subst e;have bk:=hC c (ay hc);obtain⟨X,Y,h1,h2,h3,h4,h5⟩:=bk.w;exact⟨X,Y,h1,h2,h3,h4,h5,bk.ok.bi⟩
def lnOf(c:Cell):Ln:=⟨c.pw,c.b.w⟩
theorem BE(h:∀c∈C,BoD d D M c.b):Ever d D M (As.st C):=λn hn=>by have hn:n<C.length:=hn;show BoD d D M (fL C n).b;rw[JU (ag hn)];exact h _ (db hn)
theorem K71(F:Fun K "like" "like" S51 f fd)(B:Bl mg)(o46x:O46x P w K mg base)(o19x:Own P w K mg base 5 "serving" ["d","lengths"] [] (P61 K))(o35x:Own P w K mg base 8 "back" ["d","heap","plan"] [] (P71 cs))(o38x:O38x P w K mg base)(o42x:O42x P w K mg base)(o21x:Own P w K mg base 5 "normal_plan" ["d","heap","base"] [] P62):FnOk P w K mg base CX0 9 f fd ["d","one","other"] (P72 cs):=by
 refine F.okA C74 λcdv A outer s H vs Q E hr h=>?_;obtain@⟨d,N0,Eh,p1,p2,C1,C2,kx,kN,kw,kE,kh,M,rfl,h1,h2,hA1,hA2,o1,ok1,hbt1,o2e,ok2,hbt2,lk,hN,hE,n1,n2,hR,qp,qa⟩:=h;refine⟨_,(za (ps_s 3 C74.nd (ze o46x hr rfl (pa2 (ze o42x hr rfl (pa1 (pv 1))) (ze o42x hr rfl (pa1 (pv 2)))))) (za (zy (zk B8 (pv 3) CN (zm _)) (zc (zi (zo (pa3 zH (pit 3) (pit 3))))) zn) (za (ps_s 4 C74.nd (ze o19x hr rfl (pa2 (pv 0) (zR ["each"] [] rfl (zG (zf wN (pv 1) (pv 2))) (λ_ _ _ _ _=>(pg_n 0 (show List.Nodup (α:=Str) ["each"] by decide+kernel))) (λ_ _ _ _ _=>zD) (λ_ _ _ _ _=>(pe_i (r:=rIxT K) zI (pv 0) zd)))))) (za (ps_s 5 C74.nd (ze o35x hr rfl (pa3 (pv 0) (pv 2) (ze o21x hr rfl (pa3 (pv 0) (pv 2) (pv 4)))))) (za (ps_s 6 C74.nd (ze o38x hr rfl (pa3 (zp zx rfl B.len bS (pa1 (pv 1))) (ze o21x hr rfl (pa3 (pv 0) (pv 1) (pv 4))) (pit 5)))) (zc (zi (zo (pa3 zH (pv 6) (pit 5)))))))))),?_⟩;walk_at"s";obtain⟨a1,a20⟩:=n1;obtain⟨b1,b20⟩:=n2;obtain⟨N01,bN0⟩:=hN;obtain⟨Eh1,bE⟩:=hE;obtain⟨x1,c1,c2,c3,c4,c5,c6,c7,c8⟩:=lk;have hd:Bd 64 d:=zE (B:=99) (by have:=hR.lo;lia) hR.hi (!3);exists uY rfl h1 hA1 ok1 hbt1 a1 λt1 H1 s1 e1=>?_;exists uY rfl (s1 _ _ h2) (λc hc=>(hA2 c hc).same s1) ok2 hbt2 b1 λt2 H2 s2 e2=>?_;have s12:=s1.trans s2;exists xJ rfl (e1.same s2) e2 (λeq=>?_) λr H3 i j s3 e3 fu=>?_;rotate_left
 .walk_at"r";rw[show decide (V.ref r=V.non)=false from iT (λz=>nomatch z)];exists zt (!1) λr4 H4 s4 e4=>?_;exact qa r4 H4 i j ((s12.trans s3).trans s4) e4 fu
 have o2:=o2e eq;have h1':=s12 _ _ h1;have h2':=s12 _ _ h2;walk_at"r";rw[show decide (V.non=V.non)=true from jg rfl];exists yL ?_;exists IZ h1' h2' (by simp only[aa];lia) λpc Ha sa ea=>?_;rw[<-aj]at ea;have hL:∀c∈C1++C2,c.At Ha/\Wh d N0 Eh kx kw kh c.b:=λc hc=>by
  rcases aE.mp hc with h|h
  .exact⟨((hA1 c h).same s12).same sa,o1 c h⟩
  .exact⟨((hA2 c h).same s12).same sa,o2 c h⟩
 have lL:(C1++C2).length<=40:=by rw[ai];lia
 have m1:∀c∈C1,c∈C1++C2:=λc hc=>cg _ hc;have m2:∀c∈C2,c∈C1++C2:=λc hc=>a7 _ hc;generalize C1++C2=L at*
 refine⟨pc,rfl,⟨_,SqL.of ea⟩,λG hG=>ya (K:=K) (a:=pc) (ys:=L.map Cell.v) (λi xs σ' H'=>E1 λ(v:Option V)=>A4 (σ'=[v]) (xs=((L.take i).map lnOf).map Ln.v) (H' G=some (.lst xs)) (SameX G Ha H')) ⟨none,rfl,rfl,zg,λb o e n=>by rw[zl n];exact e⟩ (λi xs σ' H' _ z=>by obtain⟨v,_,_,_,z⟩:=z;exact SqL.of (z _ _ ea (zb ea hG))) ?_ ?_⟩
 .rintro i x xs σ' H' hi ⟨v,rfl,rfl,eG,sx⟩;have hi':=(af.mp hi).1;obtain⟨c,rfl,hc,hic⟩:=xX hi;have ct:=sx _ _ (hL c hc).1.t (zb (hL c hc).1.t hG);exists zq eG (by rw[aa,aa,aU];rw[aa]at hi';lia) λHb sxb eb=>?_;refine yx hi' ⟨_,rfl,?_,eb,sx.trans sxb⟩;rw[g5,hic,aj,aj];rfl
 rintro xs σ' Hb ⟨v,rfl,rfl,eG,sx⟩;rw[aa,aG]at eG;have sb:Same Ha Hb:=λb o e=>sx b o e (zb e hG);have LS:LsB d 970 Hb G (L.map lnOf):=⟨eG,λc hc=>by
  obtain⟨c',hc',rfl⟩:=bV.mp hc;exact sb _ _ (hL c' hc').1.w,λc hc=>by
  obtain⟨c',hc',rfl⟩:=bV.mp hc;have o:=(hL c' hc').2.w;have k:=o.sk N01 bN0;have x:=(hL c' hc').2.x;exact⟨o.z1,o.g,o.up,x.1.mono (!2),x.2.mono (!2),k.bz.mono (!2)⟩⟩
 have bds:∀u∈(L.map lnOf).map Ln.u,Bd kx u.1/\Bd kx u.2:=λu hu=>by obtain⟨c,hc,rfl⟩:=bV.mp hu;obtain⟨c',hc',rfl⟩:=bV.mp hc;exact(hL c' hc').2.x
 have zs1:∀z∈(L.map lnOf).map λc:Ln=>c.s.z,1<=z/\z∣N0:=λz hz=>by obtain⟨c,hc,rfl⟩:=bV.mp hz;obtain⟨c',hc',rfl⟩:=bV.mp hc;exact⟨(hL c' hc').2.w.z1,(hL c' hc').2.w.dvd N01⟩
 obtain⟨N1,_,Nd⟩:=uR ((L.map lnOf).map λc:Ln=>c.s.z) 1 ⋯ λz hz=>(zs1 z hz).1;have ND:=Dn ((L.map lnOf).map λc:Ln=>c.s.z) 1 ⋯ ⟨N0,by lia⟩ zs1;obtain⟨ups,_⟩:=Ij LS.ok;obtain⟨M',hM⟩:=Gv hR ups;have gM:=Fst.gb hR x1 hM ups bds;have N1:1<=cbs ((L.map lnOf).map λc:Ln=>c.s.z):=N1;have ND:cbs ((L.map lnOf).map λc:Ln=>c.s.z)∣N0:=ND;have Nd:∀z∈(L.map lnOf).map λc:Ln=>c.s.z,z∣cbs ((L.map lnOf).map λc:Ln=>c.s.z):=Nd;have Nb:Bd kN (cbs ((L.map lnOf).map λc:Ln=>c.s.z)):=Bd.dvd_le bN0 N01 ND;exists DH rfl LS hR (by rw[aa];exact lL) hM (Nb.mono (!2)) λpb r1 r2 Hc sc fc=>?_;have Ndv:∀c∈L,c.b.w.z∣cbs ((L.map lnOf).map λc:Ln=>c.s.z):=λc hc=>Nd _ (b9 (f:=λc:Ln=>c.s.z) (b9 (f:=lnOf) hc));have hsrv:∀c∈L,(st d M').srv c.b.w.x c.b.w.y:=λc hc=>hM.1 _ (b9 (f:=Ln.u) (b9 (f:=lnOf) hc));generalize cbs ((L.map lnOf).map λc:Ln=>c.s.z)=N at*
 generalize st d M'=sb' at*
 clear LS eG sx zs1 Nd hM ups bds;have bk:∀c∈L,BK d sb' N Eh (kw+kx+3+(kN+kh)) M c.b:=λc hc=>BK.so (k:=kx+1) (Mw:=kw) (Mh:=kh) (kN:=kN) (kE:=kE) hR gM N1 Eh1 N01 (hL c hc).2.w (Ndv c hc) ND (hL c hc).2.h (hsrv c hc) Nb bE (!2) (!2) (!2) (!2) (!2);have bk1:∀c∈C1,BK d sb' N Eh (kw+kx+3+(kN+kh)) M c.b:=λc hc=>bk c (m1 c hc);have bk2:∀c∈C2,BK d sb' N Eh (kw+kx+3+(kN+kh)) M c.b:=λc hc=>bk c (m2 c hc);have ND1:1<=N*Eh:=aM (!2) (!2);have sz:Sz (N*Eh) (kN+kE) M:=⟨ND1,Nb.mul bE,by lia,by lia⟩
 have bas:Bas d M (sb'.a*Eh) (sb'.b*Eh) (sb'.c*Eh) (sb'.e*Eh):=HP hR gM Eh1 bE (!2);have bN9:Bd 1500 N:=Nb.mono (!2);have g9:GB d 1500 sb':=gM.mono (!2);obtain⟨w1,l1,en1,_⟩:=B9 (C:=C1) false hR sz N1 Eh1 bas bk1 (!2) a1;obtain⟨w2,l2,en2,_⟩:=B9 (C:=C2) false hR sz N1 Eh1 bas bk2 (!2) b1;have same:nrmD sb' N Eh (C1.map Cell.b)=nrmD sb' N Eh (C2.map Cell.b):=Cy gM N1 Eh1 (λb hb=>by
  obtain⟨c,hc,rfl⟩:=bV.mp hb;exact bk1 c hc) (λb hb=>by
  obtain⟨c,hc,rfl⟩:=bV.mp hb;exact bk2 c hc) eq
 have tc:=(sa.trans sb).trans sc;have h2c:=tc _ _ h2';have hA2c:∀c∈C2,c.At Hc:=λc hc=>((hA2 c hc).same s12).same tc;have hA1c:∀c∈C1,c.At Hc:=λc hc=>((hA1 c hc).same s12).same tc;have bo1:∀c∈C1,BoD d (N*Eh) M c.b:=λc hc=>(bk1 c hc).bod hR ND1 (o1 c hc).w.up;have bo2:∀c∈C2,BoD d (N*Eh) M c.b:=λc hc=>(bk2 c hc).bod hR ND1 (o2 c hc).w.up;exists DS h2c hA2c fc N1 bN9 g9 (!2) hd Eh1 bk2 λpl2 ps2 Hd sd nd ed hr2=>?_;have ev2:=uc (c:=0) w2 (BE bo2) _ (ak _);rw[aG]at ev2;exists JS rfl (sd _ _ h2c) (λc hc=>(hA2c c hc).same sd) b1 b20 ed (by rw[hr2.1];lia) hR hr2 w2.walk sz ev2 λrb ab bb ps' es' qs He se eb na nb nab ea' eb' hr' hl' T=>?_;rw[en2,<-same]at T;have hl'':es'.length<=100:=by rw[hl'];lia
 have t0e:=((s12.trans tc).trans sd).trans se;have h1e:=t0e _ _ h1;have hAe1:∀c∈C1,c.At He:=λc hc=>((hA1c c hc).same sd).same se;exists DS h1e hAe1 ((fc.same sd).same se) N1 bN9 g9 (!2) hd Eh1 bk1 λpl1 ps1 Hf sf nf ef hr1=>?_;have ebf:=sf _ _ eb;have eaf:=sf _ _ ea';have ebf':=sf _ _ eb';have w1':=w1.walk;rw[Cr]at w1' en1;have h1f:=sf _ _ h1e;have hlen:(((C1.map Cell.v).length:Nat):Int)=(((C1.map Cell.b).length:Nat):Int):=by rw[aa,aa]
 walk_at"r";rw[hlen];refine ud rfl (F:=nrmD sb' N Eh (C1.map Cell.b)) (by rw[aa];lia) (by rw[aa];lia) ef (by rw[hr1.1];lia) hr1 w1' eaf (by rw[hr'.1];lia) (hr'.same sf) en1 T.w λpf qs' Hg sg nf' eg hrg=>?_;have ebg:=sg _ _ ebf;exists zt (!1) λr Hh sh eh=>?_;have tgh:=sg.trans sh;have s0f:=t0e.trans sf;have nb0:H bb=none:=Same.nn ((s12.trans tc).trans sd) nb;have npf:H pf=none:=Same.nn s0f nf';have wat:=BS w1 (KJ a1) (λn hn=>BE bo1 n (ca.mp hn));rw[Cr]at wat;refine qp eq r pf bb Hh _ _ qs (N*Eh) ((s0f.trans sg).trans sh) eh npf nb0 (λz=>?_) (sh _ _ eg) (hrg.same sh) ?_ (tgh _ _ ebf') sz (HY (by rw[aa];exact a1) (by rw[aa];exact a20) w1' (λi hi=>(wat i hi).1) en1 T)
 .rw[z,ebf']at nf';cases nf'
 .rw[hrg.1,ai,aa]
  lia
theorem K72(F:Fun K "like_turned" "like_turned" S55 f fd)(B:Bl mg)(o42x:O42x P w K mg base)(o46x:O46x P w K mg base)(o40x:Own P w K mg base 3 "minus" ["one","other"] [] P51)(o50x:Own P w K mg base 7 "turning_deeds" ["d","heap","gap"] [] (P69 K))(o47x:Own P w K mg base 9 "like" ["d","one","other"] [] (P72 cs))(o45x:O45x P w K mg base)(o32x:Own P w K mg base 8 "walked" ["d","heap","plan","turning"] [] (P70 cs))(o38x:O38x P w K mg base)(o44x:Own P w K mg base 1 "over" ["one"] [] P14):FnOk P w K mg base CX0 10 f fd ["d","one","other"] (P73 K cs):=by
 refine F.okA C75 λcdv A outer s H vs Q E hr h=>?_;obtain@⟨R,p1,p2,c,L,C2,D1,D2,E1,E2,rfl,h1,h2,hA1,hA2,o1,o2,hD1,hD2,bw,bh,n1,n2,T1,T2,qp,qa⟩:=h;refine⟨_,(za (ps_s 3 C75.nd (ze o42x hr rfl (pa1 (pv 1)))) (za (ps_s 4 C75.nd (ze o42x hr rfl (pa1 (pv 2)))) (za (ps_s 5 C75.nd (ze o46x hr rfl (pa2 (ze o45x hr rfl (pa2 (pv 3) (ze o44x hr rfl (pa1 (pv 3))))) (ze o45x hr rfl (pa2 (pv 4) (ze o44x hr rfl (pa1 (pv 4)))))))) (za (zy (zk B8 (pv 5) CN (zm _)) (zc (zi (zo (pa3 zH (pit 5) (pit 5))))) zn) (za (ps_s 6 C75.nd (ze o40x hr rfl (pa2 (pe_i zI (pit 4) zd) (pe_i zI (pit 3) zd)))) (za (zy (zk ye (pit 6) zd (zm _)) (zc (zi (ze o47x hr rfl (pa3 (pv 0) (pv 1) (pv 2))))) zn) (za (ps_s 7 C75.nd (ze o50x hr rfl (pa3 (pv 0) (pv 1) (pv 6)))) (za (ps_s 8 C75.nd (ze o47x hr rfl (pa3 (pv 0) (ze o32x hr rfl (zu (pv 0) (zu (pv 1) (zu (pv 7) (zu wm yq))))) (pv 2)))) (zc (zi (zo (pa3 zH (ze o38x hr rfl (pa3 (zp zx rfl B.len bS (pa1 (pv 1))) (pv 7) (pit 8))) (pit 8))))))))))))),?_⟩;walk_at"s";obtain⟨D11,bD1⟩:=hD1;obtain⟨D21,bD2⟩:=hD2;obtain⟨c1,c8⟩:=n2;obtain⟨T1,E11,bE1⟩:=T1;obtain⟨T2,E21,bE2⟩:=T2;have hd:Bd 64 R.d:=zE (B:=99) (by have:=R.h.lo;lia) R.h.hi (!3);have oc:=o1 c aH;have ok1:∀x∈c::L,S19 x.b.w/\S19 x.b.h:=λx hx=>(o1 x hx).s19 D11 bD1 ⋯ ⋯;have ok2:∀x∈C2,S19 x.b.w/\S19 x.b.h:=λx hx=>(o2 x hx).s19 D21 bD2 ⋯ ⋯;have hb1:=GP o1 D11 bD1 (by rw[au];lia) ⋯ ⋯;have hb2:=GP o2 D21 bD2 (!2) ⋯ ⋯;have gb:=JF (m:=239) T1 T2 E11 E21 bE1 bE2 ⋯ ⋯;have B1:(tbs ((c::L).map Cell.b)).Bt 4000 4000:=(T1.bt (!2) bE1).mono ⋯ ⋯;have B2:(tbs (C2.map Cell.b)).Bt 4000 4000:=(T2.bt (!2) bE2).mono ⋯ ⋯;exists uY rfl h1 hA1 ok1 hb1 (!1) λa1 H1 s1 e1=>?_;exists uY rfl (s1 _ _ h2) (λx hx=>(hA2 x hx).same s1) ok2 hb2 c1 λa2 H2 s2 e2=>?_;generalize et1:(tbs ((c::L).map Cell.b))=t1 at*
 generalize et2:tbs (C2.map Cell.b)=t2 at*
 have e12:=e1.same s2;exists GD rfl e12 λa3 H3 s3 e3=>?_;obtain⟨r0,r1,f0,f1,f2,f3,h12⟩:=id (e12.same s3);exists wy rfl ⟨_,_,_,_,_,_,h12.s⟩ e3 B1 ⟨B1.a,B1.c,B1.b,B1.e⟩ λa4 H4 s4 e4=>?_;have e24:=(e2.same s3).same s4;exists GD rfl e24 λa5 H5 s5 e5=>?_;obtain⟨r0',r1',f0',f1',f2',f3',h24⟩:=id (e24.same s5);exists wy rfl ⟨_,_,_,_,_,_,h24.s⟩ e5 B2 ⟨B2.a,B2.c,B2.b,B2.e⟩ λa6 H6 s6 e6=>?_;have s26:=((s3.trans s4).trans s5).trans s6;have s06:=(s1.trans s2).trans s26;exists xJ rfl ((e4.same s5).same s6) e6 (λEQ=>?_) λr H7 i j s7 e7 fu=>?_;rotate_left
 .walk_at"r";rw[show decide (V.ref r=V.non)=false from iT (λz=>nomatch z)];exists zt (!1) λr8 H8 s8 e8=>?_;exact qa r8 H8 i j ((s06.trans s7).trans s8) e8 fu
 walk_at"r";rw[show decide (V.non=V.non)=true from jg rfl];have k1:=h12.same ((s4.trans s5).trans s6);have k2:=h24.same s6;have k1p:=k1.p;have k1r:=k1.r0;have k2p:=k2.p;have k2r:=k2.r0;exists Il k2.f1 k1.f1 (B2.b.bq ⋯ ⋯) (B1.b.bq ⋯ ⋯) λpg H7 s7 eg=>?_;have s07:=s06.trans s7;have eg':H7 pg=some (.tup [.int (t2.b - t1.b).num,.int ((t2.b - t1.b).den:Int)]):=eg;have q1:t1.a+t1.a=t2.a+t2.a:=congrArg Tb.a EQ;have q2:t1.b+t1.c=t2.b+t2.c:=congrArg Tb.b EQ;have q3:t1.e+t1.e=t2.e+t2.e:=congrArg Tb.e EQ;have h17:=s07 _ _ h1;have h27:=s07 _ _ h2;exists if_d (λz=>?_) (λz=>?_)
 .have gz:t2.b - t1.b=0:=Rat.num_eq_zero.mp z;have tt:tbs ((c::L).map Cell.b)=tbs (C2.map Cell.b):=by
   rw[et1,et2];exact Tb.ext (by grind) (by grind) (by grind) (by grind)
  have N1:1<=D1*D2:=aM (!2) (!2);have bN:Bd 192 (D1*D2):=bD1.mul bD2;have lk:LkB 140 192 260 192 260 900:=⟨by decide,by decide,by decide,by decide,by decide,by decide,by decide,by decide,by decide⟩
  exists Gx rfl (N0:=D1*D2) (Eh:=D1*D2) (C1:=c::L) h17 h27 (λx hx=>(hA1 x hx).same s07) (λx hx=>(hA2 x hx).same s07) (λx hx=>?_) ok1 hb1 (λ_ x hx=>?_) ok2 hb2 lk ⟨N1,bN⟩ ⟨N1,bN⟩ ⟨by simp,by rw[au];lia⟩ ⟨c1,by lia⟩ R.h (λ_ r pl pp H8 ps es qs D' s8 e8 _ _ _ _ _ _ _ _ _=>?_) λr H8 i j s8 e8 fu=>absurd (by rw[tt]) fu.ne
  .have o:=o1 x hx;have k:=o.1.sk D11 bD1;exact⟨(o.1.scale bD2).mono ⋯,⟨k.bx.mono ⋯,k.by'.mono ⋯⟩,(o.2.scale bD2).mono ⋯⟩
  .have o:=o2 x hx;have k:=o.1.sk D21 bD2;rw[av D1 D2];exact⟨(o.1.scale bD1).mono ⋯,⟨k.bx.mono ⋯,k.by'.mono ⋯⟩,(o.2.scale bD1).mono ⋯⟩
  .walk_at"r";exact qp EQ r pl pp H8 (s07.trans s8) e8
 .have hAc:=(hA1 c aH).same s07;exists vx rfl (c:=c) (L:=L) h17 hAc eg (!2) ⟨⟨oc.1.z1,oc.1.g⟩,oc.2.z1,oc.2.g⟩ ⟨oc.1.up,oc.2.up⟩ bw bh gb z λpd ps pw ph H8 s8 nd ed hr P=>?_;have s08:=s07.trans s8;have gd1:(1:Int)<=((t2.b - t1.b).den:Int):=by have:=(t2.b - t1.b).den_pos;lia
  obtain⟨Z,Z1,bZ,sp,sq,np,nq,eg2⟩:=Qd.pie_so P gd1 gb.2 gb.1 (show 359<=371 by decide) (show 371<=371 by decide) ⋯ ⋯;rw[dR]at eg2;have syw:SY c.b.w:=(oc.1.sk D11 bD1).mono ⋯ ⋯;have syh:SY c.b.h:=(oc.2.sk D11 bD1).mono ⋯ ⋯;have syp:SY pw:=(sp.sk Z1 bZ).mono ⋯ ⋯;have syq:SY ph:=(sq.sk Z1 bZ).mono ⋯ ⋯;obtain⟨co1,u1⟩:=Qd.cut_ok syw syp P.uw P.tw;obtain⟨co2,u2⟩:=Qd.cut_ok syh syq P.uh P.th;have wk:=HV (bs:=L.map Cell.b) co1 co2;rw[aa]at wk;have wk':Walk R.d true (As.st (c::L)) (tde (L.length+1) pw ph):=by rw[Cr];exact wk
  have oB:∀x∈c.b::L.map Cell.b,BoD R.d D1 115 x:=λx hx=>by have:x∈(c::L).map Cell.b:=hx;obtain⟨y,hy,rfl⟩:=bV.mp this;exact o1 y hy
  have wh:=D4 D11 bD1 D21 bD2 Z1 bZ oB bw sp sq np ⟨nq.1,nq.2.1⟩ u1 u2;have en:=Hu (b:=c.b) (bs:=L.map Cell.b) (pw:=pw) (ph:=ph);rw[aa]at en;have ttb:=Li (bs:=L.map Cell.b) oc.1.ne oc.2.ne (show pw.z≠0 by have:=P.lw.1;lia) (show ph.z≠0 by have:=P.lh.1;lia) eg2;have et1':tbs (c.b::L.map Cell.b)=t1:=et1;rw[et1']at ttb;exists Ft rfl (L:=c::L) (s08 _ _ h1) (λx hx=>(hA1 x hx).same s08) (by rw[au];lia) ed (by rw[hr.1];show 3<=150;decide) hd hr wk' λr9 C9 H9 s9 n9 e9 hA9 eB=>?_;rw[Cr]at eB;have eB:C9.map Cell.b=L.map Cell.b++tdB c.b.w c.b.h pw ph:=eB.trans en;have l9:C9.length=L.length+3:=by have:=congrArg List.length eB;rw[aa,ai,aa]at this;exact this
  have s09:=s08.trans s9;have tt:tbs (C9.map Cell.b)=tbs (C2.map Cell.b):=by rw[eB,ttb,et2];exact Tb.ext (show t1.a=t2.a by grind) (show t1.b+(t2.b - t1.b)=t2.b by grind) (show t1.c - (t2.b - t1.b)=t2.c by grind) (show t1.e=t2.e by grind)
  have N1:1<=D1*Z*D2:=aM (aM (!2) (!2)) (!2);have bN:Bd 746 (D1*Z*D2):=((bD1.mul bZ).mul bD2).mono ⋯;have wh9:∀x∈C9,Wh R.d (D1*Z*D2) (D1*Z*D2) 936 1500 1500 x.b:=λx hx=>wh x.b (by rw[<-eB];exact b9 hx);have ok9:∀x∈C9,S19 x.b.w/\S19 x.b.h:=λx hx=>(wh9 x hx).s19 N1 bN N1 bN ⋯ ⋯ ⋯ ⋯;have hb9:=KO N1 bN N1 bN wh9 (!2) ⋯ ⋯;have lk:LkB 936 746 1500 746 1500 4705:=⟨by decide,by decide,by decide,by decide,by decide,by decide,by decide,by decide,by decide⟩
  exists Gx rfl (N0:=D1*Z*D2) (Eh:=D1*Z*D2) e9 (s09 _ _ h2) hA9 (λx hx=>(hA2 x hx).same s09) wh9 ok9 hb9 (λ_ x hx=>?_) ok2 hb2 lk ⟨N1,bN⟩ ⟨N1,bN⟩ ⟨by lia,by lia⟩ ⟨c1,by lia⟩ R.h (λ_ r pl pp Ha ps' es qs D' sa ea _ _ _ epl hr' hl epp sz PL=>?_) λr H8 i j s8 e8 fu=>absurd (by rw[tt]) fu.ne
  .have o:=o2 x hx;have k:=o.1.sk D21 bD2;rw[av (D1*Z) D2];exact⟨(o.1.scale (bD1.mul bZ)).mono ⋯,⟨k.bx.mono ⋯,k.by'.mono ⋯⟩,(o.2.scale (bD1.mul bZ)).mono ⋯⟩
  .have s0a:=s09.trans sa;have h1a:=s0a _ _ h1;have hlen:((((c::L).map Cell.v).length:Nat):Int)=((((c::L).map Cell.b).length:Nat):Int):=by rw[aa,aa]
   have s8a:=s9.trans sa;walk_at"r";rw[hlen];refine ud rfl (bs:=(c::L).map Cell.b) (F:=C9.map Cell.b) (!1) (by rw[aa,au];lia) (s8a _ _ ed) (by rw[hr.1];show 3<=150;decide) (hr.same s8a) wk epl (!2) hr' (by rw[eB];exact en) PL.w λpf qs' Hb sb nf eb hrb=>?_;have eab:=sb _ _ ea;exists zt (!1) λrr Hc sc ec=>?_;walk_at"r";exact qp EQ rr pf pp Hc ((s0a.trans sb).trans sc) ec
def spf(s t:Tb)(k:Nat):List Int:=((List.range k).filter λi=>decide (cmT i s≠cmT i t)).map λi:Nat=>(i:Int)
theorem wZ(s t:Tb)(k:Nat):spf s t (k+1)=spf s t k++(if cmT k s=cmT k t then [] else [(k:Int)]):=by
 unfold spf;rw[fi,fj,aj];congr 1;by_cases c:cmT k s=cmT k t
 .rw[iU c,c9,iV (by simp[c])];rfl
 .rw[iV c,c9,iU (by simp[c])];rfl
theorem ID(s t:Tb)(k:Nat):(spf s t k).length<=k:=by unfold spf;rw[aa];exact cf (fM ..) (!1)
theorem Ht{s t:Tb}(e:s=t):spf s t 4=[]:=by subst e;unfold spf;simp
theorem Iz{s t:Tb}{i j:Nat}(h:Fu s t i j):∃r,spf s t 4=((2*i+j:Nat):Int)::r:=by
 have h0:∀k,k<=2*i+j->spf s t k=[]:=λk=>by
  induction k with
  |zero=>exact λ_=>rfl
  |succ k ih =>
   intro hk;rw[wZ,ih (!2),iU (h.eq k (!2))];rfl
 have h1:spf s t (2*i+j+1)=[((2*i+j:Nat):Int)]:=by rw[wZ,h0 _ (ak _),iV h.ne];rfl
 have h2:∀m,∃r,spf s t (2*i+j+1+m)=((2*i+j:Nat):Int)::r:=λm=>by
  induction m with
  |zero=>exact⟨[],h1⟩
  |succ m ih =>
   obtain⟨r,hr⟩:=ih;rw[<-gj,wZ,hr];exact⟨_,rfl⟩
 obtain⟨r,hr⟩:=h2 (3 - (2*i+j));have:=h.i2;have:=h.j2;rw[show 2*i+j+1+(3 - (2*i+j))=4 by lia]at hr;exact⟨r,hr⟩
theorem K73(F:Fun K "law" "law" S69 f fd)(B:Bl mg)(o53x:Own P w K mg base 1 "_law_mixed" ["_law_script","_law_most"] [] (P17 K))(o52x:O52x P w K mg base)(o58x:Own P w K mg base 1 "_law_root" ["_law_cell"] [] P21)(o60x:O60x P w K mg base)(o64x:Own P w K mg base 4 "_law_other" ["_law_d","_law_one","_law_script","_law_way"] [] (P60 K))(o62x:Own P w K mg base 2 "_law_with_over" ["_law_heap_here"] [] P41)(o51x:Own P w K mg base 10 "like_turned" ["d","one","other"] [] (P73 K cs))(o63x:Own P w K mg base 1 "_law_is_whole" ["_law_found"] [] P23):FnOk P w K mg base CX0 11 f fd ["_law_script"] (ER K):=by
 refine F.ok (k:=10) C76 (λvs H Q E h=>by obtain⟨a,ns,rfl,hS,h63,hbd,q⟩:=h;rfl) (λcdv A outer s H vs Q E hr h=>?_);obtain⟨a,ns,rfl,hS,h63,hbd,q⟩:=h;refine⟨_,(za (ps_s 0 C76.nd (ze o53x hr rfl (pa2 (pv 0) zd))) (za (ps_s 1 C76.nd (ze o52x hr rfl (pa2 (pv 0) zd))) (za (ps_s 2 C76.nd (ze o58x hr rfl (pa1 (pv 1)))) (za (ps_s 3 C76.nd (ze o60x hr rfl (pa2 (pv 2) (zR ["_law_k"] [0] rfl (z9 rfl B.range (pa1 (zf zv zd (zf yz (zf zL (pv 1) zd) zd)))) (λ_ _ _ _ _=>(pg_n 0 (show List.Nodup (α:=Str) ["_law_k","_law_script"] by decide+kernel))) (λ_ _ _ _ _=>zD) (λ_ _ _ _ _=>(ze o52x hr rfl (pa2 (pv 1) (zf zv zd (pv 0))))))))) (za (ps_s 4 C76.nd (ze o64x hr rfl (zu (pv 2) (zu (pv 3) (zu (pv 0) (zu (zf yz (zf zL (pv 1) zd) zd) yq)))))) (za (ps_s 5 C76.nd (ze o62x hr rfl (pa1 (pv 3)))) (za (ps_s 6 C76.nd (ze o62x hr rfl (pa1 (pv 4)))) (za (EC (i:=7) C76.nd rfl rfl ["_law_k"] [5,6] rfl (z9 rfl B.range (pa1 zd)) (λ_ _ _ _ _=>(pg_n 0 (show List.Nodup (α:=Str) ["_law_k","_law_mine","_law_theirs"] by decide+kernel))) (λ_ _ _ _ _=>(BO (zk A2 (zf zj (pe_i (r:=rIxT K) zI (pe_i (r:=rIxL K) zQ (pv 1) (pv 0)) zd) (pe_i (r:=rIxT K) zI (pe_i (r:=rIxL K) zQ (pv 2) (pv 0)) zd)) (zf zj (pe_i (r:=rIxT K) zI (pe_i (r:=rIxL K) zQ (pv 2) (pv 0)) zd) (pe_i (r:=rIxT K) zI (pe_i (r:=rIxL K) zQ (pv 1) (pv 0)) zd)) (zm _)))) (λ_ _ _ _ _=>(pv 0))) (za (ps_s 8 C76.nd (ze o51x hr rfl (pa3 (pv 2) (pv 3) (pv 4)))) (za (zy (PW.pt (t9 (yJ (yp (zp zY rfl B.isinstance zK (pa2 (pv 8) (xi (v:=.ty "tuple") rfl B.tuple wX rfl))))) (uk (zk A2 (zp zx rfl B.len bS (pa1 (pv 8))) zd (zm _))))) (zc (zi wm)) zn) (za (zy (zk (Gm hr.units) (pv 7) (zP yq) (zm _)) (zc (zi (yo ye (pit 8) zH (zm _)))) zn) (za (zy (PW.pt (t9 (zk A2 (pit 8) zH (zm _)) (t9 (yJ (yp (ze o63x hr rfl (pa1 (pit 8))))) (uk (yJ (yp (ze o63x hr rfl (pa1 (pit 8))))))))) (zc (zi wm)) zn) (zc (zi (Bv (yo ye (zf zv (zf zj zd (pit 8)) (pit 8)) (pil 7) (zm _)) (tz (yo vZ (pit 8) zd (zm _)))))))))))))))))),?_⟩;walk_at"s";exists Av rfl hS hbd h63 λsc H1 ms s1 nsc esc hms=>?_;exists xo rfl (SqL.of esc) ⋯ hms λn0 bn0=>?_;exists AD rfl λd H2 hR s2=>?_;have esc:=s2 _ _ esc;have hd:Bd 64 d:=zE (B:=99) (by have:=hR.lo;lia) hR.hi (!3);exists xA ?_;exists⟨1+n0 / 100 % 4,rfl,by lia,by lia,λO3 hO=>yj (lo:=0) (n:=(1+n0 / 100 % 4).toNat) (λi xs σ' Hc=>E2 λ(v:Option V)(ks:List Int)=>A6 (σ'=[v,vR sc]) (xs=ks.map V.int) (ks.length=i) ((∀x∈ks,Bd 1048576 x)) (Hc O3=some (.lst xs)) (SameX O3 H2 Hc)) ⟨none,[],rfl,rfl,rfl,λc hc=>absurd hc (!1),zg,λb o e n=>by rw[zl n];exact e⟩ ?_ ?_⟩
 .rintro i xs σ' Hc hi ⟨v,ks,rfl,rfl,hkl,hkb,eO,sx⟩;have hi9:i<9:=by lia
  have eS:=sx _ _ esc (zb esc hO);exists xo rfl (SqL.of eS) (!2) hms λc bc=>?_;exists zq eO (by rw[aa];lia) λHd x4 e4=>?_;refine yx hi ⟨_,ks++[c],rfl,by rw[aj];rfl,by rw[ai,hkl];rfl,λc' hc'=>?_,e4,sx.trans x4⟩;rcases aE.mp hc' with h|h
  .exact hkb c' h
  .rw[aq.mp h];exact bc
 rintro xs σ' H3 ⟨v,k3,rfl,rfl,hl_k3,hb_k3,e_O3,sx⟩;have s_H3:Same H2 H3:=λb o e=>sx b o e (zb e hO);clear sx;exists xL rfl (ns:=k3) hR (SqL.of e_O3) (λx hx=>(hb_k3 x hx).mono (!3)) (!2) λp1 H4 C1 s4 np1 e4 hA1 dw1 lC1=>?_;have esc:=s4 _ _ (s_H3 _ _ esc);have hC1:1<=C1.length/\C1.length<=4:=by lia
 clear lC1 hl_k3 e_O3 hb_k3;obtain⟨c,L,rfl⟩:∃c L,C1=c::L:=by
  match C1,hC1.1 with
  |c::L,_=>exact⟨c,L,rfl⟩
 have hL:L.length<=3:=by have:=hC1.2;rw[au]at this;lia
 obtain⟨D1,D11,bD1,o1⟩:=A8 dw1;obtain⟨Ea,T1,Ea1,bE1⟩:=FY _ dw1;rw[au]at bD1 o1 T1 bE1;obtain⟨dwc,dhc⟩:=dw1 c aH;exists tF rfl e4 hA1 dw1 hC1 hR esc hms ⟨by lia,by lia⟩ λp2 H5 C2 s5 e5 hA2 O2=>?_;obtain⟨c21,c28,⟨D2,D21,bD2,o2⟩,Eb,T2,Eb1,bE2⟩:=O2;have e15:=s5 _ _ e4;have hA15:∀x∈c::L,x.At H5:=λx hx=>(hA1 x hx).same s5;exists xc rfl e15 hA15 (λx hx=>(o1 x hx).mono (!2)) ⟨D11,bD1.mono (!2)⟩ (by rw[au];lia) λr8 H8 s8 S8=>?_;exists xc rfl (s8 _ _ e5) (λx hx=>(hA2 x hx).same s8) o2 ⟨D21,bD2⟩ (!2) λr9 H9 s9 S9=>?_;have S8:=S8.same s9;obtain⟨fs,fl,fe,ff⟩:=S8;obtain⟨gs,gl,ge,gg⟩:=S9;exists xA ?_;exists⟨4,rfl,by decide,by decide,λO hO=>yj (lo:=0) (n:=(4:Int).toNat) (λi xs σ' Hc=>E1 λ(v:Option V)=>A4 (σ'=[v,vR r8,vR r9]) (xs=(spf ((tbs ((c::L).map Cell.b)).add (tbs ((c::L).map Cell.b)).tr) ((tbs (C2.map Cell.b)).add (tbs (C2.map Cell.b)).tr) i).map V.int) (Hc O=some (.lst xs)) (SameX O H9 Hc)) ⟨none,rfl,rfl,zg,λb o e n=>by rw[zl n];exact e⟩ ?_ ?_⟩
 .rintro i xs σ' Hc hi ⟨v,rfl,rfl,eO,sx⟩;have hi4:i<4:=hi;have sHc:Same H9 Hc:=λb o e=>sx b o e (zb e hO);obtain⟨f,hf⟩:∃f,fs[i]?=some f:=⟨_,ag (!2)⟩
  obtain⟨g,hg⟩:∃g,gs[i]?=some g:=⟨_,ag (!2)⟩
  obtain⟨x1,y1,ef,shf⟩:=ff i f hf;obtain⟨x2,y2,eg,shg⟩:=gg i g hg;have ef:=sHc _ _ ef;have eg:=sHc _ _ eg;have efe:=sHc _ _ fe;have ege:=sHc _ _ ge;have g1:atI (fs.map V.ref) (0+(i:Int))=some (.ref f):=by rw[show(0:Int)+(i:Int)=(i:Int) by lia];exact yl (by rw[ao,hf];rfl)
  have g2:atI (gs.map V.ref) (0+(i:Int))=some (.ref g):=by rw[show(0:Int)+(i:Int)=(i:Int) by lia];exact yl (by rw[ao,hg];rfl)
  have b1:=shf.bt;have b2:=shf.bb;have b3:=shg.bt;have b4:=shg.bb;have key:x1*y2=x2*y1↔cmT i ((tbs ((c::L).map Cell.b)).add (tbs ((c::L).map Cell.b)).tr)=cmT i ((tbs (C2.map Cell.b)).add (tbs (C2.map Cell.b)).tr):=by rw[<-cm_T,<-cm_T,shf.e,shg.e];exact(bP (by have:=shf.b1;lia) (by have:=shg.b1;lia)).symm
  have sl:=ID ((tbs ((c::L).map Cell.b)).add (tbs ((c::L).map Cell.b)).tr) ((tbs (C2.map Cell.b)).add (tbs (C2.map Cell.b)).tr) i;have ss:=wZ ((tbs ((c::L).map Cell.b)).add (tbs ((c::L).map Cell.b)).tr) ((tbs (C2.map Cell.b)).add (tbs (C2.map Cell.b)).tr) i;repeat (first|walk_at"rd" |refine xb efe g1 ?_|refine xb ege g2 ?_)
  refine AS (λc=>?_) (λc=>?_)
  .exists zq eO (by rw[aa];lia) λHd x4 e4=>?_;refine yx hi ⟨_,rfl,rfl,?_,sx.trans x4⟩;rw[ss,iV (λz=>c (key.mpr z)),aj];rw[show(0:Int)+(i:Int)=(i:Int) by lia]at e4;exact e4
  .exists yx hi ⟨_,rfl,rfl,?_,sx⟩;rw[ss,iU (key.mp c),dU];exact eO
 rintro xs σ' Hb ⟨v,rfl,rfl,eO,sx⟩;have eO:Hb O=some (.lst ((spf ((tbs ((c::L).map Cell.b)).add (tbs ((c::L).map Cell.b)).tr) ((tbs (C2.map Cell.b)).add (tbs (C2.map Cell.b)).tr) 4).map V.int)):=eO;have sb:Same H9 Hb:=λb o e=>sx b o e (zb e hO);have z5b:=(s8.trans s9).trans sb;clear sx ff gg fe ge;exists uM rfl (R:=⟨d,hR⟩) (D1:=D1) (D2:=D2) (E1:=Ea) (E2:=Eb) (z5b _ _ e15) (z5b _ _ e5) (λx hx=>(hA15 x hx).same z5b) (λx hx=>(hA2 x hx).same z5b) (λx hx=>(o1 x hx).mono (!2)) o2 ⟨D11,bD1.mono (!2)⟩ ⟨D21,bD2⟩ ⟨dwc.bx,dwc.by',dwc.bz⟩ ⟨dhc.bx,dhc.by',dhc.bz⟩ (!2) ⟨c21,c28⟩ ⟨T1.mono (!2),Ea1,bE1.mono (!2)⟩ ⟨T2,Eb1,bE2⟩ (λeq r pl pp Hc sc' ec=>?_) λr Hc i j sc' ec fu=>?_
 .rw[Ht eq]at eO;have eOc:=sc' _ _ eO;exists Ct (by rfl) ?_;exists zB (!1) λo4 Hd n4 sd e4=>?_;refine⟨O,o4,_,rfl,rfl,SqL.of (sd _ _ eOc),SqL.of e4,?_⟩;have ecd:=sd _ _ ec;rw[show((([]:List Int).map V.int).isEmpty)=true from rfl];walk_at"r";rw[show decide (Str.ofString "plan"=Str.ofString "plan")=true from jg rfl];exact q _
 .obtain⟨rs,hrs⟩:=Iz fu;rw[hrs]at eO;have eOc:=sc' _ _ eO;have i2:=fu.i2;have j2:=fu.j2;have bi:Bd 2 (i:Int):=zE (B:=2) (!2) (!2) ⋯;have bj:Bd 2 (j:Int):=zE (B:=2) (!2) (!2) ⋯;exists Ct (by rfl) ?_;exists zB (!1) λo4 Hd n4 sd e4=>?_;have eOd:=sd _ _ eOc;have ecd:=sd _ _ ec;refine⟨O,o4,_,rfl,rfl,SqL.of eOd,SqL.of e4,?_⟩;rw[show((((2*i+j:Nat):Int)::rs).map V.int).isEmpty=false from rfl];walk_at"r";rw[show decide (Str.ofString "apart"=Str.ofString "apart")=true from jg rfl];exists xv rfl ?_;exists xv rfl ?_;repeat (first|walk_at"rd" |refine xb eOd (v:=.int ((2*i+j:Nat):Int)) (yl (j:=0) rfl) ?_)
  rw[show decide (2*(i:Int)+(j:Int)=((2*i+j:Nat):Int))=true from jg (!2)];walk_at"r";rw[show decide ((j:Int)<2)=true from jg (!2)];exact q _
end
end Bk
open Bk
noncomputable section
variable{C:Addr}{vs:List L2.V}{its:List Value}{x:Str}{w:World}
namespace Hd
noncomputable section
open PySem.W PySem.Calls
abbrev pm0:Value:=(.str "boardglue.lengths" 294)
abbrev pm1:Value:=(.str "boardglue.bases" 460)
abbrev pm2:Value:=(.str "boardglue.normal" 515)
abbrev pm3:Value:=(.str "boardglue.yard" 563)
abbrev pm4:Value:=(.str "boardglue.plans" 710)
abbrev pm5:Value:=(.str "boardglue.tables" 776)
abbrev pm6:Value:=(.str "boardglue.likes" 849)
abbrev pm7:Value:=(.str "law_boardglue_k82_turned_apart" 922)
abbrev pm8:Value:=(.str "boardglue.boards" 555)
abbrev pm9:Value:=(.str "boardglue.turns" 867)
def cs:Cs:=⟨31,44,56,68,80,92,384⟩
abbrev TT(w:World)(mg:Str->Option Value)(x:Str)(st:Stmt):Prop:=L2.Top (K w.params) mg x st
theorem tI(a:Addr)(its:Array Value)(v:L2.Vals vs its.toList)(z:its.size<=sizeLine:=by decide)(l:(K w.params).lookup a=some (tu its):=by kernel_rfl):L2.TupIn (K w.params) a vs:=L2.tupIn_mk l rfl rfl z v
theorem u1{α:Type}{P:List α->Prop}(h:∀a0,P [a0]):∀us:List α,us.length=1->P us
 |[a0],_=>h a0
theorem u2{α:Type}{P:List α->Prop}(h:∀a0 a1,P [a0,a1]):∀us:List α,us.length=2->P us
 |[a0,a1],_=>h a0 a1
theorem u3{α:Type}{P:List α->Prop}(h:∀a0 a1 a2,P [a0,a1,a2]):∀us:List α,us.length=3->P us
 |[a0,a1,a2],_=>h a0 a1 a2
theorem u4{α:Type}{P:List α->Prop}(h:∀a0 a1 a2 a3,P [a0,a1,a2,a3]):∀us:List α,us.length=4->P us
 |[a0,a1,a2,a3],_=>h a0 a1 a2 a3
theorem ow{mg:Str->Option Value}{k:Nat}{st:Stmt}{ps:List Str}{sp:L2.Sp}(base:Heap)(T:L2.Top (K w.params) mg x st)(h:∀f fd,L2.Fun (K w.params) x x st f fd->L2.FnOk p w (K w.params) mg base L2.CX0 k f fd ps sp)(hb:∀(kV doc pm:Value)(an:Option Addr)(cdv ct:Value)(us:List Value),us.length=ps.length->bindArgs (fnOf x x (L2.defArgs st) (L2.defBody st) (L2.defScope st) .none kV doc pm an cdv ct) ⟨us,[]⟩=pure (ps.zip us)):L2.Own p w (K w.params) mg base k x ps [] sp:=T.own hb h
section
variable{w:World}{mg:Str->Option Value}{h:Heap}(KX:(K w.params).In h)(G:h.Ns mainGlobals mg)
include KX G
theorem tp{st:Stmt}(f cd:Addr)(pm:Value)(a:nsIn (K w.params) mainGlobals x=some (some (.ref f)):=by kernel_rfl)(l:(K w.params).lookup f=some ⟨.type "function",none,.func (fnOf x x (L2.defArgs st) (L2.defBody st) (L2.defScope st) .none .none .none pm none (.ref cd) .none),#[]⟩:=by kernel_rfl)(c:codeIn (K w.params) (.ref cd) x=true:=by kernel_rfl)(k:keepIn (K w.params) (.ref f)=true:=by kernel_rfl):L2.Top (K w.params) mg x st:=L2.top_mk KX G a l c k
theorem tm{m q:Str}{st:Stmt}(f cd:Addr)(pm:Value)(l:(K w.params).lookup f=some ⟨.type "function",none,.func (fnOf m q (L2.defArgs st) (L2.defBody st) (L2.defScope st) .none .none .none pm none (.ref cd) .none),#[]⟩:=by kernel_rfl)(c:codeIn (K w.params) (.ref cd) q=true:=by kernel_rfl)(k:keepIn (K w.params) (.ref f)=true:=by kernel_rfl)(a:findIn (K w.params) (.ref C) m=some (some (.ref f)):=by kernel_rfl)(n:isFn (K w.params) (.ref f)=true:=by kernel_rfl):L2.TopM (K w.params) C m q st:=L2.topM_mk l c k a n
theorem td{st:Stmt}(f T cd:Addr)(pm:Value)(a:nsIn (K w.params) mainGlobals x=some (some (.ref f)):=by kernel_rfl)(l:(K w.params).lookup f=some ⟨.type "function",none,.func (fnOf x x (L2.defArgs st) (L2.defBody st) (L2.defScope st) (.ref T) .none .none pm none (.ref cd) .none),#[]⟩:=by kernel_rfl)(c:codeIn (K w.params) (.ref cd) x=true:=by kernel_rfl)(k:keepIn (K w.params) (.ref f)=true:=by kernel_rfl)(t:(K w.params).lookup T=some (tu its.toArray):=by kernel_rfl):L2.TopD (K w.params) mg x st its:=L2.topD_mk KX G a l c k t rfl
theorem ti{q:Str}{st:Stmt}(f T cd:Addr)(pm:Value)(l:(K w.params).lookup f=some ⟨.type "function",none,.func (fnOf "__init__" q (L2.defArgs st) (L2.defBody st) (L2.defScope st) (.ref T) .none .none pm none (.ref cd) .none),#[]⟩:=by kernel_rfl)(c:codeIn (K w.params) (.ref cd) q=true:=by kernel_rfl)(k:keepIn (K w.params) (.ref f)=true:=by kernel_rfl)(t:(K w.params).lookup T=some (tu its.toArray):=by kernel_rfl)(m:makesIn (K w.params) C=true:=by kernel_rfl)(i:findIn (K w.params) (.ref C) "__init__"=some (some (.ref f)):=by kernel_rfl)(nf:isFn (K w.params) (.ref f)=true:=by kernel_rfl)(kc:keepIn (K w.params) (.ref C)=true:=by kernel_rfl)(a:nsIn (K w.params) mainGlobals x=some (some (.ref C)):=by kernel_rfl):L2.TopIn (K w.params) mg C x q st its:=L2.topIn_mk KX G l c k t rfl m i nf kc a
theorem gT(a:Addr)(its:Array Value)(v:L2.Vals vs its.toList)(z:its.size<=sizeLine:=by decide)(e:nsIn (K w.params) mainGlobals x=some (some (.ref a)):=by kernel_rfl)(l:(K w.params).lookup a=some (tu its):=by kernel_rfl):L2.TopT (K w.params) mg x vs:=L2.topT_mk KX G e l rfl rfl z v
theorem nn(e:nsIn (K w.params) mainGlobals x=some none:=by kernel_rfl):mg x=none:=mg_none_of KX G e
theorem bl :Bl mg:=⟨nn KX G,nn KX G,nn KX G,nn KX G,nn KX G,nn KX G,nn KX G,nn KX G,nn KX G,nn KX G,nn KX G,nn KX G,nn KX G,nn KX G,nn KX G,nn KX G,nn KX G,nn KX G⟩
theorem T3:TT w mg "is_whole" S0:=tp KX G 102 101 pm0
theorem T4:TT w mg "square_root_floor" S1:=tp KX G 109 108 pm0
theorem T5:TT w mg "common_divisor" S2:=tp KX G 116 115 pm0
theorem T6:TT w mg "with_sign_of" S3:=tp KX G 137 136 pm0
theorem T7:TT w mg "is_above_nought" S14:=tp KX G 195 194 pm0
theorem T8:TT w mg "crossed" S20:=tp KX G 230 229 pm1
theorem T9:TT w mg "gathering" S26:=tp KX G 270 269 pm2
theorem T10:TT w mg "names_taken" S29:=tp KX G 292 291 pm3
theorem T11:TT w mg "count_put" S30:=tp KX G 299 298 pm3
theorem T12:TT w mg "turned" S31:=tp KX G 306 305 pm3
theorem T13:TT w mg "places_of" S38:=tp KX G 415 414 pm4
theorem T14:TT w mg "with_names" S41:=tp KX G 432 431 pm4
theorem T15:TT w mg "over" S48:=tp KX G 486 485 pm5
theorem T16:TT w mg "first_unlike" S50:=tp KX G 500 499 pm6
theorem T17:TT w mg "_law_of" S56:=tp KX G 541 540 pm7
theorem T18:TT w mg "_law_mixed" S57:=tp KX G 546 545 pm7
theorem T19:TT w mg "_law_digit" S58:=tp KX G 553 552 pm7
theorem T20:TT w mg "_law_lowest" S59:=tp KX G 560 559 pm7
theorem T21:TT w mg "_law_is_above" S60:=tp KX G 567 566 pm7
theorem T22:TT w mg "_law_root" S62:=tp KX G 579 578 pm7
theorem T23:TT w mg "_law_shares" S65:=tp KX G 598 597 pm7
theorem T24:TT w mg "_law_is_whole" S67:=tp KX G 612 611 pm7
theorem T25:L2.TopIn (K w.params) mg 384 "Yard" "Yard.__init__" S70 [(.bool false)]:=ti KX G 340 335 339 pm3
theorem T26:L2.TopM (K w.params) 384 "board_ever" "Yard.board_ever" S74:=tm KX G 364 363 pm3
theorem T27:L2.TopM (K w.params) 384 "boards" "Yard.boards" S75:=tm KX G 369 368 pm3
theorem T28:L2.TopM (K w.params) 384 "heap" "Yard.heap" S76:=tm KX G 374 373 pm3
theorem T29:L2.TopD (K w.params) mg "length" S5 [(.int (0) 363),(.int (1) 364)]:=td KX G 145 138 144 pm0
theorem T30:L2.TopD (K w.params) mg "fraction" S6 [(.int (1) 375)]:=td KX G 153 146 152 pm0
theorem T31:TT w mg "added" S10:=tp KX G 167 166 pm0
theorem T32:TT w mg "under" S15:=tp KX G 202 201 pm0
theorem T33:TT w mg "floor_of" S16:=tp KX G 209 208 pm0
theorem T34:TT w mg "counts" S21:=tp KX G 237 236 pm1
theorem T35:TT w mg "common_bottom" S22:=tp KX G 244 243 pm1
theorem T36:TT w mg "undoing" S37:=tp KX G 410 409 pm4
theorem T37:TT w mg "names_behind" S40:=tp KX G 425 424 pm4
theorem T38:TT w mg "plus" S43:=tp KX G 451 450 pm5
theorem T39:TT w mg "times" S45:=tp KX G 465 464 pm5
theorem T40:TT w mg "_law_sum" S61:=tp KX G 574 573 pm7
theorem T41:TT w mg "_law_side" S63:=tp KX G 586 585 pm7
theorem T42:TT w mg "_law_with_over" S66:=tp KX G 605 604 pm7
theorem T43:L2.TopM (K w.params) 384 "check_names" "Yard.check_names" S72:=tm KX G 352 351 pm3
theorem T44:TT w mg "parts" S7:=tp KX G 160 159 pm0
theorem T45:TT w mg "taken" S11:=tp KX G 174 173 pm0
theorem T46:TT w mg "timed" S12:=tp KX G 181 180 pm0
theorem T47:TT w mg "first_base" S17:=tp KX G 216 215 pm1
theorem T48:TT w mg "is_length" S27:=tp KX G 275 274 pm8
theorem T49:TT w mg "glued_beside" S33:=tp KX G 320 319 pm3
theorem T50:TT w mg "stacked" S34:=tp KX G 327 326 pm3
theorem T51:TT w mg "followed" S42:=tp KX G 437 436 pm4
theorem T52:TT w mg "minus" S44:=tp KX G 458 457 pm5
theorem T53:TT w mg "together" S49:=tp KX G 493 492 pm5
theorem T54:TT w mg "_law_heap" S64:=tp KX G 591 590 pm7
theorem T55:TT w mg "parted" S13:=tp KX G 188 187 pm0
theorem T56:TT w mg "next_base" S18:=tp KX G 223 222 pm1
theorem T57:TT w mg "times_over" S24:=tp KX G 256 255 pm2
theorem T58:TT w mg "is_deed" S28:=tp KX G 285 284 pm3
theorem T59:TT w mg "cut_across" S32:=tp KX G 313 312 pm3
theorem T60:TT w mg "board_table" S47:=tp KX G 479 478 pm5
theorem T61:TT w mg "_law_other" S68:=tp KX G 617 616 pm7
theorem T62:TT w mg "serving" S23:=tp KX G 249 248 pm1
theorem T63:TT w mg "normal_plan" S25:=tp KX G 263 262 pm2
theorem T64:TT w mg "table" S46:=tp KX G 472 471 pm5
theorem T65:TT w mg "plain_within" S52:=tp KX G 513 512 pm9
theorem T66:L2.TopM (K w.params) 384 "put_by" "Yard.put_by" S73:=tm KX G 357 356 pm3
theorem T67:TT w mg "piece_to_turn" S53:=tp KX G 520 519 pm9
theorem T68:L2.TopM (K w.params) 384 "do" "Yard.do" S71:=tm KX G 345 344 pm3
theorem T69:TT w mg "yard_behind" S35:=tp KX G 395 394 pm4
theorem T70:TT w mg "turning_deeds" S54:=tp KX G 527 526 pm9
theorem T71:L2.TopD (K w.params) mg "walked" S36 [(.bool false)]:=td KX G 403 396 402 pm4
theorem T72:TT w mg "back" S39:=tp KX G 420 419 pm4
theorem T73:TT w mg "like" S51:=tp KX G 505 504 pm6
theorem T74:TT w mg "like_turned" S55:=tp KX G 534 533 pm9
theorem T75:TT w mg "law" S69:=tp KX G 622 621 pm7
theorem g_NOUGHT :L2.TopT (K w.params) mg "NOUGHT" [.int 0,.int 0,.int 1]:=gT KX G 95 #[(.int (0) 296),(.int (0) 297),(.int (1) 298)] (.cons ⟨_,rfl⟩ (.cons ⟨_,rfl⟩ (.cons ⟨_,rfl⟩ .nil)))
theorem g_FAR_STEP :L2.TopI mg "FAR_STEP" (4294967296):=L2.topI_mk (t:=300) KX G (by kernel_rfl)
theorem g_GREAT_BITS :L2.TopI mg "GREAT_BITS" (8192):=L2.topI_mk (t:=302) KX G (by kernel_rfl)
theorem g_CUTS :L2.TopT (K w.params) mg "CUTS" [.str "across",.str "along"]:=gT KX G 276 #[(.str "across" 565),(.str "along" 566)] (.cons ⟨_,rfl⟩ (.cons ⟨_,rfl⟩ .nil))
theorem g_GLUINGS :L2.TopT (K w.params) mg "GLUINGS" [.str "beside",.str "atop"]:=gT KX G 277 #[(.str "beside" 568),(.str "atop" 569)] (.cons ⟨_,rfl⟩ (.cons ⟨_,rfl⟩ .nil))
theorem g_SHIFTS :L2.TopT (K w.params) mg "SHIFTS" [.str "stack",.str "spread"]:=gT KX G 278 #[(.str "stack" 571),(.str "spread" 572)] (.cons ⟨_,rfl⟩ (.cons ⟨_,rfl⟩ .nil))
theorem g_TURN :L2.TopS mg "TURN" (Str.ofString "turn"):=L2.topS_mk (t:=574) KX G (by kernel_rfl)
theorem g_EMPTY :L2.TopE (K w.params) mg "EMPTY":=L2.topE_mk (a:=444) (r0:=440) (r1:=443) (f0:=438) (f1:=439) (f2:=441) (f3:=442) KX G (by kernel_rfl) (tI 444 #[(.ref 440),(.ref 443)] (.cons rfl (.cons rfl .nil))) (tI 440 #[(.ref 438),(.ref 439)] (.cons rfl (.cons rfl .nil))) (tI 443 #[(.ref 441),(.ref 442)] (.cons rfl (.cons rfl .nil))) (tI 438 #[(.int (0) 778),(.int (1) 779)] (.cons ⟨_,rfl⟩ (.cons ⟨_,rfl⟩ .nil))) (tI 439 #[(.int (0) 780),(.int (1) 781)] (.cons ⟨_,rfl⟩ (.cons ⟨_,rfl⟩ .nil))) (tI 441 #[(.int (0) 782),(.int (1) 783)] (.cons ⟨_,rfl⟩ (.cons ⟨_,rfl⟩ .nil))) (tI 442 #[(.int (0) 784),(.int (1) 785)] (.cons ⟨_,rfl⟩ (.cons ⟨_,rfl⟩ .nil)))
theorem g_ONE :L2.TopT (K w.params) mg "ONE" [.int 1,.int 0,.int 1]:=gT KX G 506 #[(.int (1) 869),(.int (0) 870),(.int (1) 871)] (.cons ⟨_,rfl⟩ (.cons ⟨_,rfl⟩ (.cons ⟨_,rfl⟩ .nil)))
theorem xs :Xs (K w.params) mg cs:=⟨(mg_of KX G (by kernel_rfl)),(mg_of KX G (by kernel_rfl)),(mg_of KX G (by kernel_rfl)),(mg_of KX G (by kernel_rfl)),(mg_of KX G (by kernel_rfl)),(mg_of KX G (by kernel_rfl)),(mg_of KX G (by kernel_rfl)),⟨(by kernel_rfl),(by kernel_rfl),(by kernel_rfl),(by kernel_rfl)⟩,(by unfold L2.NoAttr;kernel_rfl),(by unfold L2.NoAttr;kernel_rfl),(by unfold L2.NoAttr;kernel_rfl),(by unfold L2.NoAttr;kernel_rfl),(by unfold L2.NoAttr;kernel_rfl)⟩
end
end
end Hd
end
open PySem.W
set_option maxRecDepth 100000 in
set_option maxHeartbeats 0 in
theorem PySem.Challenge.cw_boardglue_k82_turned_apart_holds : PySem.Challenge.rw_boardglue_k82_turned_apart.Holds := by
 refine Lu λsaid=>?_;refine holds_open (r:=PySem.Challenge.rw_boardglue_k82_turned_apart.row) (q:=Hd.qv) (loose:=Hd.loose) (Xt:=Hd.Xt) (XP:=XL Hd.qv []) (Yf:=Hd.Yf) (Ya:=Hd.Ya) (YP:=InK Hd.K) (N:=8200) Hd.left (InK.of Hd.asK) InK.keeps (λs e=>xl_of s (Bool.and_eq_true_iff.mp e).1) XL.keeps (by rfl) (by rfl) (by rfl) (λs e=>recFacts_of (Bool.and_eq_true_iff.mp e).2) (by rfl) said Lm Lg ?hw ?hc
 case hw=>w_witness2
 refine L2.walk_B (l:=PySem.Challenge.rw_boardglue_k82_turned_apart) (k:=11) (x:="_law_script") rfl rfl ⟨rfl,by decide,by decide⟩ (λw h Y=>Y) ?F
 case F =>
  intro w mg fa h KX G hmg;have B:Bl mg:=Hd.bl KX G;have T_Yard___init__:=Hd.T25 KX G;have T_Yard_board_ever:=Hd.T26 KX G;have T_Yard_boards:=Hd.T27 KX G;have T_Yard_heap:=Hd.T28 KX G;have T_length:=Hd.T29 KX G;have T_fraction:=Hd.T30 KX G;have T_Yard_check_names:=Hd.T43 KX G;have T_Yard_put_by:=Hd.T66 KX G;have T_Yard_do:=Hd.T68 KX G;have T_walked:=Hd.T71 KX G;have T_law:=Hd.T75 KX G;have g_NOUGHT:=Hd.g_NOUGHT KX G;have g_FAR_STEP:=Hd.g_FAR_STEP KX G;have g_GREAT_BITS:=Hd.g_GREAT_BITS KX G;have g_CUTS:=Hd.g_CUTS KX G;have g_GLUINGS:=Hd.g_GLUINGS KX G;have g_SHIFTS:=Hd.g_SHIFTS KX G;have g_TURN:=Hd.g_TURN KX G;have g_EMPTY:=Hd.g_EMPTY KX G;have g_ONE:=Hd.g_ONE KX G;have X:=Hd.xs KX G;refine L2.law_mk T_law hmg (λ_ _ _ _ _ _ _=>rfl) λbase f fd F=>?_;have o0x:=Hd.ow base (Hd.T3 KX G) (λf fd F=>K1 F B ) (λ_ _ _ _ _ _=>Hd.u1 λ_=>rfl);have o1x:=Hd.ow base (Hd.T4 KX G) (λf fd F=>K2 F B g_FAR_STEP) (λ_ _ _ _ _ _=>Hd.u1 λ_=>rfl);have o2x:=Hd.ow base (Hd.T5 KX G) (λf fd F=>K3 F B g_GREAT_BITS) (λ_ _ _ _ _ _=>Hd.u2 λ_ _=>rfl);have o3x:=Hd.ow base (Hd.T6 KX G) (λf fd F=>K4 F B ) (λ_ _ _ _ _ _=>Hd.u2 λ_ _=>rfl);have o11x:=Hd.ow base (Hd.T7 KX G) (λf fd F=>K5 F B ) (λ_ _ _ _ _ _=>Hd.u3 λ_ _ _=>rfl);have o16x:=Hd.ow base (Hd.T8 KX G) (λf fd F=>K6 F B ) (λ_ _ _ _ _ _=>Hd.u2 λ_ _=>rfl);have o22x:=Hd.ow base (Hd.T9 KX G) (λf fd F=>K7 F B ) (λ_ _ _ _ _ _=>Hd.u2 λ_ _=>rfl);have o25x:=Hd.ow base (Hd.T10 KX G) (λf fd F=>K8 F B g_GLUINGS) (λ_ _ _ _ _ _=>Hd.u1 λ_=>rfl);have o26x:=Hd.ow base (Hd.T11 KX G) (λf fd F=>K9 F B g_CUTS) (λ_ _ _ _ _ _=>Hd.u1 λ_=>rfl);have o27x:=Hd.ow base (Hd.T12 KX G) (λf fd F=>K10 F B ) (λ_ _ _ _ _ _=>Hd.u1 λ_=>rfl);have o34x:=Hd.ow base (Hd.T13 KX G) (λf fd F=>K11 F B ) (λ_ _ _ _ _ _=>Hd.u1 λ_=>rfl);have o37x:=Hd.ow base (Hd.T14 KX G) (λf fd F=>K12 F B g_GLUINGS) (λ_ _ _ _ _ _=>Hd.u2 λ_ _=>rfl);have o44x:=Hd.ow base (Hd.T15 KX G) (λf fd F=>K13 F B ) (λ_ _ _ _ _ _=>Hd.u1 λ_=>rfl);have o46x:=Hd.ow base (Hd.T16 KX G) (λf fd F=>K14 F B ) (λ_ _ _ _ _ _=>Hd.u2 λ_ _=>rfl);have o52x:=Hd.ow base (Hd.T17 KX G) (λf fd F=>K15 F B ) (λ_ _ _ _ _ _=>Hd.u2 λ_ _=>rfl);have o53x:=Hd.ow base (Hd.T18 KX G) (λf fd F=>K16 F B ) (λ_ _ _ _ _ _=>Hd.u2 λ_ _=>rfl);have o54x:=Hd.ow base (Hd.T19 KX G) (λf fd F=>K17 F B ) (λ_ _ _ _ _ _=>Hd.u2 λ_ _=>rfl);have o55x:=Hd.ow base (Hd.T20 KX G) (λf fd F=>K18 F B ) (λ_ _ _ _ _ _=>Hd.u3 λ_ _ _=>rfl);have o56x:=Hd.ow base (Hd.T21 KX G) (λf fd F=>K19 F B ) (λ_ _ _ _ _ _=>Hd.u2 λ_ _=>rfl);have o58x:=Hd.ow base (Hd.T22 KX G) (λf fd F=>K20 F B ) (λ_ _ _ _ _ _=>Hd.u1 λ_=>rfl);have o61x:=Hd.ow base (Hd.T23 KX G) (λf fd F=>K21 F B ) (λ_ _ _ _ _ _=>Hd.u1 λ_=>rfl);have o63x:=Hd.ow base (Hd.T24 KX G) (λf fd F=>K22 F B ) (λ_ _ _ _ _ _=>Hd.u1 λ_=>rfl);have o66x:L2.OwnI Hd.p w (Hd.K w.params) mg base L2.CX0 Hd.cs.Yard 1 "Yard" ["self","d","heap","turning"] [] (P24 Hd.cs):=T_Yard___init__.own (ds:=[]) (λT _ _ _ _ _ _ us hl=>by apply Hd.u4 _ us (by simpa using hl);exact λ_ _ _ _=>⟨_,rfl,rfl⟩) .nil (λf fd F=>K23 F B X);have o70x:L2.OwnM Hd.p w (Hd.K w.params) mg base L2.CX0 Hd.cs.Yard 1 "board_ever" ["self","name"] [] (P25 Hd.cs):=T_Yard_board_ever.own X.c_Yard (λ_ _ _ _ _ _=>Hd.u2 λ_ _=>rfl) (λf fd F=>K24 F B X);have o71x:L2.OwnM Hd.p w (Hd.K w.params) mg base L2.CX0 Hd.cs.Yard 1 "boards" ["self"] [] (P26 Hd.cs):=T_Yard_boards.own X.c_Yard (λ_ _ _ _ _ _=>Hd.u1 λ_=>rfl) (λf fd F=>K25 F B X);have o72x:L2.OwnM Hd.p w (Hd.K w.params) mg base L2.CX0 Hd.cs.Yard 1 "heap" ["self"] [] (P27 Hd.cs):=T_Yard_heap.own X.c_Yard (λ_ _ _ _ _ _=>Hd.u1 λ_=>rfl) (λf fd F=>K26 F B X);have o4x:L2.Own Hd.p w (Hd.K w.params) mg base 2 "length" ["a","b","n"] [] P28:=T_length.own (ds:=[]) (λT _ _ _ _ _ _ us hl=>by apply Hd.u3 _ us (by simpa using hl);exact λ_ _ _=>⟨_,rfl,rfl⟩) .nil (λf fd F=>K27 F B o3x o2x o0x);have o5x:L2.Own Hd.p w (Hd.K w.params) mg base 2 "fraction" ["top","bottom"] [] P29:=T_fraction.own (ds:=[]) (λT _ _ _ _ _ _ us hl=>by apply Hd.u2 _ us (by simpa using hl);exact λ_ _=>⟨_,rfl,rfl⟩) .nil (λf fd F=>K28 F B o3x o2x);have o7x:=Hd.ow base (Hd.T31 KX G) (λf fd F=>K29 F B o2x) (λ_ _ _ _ _ _=>Hd.u2 λ_ _=>rfl);have o12x:=Hd.ow base (Hd.T32 KX G) (λf fd F=>K30 F B o11x) (λ_ _ _ _ _ _=>Hd.u3 λ_ _ _=>rfl);have o13x:=Hd.ow base (Hd.T33 KX G) (λf fd F=>K31 F B o1x) (λ_ _ _ _ _ _=>Hd.u2 λ_ _=>rfl);have o17x:=Hd.ow base (Hd.T34 KX G) (λf fd F=>K32 F B o16x) (λ_ _ _ _ _ _=>Hd.u3 λ_ _ _=>rfl);have o18x:=Hd.ow base (Hd.T35 KX G) (λf fd F=>K33 F B o2x) (λ_ _ _ _ _ _=>Hd.u1 λ_=>rfl);have o33x:=Hd.ow base (Hd.T36 KX G) (λf fd F=>K34 F B o70x) (λ_ _ _ _ _ _=>Hd.u3 λ_ _ _=>rfl);have o36x:=Hd.ow base (Hd.T37 KX G) (λf fd F=>K35 F B o25x o26x) (λ_ _ _ _ _ _=>Hd.u2 λ_ _=>rfl);have o39x:=Hd.ow base (Hd.T38 KX G) (λf fd F=>K36 F B o2x) (λ_ _ _ _ _ _=>Hd.u2 λ_ _=>rfl);have o41x:=Hd.ow base (Hd.T39 KX G) (λf fd F=>K37 F B o2x) (λ_ _ _ _ _ _=>Hd.u2 λ_ _=>rfl);have o57x:=Hd.ow base (Hd.T40 KX G) (λf fd F=>K38 F B o55x) (λ_ _ _ _ _ _=>Hd.u2 λ_ _=>rfl);have o59x:=Hd.ow base (Hd.T41 KX G) (λf fd F=>K39 F B o55x o56x o54x) (λ_ _ _ _ _ _=>Hd.u3 λ_ _ _=>rfl);have o62x:=Hd.ow base (Hd.T42 KX G) (λf fd F=>K40 F B o61x) (λ_ _ _ _ _ _=>Hd.u1 λ_=>rfl);have o68x:L2.OwnM Hd.p w (Hd.K w.params) mg base L2.CX0 Hd.cs.Yard 2 "check_names" ["self","names"] [] (P42 Hd.cs):=T_Yard_check_names.own X.c_Yard (λ_ _ _ _ _ _=>Hd.u2 λ_ _=>rfl) (λf fd F=>K41 F B X o0x);have o6x:=Hd.ow base (Hd.T44 KX G) (λf fd F=>K42 F B o5x) (λ_ _ _ _ _ _=>Hd.u1 λ_=>rfl);have o8x:=Hd.ow base (Hd.T45 KX G) (λf fd F=>K43 F B o7x) (λ_ _ _ _ _ _=>Hd.u2 λ_ _=>rfl);have o9x:=Hd.ow base (Hd.T46 KX G) (λf fd F=>K44 F B o4x) (λ_ _ _ _ _ _=>Hd.u3 λ_ _ _=>rfl);have o14x:=Hd.ow base (Hd.T47 KX G) (λf fd F=>K45 F B o4x) (λ_ _ _ _ _ _=>Hd.u2 λ_ _=>rfl);have o23x:=Hd.ow base (Hd.T48 KX G) (λf fd F=>K46 F B o4x o0x) (λ_ _ _ _ _ _=>Hd.u1 λ_=>rfl);have o29x:=Hd.ow base (Hd.T49 KX G) (λf fd F=>K47 F B o7x) (λ_ _ _ _ _ _=>Hd.u2 λ_ _=>rfl);have o30x:=Hd.ow base (Hd.T50 KX G) (λf fd F=>K48 F B o4x) (λ_ _ _ _ _ _=>Hd.u2 λ_ _=>rfl);have o38x:=Hd.ow base (Hd.T51 KX G) (λf fd F=>K49 F B o36x o37x o26x) (λ_ _ _ _ _ _=>Hd.u3 λ_ _ _=>rfl);have o40x:=Hd.ow base (Hd.T52 KX G) (λf fd F=>K50 F B o39x) (λ_ _ _ _ _ _=>Hd.u2 λ_ _=>rfl);have o45x:=Hd.ow base (Hd.T53 KX G) (λf fd F=>K51 F B o39x) (λ_ _ _ _ _ _=>Hd.u2 λ_ _=>rfl);have o60x:=Hd.ow base (Hd.T54 KX G) (λf fd F=>K52 F B o59x) (λ_ _ _ _ _ _=>Hd.u2 λ_ _=>rfl);have o10x:=Hd.ow base (Hd.T55 KX G) (λf fd F=>K53 F B g_NOUGHT o9x o4x) (λ_ _ _ _ _ _=>Hd.u3 λ_ _ _=>rfl);have o15x:=Hd.ow base (Hd.T56 KX G) (λf fd F=>K54 F B o12x o8x) (λ_ _ _ _ _ _=>Hd.u2 λ_ _=>rfl);have o20x:=Hd.ow base (Hd.T57 KX G) (λf fd F=>K55 F B o9x) (λ_ _ _ _ _ _=>Hd.u3 λ_ _ _=>rfl);have o24x:=Hd.ow base (Hd.T58 KX G) (λf fd F=>K56 F B g_CUTS g_SHIFTS g_GLUINGS g_TURN o23x o0x) (λ_ _ _ _ _ _=>Hd.u1 λ_=>rfl);have o28x:=Hd.ow base (Hd.T59 KX G) (λf fd F=>K57 F B g_NOUGHT o12x o8x) (λ_ _ _ _ _ _=>Hd.u3 λ_ _ _=>rfl);have o43x:=Hd.ow base (Hd.T60 KX G) (λf fd F=>K58 F B o6x o41x) (λ_ _ _ _ _ _=>Hd.u1 λ_=>rfl);have o64x:=Hd.ow base (Hd.T61 KX G) (λf fd F=>K59 F B o60x o52x o55x o57x o59x) (λ_ _ _ _ _ _=>Hd.u4 λ_ _ _ _=>rfl);have o19x:=Hd.ow base (Hd.T62 KX G) (λf fd F=>K60 F B o14x o18x o15x o4x o17x) (λ_ _ _ _ _ _=>Hd.u2 λ_ _=>rfl);have o21x:=Hd.ow base (Hd.T63 KX G) (λf fd F=>K61 F B o22x o17x o20x) (λ_ _ _ _ _ _=>Hd.u3 λ_ _ _=>rfl);have o42x:=Hd.ow base (Hd.T64 KX G) (λf fd F=>K62 F B g_EMPTY o45x o43x) (λ_ _ _ _ _ _=>Hd.u1 λ_=>rfl);have o48x:=Hd.ow base (Hd.T65 KX G) (λf fd F=>K63 F B g_ONE o13x o10x) (λ_ _ _ _ _ _=>Hd.u2 λ_ _=>rfl);have o69x:L2.OwnM Hd.p w (Hd.K w.params) mg base L2.CX0 Hd.cs.Yard 5 "put_by" ["self","deed","boards"] [] (P65 Hd.cs):=T_Yard_put_by.own X.c_Yard (λ_ _ _ _ _ _=>Hd.u3 λ_ _ _=>rfl) (λf fd F=>K64 F B X o28x o27x o29x o30x);have o49x:=Hd.ow base (Hd.T67 KX G) (λf fd F=>K65 F B o48x o14x o10x o12x o15x o9x o20x) (λ_ _ _ _ _ _=>Hd.u3 λ_ _ _=>rfl);have o67x:L2.OwnM Hd.p w (Hd.K w.params) mg base L2.CX0 Hd.cs.Yard 6 "do" ["self","deed"] [] (P67 Hd.cs):=T_Yard_do.own X.c_Yard (λ_ _ _ _ _ _=>Hd.u2 λ_ _=>rfl) (λf fd F=>K66 F B X g_TURN o25x o68x o69x o24x);have o31x:=Hd.ow base (Hd.T69 KX G) (λf fd F=>K67 F B X o66x o67x) (λ_ _ _ _ _ _=>Hd.u4 λ_ _ _ _=>rfl);have o50x:=Hd.ow base (Hd.T70 KX G) (λf fd F=>K68 F B o49x) (λ_ _ _ _ _ _=>Hd.u3 λ_ _ _=>rfl);have o32x:L2.Own Hd.p w (Hd.K w.params) mg base 8 "walked" ["d","heap","plan","turning"] [] (P70 Hd.cs):=T_walked.own (ds:=[]) (λT _ _ _ _ _ _ us hl=>by apply Hd.u4 _ us (by simpa using hl);exact λ_ _ _ _=>⟨_,rfl,rfl⟩) .nil (λf fd F=>K69 F B o72x o31x);have o35x:=Hd.ow base (Hd.T72 KX G) (λf fd F=>K70 F B o31x o71x o25x o34x o26x o33x) (λ_ _ _ _ _ _=>Hd.u3 λ_ _ _=>rfl);have o47x:=Hd.ow base (Hd.T73 KX G) (λf fd F=>K71 F B o46x o19x o35x o38x o42x o21x) (λ_ _ _ _ _ _=>Hd.u3 λ_ _ _=>rfl);have o51x:=Hd.ow base (Hd.T74 KX G) (λf fd F=>K72 F B o42x o46x o40x o50x o47x o45x o32x o38x o44x) (λ_ _ _ _ _ _=>Hd.u3 λ_ _ _=>rfl);exact K73 F B o53x o52x o58x o60x o64x o62x o51x o63x
