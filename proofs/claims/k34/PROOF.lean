import PyProof.Rows.All
import Wide.All
import OpenK.AllK
import Wide.FinOn
import Lean
import PyProof.EqAt
import PyProof.EqKinds
import PyProof.TupleCall
import PySem.Challenge.RW_boardglue_k34_plans_walked
set_option Elab.async false
set_option linter.all false
set_option maxRecDepth 100000
namespace L2
open PySem PySem.Spec PyProof.Rows
abbrev Key := Sum Int Str
def Ar : Key → Value → Bool
  | .inl k,v => Value.isInt k v
  | .inr x,v => Value.isStrOf x v
def keyH (w : World) : Key → Int
  | .inl k => hashInt k
  | .inr x => hashStr w x
theorem keyIs_shape : ∀ {k : Key} {v : Value},Ar k v = true → (∃ i t,k = Sum.inl i ∧ v = Value.int i t) ∨ (∃ x t,k = Sum.inr x ∧ v = Value.str x t)
  | .inl i,v,h => by
    obtain ⟨t,e⟩ := Value.isInt_shape (k := i) (v := v) h
    exact .inl ⟨i,t,rfl,e⟩
  | .inr x,v,h => by
    obtain ⟨t,e⟩ := Value.isStrOf_shape (x := x) (v := v) h
    exact .inr ⟨x,t,rfl,e⟩
theorem Ch (i : Int) (t : Tok) : Ar (.inl i) (.int i t) = true := by simp [Ar,Value.isInt]
theorem A8 (x : Str) (t : Tok) : Ar (.inr x) (.str x t) = true := by simp [Ar,Value.isStrOf]
theorem EI (a b : Int) : decide ((Sum.inl a : Key) = Sum.inl b) = (a == b) := by
  by_cases e : a = b
  · subst e; simp
  · have h : ¬ (Sum.inl a : Key) = Sum.inl b := fun q => e (Sum.inl.inj q)
    rw [decide_eq_false h]
    exact (beq_eq_false_iff_ne.mpr e).symm
theorem EU (a b : Str) : decide ((Sum.inr a : Key) = Sum.inr b) = decide (a = b) := by
  by_cases e : a = b
  · subst e; simp
  · have h : ¬ (Sum.inr a : Key) = Sum.inr b := fun q => e (Sum.inr.inj q)
    rw [decide_eq_false h,decide_eq_false e]
theorem FA (a : Int) (b : Str) : decide ((Sum.inl a : Key) = Sum.inr b) = false := decide_eq_false (fun q => nomatch q)
theorem FZ (a : Str) (b : Int) : decide ((Sum.inr a : Key) = Sum.inl b) = false := decide_eq_false (fun q => nomatch q)
def zS (prog : Program) (w : World) : PySem.KeyKind prog w Key where
  is := Ar
  hash := keyH w
  inj := fun v a b ha hb => by
    rcases keyIs_shape ha with ⟨i,t,rfl,rfl⟩ | ⟨x,t,rfl,rfl⟩
    · rcases keyIs_shape hb with ⟨j,u,rfl,e⟩ | ⟨y,u,rfl,e⟩
      · injection e with e1 _; rw [e1]
      · exact nomatch e
    · rcases keyIs_shape hb with ⟨j,u,rfl,e⟩ | ⟨y,u,rfl,e⟩
      · exact nomatch e
      · injection e with e1 _; rw [e1]
  byValue := fun k v h => by
    rcases keyIs_shape h with ⟨i,t,rfl,rfl⟩ | ⟨x,t,rfl,rfl⟩ <;> rfl
  pyHash := fun hv h => by
    rcases keyIs_shape hv with ⟨i,t,rfl,rfl⟩ | ⟨x,t,rfl,rfl⟩
    · exact wpAny_pyHash_int h
    · exact wpAny_pyHash_str h
  eqBool := fun hu hv h => by
    rcases keyIs_shape hu with ⟨i,t,rfl,rfl⟩ | ⟨x,t,rfl,rfl⟩
    · rcases keyIs_shape hv with ⟨j,u,rfl,rfl⟩ | ⟨y,u,rfl,rfl⟩
      · rw [EI] at h; exact wpAny_eqBool_int h
      · rw [FA] at h; exact SeqAt.EqAt.int_str i t y u _ _ _ _ h
    · rcases keyIs_shape hv with ⟨j,u,rfl,rfl⟩ | ⟨y,u,rfl,rfl⟩
      · rw [FZ] at h; exact SeqAt.EqAt.str_int x t j u _ _ _ _ h
      · rw [EU] at h; exact wpAny_eqBool_str h
  «strs» := fun k x t v h => by
    rcases keyIs_shape h with ⟨i,u,rfl,e⟩ | ⟨y,u,rfl,e⟩
    · exact nomatch e
    · injection e with e1 _
      subst e1
      cases v <;> rfl
theorem tq (prog : Program) (w : World) (i : Int) (t : Tok) : (zS prog w).is (.inl i) (.int i t) = true := Ch i t
theorem uU (prog : Program) (w : World) (x : Str) (t : Tok) : (zS prog w).is (.inr x) (.str x t) = true := A8 x t
end L2
namespace L2
open PySem PySem.Spec PyProof.Rows
inductive V where
  | non | bl (b : Bool) | int (i : Int) | str (x : Str) | byt (b : Array UInt8) | flt (b : UInt64) | ref (a : Addr) | ty (n : String)
  deriving DecidableEq
def RelV : V → Value → Prop
  | .non,u => u = Value.none
  | .bl b,u => u = Value.bool b
  | .int i,u => ∃ t,u = Value.int i t
  | .str x,u => ∃ t,u = Value.str x t
  | .byt b,u => ∃ t,u = Value.bytes b t
  | .flt b,u => ∃ t,u = Value.float b t
  | .ref a,u => u = Value.ref a
  | .ty n,u => u = Value.type n
abbrev Vals : List V → List Value → Prop := Paired RelV
theorem Vals.length {xs : List V} {us : List Value} (r : Vals xs us) : xs.length = us.length := Paired.length r
theorem Vals.get : ∀ {xs : List V} {us : List Value} {i : Nat} {x : V},Vals xs us → xs[i]? = some x → ∃ u,us[i]? = some u ∧ RelV x u
  | _,_,_,_,.nil,e => by simp at e
  | _,_,0,_,.cons r _,e => by simp at e; subst e; exact ⟨_,rfl,r⟩
  | _,_,i + 1,x,.cons _ t,e => by
    obtain ⟨u,h1,h2⟩ := Vals.get (i := i) (x := x) t (by simpa using e)
    exact ⟨u,by simpa using h1,h2⟩
theorem Vals.append : ∀ {xs ys : List V} {us ws : List Value},Vals xs us → Vals ys ws → Vals (xs ++ ys) (us ++ ws)
  | _,_,_,_,.nil,s => s
  | _,_,_,_,.cons r t,s => .cons r (Vals.append t s)
theorem Vals.take : ∀ {xs : List V} {us : List Value} (n : Nat),Vals xs us → Vals (xs.take n) (us.take n)
  | _,_,0,_ => .nil
  | _,_,_ + 1,.nil => .nil
  | _,_,n + 1,.cons r t => .cons r (Vals.take n t)
theorem Vals.drop : ∀ {xs : List V} {us : List Value} (n : Nat),Vals xs us → Vals (xs.drop n) (us.drop n)
  | _,_,0,r => r
  | _,_,_ + 1,.nil => .nil
  | _,_,n + 1,.cons _ t => Vals.drop n t
def RelO : Option V → Option Value → Prop
  | some v,some u => RelV v u
  | none,none => True
  | _,_ => False
def KV {κ : Type} : List (κ × V) → List (κ × Value) → Prop := Paired fun (p : κ × V) (q : κ × Value) => p.1 = q.1 ∧ RelV p.2 q.2
def kV : Key → V
  | .inl i => .int i
  | .inr x => .str x
inductive HO where
  | lst (xs : List V)
  | tup (xs : List V)
  | dK (kvs : List (Key × V)) | dT (kvs : List (List Key × V))
  | set (S : Int → Bool) (n : Nat)
  | ins (C dx : Addr) (fs : List (Str × V))
  | own (x : Addr)
  | xd (fs : List (Str × V))
  | met (f x : Addr)
  | rng (lo hi : Int)
  | frz (o : Obj) (u : HO)
  | tbl (ps : Array Value)
  | ext (φ : Heap → Prop)
abbrev Hp := Addr → Option HO
def upd (H : Hp) (a : Addr) (o : HO) : Hp := fun b => if b = a then some o else H b
theorem zq {H : Hp} {a : Addr} {o : HO} : upd H a o a = some o := by unfold upd; rw [if_pos rfl]
theorem zv {H : Hp} {a b : Addr} {o : HO} (h : b ≠ a) : upd H a o b = H b := by unfold upd; rw [if_neg h]
theorem yw {H : Hp} {a b : Addr} {o u : HO} (h : H a = some o) (h' : H b = some u) (d : o ≠ u) : a ≠ b := by
  intro e; subst e; rw [h] at h'; exact d (Option.some.inj h')
theorem zf {H : Hp} {a b : Addr} {o : HO} (h : H a = some o) (h' : H b = none) : a ≠ b := by
  intro e; subst e; rw [h] at h'; cases h'
section
variable (P : Program) (w : World)
def ObjOk (H : Hp) (h : Heap) (a : Addr) : HO → Prop
  | .lst xs => xs.length ≤ sizeLine ∧ ∃ (its : List Value) (n : Nat),Vals xs its ∧ h.get? a = some { cls := .type "list",data := .seq its.toArray n }
  | .tup xs => xs.length ≤ sizeLine ∧ ∃ its : List Value,Vals xs its ∧ IsTup h a its.toArray
  | .dK kvs => kvs.length ≤ sizeLine ∧ (a == sysModules) = false ∧ ∃ vs,KV kvs vs ∧ h.DictOf (zS P w) a vs
  | .dT kvs => kvs.length ≤ sizeLine ∧ (a == sysModules) = false ∧ ∃ xs : List (List Key × Addr × Value),
      Paired (fun (p : List Key × V) (q : List Key × Addr × Value) => p.1 = q.1 ∧ H q.2.1 = some (.tup (p.1.map kV)) ∧ RelV p.2 q.2.2) kvs xs ∧
      ∃ o es ep,h.get? a = some o ∧ o.ExactDict ∧ o.data = .dict es ep ∧ es.toList = xs.map (entryOfKey (tupleKind (zS P w))) ∧ (xs.map (·.1)).Nodup
  | .set S n => h.SetOf (intKind P w) a S n
  | .ins C dx fs => H dx = some (.own a) ∧ fs.length ≤ 1000 ∧ dx ≠ a ∧ h.get? a = some (PySem.W.instObj C dx) ∧
      ∃ mA,h.Ns1 dx mA ∧ (∀ f,RelO (fs.lookup f) (mA f)) ∧ PySem.Within mA (fs.map (·.1))
  | .own _ => ∃ o,h.get? a = some o
  | .xd fs => ∃ mA,h.Ns1 a mA ∧ ∀ f,RelO (fs.lookup f) (mA f)
  | .rng lo hi => ∃ t u v,h.get? a = some { cls := .type "range",data := .fields #[.int lo t,.int hi u,.int 1 v] }
  | .frz o u => h.get? a = some o ∧ ObjOk H h a u
  | .tbl ps => h.get? a = some { cls := .none,data := .fields ps }
  | .met f x => h.get? a = some (PySem.W.methodObj (.ref f) (.ref x))
  | .ext φ => φ h ∧ (∃ o,h.get? a = some o) ∧ ∀ h1 h2 : Heap,φ h1 → (∀ o,h1.get? a = some o → h2.get? a = some o) → φ h2
def HOk (H : Hp) (h : Heap) : Prop := ∀ a o,H a = some o → ObjOk P w H h a o
end
section
variable {P : Program} {w : World} {H H' : Hp} {h h' : Heap} {a : Addr} {o : HO}
theorem ObjOk.lt (x : ObjOk P w H h a o) : a < h.objs.size := by
  cases o with
  | lst xs => obtain ⟨_,_,_,_,e⟩ := x; exact Heap.lt_size e
  | tup xs => obtain ⟨_,_,_,p⟩ := x; exact p.lt
  | dK kvs => obtain ⟨_,_,_,_,o,_,_,e,_⟩ := x; exact Heap.lt_size e
  | dT kvs => obtain ⟨_,_,_,_,o,_,_,e,_⟩ := x; exact Heap.lt_size e
  | set S n => obtain ⟨o,_,_,_,e,_⟩ := x; exact Heap.lt_size e
  | ins C dx fs => obtain ⟨_,_,_,e,_⟩ := x; exact Heap.lt_size e
  | own y => obtain ⟨_,e⟩ := x; exact Heap.lt_size e
  | xd fs => obtain ⟨_,⟨_,_,_,e,_⟩,_⟩ := x; exact Heap.lt_size e
  | rng lo hi => obtain ⟨_,_,_,e⟩ := x; exact Heap.lt_size e
  | frz ob u => obtain ⟨e,_⟩ := x; exact Heap.lt_size e
  | tbl ps => exact Heap.lt_size (show h.get? a = some _ from x)
  | met f y => exact Heap.lt_size (show h.get? a = some _ from x)
  | ext φ => obtain ⟨_,⟨_,e⟩,_⟩ := x; exact Heap.lt_size e
theorem Paired.mapP {α β : Type} {F G : α → β → Prop} : ∀ {l₁ : List α} {l₂ : List β},Paired F l₁ l₂ → (∀ a b,F a b → G a b) → Paired G l₁ l₂
  | _,_,.nil,_ => .nil
  | _,_,.cons r t,f => .cons (f _ _ r) (Paired.mapP t f)
theorem ObjOk.stay (x : ObjOk P w H h a o) (k : ∀ b u,(b = a ∨ H b = some (.own a)) → h.get? b = some u → h'.get? b = some u)
    (ho : ∀ b,H b = some (.own a) → H' b = some (.own a)) (ht : ∀ b xs,H b = some (.tup xs) → H' b = some (.tup xs)) : ObjOk P w H' h' a o := by
  induction o with
  | lst xs => obtain ⟨z,its,n,r,e⟩ := x; exact ⟨z,its,n,r,k _ _ (.inl rfl) e⟩
  | tup xs => obtain ⟨z,its,r,ob,e,c⟩ := x; exact ⟨z,its,r,ob,k _ _ (.inl rfl) e,c⟩
  | dK kvs => obtain ⟨z,y,vs,r,ob,es,ep,e,c⟩ := x; exact ⟨z,y,vs,r,ob,es,ep,k _ _ (.inl rfl) e,c⟩
  | dT kvs =>
    obtain ⟨z,y,xs,r,ob,es,ep,e,c⟩ := x
    exact ⟨z,y,xs,Paired.mapP r fun p q z => ⟨z.1,ht _ _ z.2.1,z.2.2⟩,ob,es,ep,k _ _ (.inl rfl) e,c⟩
  | set S n => obtain ⟨ob,es,ep,t,e,c⟩ := x; exact ⟨ob,es,ep,t,k _ _ (.inl rfl) e,c⟩
  | ins C dx fs =>
    obtain ⟨d,z,ne,e,mA,⟨od,es,ep,e2,c⟩,r⟩ := x
    exact ⟨ho _ d,z,ne,k _ _ (.inl rfl) e,mA,⟨od,es,ep,k _ _ (.inr d) e2,c⟩,r⟩
  | own y => obtain ⟨ob,e⟩ := x; exact ⟨ob,k _ _ (.inl rfl) e⟩
  | xd fs => obtain ⟨mA,⟨od,es,ep,e,c⟩,r⟩ := x; exact ⟨mA,⟨od,es,ep,k _ _ (.inl rfl) e,c⟩,r⟩
  | rng lo hi => obtain ⟨t,u,v,e⟩ := x; exact ⟨t,u,v,k _ _ (.inl rfl) e⟩
  | frz ob u ih => obtain ⟨e,q⟩ := x; exact ⟨k _ _ (.inl rfl) e,ih q⟩
  | tbl ps =>
    have e : h.get? a = some { cls := .none,data := .fields ps } := x
    show h'.get? a = some { cls := .none,data := .fields ps }
    exact k a _ (.inl rfl) e
  | met f y =>
    have e : h.get? a = some (PySem.W.methodObj (.ref f) (.ref y)) := x
    show h'.get? a = some (PySem.W.methodObj (.ref f) (.ref y))
    exact k a _ (.inl rfl) e
  | ext φ => obtain ⟨p,⟨o,e⟩,st⟩ := x; exact ⟨st _ _ p fun o q => k _ _ (.inl rfl) q,⟨o,k _ _ (.inl rfl) e⟩,st⟩
theorem HOk.lt (x : HOk P w H h) (e : H a = some o) : a < h.objs.size := (x a o e).lt
theorem HOk.fresh (x : HOk P w H h) (e : h.objs.size ≤ a) : H a = none := by
  cases q : H a with
  | none => rfl
  | some u => exact absurd (Nat.lt_of_lt_of_le (x.lt q) e) (Nat.lt_irrefl _)
theorem HOk.kept (x : HOk P w H h) (k : ∀ b u,h.get? b = some u → h'.get? b = some u) : HOk P w H h' := fun a o e =>
  (x a o e).stay (fun b u _ q => k b u q) (fun _ q => q) fun _ _ q => q
theorem HOk.laid (x : HOk P w H h) (k : ∀ b u,h.get? b = some u → h'.get? b = some u) (hp : h.objs.size ≤ a) (new : ObjOk P w (upd H a o) h' a o) : HOk P w (upd H a o) h' := fun b u e => by
  have hn := x.fresh hp
  by_cases hb : b = a
  · subst hb; rw [zq] at e; cases e; exact new
  · rw [zv hb] at e
    exact (x b u e).stay (fun c v _ q => k c v q) (fun c q => by rw [zv (zf q hn)]; exact q) fun c xs q => by rw [zv (zf q hn)]; exact q
end
def Rd (H : Hp) (a : Addr) (u : HO) : Prop := H a = some u ∨ ∃ o,H a = some (.frz o u)
theorem Rd.ok {P : Program} {w : World} {H : Hp} {h : Heap} {a : Addr} {u : HO} (r : Rd H a u) (x : HOk P w H h) : ObjOk P w H h a u := by
  rcases r with r | ⟨o,r⟩
  · exact x a u r
  · obtain ⟨_,q⟩ := x a _ r
    exact q
def Mut : Option HO → Prop
  | some (.lst _) => True
  | some (.dK _) => True
  | some (.dT _) => True
  | some (.set _ _) => True
  | some (.ins _ _ _) => True
  | some (.ext _) => True
  | _ => False
section
variable {P : Program} {w : World} {H : Hp} {h h' : Heap} {x e : Addr} {o' : HO}
theorem HOk.write (ok : HOk P w H h) (mu : Mut (H x)) (he : e = x ∨ H e = some (.own x)) (k : ∀ b u,b ≠ e → h.get? b = some u → h'.get? b = some u) (heo : ∃ u,h'.get? e = some u)
    (new : ObjOk P w (upd H x o') h' x o') : HOk P w (upd H x o') h' := fun b u q => by
  have nown : ∀ c y,H c = some (.own y) → c ≠ x := fun c y r z => by subst z; rw [r] at mu; exact mu
  have ntup : ∀ c xs,H c = some (.tup xs) → c ≠ x := fun c xs r z => by subst z; rw [r] at mu; exact mu
  by_cases hb : b = x
  · subst hb; rw [zq] at q; cases q; exact new
  · rw [zv hb] at q
    by_cases hbe : b = e
    · have q' : H b = some (.own x) := by
        rcases he with z | z
        · exact absurd (hbe.trans z) hb
        · rw [hbe]; exact z
      rw [q] at q'; cases q'
      obtain ⟨v,hv⟩ := heo
      exact ⟨v,by rw [hbe]; exact hv⟩
    · refine (ok b u q).stay (fun c v hc r => k c v ?_ r) (fun c r => by rw [zv (nown c b r)]; exact r) fun c xs r => by rw [zv (ntup c xs r)]; exact r
      rcases hc with rfl | hc
      · exact hbe
      · rintro rfl
        rcases he with z | z
        · exact nown c b hc z
        · rw [hc] at z; cases z; exact hb rfl
end
structure Un (fs ex : List Addr) (H H' : Hp) (h h' : Heap) : Prop where
  keep : ∀ b o,h.get? b = some o → H b = none → b ∉ fs → b ∉ ex → h'.get? b = some o
  slot : ∀ b o,h.get? b = some o → H b = none → b ∈ fs → b ∉ ex → ∃ sl,h'.get? b = some { o with slots := sl }
  free : ∀ b o,h.get? b = some o → H b = none → b ∉ ex → H' b = none
  there : ∀ b o,h.get? b = some o → b ∉ ex → ∃ o',h'.get? b = some o'
  tups : ∀ b xs,H b = some (.tup xs) → H' b = some (.tup xs)
  frzs : ∀ b o u,H b = some (.frz o u) → H' b = some (.frz o u)
  tbls : ∀ b ps,H b = some (.tbl ps) → ∃ more,H' b = some (.tbl (ps ++ more))
section
variable {fs fs' ex ex' : List Addr} {H H1 H2 : Hp} {h h1 h2 h' : Heap} {a x e : Addr} {o : HO}
theorem Un.any (u : Un fs ex H H1 h h1) {b : Addr} {ob : Obj} (q : h.get? b = some ob) (n : H b = none) (hx : b ∉ ex) : ∃ sl,h1.get? b = some { ob with slots := sl } := by
  by_cases hb : b ∈ fs
  · exact u.slot b ob q n hb hx
  · exact ⟨ob.slots,u.keep b ob q n hb hx⟩
theorem Un.kept (k : ∀ b u,h.get? b = some u → h'.get? b = some u) : Un fs ex H H h h' :=
  ⟨fun b ob q _ _ _ => k b ob q,fun b ob q _ _ _ => ⟨ob.slots,k b ob q⟩,fun _ _ _ n _ => n,fun b ob q _ => ⟨ob,k b ob q⟩,fun _ _ q => q,fun _ _ _ q => q,fun _ ps q => ⟨#[],by rw [q]; simp⟩⟩
theorem Un.refl : Un fs ex H H h h := Un.kept fun _ _ q => q
theorem Un.laid (k : ∀ b u,h.get? b = some u → h'.get? b = some u) (hp : h.objs.size ≤ a) (hn : H a = none) : Un fs ex H (upd H a o) h h' where
  keep := fun b u q _ _ _ => k b u q
  slot := fun b u q _ _ _ => ⟨u.slots,k b u q⟩
  free := fun b u q n _ => by rw [zv (Nat.ne_of_lt (Nat.lt_of_lt_of_le (Heap.lt_size q) hp))]; exact n
  there := fun b u q _ => ⟨u,k b u q⟩
  tups := fun b xs q => by rw [zv (zf q hn)]; exact q
  frzs := fun b u xs q => by rw [zv (zf q hn)]; exact q
  tbls := fun b ps q => ⟨#[],by rw [zv (zf q hn),q]; simp⟩
theorem Un.write (mu : Mut (H x)) (he : e = x ∨ H e = some (.own x)) (k : ∀ b u,b ≠ e → h.get? b = some u → h'.get? b = some u) (heo : ∃ u,h'.get? e = some u) : Un fs ex H (upd H x o) h h' := by
  have hx : ∀ b,H b = none → b ≠ x := fun b n z => by subst z; rw [n] at mu; exact mu
  have hb : ∀ b,H b = none → b ≠ e := fun b n z => by
    subst z
    rcases he with r | r
    · exact hx b n r
    · rw [n] at r; cases r
  have hm : ∀ b u,H b = some u → ¬ Mut (some u) → b ≠ x := fun b u q nm z => by subst z; rw [q] at mu; exact nm mu
  refine ⟨fun b u q n _ _ => k b u (hb b n) q,fun b u q n _ _ => ⟨u.slots,k b u (hb b n) q⟩,fun b u q n _ => by rw [zv (hx b n)]; exact n,fun b u q _ => ?_,
    fun b xs q => by rw [zv (hm b _ q fun z => z)]; exact q,fun b u xs q => by rw [zv (hm b _ q fun z => z)]; exact q,fun b ps q => ⟨#[],by rw [zv (hm b _ q fun z => z),q]; simp⟩⟩
  by_cases hbe : b = e
  · subst hbe; exact heo
  · exact ⟨u,k b u hbe q⟩
end
def trk (h : Heap) (H : Hp) : List Addr := (List.range h.objs.size).filter fun a => (H a).isSome
def hidT (h : Heap) (H : Hp) : Heap := PySem.W.hideAll h (trk h H)
theorem Bx (h : Heap) (H : Hp) : (hidT h H).objs.size = h.objs.size := PySem.W.hideAll_size _ _
theorem Cq {h : Heap} {H : Hp} {b : Addr} {o : Obj} (e : h.get? b = some o) (n : H b = none) : (hidT h H).get? b = some o :=
  PySem.W.hideAll_get _ e fun hm => by
    have q : (H b).isSome = true := (List.mem_filter.mp hm).2
    rw [n] at q; simp at q
theorem El {h : Heap} {H : Hp} {b : Addr} {o : Obj} (e : (hidT h H).get? b = some o) : h.get? b = some o ∧ H b = none := by
  have e' : h.get? b = some o := PySem.W.of_hideAll (trk h H) e
  refine ⟨e',?_⟩
  cases q : H b with
  | none => rfl
  | some x =>
    have hm : b ∈ trk h H := List.mem_filter.mpr ⟨List.mem_range.mpr (Heap.lt_size e'),by simp [q]⟩
    have z : (hidT h H).get? b = none := PySem.W.hideAll_none (trk h H) hm
    rw [z] at e; cases e
def ED (g h : Heap) (L : Addr) : List (Addr × Obj) := (List.range h.objs.size).filterMap fun a => if a = L ∨ (g.get? a).isSome = true then none else (h.get? a).map fun o => (a,o)
def rest (g h : Heap) (L d : Addr) : List (Addr × Obj) := (ED g h L).filter fun p => decide (p.1 ≠ d)
end L2
namespace L2
open PySem PySem.Spec PyProof.Rows
structure Mod (K : PySem.W.Frag) (mg : Str → Option Value) (base : Heap) : Prop where
  kin : K.In base
  glob : base.Ns mainGlobals mg
  blt : ∃ mb,base.Ns builtinsNs mb ∧ ∀ x : Str,x ≠ "__name__" → mb x = bootBuiltins x
  nolimit : base.NoLimit
structure Cx where
  prog : Program
  w : World
  K : PySem.W.Frag
  mg : Str → Option Value
  base : Heap
  A : Around
  N : List Str
  s₀ : Shared
  H₀ : Hp
  env : Env
  outer : List Env
  stack : List Env
  ex : List Addr
  fn : Str → Bool
  calm : Bool
  pn : List (Addr × Obj)
  xe : Value → Shared → Prop
def frs (l : List Env) : List Addr := l.filterMap (·.frame)
abbrev Cx.fs (X : Cx) : List Addr := frs X.outer
def Vis (sc : Scope) (x : Str) : Prop := sc.names.lookup x = some .local ∨ sc.names.lookup x = some .cell ∨ sc.names.lookup x = some .free
def Loc (sc : Scope) (x : Str) : Prop := sc.names.lookup x = some .local ∨ sc.names.lookup x = some .cell
def Look (env : Env) (h : Heap) (m : Str → Option Value) (x : Str) (u : Value) : Prop :=
  (env.kindOf x = some .local ∧ m x = some u) ∨ ((env.kindOf x = some .cell ∨ env.kindOf x = some .free) ∧ ∃ c,env.cells.lookup x = some c ∧ h.IsCell c (some u))
structure Cx.Ok (X : Cx) : Prop where
  mod : Mod X.K X.mg X.base
  kind : X.env.scope.kind = .function
  glob : X.env.globals = mainGlobals
  blt : X.env.builtins = builtinsNs
  above : X.s₀.heap.objs.size ≤ X.env.locals
  inj : ∀ x y c,X.env.cells.lookup x = some c → X.env.cells.lookup y = some c → x = y
  has : ∀ x,(X.env.kindOf x = some .cell ∨ X.env.kindOf x = some .free) → ∃ c,X.env.cells.lookup x = some c
  cab : ∀ x c,X.fn x = true → X.env.cells.lookup x = some c → X.s₀.heap.objs.size ≤ c
  hd : X.calm = true → X.A.handled = none
  frames : X.A.frames = some X.stack
  stk : X.stack = X.outer ∨ (X.stack = X.env :: X.outer ∧ X.env.frame = some X.env.locals)
  exf : ∀ b ∈ X.ex,b ≠ X.env.locals ∧ ∀ x c,X.env.cells.lookup x = some c → c ≠ b
  bs : ∀ b o,X.base.get? b = some o → X.s₀.heap.get? b = some o ∧ X.H₀ b = none
  bsz : X.base.objs.size ≤ X.s₀.heap.objs.size
  noex : ∀ b o,X.base.get? b = some o → b ∉ X.ex
  exfs : ∀ b ∈ X.ex,b ∉ X.fs
  funs : X.s₀.heap.FunFrames X.base X.outer
  frf : ∀ b ∈ X.fs,X.H₀ b = none
structure Inv (X : Cx) (pins : List (Addr × Obj)) (σ : List (Option V)) (H : Hp) (s : Shared) : Prop where
  ok : X.Ok
  os : s.os = X.s₀.os
  bare : AllBare s.gens
  base : Un X.fs X.ex X.H₀ H X.s₀.heap s.heap
  loc : ∃ m,s.heap.Ns X.env.locals m ∧ ∀ (i : Nat) (x : Str) (v : V),X.N[i]? = some x → σ[i]? = some (some v) → Vis X.env.scope x → ∃ u,RelV v u ∧ Look X.env s.heap m x u
  cell : ∀ x c,X.env.cells.lookup x = some c → ∃ v,s.heap.IsCell c v
  free : H X.env.locals = none
  freeC : ∀ x c,X.env.cells.lookup x = some c → H c = none
  pin : ∀ p ∈ X.pn ++ pins,s.heap.get? p.1 = some p.2 ∧ H p.1 = none ∧ p.1 ≠ X.env.locals ∧ p.1 ∉ X.fs ∧ ∀ v,p.2.data ≠ .cell v
  hok : HOk X.prog X.w H s.heap
  len : σ.length = X.N.length
section
variable {X : Cx} {pins : List (Addr × Obj)} {σ : List (Option V)} {H H' : Hp} {s : Shared} {h' : Heap}
theorem Cx.Ok.nofr (ok : X.Ok) {b : Addr} {o : Obj} (e : X.base.get? b = some o) : b ∉ X.fs := fun hb => by
  have := (ok.funs.mem hb).1
  rw [e] at this; cases this
theorem Inv.bs (I : Inv X pins σ H s) : ∀ b o,X.base.get? b = some o → s.heap.get? b = some o ∧ H b = none := fun b o e =>
  ⟨I.base.keep b o (I.ok.bs b o e).1 (I.ok.bs b o e).2 (I.ok.nofr e) (I.ok.noex b o e),I.base.free b o (I.ok.bs b o e).1 (I.ok.bs b o e).2 (I.ok.noex b o e)⟩
theorem Inv.bk (I : Inv X pins σ H s) : ∀ b o,X.base.get? b = some o → s.heap.get? b = some o := fun b o e => (I.bs b o e).1
theorem Inv.mod (I : Inv X pins σ H s) : Mod X.K X.mg X.base := I.ok.mod
theorem Inv.kIn (I : Inv X pins σ H s) : X.K.In s.heap := I.ok.mod.kin.keeps I.bk
theorem Inv.lt (I : Inv X pins σ H s) : X.env.locals < s.heap.objs.size := let ⟨_,hn,_⟩ := I.loc; hn.lt
theorem Inv.sz (I : Inv X pins σ H s) : X.s₀.heap.objs.size ≤ s.heap.objs.size := Nat.le_trans I.ok.above (Nat.le_of_lt I.lt)
theorem Inv.nofs (I : Inv X pins σ H s) {a : Addr} (h : s.heap.objs.size ≤ a) : a ∉ X.fs := fun hb => by
  obtain ⟨_,o,ho,_⟩ := I.ok.funs.mem hb
  exact absurd (Nat.lt_of_lt_of_le (Heap.lt_size ho) (Nat.le_trans I.sz h)) (Nat.lt_irrefl _)
theorem Inv.cne (I : Inv X pins σ H s) : ∀ x c,X.env.cells.lookup x = some c → c ≠ X.env.locals := fun x c e z => by
  obtain ⟨v,o,ho,hd⟩ := I.cell x c e
  obtain ⟨m,⟨o',es,ep,ho',hd',_⟩,_⟩ := I.loc
  rw [z,ho'] at ho; cases ho; rw [hd'] at hd; cases hd
theorem Inv.funs (I : Inv X pins σ H s) : s.heap.FunFrames X.base X.outer := by
  have all : ∀ (l : List Env),(∀ b ∈ frs l,b ∈ X.fs) → X.s₀.heap.FunFrames X.base l → s.heap.FunFrames X.base l := by
    intro l
    induction l with
    | nil => intro _ _; trivial
    | cons env r ih =>
      intro hs hl
      obtain ⟨hk,⟨L,o,hf,hn,ho,hd⟩,hr⟩ := hl
      have hL : L ∈ X.fs := hs L (by unfold frs; rw [List.filterMap_cons,hf]; exact List.mem_cons_self)
      obtain ⟨sl,e⟩ := I.base.slot L o ho (I.ok.frf L hL) hL fun z => I.ok.exfs L z hL
      exact ⟨hk,⟨L,_,hf,hn,e,hd⟩,ih (fun b hb => hs b (by unfold frs; rw [List.filterMap_cons,hf]; exact List.mem_cons_of_mem _ hb)) hr⟩
  exact all X.outer (fun _ hb => hb) I.ok.funs
theorem Inv.stack (I : Inv X pins σ H s) : s.heap.FunFrames X.base X.stack := by
  rcases I.ok.stk with e | ⟨e,hf⟩
  · rw [e]; exact I.funs
  · rw [e]
    obtain ⟨m,hn,_⟩ := I.loc
    refine .cons (by rw [I.ok.kind]; decide) hf hn ?_ I.funs
    exact Heap.get?_none_of_le (Nat.le_trans I.ok.bsz I.ok.above)
theorem Inv.stkSub (I : Inv X pins σ H s) : ∀ b ∈ frs X.stack,b ∈ X.env.locals :: X.fs := fun b hb => by
  rcases I.ok.stk with e | ⟨e,hf⟩
  · rw [e] at hb; exact List.mem_cons_of_mem _ hb
  · rw [e] at hb
    unfold frs at hb
    rw [List.filterMap_cons,hf] at hb
    exact hb
theorem Inv.stkFree (I : Inv X pins σ H s) : ∀ b ∈ frs X.stack,H b = none := fun b hb => by
  rcases List.mem_cons.mp (I.stkSub b hb) with e | hb
  · rw [e]; exact I.free
  · obtain ⟨_,o,ho,_⟩ := I.ok.funs.mem hb
    exact I.base.free b o ho (I.ok.frf b hb) fun z => I.ok.exfs b z hb
theorem Inv.step {g' : Array GenState} {t' : Nat} {d' : Drawn} {ch : List Addr} (I : Inv X pins σ H s)
    (hch : ∀ b ∈ ch,(b ∈ X.ex ∨ X.s₀.heap.objs.size ≤ b) ∧ b ≠ X.env.locals ∧ (∀ x c,X.env.cells.lookup x = some c → c ≠ b) ∧ ∀ p ∈ X.pn ++ pins,p.1 ≠ b)
    (keep : ∀ b o,b ≠ X.env.locals → b ∉ X.fs → b ∉ ch → s.heap.get? b = some o → H b = none → h'.get? b = some o)
    (slot : ∀ b o,b ≠ X.env.locals → b ∈ X.fs → b ∉ ch → s.heap.get? b = some o → H b = none → ∃ sl,h'.get? b = some { o with slots := sl }) (free : ∀ b o,b ∉ ch → s.heap.get? b = some o → H b = none → H' b = none)
    (there : ∀ b o,b ∉ ch → s.heap.get? b = some o → ∃ o',h'.get? b = some o')
    (tups : ∀ b xs,H b = some (.tup xs) → H' b = some (.tup xs)) (frzs : ∀ b o u,H b = some (.frz o u) → H' b = some (.frz o u)) (tbls : ∀ b ps,H b = some (.tbl ps) → ∃ more,H' b = some (.tbl (ps ++ more)))
    (ns : ∀ m,s.heap.Ns X.env.locals m → h'.Ns X.env.locals m) (hok : HOk X.prog X.w H' h') (hg : AllBare g') :
    Inv X pins σ H' { s with heap := h',gens := g',drawn := d',toks := t' } := by
  have neL : ∀ b o,X.s₀.heap.get? b = some o → b ≠ X.env.locals := fun b o e => Nat.ne_of_lt (Nat.lt_of_lt_of_le (Heap.lt_size e) I.ok.above)
  have neC : ∀ b o,X.s₀.heap.get? b = some o → b ∉ X.ex → b ∉ ch := fun b o e hx hb => by
    rcases (hch b hb).1 with z | z
    · exact hx z
    · exact absurd (Nat.lt_of_lt_of_le (Heap.lt_size e) z) (Nat.lt_irrefl _)
  have cellK : ∀ x c,X.env.cells.lookup x = some c → ∀ v,s.heap.IsCell c v → h'.IsCell c v := fun x c e v ⟨o,ho,hd⟩ => by
    have nch : c ∉ ch := fun z => (hch c z).2.2.1 x c e rfl
    by_cases hc : c ∈ X.fs
    · obtain ⟨sl,q⟩ := slot c o (I.cne x c e) hc nch ho (I.freeC x c e)
      exact ⟨_,q,hd⟩
    · exact ⟨o,keep c o (I.cne x c e) hc nch ho (I.freeC x c e),hd⟩
  refine ⟨I.ok,I.os,hg,⟨fun b o e n hb hx => ?_,fun b o e n hb hx => ?_,fun b o e n hx => ?_,fun b o e hx => ?_,fun b xs e => tups b xs (I.base.tups b xs e),fun b o xs e => frzs b o xs (I.base.frzs b o xs e),fun b ps e => ?_⟩,?_,fun x c e => ?_,?_,fun x c e => ?_,fun p hp => ?_,hok,I.len⟩
  · exact keep b o (neL b o e) hb (neC b o e hx) (I.base.keep b o e n hb hx) (I.base.free b o e n hx)
  · obtain ⟨sl,e1⟩ := I.base.slot b o e n hb hx
    obtain ⟨sl',e2⟩ := slot b _ (neL b o e) hb (neC b o e hx) e1 (I.base.free b o e n hx)
    exact ⟨sl',e2⟩
  · obtain ⟨o',e1⟩ := I.base.there b o e hx
    exact free b o' (neC b o e hx) e1 (I.base.free b o e n hx)
  · obtain ⟨o',e1⟩ := I.base.there b o e hx
    exact there b o' (neC b o e hx) e1
  · obtain ⟨m1,e1⟩ := I.base.tbls b ps e
    obtain ⟨m2,e2⟩ := tbls b _ e1
    exact ⟨m1 ++ m2,by rw [e2,Array.append_assoc]⟩
  · obtain ⟨m,hn,hl⟩ := I.loc
    refine ⟨m,ns m hn,fun i x v e1 e2 e3 => ?_⟩
    obtain ⟨u,r,l⟩ := hl i x v e1 e2 e3
    refine ⟨u,r,?_⟩
    rcases l with l | ⟨k,c,e,z⟩
    · exact .inl l
    · exact .inr ⟨k,c,e,cellK x c e _ z⟩
  · obtain ⟨v,z⟩ := I.cell x c e
    exact ⟨v,cellK x c e v z⟩
  · obtain ⟨m,⟨o,_,_,ho,_⟩,_⟩ := I.loc
    exact free _ o (fun z => (hch _ z).2.1 rfl) ho I.free
  · obtain ⟨v,o,ho,hd⟩ := I.cell x c e
    exact free c o (fun z => (hch c z).2.2.1 x c e rfl) ho (I.freeC x c e)
  · obtain ⟨e,n,ne,nf,d⟩ := I.pin p hp
    have nch : p.1 ∉ ch := fun z => (hch p.1 z).2.2.2 p hp rfl
    exact ⟨keep p.1 p.2 ne nf nch e n,free p.1 p.2 nch e n,ne,nf,d⟩
theorem Inv.un {t' : Nat} (I : Inv X pins σ H s) (u : Un X.fs [] H H' s.heap h') (hok : HOk X.prog X.w H' h') : Inv X pins σ H' { s with heap := h',toks := t' } := by
  obtain ⟨m,⟨o,es,ep,ho,r⟩,_⟩ := id I.loc
  obtain ⟨sl,hL⟩ := u.any ho I.free (by simp)
  exact I.step (g' := s.gens) (d' := s.drawn) (ch := []) (fun _ z => nomatch z) (fun b o _ hb _ e n => u.keep b o e n hb (by simp)) (fun b o _ hb _ e n => u.slot b o e n hb (by simp)) (fun b o _ e n => u.free b o e n (by simp)) (fun b o _ e => u.there b o e (by simp)) u.tups u.frzs u.tbls (fun m' hm => by
    obtain ⟨o',es',ep',ho',r'⟩ := hm
    rw [ho] at ho'; cases ho'
    exact ⟨_,es',ep',hL,r'⟩) hok I.bare
theorem Inv.call {g' : Array GenState} {t' : Nat} {d' : Drawn} {ch : List Addr} (I : Inv X pins σ H s) (u : Un (frs X.stack) ch H H' s.heap h') (hok : HOk X.prog X.w H' h') (hg : AllBare g')
    (hch : ∀ b ∈ ch,(b ∈ X.ex ∨ X.s₀.heap.objs.size ≤ b) ∧ b ≠ X.env.locals ∧ (∀ x c,X.env.cells.lookup x = some c → c ≠ b) ∧ ∀ p ∈ X.pn ++ pins,p.1 ≠ b) :
    Inv X pins σ H' { s with heap := h',gens := g',drawn := d',toks := t' } := by
  obtain ⟨m,⟨o,es,ep,ho,r⟩,_⟩ := id I.loc
  obtain ⟨sl,hL⟩ := u.any ho I.free fun z => (hch _ z).2.1 rfl
  exact I.step (ch := ch) hch (fun b o hL hb hc e n => u.keep b o e n (fun z => (List.mem_cons.mp (I.stkSub b z)).elim hL hb) hc) (fun b o _ _ hc e n => u.any e n hc) (fun b o hc e n => u.free b o e n hc) (fun b o hc e => u.there b o e hc) u.tups u.frzs u.tbls (fun m' hm => by
    obtain ⟨o',es',ep',ho',r'⟩ := hm
    rw [ho] at ho'; cases ho'
    exact ⟨_,es',ep',hL,r'⟩) hok hg
theorem Inv.turned {t' : Nat} {it : Addr} (I : Inv X pins σ H s) (k : ∀ b o,b ≠ it → s.heap.get? b = some o → h'.get? b = some o) (hn : H it = none) (hL : it ≠ X.env.locals)
    (h1 : it ∈ X.ex ∨ X.s₀.heap.objs.size ≤ it) (h2 : ∀ x c,X.env.cells.lookup x = some c → c ≠ it) (h3 : ∀ p ∈ X.pn ++ pins,p.1 ≠ it) : Inv X pins σ H { s with heap := h',toks := t' } := by
  have nit : ∀ b u,H b = some u → b ≠ it := fun b u e z => by rw [z,hn] at e; cases e
  refine I.step (g' := s.gens) (d' := s.drawn) (ch := [it]) (fun b hb => ?_) (fun b o _ _ hc e _ => k b o (fun z => hc (by simp [z])) e) (fun b o _ _ hc e _ => ⟨o.slots,k b o (fun z => hc (by simp [z])) e⟩) (fun _ _ _ _ n => n)
    (fun b o hc e => ⟨o,k b o (fun z => hc (by simp [z])) e⟩) (fun _ _ e => e) (fun _ _ _ e => e) (fun b ps e => ⟨#[],by rw [e]; simp⟩) (fun m hm => ?_) (fun b u e => ?_) I.bare
  · have e : b = it := by simpa using hb
    subst e
    exact ⟨h1,hL,h2,h3⟩
  · obtain ⟨o,es,ep,ho,r⟩ := hm
    exact ⟨o,es,ep,k _ o (Ne.symm hL) ho,r⟩
  · refine (I.hok b u e).stay (fun c v hc q => k c v ?_ q) (fun _ q => q) fun _ _ q => q
    rcases hc with z | z
    · rw [z]; exact nit b u e
    · exact nit c _ z
theorem Inv.tok (I : Inv X pins σ H s) (t : Nat) : Inv X pins σ H { s with toks := t } := I.un (h' := s.heap) (t' := t) Un.refl I.hok
theorem Inv.kept {t' : Nat} (I : Inv X pins σ H s) (k : ∀ b u,s.heap.get? b = some u → h'.get? b = some u) : Inv X pins σ H { s with heap := h',toks := t' } := I.un (Un.kept k) (I.hok.kept k)
theorem Inv.laid {a : Addr} {o : HO} {t' : Nat} (I : Inv X pins σ H s) (k : ∀ b u,s.heap.get? b = some u → h'.get? b = some u) (hp : s.heap.objs.size ≤ a) (new : ObjOk X.prog X.w (upd H a o) h' a o) :
    Inv X pins σ (upd H a o) { s with heap := h',toks := t' } := I.un (Un.laid k hp (I.hok.fresh hp)) (I.hok.laid k hp new)
theorem Inv.write {x e : Addr} {o : HO} {t' : Nat} (I : Inv X pins σ H s) (mu : Mut (H x)) (he : e = x ∨ H e = some (.own x)) (k : ∀ b u,b ≠ e → s.heap.get? b = some u → h'.get? b = some u) (heo : ∃ u,h'.get? e = some u)
    (new : ObjOk X.prog X.w (upd H x o) h' x o) : Inv X pins σ (upd H x o) { s with heap := h',toks := t' } := I.un (Un.write mu he k heo) (I.hok.write mu he k heo new)
theorem Inv.pins_of {pins' : List (Addr × Obj)} (I : Inv X pins σ H s) (h : ∀ p ∈ pins',s.heap.get? p.1 = some p.2 ∧ H p.1 = none ∧ p.1 ≠ X.env.locals ∧ p.1 ∉ X.fs ∧ ∀ v,p.2.data ≠ .cell v) : Inv X pins' σ H s :=
  ⟨I.ok,I.os,I.bare,I.base,I.loc,I.cell,I.free,I.freeC,fun p hp => (List.mem_append.mp hp).elim (fun z => I.pin p (List.mem_append_left _ z)) (h p),I.hok,I.len⟩
theorem vE {N : List Str} (hN : N.Nodup) {i j : Nat} {x : Str} (a : N[i]? = some x) (b : N[j]? = some x) : i = j := by
  obtain ⟨h1,e1⟩ := List.getElem?_eq_some_iff.mp a
  obtain ⟨h2,e2⟩ := List.getElem?_eq_some_iff.mp b
  exact (List.getElem_inj hN).mp (e1.trans e2.symm)
theorem uB {M : Model} {A : Around} {E : Value → Shared → Prop} {i : Nat} {x : Str} {v : V} {u : Value} {Q : Unit → Shared → Prop} (I : Inv X pins σ H s) (hN : X.N.Nodup) (hi : X.N[i]? = some x) (hx : Loc X.env.scope x) (r : RelV v u)
    (h : ∀ s',Inv X pins (σ.set i (some v)) H s' → (∃ a,Heap.SameBut a s.heap s'.heap ∧ (a = X.env.locals ∨ X.env.cells.lookup x = some a)) → Q () s') (hf : X.fn x = true ∨ X.env.scope.names.lookup x = some .local := by first | exact .inl rfl | exact .inr rfl | assumption) : wpAny M A (storeName X.env x u) Q E s := by
  obtain ⟨m,hn,hl⟩ := id I.loc
  have hcls : (X.env.scope.kind == .class || (X.env.scope.kind == .module && X.env.locals != X.env.globals)) = false := by rw [I.ok.kind]; rfl
  have hiσ : i < σ.length := by rw [I.len]; exact (List.getElem?_eq_some_iff.mp hi).1
  have cne := I.cne
  have tracked : ∀ {a : Addr} {h' : Heap},(∃ o,s.heap.get? a = some o ∧ H a = none) → Heap.SameBut a s.heap h' → HOk X.prog X.w H h' := fun {a h'} ha hs b ob e => by
    obtain ⟨_,_,hfree⟩ := ha
    refine (I.hok b ob e).stay (fun c w' hc q => (hs.2 c ?_).trans q) (fun _ q => q) fun _ _ q => q
    rintro rfl
    rcases hc with rfl | hc
    · rw [hfree] at e; cases e
    · rw [hfree] at hc; cases hc
  rcases hx with hk | hk
  · refine wpAny_storeName_local hk hn (fun h' hn' hs => ?_) hcls
    obtain ⟨oL,_,_,hoL,_⟩ := id hn
    refine h _ ⟨I.ok,I.os,I.bare,⟨fun b o e n hb hx => ?_,fun b o e n hb hx => ?_,I.base.free,fun b o e hx => ?_,I.base.tups,I.base.frzs,I.base.tbls⟩,⟨_,hn',fun j y v' e1 e2 e3 => ?_⟩,fun y c e => ?_,I.free,I.freeC,fun p hp => ?_,tracked ⟨oL,hoL,I.free⟩ hs,by simpa using I.len⟩ ⟨_,hs,.inl rfl⟩
    · exact (hs.2 b (Nat.ne_of_lt (Nat.lt_of_lt_of_le (Heap.lt_size e) I.ok.above))).trans (I.base.keep b o e n hb hx)
    · obtain ⟨sl,e1⟩ := I.base.slot b o e n hb hx
      exact ⟨sl,(hs.2 b (Nat.ne_of_lt (Nat.lt_of_lt_of_le (Heap.lt_size e) I.ok.above))).trans e1⟩
    · obtain ⟨o',e1⟩ := I.base.there b o e hx
      exact ⟨o',(hs.2 b (Nat.ne_of_lt (Nat.lt_of_lt_of_le (Heap.lt_size e) I.ok.above))).trans e1⟩
    · by_cases hj : j = i
      · subst hj
        rw [hi] at e1; cases e1
        rw [List.getElem?_set_self hiσ] at e2
        cases e2
        exact ⟨u,r,.inl ⟨hk,by simp⟩⟩
      · rw [List.getElem?_set_ne (Ne.symm hj)] at e2
        obtain ⟨u',r',q⟩ := hl j y v' e1 e2 e3
        refine ⟨u',r',?_⟩
        rcases q with ⟨k,e⟩ | ⟨k,c,e,z⟩
        · refine .inl ⟨k,?_⟩
          have : y ≠ x := fun e => hj (vE hN e1 (e ▸ hi))
          simp [this,e]
        · exact .inr ⟨k,c,e,z.sameBut hs (cne y c e)⟩
    · obtain ⟨w',z⟩ := I.cell y c e
      exact ⟨w',z.sameBut hs (cne y c e)⟩
    · obtain ⟨e,n,ne,nf,d⟩ := I.pin p hp
      exact ⟨(hs.2 p.1 ne).trans e,n,ne,nf,d⟩
  · have hfn : X.fn x = true := by
      rcases hf with z | z
      · exact z
      · rw [z] at hk; cases hk
    obtain ⟨c,hc⟩ := I.ok.has x (.inl hk)
    obtain ⟨w',z⟩ := I.cell x c hc
    refine wpAny_storeName_cell I.ok.kind hk hc z (fun h' hc' hs => ?_)
    obtain ⟨oc,hoc,hocd⟩ := id z
    refine h { s with heap := h' } ⟨I.ok,I.os,I.bare,⟨fun b o e n hb hx => ?_,fun b o e n hb hx => ?_,I.base.free,fun b o e hx => ?_,I.base.tups,I.base.frzs,I.base.tbls⟩,⟨m,hn.sameBut hs (Ne.symm (cne x c hc)),fun j y v' e1 e2 e3 => ?_⟩,fun y c' e => ?_,I.free,I.freeC,fun p hp => ?_,tracked ⟨oc,hoc,I.freeC x c hc⟩ hs,by simpa using I.len⟩ ⟨c,hs,.inr hc⟩
    · exact (hs.2 b (Nat.ne_of_lt (Nat.lt_of_lt_of_le (Heap.lt_size e) (I.ok.cab x c hfn hc)))).trans (I.base.keep b o e n hb hx)
    · obtain ⟨sl,e1⟩ := I.base.slot b o e n hb hx
      exact ⟨sl,(hs.2 b (Nat.ne_of_lt (Nat.lt_of_lt_of_le (Heap.lt_size e) (I.ok.cab x c hfn hc)))).trans e1⟩
    · obtain ⟨o',e1⟩ := I.base.there b o e hx
      exact ⟨o',(hs.2 b (Nat.ne_of_lt (Nat.lt_of_lt_of_le (Heap.lt_size e) (I.ok.cab x c hfn hc)))).trans e1⟩
    · by_cases hj : j = i
      · subst hj
        rw [hi] at e1; cases e1
        rw [List.getElem?_set_self hiσ] at e2
        cases e2
        exact ⟨u,r,.inr ⟨.inl hk,c,hc,hc'⟩⟩
      · rw [List.getElem?_set_ne (Ne.symm hj)] at e2
        obtain ⟨u',r',q⟩ := hl j y v' e1 e2 e3
        refine ⟨u',r',?_⟩
        rcases q with q | ⟨k,c',e,z'⟩
        · exact .inl q
        · refine .inr ⟨k,c',e,z'.sameBut hs ?_⟩
          rintro rfl
          exact hj (vE hN e1 (I.ok.inj _ _ _ e hc ▸ hi))
    · by_cases hcc : c' = c
      · subst hcc; exact ⟨_,hc'⟩
      · obtain ⟨w2,z2⟩ := I.cell y c' e
        exact ⟨w2,z2.sameBut hs hcc⟩
    · obtain ⟨e,n,ne,nf,d⟩ := I.pin p hp
      refine ⟨(hs.2 p.1 ?_).trans e,n,ne,nf,d⟩
      intro q
      rw [q,hoc] at e
      have q' : oc = p.2 := Option.some.inj e
      exact d w' (by rw [← q']; exact hocd)
theorem xB {M : Model} {A : Around} {E : Value → Shared → Prop} {i : Nat} {x : Str} {v : V} {u : Value} {Q : Unit → Shared → Prop} (I : Inv X pins σ H s) (hN : X.N.Nodup) (hi : X.N[i]? = some x) (hx : Loc X.env.scope x) (r : RelV v u)
    (h : ∀ s',Inv X pins (σ.set i (some v)) H s' → Q () s') (hf : X.fn x = true ∨ X.env.scope.names.lookup x = some .local := by first | exact .inl rfl | exact .inr rfl | assumption) : wpAny M A (storeName X.env x u) Q E s :=
  uB I hN hi hx r (fun s' I' _ => h s' I') hf
theorem Inv.call' {s' : Shared} {ch : List Addr} (I : Inv X pins σ H s) (ho : s'.os = s.os) (u : Un (frs X.stack) ch H H' s.heap s'.heap) (hok : HOk X.prog X.w H' s'.heap) (hg : AllBare s'.gens)
    (hch : ∀ b ∈ ch,(b ∈ X.ex ∨ X.s₀.heap.objs.size ≤ b) ∧ b ≠ X.env.locals ∧ (∀ x c,X.env.cells.lookup x = some c → c ≠ b) ∧ ∀ p ∈ X.pn ++ pins,p.1 ≠ b) : Inv X pins σ H' s' := by
  obtain ⟨h',g',d',t',o'⟩ := s'
  have e : o' = s.os := ho
  subst e
  exact I.call (g' := g') (t' := t') (d' := d') u hok hg hch
end
abbrev XK := Value → Option Addr → Hp → Prop
abbrev St := List (Option V)
abbrev VK := V → Hp → Prop
abbrev TE := St → Hp → VK → Prop
abbrev TT := St → Hp → (Bool → Hp → Prop) → Prop
abbrev TA := St → Hp → (List V → Hp → Prop) → Prop
structure Ends where
  nx : St → Hp → Prop
  rt : VK
  bk : St → Hp → Prop := fun _ _ => False
  ct : St → Hp → Prop := fun _ _ => False
abbrev TS := Ends → St → Hp → Prop
def EP (X : Cx) (pins : List (Addr × Obj)) (σ : St) (Q : VK) (u : Value) (s' : Shared) : Prop := ∃ v H',Inv X pins σ H' s' ∧ RelV v u ∧ Q v H'
def TP (X : Cx) (pins : List (Addr × Obj)) (σ : St) (Q : Bool → Hp → Prop) (b : Bool) (s' : Shared) : Prop := ∃ H',Inv X pins σ H' s' ∧ Q b H'
def AP (X : Cx) (pins : List (Addr × Obj)) (σ : St) (Q : List V → Hp → Prop) (us : List Value) (s' : Shared) : Prop := ∃ vs H',Inv X pins σ H' s' ∧ Vals vs us ∧ Q vs H'
def SP (X : Cx) (pins : List (Addr × Obj)) (D : Ends) (f : Flow) (s' : Shared) : Prop :=
  match f with
  | .next => ∃ σ' H',Inv X pins σ' H' s' ∧ D.nx σ' H'
  | .brk => ∃ σ' H',Inv X pins σ' H' s' ∧ D.bk σ' H'
  | .cont => ∃ σ' H',Inv X pins σ' H' s' ∧ D.ct σ' H'
  | .ret u => ∃ v σ' H',Inv X pins σ' H' s' ∧ RelV v u ∧ D.rt v H'
def PE (X : Cx) (e : Expr) (t : TE) : Prop :=
  ∀ (pins : List (Addr × Obj)) (s : Shared) (σ : St) (H : Hp) (Q : VK),Inv X pins σ H s → t σ H Q → wpAny (model X.prog X.w) X.A (eval e X.env) (EP X pins σ Q) X.xe s
def PT (X : Cx) (e : Expr) (t : TT) : Prop :=
  ∀ (pins : List (Addr × Obj)) (s : Shared) (σ : St) (H : Hp) (Q : Bool → Hp → Prop),Inv X pins σ H s → t σ H Q → wpAny (model X.prog X.w) X.A (isTrue e X.env (eval e X.env)) (TP X pins σ Q) X.xe s
def PW (X : Cx) (e : Expr) (t : TT) : Prop :=
  ∀ (whole : Sem Value) (pins : List (Addr × Obj)) (s : Shared) (σ : St) (H : Hp) (Q : Bool → Hp → Prop),Inv X pins σ H s → t σ H Q → wpAny (model X.prog X.w) X.A (isTrue e X.env whole) (TP X pins σ Q) X.xe s
theorem PW.pt {X : Cx} {e : Expr} {t : TT} (h : PW X e t) : PT X e t := h _
def PA (X : Cx) (es : List Expr) (t : TA) : Prop :=
  ∀ (pos : Pos) (pins : List (Addr × Obj)) (s : Shared) (σ : St) (H : Hp) (Q : List V → Hp → Prop),Inv X pins σ H s → t σ H Q → wpAny (model X.prog X.w) X.A (spliced (backTo pos (starEach es X.env))) (AP X pins σ Q) X.xe s
def PS (X : Cx) (st : Stmt) (t : TS) : Prop :=
  ∀ (pins : List (Addr × Obj)) (s : Shared) (σ : St) (H : Hp) (D : Ends),Inv X pins σ H s → t D σ H → wpAny (model X.prog X.w) X.A (exec st X.env) (SP X pins D) X.xe s
def PSs (X : Cx) (st : List Stmt) (t : TS) : Prop :=
  ∀ (pins : List (Addr × Obj)) (s : Shared) (σ : St) (H : Hp) (D : Ends),Inv X pins σ H s → t D σ H → wpAny (model X.prog X.w) X.A (execs st X.env) (SP X pins D) X.xe s
theorem thn {α : Type} {t : Sem α} {Q Q' : α → Shared → Prop} {M : Model} {A : Around} {E : Value → Shared → Prop} {s : Shared} (h : wpAny M A t Q E s) (hQ : ∀ a s,Q a s → Q' a s) : wpAny M A t Q' E s := wpAny_mono h hQ fun _ _ x => x
end L2
namespace L2
open PySem PySem.Spec PyProof.Rows
section
variable {X : Cx}
def tVar (i : Nat) : TE := fun σ H Q => ∃ v,σ[i]? = some (some v) ∧ Q v H
def tC (v : V) : TE := fun _ H Q => Q v H
theorem EK {i : Nat} {x : Str} {pos : Pos} (hN : X.N[i]? = some x) (hv : Vis X.env.scope x) (hd : (x == ("__debug__" : Str)) = false := by decide) (hcd : (x == ("__classdict__" : Str)) = false := by decide) : PE X (.Name x pos) (tVar i) := by
  intro pins s σ H Q I h
  obtain ⟨v,e,h⟩ := h
  obtain ⟨m,hn,hl⟩ := I.loc
  obtain ⟨u,r,l⟩ := hl i x v hN e hv
  have fin : EP X pins σ Q u s := ⟨v,H,I,r,h⟩
  rcases l with ⟨hk,hm⟩ | ⟨hk,c,hc,hcell⟩
  · exact wpAny_Name (wpAny_loadName_local I.ok.kind hk hn hm fin) hd
  · rcases hk with hk | hk
    · exact wpAny_Name (wpAny_loadName_cell I.ok.kind hk hc hcell fin) hd
    · exact wpAny_Name (wpAny_loadName_free I.ok.kind hk hc hcell fin hcd) hd
theorem zb {i j pos} : PE X (.Constant (.int i) j pos) (tC (.int i)) := fun _ _ _ H _ I h => wpAny_Constant_int ⟨.int i,H,I.tok _,⟨_,rfl⟩,h⟩
theorem yN {b j pos} : PE X (.Constant (.bool b) j pos) (tC (.bl b)) := fun _ _ _ H _ I h => Constant_bool ⟨.bl b,H,I,rfl,h⟩
theorem Bb {j pos} : PE X (.Constant .none j pos) (tC .non) := fun _ _ _ H _ I h => Constant_none ⟨.non,H,I,rfl,h⟩
theorem zT {x j pos} : PE X (.Constant (.str x) j pos) (tC (.str x)) := fun _ _ _ H _ I h => Calls.Constant_str ⟨.str x,H,I.tok _,⟨_,rfl⟩,h⟩
def Gl (X : Cx) (x : Str) : Prop := X.env.kindOf x = some .globalImplicit
theorem xt {E : Value → Shared → Prop} {pins : List (Addr × Obj)} {s : Shared} {σ : St} {H : Hp} {x : Str} {u : Value} {pos : Pos} {Q : Value → Shared → Prop} (I : Inv X pins σ H s) (hg : Gl X x) (hm : X.mg x = some u) (h : Q u s)
    (hd : (x == ("__debug__" : Str)) = false := by decide) : wpAny (model X.prog X.w) X.A (eval (.Name x pos) X.env) Q E s :=
  Calls.Name_function_global I.ok.kind hg (Calls.loadGlobal_global (by rw [I.ok.glob]; exact I.mod.glob.keeps I.bk) hm h) hd
theorem uG {E : Value → Shared → Prop} {pins : List (Addr × Obj)} {s : Shared} {σ : St} {H : Hp} {x : Str} {u : Value} {pos : Pos} {Q : Value → Shared → Prop} (I : Inv X pins σ H s) (hg : Gl X x) (hm : X.mg x = none) (hv : bootBuiltins x = some u) (h : Q u s)
    (hn : x ≠ "__name__" := by decide) (hd : (x == ("__debug__" : Str)) = false := by decide) : wpAny (model X.prog X.w) X.A (eval (.Name x pos) X.env) Q E s := by
  obtain ⟨mb,h1,h2⟩ := I.mod.blt
  exact Calls.Name_function_global I.ok.kind hg (Calls.loadGlobal_builtin (by rw [I.ok.glob]; exact I.mod.glob.keeps I.bk) hm (by rw [I.ok.blt]; exact h1.keeps I.bk) ((h2 x hn).trans hv) h) hd
theorem zM {x : Str} {v : V} {u : Value} {pos : Pos} (hg : Gl X x) (hm : X.mg x = some u) (r : RelV v u) (hd : (x == ("__debug__" : Str)) = false := by decide) : PE X (.Name x pos) (tC v) :=
  fun _ _ _ H _ I h => xt I hg hm ⟨v,H,I,r,h⟩ hd
theorem yF {x : Str} {v : V} {u : Value} {pos : Pos} (hg : Gl X x) (hm : X.mg x = none) (hv : bootBuiltins x = some u) (r : RelV v u) (hn : x ≠ "__name__" := by decide) (hd : (x == ("__debug__" : Str)) = false := by decide) : PE X (.Name x pos) (tC v) :=
  fun _ _ _ H _ I h => uG I hg hm hv ⟨v,H,I,r,h⟩ hn hd
variable {a b : Expr} {ta tb : TE} {pos : Pos}
def PC (X : Cx) (op : CmpOp) (a b : Expr) (t : TE) : Prop :=
  ∀ (pins : List (Addr × Obj)) (s : Shared) (σ : St) (H : Hp) (Q : VK),Inv X pins σ H s → t σ H Q →
    wpAny (model X.prog X.w) X.A (eval a X.env) (fun v s₁ => wpAny (model X.prog X.w) X.A (eval b X.env) (fun u s₂ => wpAny (model X.prog X.w) X.A (compareOp op v u) (EP X pins σ Q) X.xe s₂) X.xe s₁) X.xe s
def tB (t : TE) : TT := fun σ H Q => t σ H fun x H1 => ∃ c,x = .bl c ∧ Q c H1
theorem DC {op : CmpOp} {t : TE} (h : PC X op a b t) (h1 : behindInMarks op b = false := by first | exact nobehind _ (by decide) (by decide) | rfl) : PT X (.Compare a [op] [b] pos) (tB t) := by
  intro pins s σ H Q I hw
  refine wpAny_isTrue_Compare1 (thn (h pins s σ H _ I hw) fun v s1 h1 => thn h1 fun u s2 h2 => thn h2 fun c s3 ⟨x,H1,I1,r1,q1⟩ => ?_) h1
  obtain ⟨d,rfl,q⟩ := q1
  cases r1
  exact wpAny_truthy_bool ⟨H1,I1,q⟩
theorem zV {e : Expr} {t : TE} (h : PE X e t) (he : ∀ whole,isTrue e X.env whole = (do let v ← whole; standAt e.pos; holding [v] (truthy v)) := by intro _; rfl) : PT X e (tB t) := by
  intro pins s σ H Q I hw
  refine isTrue_plain (thn (h pins s σ H _ I hw) fun v s1 ⟨x,H1,I1,r1,q1⟩ => ?_) (he _)
  obtain ⟨d,rfl,q⟩ := q1
  cases r1
  exact wpAny_truthy_bool ⟨H1,I1,q⟩
variable {tA tB' : TT} {rest : List Expr}
def tAnd (t u : TT) : TT := fun σ H Q => t σ H fun c H1 => if c = true then u σ H1 Q else Q false H1
def tOr (t u : TT) : TT := fun σ H Q => t σ H fun c H1 => if c = true then Q true H1 else u σ H1 Q
def tNot (t : TT) : TT := fun σ H Q => t σ H fun c H1 => Q (!c) H1
theorem ym (ha : PT X a tA) : PW X (.BoolOp .And [a] pos) tA := by
  intro wh pins s σ H Q I h
  refine isTrue_and (thn (ha pins s σ H Q I h) fun c s1 e => ?_)
  cases c with
  | true => exact isTrue_and_nil e
  | false => exact e
theorem yZ (ha : PT X a tA) : PW X (.BoolOp .Or [a] pos) tA := by
  intro wh pins s σ H Q I h
  refine isTrue_or (thn (ha pins s σ H Q I h) fun c s1 e => ?_)
  cases c with
  | false => exact isTrue_or_nil e
  | true => exact e
theorem yJ (ha : PT X a tA) (hb : PW X (.BoolOp .And (b :: rest) pos) tB') : PW X (.BoolOp .And (a :: b :: rest) pos) (tAnd tA tB') := by
  intro wh pins s σ H Q I h
  refine isTrue_and (thn (ha pins s σ H _ I h) fun c s1 ⟨H1,I1,q1⟩ => ?_)
  cases c with
  | true => exact hb wh pins s1 σ H1 Q I1 q1
  | false => exact ⟨H1,I1,q1⟩
theorem xE (ha : PT X a tA) (hb : PW X (.BoolOp .Or (b :: rest) pos) tB') : PW X (.BoolOp .Or (a :: b :: rest) pos) (tOr tA tB') := by
  intro wh pins s σ H Q I h
  refine isTrue_or (thn (ha pins s σ H _ I h) fun c s1 ⟨H1,I1,q1⟩ => ?_)
  cases c with
  | true => exact ⟨H1,I1,q1⟩
  | false => exact hb wh pins s1 σ H1 Q I1 q1
theorem yu (ha : PT X a tA) : PT X (.UnaryOp .Not a pos) (tNot tA) := by
  intro pins s σ H Q I h
  exact isTrue_not (ha pins s σ H (fun c H1 => Q (!c) H1) I h)
def EW (ta tb : TE) : TE := fun σ H Q => ta σ H fun x H1 => ∃ c,x = .bl c ∧ if c = true then tb σ H1 Q else Q (.bl false) H1
def tOrV (ta tb : TE) : TE := fun σ H Q => ta σ H fun x H1 => ∃ c,x = .bl c ∧ if c = true then Q (.bl true) H1 else tb σ H1 Q
def EN (ta : TE) : TE := fun σ H Q => ta σ H fun x H1 => ∃ c,x = .bl c ∧ Q (.bl (!c)) H1
theorem wD {op} {t : TE} (h : PE X a t) : PE X (.BoolOp op [a] pos) t := fun pins s σ H Q I hw => BoolOp_one (h pins s σ H Q I hw)
theorem wg (ha : PE X a ta) (hb : PE X (.BoolOp .And (b :: rest) pos) tb) : PE X (.BoolOp .And (a :: b :: rest) pos) (EW ta tb) := by
  intro pins s σ H Q I h
  refine BoolOp_and (thn (ha pins s σ H _ I h) fun v s1 ⟨x,H1,I1,r1,q1⟩ => ?_)
  obtain ⟨c,rfl,q1⟩ := q1
  cases r1
  refine wpAny_truthy_bool ?_
  cases c with
  | true => exact hb pins s1 σ H1 Q I1 q1
  | false => exact ⟨.bl false,H1,I1,rfl,q1⟩
theorem Gv (ha : PE X a ta) (hb : PE X (.BoolOp .Or (b :: rest) pos) tb) : PE X (.BoolOp .Or (a :: b :: rest) pos) (tOrV ta tb) := by
  intro pins s σ H Q I h
  refine BoolOp_or (thn (ha pins s σ H _ I h) fun v s1 ⟨x,H1,I1,r1,q1⟩ => ?_)
  obtain ⟨c,rfl,q1⟩ := q1
  cases r1
  refine wpAny_truthy_bool ?_
  cases c with
  | false => exact hb pins s1 σ H1 Q I1 q1
  | true => exact ⟨.bl true,H1,I1,rfl,q1⟩
theorem Bi (ha : PE X a ta) : PE X (.UnaryOp .Not a pos) (EN ta) := by
  intro pins s σ H Q I h
  refine UnaryOp_ (thn (ha pins s σ H _ I h) fun v s1 ⟨x,H1,I1,r1,q1⟩ => ?_)
  obtain ⟨c,rfl,q1⟩ := q1
  cases r1
  exact not_of (wpAny_truthy_bool ⟨.bl (!c),H1,I1,rfl,q1⟩)
def tIf (t : TT) (ta tb : TE) : TE := fun σ H Q => t σ H fun c H1 => if c = true then ta σ H1 Q else tb σ H1 Q
theorem tY {c : Expr} (hc : PT X c tA) (ha : PE X a ta) (hb : PE X b tb) : PE X (.IfExp c a b pos) (tIf tA ta tb) := by
  intro pins s σ H Q I h
  refine wpAny_IfExp (thn (hc pins s σ H _ I h) fun d s1 ⟨H1,I1,q1⟩ => ?_)
  cases d with
  | true => exact ha pins s1 σ H1 Q I1 q1
  | false => exact hb pins s1 σ H1 Q I1 q1
end
end L2
namespace L2
open PySem PySem.Spec PyProof.Rows
def SqL (K : PySem.W.Frag) (H : Hp) (a : Addr) (xs : List V) : Prop :=
  Rd H a (.lst xs) ∨
    ∃ (o : Obj) (its : Array Value) (n : Nat),K.lookup a = some o ∧ o.cls = .type "list" ∧ o.dict = none ∧ o.data = .seq its n ∧ its.size ≤ sizeLine ∧ Vals xs its.toList
def SqT (K : PySem.W.Frag) (H : Hp) (a : Addr) (xs : List V) : Prop :=
  Rd H a (.tup xs) ∨
    ∃ (o : Obj) (its : Array Value) (n : Nat),K.lookup a = some o ∧ o.cls = .type "tuple" ∧ o.data = .seq its n ∧ its.size ≤ sizeLine ∧ Vals xs its.toList
def absV : Value → Option V
  | .none => some .non
  | .bool b => some (.bl b)
  | .int i _ => some (.int i)
  | .str x _ => some (.str x)
  | .bytes b _ => some (.byt b)
  | .float b _ => some (.flt b)
  | .ref a => some (.ref a)
  | .type n => some (.ty n)
  | _ => none
theorem RelV.abs {x : V} {u : Value} (r : RelV x u) : absV u = some x := by
  cases x with
  | non => cases r; rfl
  | bl _ => cases r; rfl
  | int _ => obtain ⟨t,rfl⟩ := r; rfl
  | str _ => obtain ⟨t,rfl⟩ := r; rfl
  | byt _ => obtain ⟨t,rfl⟩ := r; rfl
  | flt _ => obtain ⟨t,rfl⟩ := r; rfl
  | ref _ => cases r; rfl
  | ty _ => cases r; rfl
theorem RelV.inj {x y : V} {u : Value} (r : RelV x u) (q : RelV y u) : x = y := Option.some.inj (r.abs.symm.trans q.abs)
theorem Vals.inj : ∀ {xs ys : List V} {us : List Value},Vals xs us → Vals ys us → xs = ys
  | _,_,_,.nil,.nil => rfl
  | _,_,_,.cons r t,.cons r' t' => by rw [r.inj r',Vals.inj t t']
section
variable {X : Cx} {pins : List (Addr × Obj)} {σ : St} {H : Hp} {s : Shared} {a : Addr} {xs ys : List V}
theorem SqL.of {K : PySem.W.Frag} (h : H a = some (.lst xs)) : SqL K H a xs := .inl (.inl h)
theorem SqT.of {K : PySem.W.Frag} (h : H a = some (.tup xs)) : SqT K H a xs := .inl (.inl h)
theorem Inv.list (I : Inv X pins σ H s) (h : SqL X.K H a xs) : ∃ its : List Value,Vals xs its ∧ PlainL s.heap a its.toArray ∧ xs.length ≤ sizeLine := by
  rcases h with h | ⟨o,its,n,hk,hc,hd,hs,hz,r⟩
  · obtain ⟨z,its,n,r,e⟩ := h.ok I.hok
    exact ⟨its,r,⟨_,n,e,rfl,rfl,rfl⟩,z⟩
  · refine ⟨its.toList,r,⟨o,n,I.kIn a o hk,hc,hd,by simpa using hs⟩,?_⟩
    have e := r.length
    simp only [Array.length_toList] at e
    omega
theorem Inv.tuple (I : Inv X pins σ H s) (h : SqT X.K H a xs) : ∃ its : List Value,Vals xs its ∧ IsTup s.heap a its.toArray ∧ xs.length ≤ sizeLine := by
  rcases h with h | ⟨o,its,n,hk,hc,hs,hz,r⟩
  · obtain ⟨z,its,r,p⟩ := h.ok I.hok
    exact ⟨its,r,p,z⟩
  · refine ⟨its.toList,r,⟨o,I.kIn a o hk,hc,n,by simpa using hs⟩,?_⟩
    have e := r.length
    simp only [Array.length_toList] at e
    omega
theorem Inv.list_inj (I : Inv X pins σ H s) (h : SqL X.K H a xs) (h' : SqL X.K H a ys) : xs = ys := by
  obtain ⟨its,r,⟨o,n,e,_,_,d⟩,_⟩ := I.list h
  obtain ⟨its',r',⟨o',n',e',_,_,d'⟩,_⟩ := I.list h'
  rw [e] at e'; cases e'
  rw [d] at d'
  injection d' with d1 _
  have : its = its' := by simpa using congrArg Array.toList d1
  subst this
  exact r.inj r'
theorem Inv.tuple_inj (I : Inv X pins σ H s) (h : SqT X.K H a xs) (h' : SqT X.K H a ys) : xs = ys := by
  obtain ⟨its,r,⟨o,e,_,n,d⟩,_⟩ := I.tuple h
  obtain ⟨its',r',⟨o',e',_,n',d'⟩,_⟩ := I.tuple h'
  rw [e] at e'; cases e'
  rw [d] at d'
  injection d' with d1 _
  have : its = its' := by simpa using congrArg Array.toList d1
  subst this
  exact r.inj r'
end
abbrev Cx.wish (X : Cx) (E : Value → Shared → Prop) : Cx := { X with xe := E }
abbrev Cx.nox (X : Cx) : Cx := X.wish fun _ _ => False
theorem Cx.Ok.wish {X : Cx} (ok : X.Ok) (E : Value → Shared → Prop) : (X.wish E).Ok :=
  ⟨ok.mod,ok.kind,ok.glob,ok.blt,ok.above,ok.inj,ok.has,ok.cab,ok.hd,ok.frames,ok.stk,ok.exf,ok.bs,ok.bsz,ok.noex,ok.exfs,ok.funs,ok.frf⟩
theorem Cx.Ok.unwish {X : Cx} {E : Value → Shared → Prop} (ok : (X.wish E).Ok) : X.Ok :=
  ⟨ok.mod,ok.kind,ok.glob,ok.blt,ok.above,ok.inj,ok.has,ok.cab,ok.hd,ok.frames,ok.stk,ok.exf,ok.bs,ok.bsz,ok.noex,ok.exfs,ok.funs,ok.frf⟩
section
variable {X : Cx} {pins : List (Addr × Obj)} {σ : St} {H : Hp} {s : Shared} {E : Value → Shared → Prop}
theorem Inv.wish (I : Inv X pins σ H s) (E : Value → Shared → Prop) : Inv (X.wish E) pins σ H s := ⟨I.ok.wish E,I.os,I.bare,I.base,I.loc,I.cell,I.free,I.freeC,I.pin,I.hok,I.len⟩
theorem Inv.unwish (I : Inv (X.wish E) pins σ H s) : Inv X pins σ H s := ⟨I.ok.unwish,I.os,I.bare,I.base,I.loc,I.cell,I.free,I.freeC,I.pin,I.hok,I.len⟩
theorem SP.unwish {D : Ends} {f : Flow} {s' : Shared} (h : SP (X.wish E) pins D f s') : SP X pins D f s' := by
  cases f with
  | next => obtain ⟨σ',H',I,q⟩ := h; exact ⟨σ',H',I.unwish,q⟩
  | brk => obtain ⟨σ',H',I,q⟩ := h; exact ⟨σ',H',I.unwish,q⟩
  | cont => obtain ⟨σ',H',I,q⟩ := h; exact ⟨σ',H',I.unwish,q⟩
  | ret u => obtain ⟨v,σ',H',I,r,q⟩ := h; exact ⟨v,σ',H',I.unwish,r,q⟩
theorem PSs.nox {st : List Stmt} {t : TS} (h : PSs X.nox st t) : PSs X st t := fun pins s σ H D I hw =>
  wpAny_mono (h pins s σ H D (I.wish _) hw) (fun _ _ q => q.unwish) fun _ _ z => False.elim z
end
section
variable {X : Cx} {st : Stmt} {rest : List Stmt} {t u : TS} {e : Expr} {te : TE} {pos : Pos}
def Fo : TS := fun D σ H => D.nx σ H
def tSeq (t u : TS) : TS := fun D σ H => t { D with nx := u D } σ H
theorem zu : PSs X [] Fo := fun _ _ σ H _ I h => wpAny_execs_nil ⟨σ,H,I,h⟩
theorem zd (h1 : PS X st t) (h2 : PSs X rest u) : PSs X (st :: rest) (tSeq t u) := by
  intro pins s σ H D I h
  refine wpAny_execs_cons (thn (h1 pins s σ H { D with nx := u D } I h) fun f s1 q => ?_)
  cases f with
  | next =>
    obtain ⟨σ',H',I',q⟩ := q
    exact h2 pins s1 σ' H' D I' q
  | ret v => exact q
  | brk => exact q
  | cont => exact q
theorem ze (h1 : PS X st t) : PSs X [st] t := by
  intro pins s σ H D I h
  refine wpAny_execs_cons (thn (h1 pins s σ H D I h) fun f s1 q => ?_)
  cases f with
  | next => exact wpAny_execs_nil q
  | ret v => exact q
  | brk => exact q
  | cont => exact q
theorem Inv.quiet {pins : List (Addr × Obj)} {σ : St} {H : Hp} {s : Shared} (I : Inv X pins σ H s) : interactive X.env = false := by simp [interactive,I.ok.kind]
def EX (te : TE) : TS := fun D σ H => te σ H fun _ H1 => D.nx σ H1
theorem yg (he : PE X e te) (hs : swapsWith e none pos.line X.env = pure false := by rfl) : PS X (.Expr e pos) (EX te) := by
  intro pins s σ H D I h
  exact wpAny_Expr_any (thn (he pins s σ H _ I h) fun v s1 ⟨x,H1,I1,r1,q1⟩ => ⟨σ,H1,I1,q1⟩) I.quiet hs
def tRet (te : TE) : TS := fun D σ H => te σ H D.rt
theorem zp (he : PE X e te) : PS X (.Return (some e) pos) (tRet te) := by
  intro pins s σ H D I h
  exact wpAny_Return_some (thn (he pins s σ H _ I h) fun v s1 ⟨x,H1,I1,r1,q1⟩ => ⟨x,σ,H1,I1,r1,q1⟩)
def tIfS (c : TT) (t u : TS) : TS := fun D σ H => c σ H fun b H1 => if b = true then t D σ H1 else u D σ H1
theorem zJ {c : Expr} {a b : List Stmt} {tc : TT} (hc : PT X c tc) (ha : PSs X a t) (hb : PSs X b u) : PS X (.If c a b pos) (tIfS tc t u) := by
  intro pins s σ H D I h
  refine wpAny_If (thn (hc pins s σ H _ I h) fun d s1 ⟨H1,I1,q1⟩ => ?_)
  cases d with
  | true => exact ha pins s1 σ H1 D I1 q1
  | false => exact hb pins s1 σ H1 D I1 q1
def DF : TS := fun _ _ _ => False
theorem Ah : PS X st DF := fun _ _ _ _ _ _ h => h.elim
theorem AY {sts : List Stmt} : PSs X sts DF := fun _ _ _ _ _ _ h => h.elim
end
abbrev TG := V → St → Hp → (St → Hp → Prop) → Prop
abbrev TGs := List V → St → Hp → (St → Hp → Prop) → Prop
def PG (X : Cx) (target : Expr) (t : TG) : Prop :=
  ∀ (pins : List (Addr × Obj)) (s : Shared) (σ : St) (H : Hp) (v : V) (u : Value) (Q : St → Hp → Prop),Inv X pins σ H s → RelV v u → t v σ H Q →
    wpAny (model X.prog X.w) X.A (assign target X.env u) (fun _ s' => ∃ σ' H',Inv X pins σ' H' s' ∧ Q σ' H') X.xe s
def PGs (X : Cx) (ts : List Expr) (t : TGs) : Prop :=
  ∀ (pins : List (Addr × Obj)) (s : Shared) (σ : St) (H : Hp) (vs : List V) (us : List Value) (Q : St → Hp → Prop),Inv X pins σ H s → Vals vs us → t vs σ H Q →
    wpAny (model X.prog X.w) X.A (assignInOrder ((assignEach ts X.env).map (·.2)) us) (fun _ s' => ∃ σ' H',Inv X pins σ' H' s' ∧ Q σ' H') X.xe s
section
variable {X : Cx} {pos : Pos}
def Db (i : Nat) : TG := fun v σ H Q => Q (σ.set i (some v)) H
theorem zD {i : Nat} {x : Str} (hN : X.N.Nodup) (hi : X.N[i]? = some x) (hx : Loc X.env.scope x) (hf : X.fn x = true ∨ X.env.scope.names.lookup x = some .local := by first | exact .inl rfl | exact .inr rfl | assumption) : PG X (.Name x pos) (Db i) := by
  intro pins s σ H v u Q I r h
  exact wpAny_assign_Name (xB I hN hi hx r (fun s' I' => ⟨_,H,I',h⟩) hf)
def gNil : TGs := fun vs σ H Q => vs = [] ∧ Q σ H
def Fp (t : TG) (u : TGs) : TGs := fun vs σ H Q => ∃ v r,vs = v :: r ∧ t v σ H fun σ' H' => u r σ' H' Q
theorem xV : PGs X [] gNil := by
  intro pins s σ H vs us Q I r h
  obtain ⟨e,h⟩ := h
  subst e
  cases r
  exact assignInOrder_nil ⟨σ,H,I,h⟩
theorem z8 {e : Expr} {es : List Expr} {t : TG} {u : TGs} (h1 : PG X e t) (h2 : PGs X es u)
    (hs : (assignEach (e :: es) X.env).map (·.2) = assign e X.env :: (assignEach es X.env).map (·.2) := by rfl) : PGs X (e :: es) (Fp t u) := by
  intro pins s σ H vs us Q I r h
  obtain ⟨v,vr,e1,h⟩ := h
  subst e1
  cases r with
  | cons r rr =>
    rw [hs]
    refine assignInOrder_cons (thn (h1 pins s σ H _ _ _ I r h) fun _ s1 ⟨σ1,H1,I1,q1⟩ => ?_)
    exact h2 pins s1 σ1 H1 _ _ Q I1 rr q1
def gTup (K : PySem.W.Frag) (n : Nat) (t : TGs) : TG := fun v σ H Q => ∃ a xs,v = .ref a ∧ SqT K H a xs ∧ xs.length = n ∧ t xs σ H Q
theorem vk {es : List Expr} {k : Nat} {t : TGs} {n : Nat} (hc : X.calm = true) (h : PGs X es t)
    (hn : (assignEach es X.env).length = n := by rfl) (hst : (assignEach es X.env).findIdx? (·.1) = none := by rfl) : PG X (.Tuple es k pos) (gTup X.K n t) := by
  intro pins s σ H v u Q I r hw
  obtain ⟨a,xs,e1,hq,hl,hw⟩ := hw
  subst e1
  cases r
  obtain ⟨its,rv,ht,hz⟩ := I.tuple hq
  refine assign_Tuple_tuple (I.ok.hd hc) ht (by simp [hn,← hl,rv.length]) hst fun h' hx => ?_
  have I1 : Inv X pins σ H { s with heap := h' } := I.kept (t' := s.toks) fun b o e => hx b o (Nat.ne_of_lt (Heap.lt_size e)) e
  exact h pins _ σ H xs _ Q I1 (by simpa using rv) hw
def tAsg (te : TE) (g : TG) : TS := fun D σ H => te σ H fun x H1 => g x σ H1 D.nx
theorem vq {tg e : Expr} {te : TE} {g : TG} (he : PE X e te) (hg : PG X tg g) (hs : swapsWithSole [tg] e pos.line X.env = pure false := by rfl) (hw : swappedStores [tg] e X.env = pure none := by rfl)
    (h1 : (assignEach [tg] X.env).map (·.2) = [assign tg X.env] := by rfl) : PS X (.Assign [tg] e pos) (tAsg te g) := by
  intro pins s σ H D I h
  refine wpAny_Assign_stores (thn (he pins s σ H _ I h) fun v s1 ⟨x,H1,I1,r1,q1⟩ => ?_) hs hw
  rw [h1]
  exact thn (hg pins s1 σ H1 x v _ I1 r1 q1) fun _ s2 q => q
theorem zr {i : Nat} {x : Str} {e : Expr} {te : TE} {pos' : Pos} (hN : X.N.Nodup) (hi : X.N[i]? = some x) (hx : Loc X.env.scope x) (he : PE X e te) (hs : swapsWith e (some (.Name x pos')) pos.line X.env = pure false := by rfl) (hf : X.fn x = true ∨ X.env.scope.names.lookup x = some .local := by first | exact .inl rfl | exact .inr rfl | assumption) :
    PS X (.Assign [.Name x pos'] e pos) (tAsg te (Db i)) := by
  intro pins s σ H D I h
  refine wpAny_Assign_Name (thn (he pins s σ H _ I h) fun v s1 ⟨y,H1,I1,r1,q1⟩ => ?_) hs
  exact xB I1 hN hi hx r1 (fun s2 I2 => ⟨_,H1,I2,q1⟩) hf
def tPar (i j : Nat) (ta : TA) : TS := fun D σ H => ta σ H fun vs H1 => ∃ v w,vs = [v,w] ∧ D.nx ((σ.set i (some v)).set j (some w)) H1
theorem FN {i j : Nat} {x y : Str} {a b : Expr} {ta : TA} {px py pt : Pos} {kt k2 pt2} (hc : X.calm = true) (hN : X.N.Nodup) (hi : X.N[i]? = some x) (hj : X.N[j]? = some y) (hij : i ≠ j)
    (hx : X.env.scope.names.lookup x = some .local) (hy : X.env.scope.names.lookup y = some .local) (ha : PA X [a,b] ta)
    (hw : swappedStores [.Tuple [.Name x px,.Name y py] kt pt] (.Tuple [a,b] k2 pt2) X.env = pure (some [x,y]))
    (hs : swapsWithSole [.Tuple [.Name x px,.Name y py] kt pt] (.Tuple [a,b] k2 pt2) pos.line X.env = pure false := by rfl) :
    PS X (.Assign [.Tuple [.Name x px,.Name y py] kt pt] (.Tuple [a,b] k2 pt2) pos) (tPar i j ta) := by
  intro pins s σ H D I h
  rw [exec_Assign_arm]
  refine wpAny_bind (wpAny_standAt ?_)
  rw [hs]
  refine wpAny_bind (wpAny_pure ?_)
  rw [if_neg (by decide)]
  refine wpAny_bind (Tuple_ (thn (ha _ pins s σ H _ I h) fun us s1 ⟨vs,H1,I1,r1,q1⟩ => ?_))
  obtain ⟨v,w,e1,q1⟩ := q1
  subst e1
  obtain ⟨u1,u2,rfl,rv,rw'⟩ : ∃ u1 u2,us = [u1,u2] ∧ RelV v u1 ∧ RelV w u2 := by
    cases r1 with
    | cons p q =>
      cases q with
      | cons p' q' =>
        cases q'
        exact ⟨_,_,rfl,p,p'⟩
  refine wpAny_newObj_type ?_ (by show 2 ≤ sizeLine; decide)
  have I2 : Inv X pins σ H1 { s1 with heap := s1.heap.push { cls := .type "tuple",data := .seq [u1,u2].toArray } } := I1.kept (t' := s1.toks) fun b o e => Heap.get?_push_of_some _ e
  rw [hw]
  refine wpAny_bind (wpAny_pure ?_)
  show wpAny (model X.prog X.w) X.A (do rule "assign.swapped-stores"; let items ← unpackItems (.ref s1.heap.objs.size) 2 none; assignInOrder [fun v => bindName X.env y v,fun v => bindName X.env x v] items.reverse; pure Flow.next) _ _ _
  refine wpAny_bind (wpAny_rule (wpAny_bind (unpackItems_tuple (items := #[u1,u2]) (I.ok.hd hc) (IsTup.new s1.heap _) fun h' hx' => ?_)))
  have I3 := I2.kept (h' := h') (t' := s1.toks) fun b o e => hx' b o (Nat.ne_of_lt (Heap.lt_size e)) e
  show wpAny _ _ (assignInOrder [fun v => bindName X.env y v,fun v => bindName X.env x v] [u2,u1] >>= fun _ => pure Flow.next) _ _ _
  refine wpAny_bind (assignInOrder_cons (wpAny_bindName (xB I3 hN hj (.inl hy) rw' (fun s2 I4 => ?_) (.inr hy))))
  refine assignInOrder_cons (wpAny_bindName (xB I4 hN hi (.inl hx) rv (fun s3 I5 => assignInOrder_nil (wpAny_pure ?_)) (.inr hx)))
  rw [List.set_comm _ _ (Ne.symm hij)] at I5
  exact ⟨_,H1,I5,q1⟩
end
section
variable {X : Cx} {pos : Pos}
def Dg (c : TT) (tb : TS) : TS := fun D σ H => ∃ W : Nat → St → Hp → Prop,(∃ m,W m σ H) ∧ ∀ m σ H,W m σ H →
  c σ H fun b H1 => if b = true then ∃ N : St → Hp → Prop,(∀ σ' H',N σ' H' → ∃ m',m' < m ∧ W m' σ' H') ∧ tb { D with nx := N,ct := N,bk := D.nx } σ H1 else D.nx σ H1
theorem Af {c : Expr} {body : List Stmt} {tc : TT} {tb : TS} (hp : PassesOwn (model X.prog X.w) X.A X.env X.xe) (hc : PT X c tc) (hb : PSs X body tb) : PS X (.While c body [] pos) (Dg tc tb) := by
  intro pins s σ H D I h
  obtain ⟨W,⟨m0,w0⟩,turn⟩ := h
  refine wpAny_While (codeAny_whileLoop (fun n s' => ∃ σ' H',Inv X pins σ' H' s' ∧ W n σ' H') ?_ m0 ⟨σ,H,I,w0⟩)
  rintro n s1 ⟨σ1,H1,I1,w1⟩
  refine wpAny_passesOwn hp (thn (hc pins s1 σ1 H1 _ I1 (turn n σ1 H1 w1)) fun b s2 ⟨H2,I2,q2⟩ => ?_)
  cases b with
  | true =>
    obtain ⟨N,hN,q2⟩ := q2
    rw [if_pos rfl]
    refine wpAny_passesOwn hp (thn (hb pins s2 σ1 H2 _ I2 q2) fun f s3 q3 => ?_)
    cases f with
    | next =>
      obtain ⟨σ3,H3,I3,n3⟩ := q3
      obtain ⟨m',hm,w3⟩ := hN σ3 H3 n3
      exact ⟨m',hm,σ3,H3,I3,w3⟩
    | cont =>
      obtain ⟨σ3,H3,I3,n3⟩ := q3
      obtain ⟨m',hm,w3⟩ := hN σ3 H3 n3
      exact ⟨m',hm,σ3,H3,I3,w3⟩
    | brk => exact q3
    | ret v => exact q3
  | false =>
    rw [if_neg Bool.false_ne_true]
    exact wpAny_execs_nil ⟨σ1,H2,I2,q2⟩
end
structure It where
  go : Nat → Hp → Prop
  yld : Nat → Hp → V → Hp → Prop
  stop : Nat → Hp → Prop
def FpOk (X : Cx) (pins : List (Addr × Obj)) (H : Hp) (b : Addr) : Prop :=
  H b = none ∧ b ≠ X.env.locals ∧ b ∉ X.fs ∧ (b ∈ X.ex ∨ X.s₀.heap.objs.size ≤ b) ∧ (∀ x c,X.env.cells.lookup x = some c → c ≠ b) ∧ ∀ p ∈ X.pn ++ pins,p.1 ≠ b
theorem Inv.fpOk {X : Cx} {pins : List (Addr × Obj)} {σ : St} {H H' : Hp} {s : Shared} {b : Addr} (I : Inv X pins σ H s) (hb : s.heap.objs.size ≤ b) (hn : H' b = none) : FpOk X pins H' b := by
  refine ⟨hn,Nat.ne_of_gt (Nat.lt_of_lt_of_le I.lt hb),I.nofs hb,.inr (Nat.le_trans I.sz hb),fun x c e z => ?_,fun p hp z => ?_⟩
  · obtain ⟨v,q⟩ := I.cell x c e
    exact absurd (Nat.lt_of_lt_of_le q.lt (by rw [z]; exact hb)) (Nat.lt_irrefl _)
  · exact absurd (Nat.lt_of_lt_of_le (Heap.lt_size (I.pin p hp).1) (by rw [z]; exact hb)) (Nat.lt_irrefl _)
structure Turn (P : Program) (w : World) (K : PySem.W.Frag) (tg : Expr) (J : It) (fp : List Addr) (it : Addr) (tn : Nat → Heap → Prop) : Prop where
  mem : it ∈ fp
  obj : ∀ i h,tn i h → ∀ b ∈ fp,∃ o,h.get? b = some o ∧ ∀ v,o.data ≠ .cell v
  keep : ∀ i h h',tn i h → (∀ b ∈ fp,∀ o,h.get? b = some o → h'.get? b = some o) → tn i h'
  item : ∀ (X : Cx),X.prog = P → X.w = w → X.K = K → X.calm = true → ∀ (i : Nat) (pins : List (Addr × Obj)) (s : Shared) (σ : St) (H : Hp) (E : Value → Shared → Prop),Inv X pins σ H s → (∀ b ∈ fp,FpOk X pins H b) → tn i s.heap → J.go i H →
    wpAny (model P w) X.A (pyNext (.ref it)) (fun r s1 => ∃ u,r = some u ∧
      wpAny (model P w) X.A (letOwnedTupleGo tg (.ref it) u) (fun _ s2 => ∃ x H',Inv X pins σ H' s2 ∧ RelV x u ∧ J.yld i H x H' ∧ tn (i + 1) s2.heap ∧ ∀ b ∈ fp,H' b = none) E s1) E s
  done : ∀ (X : Cx),X.prog = P → X.w = w → X.K = K → X.calm = true → ∀ (i : Nat) (pins : List (Addr × Obj)) (s : Shared) (σ : St) (H : Hp) (E : Value → Shared → Prop),Inv X pins σ H s → (∀ b ∈ fp,FpOk X pins H b) → tn i s.heap → J.stop i H →
    wpAny (model P w) X.A (pyNext (.ref it)) (fun r s1 => r = none ∧ Inv X pins σ H s1) E s
  self : ∀ (A : Around) (i : Nat) (s : Shared) (Q : Value → Shared → Prop) (E : Value → Shared → Prop),tn i s.heap → Q (.ref it) s → wpAny (model P w) A (pyIter (.ref it)) Q E s
abbrev TI := St → Hp → (It → Hp → Prop) → Prop
def PIE (X : Cx) (pins : List (Addr × Obj)) (σ : St) (tg : Expr) (R : It → Hp → Prop) (itv : Value) (s2 : Shared) : Prop :=
  ∃ (it : Addr) (fp : List Addr) (tn : Nat → Heap → Prop) (J : It) (H' : Hp),itv = .ref it ∧ Inv X pins σ H' s2 ∧ Turn X.prog X.w X.K tg J fp it tn ∧ tn 0 s2.heap ∧ (∀ b ∈ fp,FpOk X pins H' b) ∧ R J H'
def PI (X : Cx) (tg iter : Expr) (wi : TI) : Prop :=
  ∀ (pins : List (Addr × Obj)) (s : Shared) (σ : St) (H : Hp) (R : It → Hp → Prop),Inv X pins σ H s → wi σ H R →
    wpAny (model X.prog X.w) X.A (eval iter X.env) (fun v s1 => wpAny (model X.prog X.w) X.A (pyIter v) (PIE X pins σ tg R) X.xe s1) X.xe s
theorem CH {M : Model} {A : Around} {E : Value → Shared → Prop} {s : Shared} {tg : Expr} {it : Addr} {u : Value} {o : Obj} {n : String} {vs : Array Value} {Q : Unit → Shared → Prop} (ho : s.heap.get? it = some o) (hc : o.cls = .type n) (hd : o.data = .fields vs)
    (hn : ["enumerate","zip","dict_itemiterator","dict_reverseitemiterator","odict_iterator","itertools.zip_longest","itertools.pairwise"].contains n = false) (hQ : Q () s) : wpAny M A (letOwnedTupleGo tg (.ref it) u) Q E s := by
  unfold letOwnedTupleGo
  cases tg <;> first
    | exact wpAny_pure hQ
    | (cases u <;> first
        | exact wpAny_pure hQ
        | (refine wpAny_bind (wpAny_load ho ?_)
           rw [hc,hd]
           show wpAny M A (if (["enumerate","zip","dict_itemiterator","dict_reverseitemiterator","odict_iterator","itertools.zip_longest","itertools.pairwise"].contains n && vs[0]? == some (rawInt _)) = true then _ else _) Q E s
           rw [if_neg (by intro h; rw [hn,Bool.false_and] at h; cases h)]
           exact wpAny_pure hQ))
def Itl (K : PySem.W.Frag) (a : Addr) : It :=
  ⟨fun i H => ∃ xs x,SqL K H a xs ∧ xs[i]? = some x,fun i H x H' => H' = H ∧ ∀ xs,SqL K H a xs → xs[i]? = some x,fun i H => ∃ xs,SqL K H a xs ∧ xs.length ≤ i⟩
def Itt (K : PySem.W.Frag) (a : Addr) : It :=
  ⟨fun i H => ∃ xs x,SqT K H a xs ∧ xs[i]? = some x,fun i H x H' => H' = H ∧ ∀ xs,SqT K H a xs → xs[i]? = some x,fun i H => ∃ xs,SqT K H a xs ∧ xs.length ≤ i⟩
def Itr (lo : Int) (n : Nat) : It := ⟨fun i _ => i < n,fun i H x H' => H' = H ∧ x = .int (lo + i),fun i _ => n ≤ i⟩
theorem AM {P : Program} {w : World} {K : PySem.W.Frag} {tg : Expr} (a it : Addr) : Turn P w K tg (Itl K a) [it] it (fun i h => h.IsListIter it a i) where
  mem := by simp
  obj := fun i h st b hb => by
    have e : b = it := by simpa using hb
    subst e
    obtain ⟨o,e,c,d⟩ := st
    exact ⟨o,e,fun v z => by rw [d] at z; cases z⟩
  keep := fun i h h' st k => st.at fun o e => k it (by simp) o e
  item := by
    intro X hP hw hK hc i pins s σ H E I hf st hg
    subst hP hw hK
    obtain ⟨xs,x,hq,hx⟩ := hg
    obtain ⟨its,rv,p,hz⟩ := I.list hq
    obtain ⟨u,hu,ru⟩ := rv.get hx
    obtain ⟨f0,f1,f2,f3,f4,f5⟩ := hf it (by simp)
    refine wpAny_pyNext_list_item st p.isList (x := u) (by simpa using hu) fun h' st' sb => ?_
    have I1 : Inv X pins σ H { s with heap := h' } := I.turned (t' := s.toks) (fun b o hb e => (sb.2 b hb).trans e) f0 f1 f3 f4 f5
    obtain ⟨o,e,c,d⟩ := id st'
    exact ⟨u,rfl,CH (s := { s with heap := h' }) e c d (by decide) ⟨x,H,I1,ru,⟨rfl,fun ys hy => by rw [I.list_inj hy hq]; exact hx⟩,st',fun b hb => (hf b hb).1⟩⟩
  done := by
    intro X hP hw hK hc i pins s σ H E I hf st hg
    subst hP hw hK
    obtain ⟨xs,hq,hx⟩ := hg
    obtain ⟨its,rv,p,hz⟩ := I.list hq
    obtain ⟨f0,f1,f2,f3,f4,f5⟩ := hf it (by simp)
    have hl := rv.length
    exact wpAny_pyNext_list_end (I.ok.hd hc) st p.isList (by simp; omega) fun h' eb => ⟨rfl,I.turned (t' := s.toks) (fun b o hb e => eb b o hb e) f0 f1 f3 f4 f5⟩
  self := fun _ _ _ _ _ st h => wpAny_pyIter_listiter st h
theorem AJ {P : Program} {w : World} {K : PySem.W.Frag} {tg : Expr} (a it : Addr) : Turn P w K tg (Itt K a) [it] it (fun i h => h.IsTupleIter it a i) where
  mem := by simp
  obj := fun i h st b hb => by
    have e : b = it := by simpa using hb
    subst e
    obtain ⟨o,e,c,d⟩ := st
    exact ⟨o,e,fun v z => by rw [d] at z; cases z⟩
  keep := fun i h h' st k => st.at fun o e => k it (by simp) o e
  item := by
    intro X hP hw hK hc i pins s σ H E I hf st hg
    subst hP hw hK
    obtain ⟨xs,x,hq,hx⟩ := hg
    obtain ⟨its,rv,p,hz⟩ := I.tuple hq
    obtain ⟨u,hu,ru⟩ := rv.get hx
    obtain ⟨f0,f1,f2,f3,f4,f5⟩ := hf it (by simp)
    refine wpAny_pyNext_tuple_item st (show s.heap.IsTuple a its.toArray from p) (x := u) (by simpa using hu) fun h' st' sb => ?_
    have I1 : Inv X pins σ H { s with heap := h' } := I.turned (t' := s.toks) (fun b o hb e => (sb.2 b hb).trans e) f0 f1 f3 f4 f5
    obtain ⟨o,e,c,d⟩ := id st'
    exact ⟨u,rfl,CH (s := { s with heap := h' }) e c d (by decide) ⟨x,H,I1,ru,⟨rfl,fun ys hy => by rw [I.tuple_inj hy hq]; exact hx⟩,st',fun b hb => (hf b hb).1⟩⟩
  done := by
    intro X hP hw hK hc i pins s σ H E I hf st hg
    subst hP hw hK
    obtain ⟨xs,hq,hx⟩ := hg
    obtain ⟨its,rv,p,hz⟩ := I.tuple hq
    obtain ⟨f0,f1,f2,f3,f4,f5⟩ := hf it (by simp)
    have hl := rv.length
    exact wpAny_pyNext_tuple_end (I.ok.hd hc) st (show s.heap.IsTuple a its.toArray from p) (by simp; omega) fun h' eb => ⟨rfl,I.turned (t' := s.toks) (fun b o hb e => eb b o hb e) f0 f1 f3 f4 f5⟩
  self := fun _ _ _ _ _ st h => wpAny_pyIter_tupleiter st h
theorem Ax {P : Program} {w : World} {K : PySem.W.Frag} {tg : Expr} (it : Addr) (lo : Int) (n : Nat) : Turn P w K tg (Itr lo n) [it] it (fun i h => IsRangeIter h it (lo + (i : Nat) * 1) ((n : Int) - (i : Nat)) 1) where
  mem := by simp
  obj := fun i h st b hb => by
    have e : b = it := by simpa using hb
    subst e
    exact ⟨_,st,fun v z => by
      have z' : Data.fields _ = Data.cell v := z
      cases z'⟩
  keep := fun i h h' st k => k it (by simp) _ st
  item := by
    intro X hP hw hK hc i pins s σ H E I hf st hg
    subst hP hw hK
    obtain ⟨f0,f1,f2,f3,f4,f5⟩ := hf it (by simp)
    have W := Walks.range (prog := X.prog) (w := X.w) (I.ok.hd hc) it lo 1 n
    refine W.item i s _ _ hg st fun v h' tk hv st' kk => ?_
    obtain ⟨t,rfl⟩ := hv
    have I1 : Inv X pins σ H { s with heap := h',toks := tk } := I.turned (fun b o hb e => kk b o (by simpa using hb) e) f0 f1 f3 f4 f5
    refine ⟨_,rfl,CH (s := { s with heap := h',toks := tk }) (n := "range_iterator") st' rfl rfl (by decide) ⟨.int (lo + i),H,I1,⟨t,?_⟩,⟨rfl,rfl⟩,st',fun b hb => (hf b hb).1⟩⟩
    rw [Int.mul_one]
  done := by
    intro X hP hw hK hc i pins s σ H E I hf st hg
    subst hP hw hK
    obtain ⟨f0,f1,f2,f3,f4,f5⟩ := hf it (by simp)
    exact wpAny_pyNext_range_end (I.ok.hd hc) st (by have : n ≤ i := hg; omega) fun h' eb => ⟨rfl,I.turned (t' := s.toks) (fun b o hb e => eb b o hb e) f0 f1 f3 f4 f5⟩
  self := fun _ _ _ _ _ st h => wpAny_pyIter_rangeiter st h
end L2
namespace L2
open PySem PySem.Spec PyProof.Rows
section
variable {X : Cx} {tg : Expr}
def DV (K : PySem.W.Frag) (tl : TE) : TI := fun σ H R => tl σ H fun x H1 => ∃ a,x = .ref a ∧ (∃ xs,SqL K H1 a xs) ∧ R (Itl K a) H1
def iTup (K : PySem.W.Frag) (tl : TE) : TI := fun σ H R => tl σ H fun x H1 => ∃ a,x = .ref a ∧ (∃ xs,SqT K H1 a xs) ∧ R (Itt K a) H1
theorem yv {l : Expr} {tl : TE} (hl : PE X l tl) : PI X tg l (DV X.K tl) := by
  intro pins s σ H R I h
  refine thn (hl pins s σ H _ I h) fun v s1 ⟨x,H1,I1,r1,q1⟩ => ?_
  obtain ⟨a,e,⟨xs,hq⟩,q⟩ := q1
  subst e
  cases r1
  obtain ⟨its,rv,p,hz⟩ := I1.list hq
  refine wpAny_pyIter_list p.isList ?_
  refine ⟨s1.heap.objs.size,[s1.heap.objs.size],_,_,H1,rfl,I1.kept (t' := s1.toks) fun b o e => Heap.get?_push_of_some _ e,AM a _,⟨_,Heap.get?_push_size _ rfl,rfl,rfl⟩,fun b hb => ?_,q⟩
  have e : b = s1.heap.objs.size := by simpa using hb
  subst e
  exact I1.fpOk (Nat.le_refl _) (I1.hok.fresh (Nat.le_refl _))
theorem E9 {l : Expr} {tl : TE} (hl : PE X l tl) : PI X tg l (iTup X.K tl) := by
  intro pins s σ H R I h
  refine thn (hl pins s σ H _ I h) fun v s1 ⟨x,H1,I1,r1,q1⟩ => ?_
  obtain ⟨a,e,⟨xs,hq⟩,q⟩ := q1
  subst e
  cases r1
  obtain ⟨its,rv,p,hz⟩ := I1.tuple hq
  refine wpAny_pyIter_tuple (show s1.heap.IsTuple a its.toArray from p) ?_
  refine ⟨s1.heap.objs.size,[s1.heap.objs.size],_,_,H1,rfl,I1.kept (t' := s1.toks) fun b o e => Heap.get?_push_of_some _ e,AJ a _,⟨_,Heap.get?_push_size _ rfl,rfl,rfl⟩,fun b hb => ?_,q⟩
  have e : b = s1.heap.objs.size := by simpa using hb
  subst e
  exact I1.fpOk (Nat.le_refl _) (I1.hok.fresh (Nat.le_refl _))
theorem tO {pins : List (Addr × Obj)} {σ : St} {H : Hp} {s : Shared} {R : It → Hp → Prop} {E : Value → Shared → Prop} {lo hi : Int} {t u v : Tok} {tk : Nat} (I : Inv X pins σ H s) (h1 : -(2 ^ 62) ≤ lo) (h2 : lo < 2 ^ 62) (h3 : -(2 ^ 62) ≤ hi) (h4 : hi < 2 ^ 62)
    (q : R (Itr lo (hi - lo).toNat) H) : wpAny (model X.prog X.w) X.A (pyIter (.ref s.heap.objs.size)) (PIE X pins σ tg R) E { s with heap := s.heap.push { cls := .type "range",data := .fields #[.int lo t,.int hi u,.int 1 v] },toks := tk } := by
  refine wpAny_pyIter_range (IsRange.new ..) (small_one h1 h2 h3 h4) ?_
  have I1 : Inv X pins σ H { s with heap := s.heap.push { cls := .type "range",data := .fields #[.int lo t,.int hi u,.int 1 v] },toks := tk } := I.kept fun b o e => Heap.get?_push_of_some _ e
  refine ⟨(s.heap.push { cls := .type "range",data := .fields #[.int lo t,.int hi u,.int 1 v] }).objs.size,[(s.heap.push { cls := .type "range",data := .fields #[.int lo t,.int hi u,.int 1 v] }).objs.size],_,_,H,rfl,
    I1.kept (t' := tk) fun b o e => Heap.get?_push_of_some _ e,Ax _ lo (hi - lo).toNat,?_,fun b hb => ?_,q⟩
  · have e1 : lo + ((0 : Nat) : Int) * 1 = lo := by simp
    have e2 : (((hi - lo).toNat : Nat) : Int) - ((0 : Nat) : Int) = Builtin.Range.rangeSize lo hi 1 := by rw [rangeSize_one]; split <;> omega
    show IsRangeIter _ _ (lo + ((0 : Nat) : Int) * 1) ((((hi - lo).toNat : Nat) : Int) - ((0 : Nat) : Int)) 1
    rw [e1,e2]
    exact Heap.get?_push_size _ rfl
  · have e : b = (s.heap.push { cls := .type "range",data := .fields #[.int lo t,.int hi u,.int 1 v] }).objs.size := by simpa using hb
    subst e
    exact I1.fpOk (Nat.le_refl _) (I1.hok.fresh (Nat.le_refl _))
def Em (ta : TA) : TI := fun σ H R => ta σ H fun vs H1 => ∃ j : Int,vs = [.int j] ∧ -(2 ^ 62) ≤ j ∧ j < 2 ^ 62 ∧ R (Itr 0 j.toNat) H1
def EY (ta : TA) : TI := fun σ H R => ta σ H fun vs H1 => ∃ i j : Int,vs = [.int i,.int j] ∧ (-(2 ^ 62) ≤ i ∧ i < 2 ^ 62 ∧ -(2 ^ 62) ≤ j ∧ j < 2 ^ 62) ∧ R (Itr i (j - i).toNat) H1
theorem yt {a : Expr} {ta : TA} {p pos : Pos} (hg : Gl X "range") (hm : X.mg "range" = none) (ha : PA X [a] ta) (hs : starEach [a] X.env = [(false,eval a X.env)] := by rfl) : PI X tg (.Call (.Name "range" p) [a] [] pos) (Em ta) := by
  intro pins s σ H R I h
  refine Call_ (uG I hg hm boot_range (PyProof.Rows.callWith_type1 (thn (ha pos pins s σ H _ I h) fun us s1 ⟨vs,H1,I1,r1,q1⟩ => ?_) hs rfl))
  obtain ⟨j,e,q1,q2,q⟩ := q1
  subst e
  cases r1 with
  | cons r rr =>
    cases rr
    obtain ⟨t,rfl⟩ := r
    exact call_range_1 (tO I1 (by omega) (by omega) q1 q2 (by simpa using q))
theorem BW {a b : Expr} {ta : TA} {p pos : Pos} (hg : Gl X "range") (hm : X.mg "range" = none) (ha : PA X [a,b] ta) (hs : starEach [a,b] X.env = [(false,eval a X.env),(false,eval b X.env)] := by rfl) (hs2 : starEach [b] X.env = [(false,eval b X.env)] := by rfl) :
    PI X tg (.Call (.Name "range" p) [a,b] [] pos) (EY ta) := by
  intro pins s σ H R I h
  refine Call_ (uG I hg hm boot_range (PyProof.Rows.callWith_type1 (thn (ha pos pins s σ H _ I h) fun us s1 ⟨vs,H1,I1,r1,q1⟩ => ?_) (by rw [hs,hs2]) (by rw [hs2]; rfl)))
  obtain ⟨i,j,e,⟨q1,q2,q3,q4⟩,q⟩ := q1
  subst e
  cases r1 with
  | cons r rr =>
    cases rr with
    | cons r' rr =>
      cases rr
      obtain ⟨t,rfl⟩ := r
      obtain ⟨t',rfl⟩ := r'
      exact call_range_2 (tO I1 q1 q2 q3 q4 q)
def tFor (wi : TI) (g : TG) (tb : TS) : TS := fun D σ H => wi σ H fun J H1 => ∃ W : Nat → Nat → St → Hp → Prop,(∃ m,W 0 m σ H1) ∧ ∀ i m σ H,W i m σ H →
  (J.stop i H ∧ D.nx σ H) ∨ (J.go i H ∧ ∃ N : St → Hp → Prop,(∀ σ' H',N σ' H' → ∃ m',m' < m ∧ W (i + 1) m' σ' H') ∧ ∀ x H',J.yld i H x H' → g x σ H' fun σ2 H2 => tb { D with nx := N,ct := N,bk := D.nx } σ2 H2)
def uw (fp : List Addr) (h : Heap) : List (Addr × Obj) := fp.filterMap fun b => (h.get? b).map fun o => (b,o)
theorem xm {fp : List Addr} {h : Heap} {b : Addr} {o : Obj} (hb : b ∈ fp) (e : h.get? b = some o) : (b,o) ∈ uw fp h := List.mem_filterMap.mpr ⟨b,hb,by rw [e]; rfl⟩
theorem Bv {fp : List Addr} {h : Heap} {p : Addr × Obj} (hp : p ∈ uw fp h) : p.1 ∈ fp ∧ h.get? p.1 = some p.2 := by
  obtain ⟨b,hb,e⟩ := List.mem_filterMap.mp hp
  cases q : h.get? b with
  | none => rw [q] at e; cases e
  | some o =>
    rw [q] at e
    have e' : (b,o) = p := Option.some.inj e
    subst e'
    exact ⟨hb,q⟩
theorem Inv.pinned {pins : List (Addr × Obj)} {σ : St} {H : Hp} {s : Shared} {fp : List Addr} (I : Inv X pins σ H s) (hf : ∀ b ∈ fp,FpOk X pins H b) (ho : ∀ b ∈ fp,∃ o,s.heap.get? b = some o ∧ ∀ v,o.data ≠ .cell v) : Inv X (pins ++ uw fp s.heap) σ H s :=
  I.pins_of fun p hp => (List.mem_append.mp hp).elim (fun z => I.pin p (List.mem_append_right _ z)) fun z => by
    obtain ⟨hb,e⟩ := Bv z
    obtain ⟨f0,f1,f2,_⟩ := hf p.1 hb
    obtain ⟨o,e',d⟩ := ho p.1 hb
    rw [e] at e'; cases e'
    exact ⟨e,f0,f1,f2,d⟩
theorem Inv.unpinned {pins pl : List (Addr × Obj)} {σ : St} {H : Hp} {s : Shared} (I : Inv X (pins ++ pl) σ H s) : Inv X pins σ H s := I.pins_of fun p hp => I.pin p (List.mem_append_right _ (List.mem_append_left _ hp))
theorem yW {iter : Expr} {body : List Stmt} {wi : TI} {g : TG} {tb : TS} {pos : Pos} (hp : PassesOwn (model X.prog X.w) X.A X.env X.xe) (hc : X.calm = true) (hi : PI X tg iter wi) (hg : PG X tg g) (hb : PSs X body tb)
    (hs : ∀ x,foldedSetIterable iter X.env x = pure x := by intro _; rfl) : PS X (.For tg iter body [] pos) (tFor wi g tb) := by
  intro pins s σ H D I h
  refine wpAny_For (thn (hi pins s σ H _ I h) fun v s1 h1 => thn h1 fun itv s2 h2 => ?_) hs
  obtain ⟨it,fp,tn,J,H2,e,I2,T,st2,f2,W,⟨m0,w0⟩,turn⟩ := h2
  subst e
  have stat : ∀ {H' : Hp},(∀ b ∈ fp,H' b = none) → ∀ b ∈ fp,FpOk X pins H' b := fun hn b hb => ⟨hn b hb,(f2 b hb).2⟩
  refine codeAny_forLoop_any (fun n s' => ∃ i σ' H',Inv X pins σ' H' s' ∧ tn i s'.heap ∧ (∀ b ∈ fp,H' b = none) ∧ W i n σ' H') ?_ m0 ⟨0,σ,H2,I2,st2,fun b hb => (f2 b hb).1,w0⟩
  rintro n s3 ⟨i,σ3,H3,I3,st3,fr3,w3⟩
  rcases turn i n σ3 H3 w3 with ⟨stop,qn⟩ | ⟨go,N,hN,step⟩
  · refine wpAny_passesOwn hp (thn (T.done X rfl rfl rfl hc i pins s3 σ3 H3 X.xe I3 (stat fr3) st3 stop) fun r s4 ⟨hr,I4⟩ => ?_)
    subst hr
    exact wpAny_execs_nil ⟨σ3,H3,I4,qn⟩
  · refine wpAny_passesOwn hp (thn (T.item X rfl rfl rfl hc i pins s3 σ3 H3 X.xe I3 (stat fr3) st3 go) fun r s4 ⟨u,hr,h4⟩ => ?_)
    subst hr
    refine wpAny_passesOwn hp (thn h4 fun _ s5 ⟨x,H5,I5,r5,y5,st5,fr5⟩ => ?_)
    have I5' := I5.pinned (stat fr5) (T.obj _ _ st5)
    refine wpAny_passesOwn hp (thn (hg _ s5 σ3 H5 x u _ I5' r5 (step x H5 y5)) fun _ s6 ⟨σ6,H6,I6,q6⟩ => ?_)
    refine wpAny_passesOwn hp (thn (hb _ s6 σ6 H6 _ I6 q6) fun f s7 q7 => ?_)
    have again : ∀ {σ7 : St} {H7 : Hp},Inv X (pins ++ uw fp s5.heap) σ7 H7 s7 → N σ7 H7 → ∃ m,m < n ∧ ∃ i σ' H',Inv X pins σ' H' s7 ∧ tn i s7.heap ∧ (∀ b ∈ fp,H' b = none) ∧ W i m σ' H' := fun {σ7 H7} I7 n7 => by
      obtain ⟨m',hm,w7⟩ := hN σ7 H7 n7
      refine ⟨m',hm,i + 1,σ7,H7,I7.unpinned,T.keep _ _ _ st5 fun b hb o e => (I7.pin (b,o) (List.mem_append_right _ (List.mem_append_right _ (xm hb e)))).1,fun b hb => ?_,w7⟩
      obtain ⟨o,e,d⟩ := T.obj _ _ st5 b hb
      exact (I7.pin (b,o) (List.mem_append_right _ (List.mem_append_right _ (xm hb e)))).2.1
    cases f with
    | next => obtain ⟨σ7,H7,I7,n7⟩ := q7; exact again I7 n7
    | cont => obtain ⟨σ7,H7,I7,n7⟩ := q7; exact again I7 n7
    | brk => obtain ⟨σ7,H7,I7,q7⟩ := q7; exact ⟨σ7,H7,I7.unpinned,q7⟩
    | ret v => obtain ⟨x7,σ7,H7,I7,r7,q7⟩ := q7; exact ⟨x7,σ7,H7,I7.unpinned,r7,q7⟩
end
theorem yK {K : PySem.W.Frag} {a : Addr} {xs : List V} {g : TG} {tb : TS} {D : Ends} {σ : St} {H : Hp} (Pv : Nat → St → Hp → Prop) (h0 : Pv 0 σ H) (hl : ∀ i σ H,i ≤ xs.length → Pv i σ H → SqL K H a xs)
    (hs : ∀ i x σ H,xs[i]? = some x → Pv i σ H → g x σ H fun σ2 H2 => tb { D with nx := Pv (i + 1),ct := Pv (i + 1),bk := D.nx } σ2 H2) (hd : ∀ σ H,Pv xs.length σ H → D.nx σ H) :
    ∃ W : Nat → Nat → St → Hp → Prop,(∃ m,W 0 m σ H) ∧ ∀ i m σ H,W i m σ H →
      ((Itl K a).stop i H ∧ D.nx σ H) ∨ ((Itl K a).go i H ∧ ∃ N : St → Hp → Prop,(∀ σ' H',N σ' H' → ∃ m',m' < m ∧ W (i + 1) m' σ' H') ∧ ∀ x H',(Itl K a).yld i H x H' → g x σ H' fun σ2 H2 => tb { D with nx := N,ct := N,bk := D.nx } σ2 H2) := by
  refine ⟨fun i m σ H => m = xs.length - i ∧ i ≤ xs.length ∧ Pv i σ H,⟨xs.length,by simp,Nat.zero_le _,h0⟩,?_⟩
  rintro i m σ H ⟨rfl,hi,p⟩
  have q := hl i σ H hi p
  by_cases hlt : i < xs.length
  · refine .inr ⟨⟨xs,xs[i],q,by simp [hlt]⟩,Pv (i + 1),fun σ' H' p' => ⟨xs.length - (i + 1),by omega,rfl,hlt,p'⟩,fun x H' y => ?_⟩
    obtain ⟨e,y⟩ := y
    subst e
    exact hs i x σ _ (y xs q) p
  · have e : i = xs.length := by omega
    subst e
    exact .inl ⟨⟨xs,q,Nat.le_refl _⟩,hd σ H p⟩
theorem xc {lo : Int} {n : Nat} {g : TG} {tb : TS} {D : Ends} {σ : St} {H : Hp} (Pv : Nat → St → Hp → Prop) (h0 : Pv 0 σ H)
    (hs : ∀ i σ H,i < n → Pv i σ H → g (.int (lo + i)) σ H fun σ2 H2 => tb { D with nx := Pv (i + 1),ct := Pv (i + 1),bk := D.nx } σ2 H2) (hd : ∀ σ H,Pv n σ H → D.nx σ H) :
    ∃ W : Nat → Nat → St → Hp → Prop,(∃ m,W 0 m σ H) ∧ ∀ i m σ H,W i m σ H →
      ((Itr lo n).stop i H ∧ D.nx σ H) ∨ ((Itr lo n).go i H ∧ ∃ N : St → Hp → Prop,(∀ σ' H',N σ' H' → ∃ m',m' < m ∧ W (i + 1) m' σ' H') ∧ ∀ x H',(Itr lo n).yld i H x H' → g x σ H' fun σ2 H2 => tb { D with nx := N,ct := N,bk := D.nx } σ2 H2) := by
  refine ⟨fun i m σ H => m = n - i ∧ i ≤ n ∧ Pv i σ H,⟨n,by simp,Nat.zero_le _,h0⟩,?_⟩
  rintro i m σ H ⟨rfl,hi,p⟩
  by_cases hlt : i < n
  · refine .inr ⟨hlt,Pv (i + 1),fun σ' H' p' => ⟨n - (i + 1),by omega,rfl,hlt,p'⟩,fun x H' y => ?_⟩
    obtain ⟨e,y⟩ := y
    subst e y
    exact hs i σ _ hlt p
  · have e : i = n := by omega
    subst e
    exact .inl ⟨Nat.le_refl _,hd σ H p⟩
theorem tR {c : TT} {tb : TS} {D : Ends} {σ : St} {H : Hp} (Pv : St → Hp → Prop) (μ : St → Hp → Nat) (h0 : Pv σ H)
    (hs : ∀ σ H,Pv σ H → c σ H fun b H1 => if b = true then tb { D with nx := fun σ' H' => Pv σ' H' ∧ μ σ' H' < μ σ H,ct := fun σ' H' => Pv σ' H' ∧ μ σ' H' < μ σ H,bk := D.nx } σ H1 else D.nx σ H1)
    (mono : ∀ σ H Q Q',(∀ b H1,Q b H1 → Q' b H1) → c σ H Q → c σ H Q') : Dg c tb D σ H := by
  refine ⟨fun m σ H => m = μ σ H ∧ Pv σ H,⟨_,rfl,h0⟩,?_⟩
  rintro m σ H ⟨rfl,p⟩
  refine mono σ H _ _ (fun b H1 q => ?_) (hs σ H p)
  cases b with
  | true => exact ⟨_,fun σ' H' ⟨p',l⟩ => ⟨_,l,rfl,p'⟩,q⟩
  | false => exact q
end L2
namespace L2
open PySem PySem.Spec PyProof.Rows
abbrev R2 := V → V → Hp → VK → Prop
def OpR (X : Cx) (f : Value → Value → Sem Value) (r : R2) : Prop :=
  ∀ (pins : List (Addr × Obj)) (s : Shared) (σ : St) (H : Hp) (x y : V) (v u : Value) (Q : VK),Inv X pins σ H s → RelV x v → RelV y u → r x y H Q →
    wpAny (model X.prog X.w) X.A (f v u) (EP X pins σ Q) X.xe s
def UnR (X : Cx) (f : Value → Sem Value) (r : V → Hp → VK → Prop) : Prop :=
  ∀ (pins : List (Addr × Obj)) (s : Shared) (σ : St) (H : Hp) (x : V) (v : Value) (Q : VK),Inv X pins σ H s → RelV x v → r x H Q →
    wpAny (model X.prog X.w) X.A (f v) (EP X pins σ Q) X.xe s
def xa (X : Cx) (f : Value) (r : List V → Hp → VK → Prop) : Prop :=
  ∀ (pins : List (Addr × Obj)) (s : Shared) (σ : St) (H : Hp) (xs : List V) (us : List Value) (Q : VK),Inv X pins σ H s → Vals xs us → r xs H Q →
    wpAny (model X.prog X.w) X.A (call f us) (EP X pins σ Q) X.xe s
def tOp (r : R2) (ta tb : TE) : TE := fun σ H Q => ta σ H fun x H1 => tb σ H1 fun y H2 => r x y H2 Q
def tUn (r : V → Hp → VK → Prop) (ta : TE) : TE := fun σ H Q => ta σ H fun x H1 => r x H1 Q
def rI (C : Int → Int → Prop) (g : Int → Int → V) : R2 := fun x y H Q => ∃ i j,x = .int i ∧ y = .int j ∧ C i j ∧ Q (g i j) H
def rI0 (g : Int → Int → V) : R2 := fun x y H Q => ∃ i j,x = .int i ∧ y = .int j ∧ Q (g i j) H
def rU (g : Int → V) : V → Hp → VK → Prop := fun x H Q => ∃ i,x = .int i ∧ Q (g i) H
section
variable {X : Cx} {a b c : Expr} {ta tb tc : TE} {pos : Pos}
theorem binT (ha : PE X a ta) (hb : PE X b tb) {pins : List (Addr × Obj)} {s : Shared} {σ : St} {H : Hp} {R : V → V → Hp → Prop} (I : Inv X pins σ H s)
    (h : ta σ H fun x H1 => tb σ H1 fun y H2 => R x y H2) {Q : Value → Shared → Prop} {f : Value → Value → Sem Value}
    (hf : ∀ v u s2 x y H2,Inv X pins σ H2 s2 → RelV x v → RelV y u → R x y H2 → wpAny (model X.prog X.w) X.A (f v u) Q X.xe s2) :
    wpAny (model X.prog X.w) X.A (eval a X.env) (fun v s₁ => wpAny (model X.prog X.w) X.A (eval b X.env) (fun u s₂ => wpAny (model X.prog X.w) X.A (f v u) Q X.xe s₂) X.xe s₁) X.xe s := by
  refine thn (ha pins s σ H _ I h) fun v s1 ⟨x,H1,I1,r1,q1⟩ => ?_
  refine thn (hb pins s1 σ H1 _ I1 q1) fun u s2 ⟨y,H2,I2,r2,q2⟩ => ?_
  exact hf v u s2 x y H2 I2 r1 r2 q2
theorem zi {op : Operator} {r : R2} (ho : OpR X (binaryOp op) r) (ha : PE X a ta) (hb : PE X b tb) : PE X (.BinOp a op b pos) (tOp r ta tb) := by
  intro pins s σ H Q I h
  exact wpAny_BinOp (binT ha hb I h fun v u s2 x y H2 I2 rx ry q => ho pins s2 σ H2 x y v u Q I2 rx ry q)
theorem wZ {op : UnaryOp} {r : V → Hp → VK → Prop} (ho : UnR X (unaryOp op) r) (ha : PE X a ta) : PE X (.UnaryOp op a pos) (tUn r ta) := by
  intro pins s σ H Q I h
  exact UnaryOp_ (thn (ha pins s σ H _ I h) fun v s1 ⟨x,H1,I1,r1,q1⟩ => ho pins s1 σ H1 x v Q I1 r1 q1)
theorem opI {f : Value → Value → Sem Value} {C : Int → Int → Prop} {g : Int → Int → Int}
    (rule : ∀ (i j : Int) (t u : Tok) (s : Shared) (Q : Value → Shared → Prop) (E : Value → Shared → Prop),C i j → Q (.int (g i j) s.toks) { s with toks := s.toks + 1 } → wpAny (model X.prog X.w) X.A (f (.int i t) (.int j u)) Q E s) :
    OpR X f (rI C fun i j => .int (g i j)) := by
  intro pins s σ H x y v u Q I rx ry h
  obtain ⟨i,j,rfl,rfl,hc,q⟩ := h
  obtain ⟨t,rfl⟩ := rx
  obtain ⟨t',rfl⟩ := ry
  exact rule i j t t' s _ _ hc ⟨.int (g i j),H,I.tok _,⟨_,rfl⟩,q⟩
theorem opI0 {f : Value → Value → Sem Value} {g : Int → Int → Int}
    (rule : ∀ (i j : Int) (t u : Tok) (s : Shared) (Q : Value → Shared → Prop) (E : Value → Shared → Prop),Q (.int (g i j) s.toks) { s with toks := s.toks + 1 } → wpAny (model X.prog X.w) X.A (f (.int i t) (.int j u)) Q E s) :
    OpR X f (rI0 fun i j => .int (g i j)) := by
  intro pins s σ H x y v u Q I rx ry h
  obtain ⟨i,j,rfl,rfl,q⟩ := h
  obtain ⟨t,rfl⟩ := rx
  obtain ⟨t',rfl⟩ := ry
  exact rule i j t t' s _ _ ⟨.int (g i j),H,I.tok _,⟨_,rfl⟩,q⟩
theorem opB0 {f : Value → Value → Sem Value} {g : Int → Int → Bool}
    (rule : ∀ (i j : Int) (t u : Tok) (s : Shared) (Q : Value → Shared → Prop) (E : Value → Shared → Prop),Q (.bool (g i j)) s → wpAny (model X.prog X.w) X.A (f (.int i t) (.int j u)) Q E s) :
    OpR X f (rI0 fun i j => .bl (g i j)) := by
  intro pins s σ H x y v u Q I rx ry h
  obtain ⟨i,j,rfl,rfl,q⟩ := h
  obtain ⟨t,rfl⟩ := rx
  obtain ⟨t',rfl⟩ := ry
  exact rule i j t t' s _ _ ⟨.bl (g i j),H,I,rfl,q⟩
theorem zK : OpR X (binaryOp .Add) (rI0 fun i j => .int (i + j)) := opI0 fun _ _ _ _ _ _ _ q => add_int q
theorem xp : OpR X (binaryOp .Sub) (rI0 fun i j => .int (i - j)) := opI0 fun _ _ _ _ _ _ _ q => sub_int q
theorem zN : OpR X (binaryOp .Mod) (rI (fun _ j => 0 < j) fun i j => .int (i % j)) := opI fun i j _ _ _ _ _ hc q => by
  have h1 : (0 : Int) < j := hc
  exact mod_int' (by omega) (by rw [Int.fmod_eq_emod_of_nonneg i (by omega)]; exact q)
theorem Ex : OpR X (binaryOp .Mod) (rI (fun _ j => j ≠ 0) fun i j => .int (i.fmod j)) := opI fun _ _ _ _ _ _ _ hc q => mod_int' hc q
theorem unI {f : Value → Sem Value} {g : Int → Int}
    (rule : ∀ (i : Int) (t : Tok) (s : Shared) (Q : Value → Shared → Prop) (E : Value → Shared → Prop),Q (.int (g i) s.toks) { s with toks := s.toks + 1 } → wpAny (model X.prog X.w) X.A (f (.int i t)) Q E s) :
    UnR X f (rU fun i => .int (g i)) := by
  intro pins s σ H x v Q I rx h
  obtain ⟨i,rfl,q⟩ := h
  obtain ⟨t,rfl⟩ := rx
  exact rule i t s _ _ ⟨.int (g i),H,I.tok _,⟨_,rfl⟩,q⟩
theorem xo : UnR X (unaryOp .USub) (rU fun i => .int (-i)) := unI fun _ _ _ _ _ q => neg_int q
end
def scal : V → V → Bool
  | .non,.non => true | .non,.int _ => true | .int _,.non => true | .non,.bl _ => true | .bl _,.non => true | .non,.str _ => true | .str _,.non => true
  | .int _,.int _ => true | .bl _,.bl _ => true | .str _,.str _ => true | .byt _,.byt _ => true
  | .int _,.str _ => true | .str _,.int _ => true | .bl _,.str _ => true | .str _,.bl _ => true
  | _,_ => false
def rEq : R2 := fun x y H Q => scal x y = true ∧ Q (.bl (decide (x = y))) H
def rNe : R2 := fun x y H Q => scal x y = true ∧ Q (.bl (!decide (x = y))) H
theorem vA {i j : Int} : decide (V.int i = V.int j) = (i == j) := by
  rw [Bool.eq_iff_iff]
  simp
theorem dec_bl {i j : Bool} : decide (V.bl i = V.bl j) = (i == j) := by
  rw [Bool.eq_iff_iff]
  simp
theorem BI {i j : Str} : decide (V.str i = V.str j) = (i == j) := by
  rw [Bool.eq_iff_iff]
  simp
theorem Cd {i j : Array UInt8} : decide (V.byt i = V.byt j) = (i.toList == j.toList) := by
  rw [Bool.eq_iff_iff]
  cases i
  cases j
  simp
section
variable {X : Cx} {a b c : Expr} {ta tb tc : TE} {pos : Pos}
theorem fin_bl {pins : List (Addr × Obj)} {σ : St} {H : Hp} {s : Shared} {Q : VK} {k k' : Bool} (I : Inv X pins σ H s) (q : Q (.bl k) H) (e : k = k') : EP X pins σ Q (.bool k') s := by
  subst e
  exact ⟨.bl k,H,I,rfl,q⟩
theorem yl : OpR X (compareOp .Eq) rEq := by
  intro pins s σ H x y v u Q I rx ry h
  obtain ⟨hs,q⟩ := h
  cases x with
  | non =>
    cases rx
    cases y with
    | non => cases ry; exact PySem.EqNone.eq_none_none (fin_bl I q (by simp))
    | bl j => cases ry; exact PySem.EqNone.eq_none_bool (fin_bl I q (by simp))
    | int j => obtain ⟨t',rfl⟩ := ry; exact PySem.EqNone.eq_none_int (fin_bl I q (by simp))
    | str j => obtain ⟨t',rfl⟩ := ry; exact PySem.EqNone.eq_none_str (fin_bl I q (by simp))
    | _ => exact absurd (show false = true from hs) Bool.false_ne_true
  | bl i =>
    cases rx
    cases y with
    | non => cases ry; exact PySem.EqNone.eq_bool_none (fin_bl I q (by simp))
    | bl j => cases ry; exact eq_bool (fin_bl I q dec_bl)
    | str j => obtain ⟨t',rfl⟩ := ry; exact PySem.EqMixed.eq_bool_str (fin_bl I q (by simp))
    | _ => exact absurd (show false = true from hs) Bool.false_ne_true
  | int i =>
    obtain ⟨t,rfl⟩ := rx
    cases y with
    | non => cases ry; exact PySem.EqNone.eq_int_none (fin_bl I q (by simp))
    | int j => obtain ⟨t',rfl⟩ := ry; exact eq_int (fin_bl I q vA)
    | str j => obtain ⟨t',rfl⟩ := ry; exact PySem.EqMixed.eq_int_str (fin_bl I q (by simp))
    | _ => exact absurd (show false = true from hs) Bool.false_ne_true
  | str i =>
    obtain ⟨t,rfl⟩ := rx
    cases y with
    | non => cases ry; exact PySem.EqNone.eq_str_none (fin_bl I q (by simp))
    | bl j => cases ry; exact PySem.EqMixed.eq_str_bool (fin_bl I q (by simp))
    | int j => obtain ⟨t',rfl⟩ := ry; exact PySem.EqMixed.eq_str_int (fin_bl I q (by simp))
    | str j => obtain ⟨t',rfl⟩ := ry; exact eq_str (fin_bl I q BI)
    | _ => exact absurd (show false = true from hs) Bool.false_ne_true
  | byt i =>
    obtain ⟨t,rfl⟩ := rx
    cases y with
    | byt j => obtain ⟨t',rfl⟩ := ry; exact PySem.W.eq_bytes (fin_bl I q Cd)
    | _ => exact absurd (show false = true from hs) Bool.false_ne_true
  | _ => cases y <;> exact absurd (show false = true from hs) Bool.false_ne_true
theorem AL : OpR X (compareOp .NotEq) rNe := by
  intro pins s σ H x y v u Q I rx ry h
  obtain ⟨hs,q⟩ := h
  cases x with
  | non =>
    cases rx
    cases y with
    | non => cases ry; exact PySem.EqNone.ne_none_none (fin_bl I q (by simp))
    | bl j => cases ry; exact PySem.EqNone.ne_none_bool (fin_bl I q (by simp))
    | int j => obtain ⟨t',rfl⟩ := ry; exact PySem.EqNone.ne_none_int (fin_bl I q (by simp))
    | str j => obtain ⟨t',rfl⟩ := ry; exact PySem.EqNone.ne_none_str (fin_bl I q (by simp))
    | _ => exact absurd (show false = true from hs) Bool.false_ne_true
  | bl i =>
    cases rx
    cases y with
    | non => cases ry; exact PySem.EqNone.ne_bool_none (fin_bl I q (by simp))
    | bl j => cases ry; exact ne_bool (fin_bl I q (congrArg not dec_bl))
    | str j => obtain ⟨t',rfl⟩ := ry; exact PySem.EqMixed.ne_bool_str (fin_bl I q (by simp))
    | _ => exact absurd (show false = true from hs) Bool.false_ne_true
  | int i =>
    obtain ⟨t,rfl⟩ := rx
    cases y with
    | non => cases ry; exact PySem.EqNone.ne_int_none (fin_bl I q (by simp))
    | int j => obtain ⟨t',rfl⟩ := ry; exact ne_int (fin_bl I q (congrArg not vA))
    | str j => obtain ⟨t',rfl⟩ := ry; exact PySem.EqMixed.ne_int_str (fin_bl I q (by simp))
    | _ => exact absurd (show false = true from hs) Bool.false_ne_true
  | str i =>
    obtain ⟨t,rfl⟩ := rx
    cases y with
    | non => cases ry; exact PySem.EqNone.ne_str_none (fin_bl I q (by simp))
    | bl j => cases ry; exact PySem.EqMixed.ne_str_bool (fin_bl I q (by simp))
    | int j => obtain ⟨t',rfl⟩ := ry; exact PySem.EqMixed.ne_str_int (fin_bl I q (by simp))
    | str j => obtain ⟨t',rfl⟩ := ry; exact ne_str (fin_bl I q (congrArg not BI))
    | _ => exact absurd (show false = true from hs) Bool.false_ne_true
  | byt i =>
    obtain ⟨t,rfl⟩ := rx
    cases y with
    | byt j => obtain ⟨t',rfl⟩ := ry; exact PySem.W.ne_bytes (fin_bl I q (congrArg not Cd))
    | _ => exact absurd (show false = true from hs) Bool.false_ne_true
  | _ => cases y <;> exact absurd (show false = true from hs) Bool.false_ne_true
theorem uD : OpR X (compareOp .Lt) (rI0 fun i j => .bl (decide (i < j))) := opB0 fun _ _ _ _ _ _ _ q => lt_int q
theorem CW : OpR X (compareOp .LtE) (rI0 fun i j => .bl (decide (i ≤ j))) := opB0 fun _ _ _ _ _ _ _ q => le_int q
theorem wp : OpR X (compareOp .Gt) (rI0 fun i j => .bl (decide (j < i))) := opB0 fun _ _ _ _ _ _ _ q => gt_int q
theorem By : OpR X (compareOp .GtE) (rI0 fun i j => .bl (decide (j ≤ i))) := opB0 fun _ _ _ _ _ _ _ q => ge_int q
theorem Fg : OpR X (compareOp .Is) (fun x y H Q => y = .non ∧ Q (.bl (decide (x = .non))) H) := by
  intro pins s σ H x y v u Q I rx ry h
  obtain ⟨rfl,q⟩ := h
  cases ry
  refine is_none_gen (fin_bl I q ?_)
  cases x <;> first
    | (cases rx; rfl)
    | (obtain ⟨t,rfl⟩ := rx; rfl)
theorem zt (b : Expr) {op : CmpOp} (h : op ≠ .In := by decide) (h2 : op ≠ .NotIn := by decide) : behindInMarks op b = false := by
  have e1 : (op == CmpOp.In) = false := by cases op <;> first | rfl | exact absurd rfl h
  have e2 : (op == CmpOp.NotIn) = false := by cases op <;> first | rfl | exact absurd rfl h2
  cases b <;> simp [behindInMarks,e1,e2]
theorem z9 {op : CmpOp} {r : R2} (ho : OpR X (compareOp op) r) (ha : PE X a ta) (hb : PE X b tb) (hm : behindInMarks op b = false) : PE X (.Compare a [op] [b] pos) (tOp r ta tb) := by
  intro pins s σ H Q I h
  exact wpAny_Compare1 (binT ha hb I h fun v u s2 x y H2 I2 rx ry q => ho pins s2 σ H2 x y v u Q I2 rx ry q) hm
def Fs (t : TE) : TT := fun σ H Q => t σ H fun x H' => ∃ k,x = .bl k ∧ Q k H'
theorem zn {op : CmpOp} {r : R2} (ho : OpR X (compareOp op) r) (ha : PE X a ta) (hb : PE X b tb) (hm : behindInMarks op b = false) : PT X (.Compare a [op] [b] pos) (Fs (tOp r ta tb)) := by
  intro pins s σ H Q I h
  refine wpAny_isTrue_Compare1 (thn (ha pins s σ H _ I h) fun v s1 ⟨x,H1,I1,r1,q1⟩ => thn (hb pins s1 σ H1 _ I1 q1) fun u s2 ⟨y,H2,I2,r2,q2⟩ =>
    thn (ho pins s2 σ H2 x y v u _ I2 r1 r2 q2) fun c s3 ⟨z,H3,I3,r3,k,e,q3⟩ => ?_) hm
  subst e
  cases r3
  exact wpAny_truthy_bool ⟨H3,I3,q3⟩
theorem BO : (sizeLine : Nat) < 2 ^ 63 := by rw [sizeLine_eq]; decide
theorem Ap {x : V} {us : List Value} (r : Vals [x] us) : ∃ u,us = [u] ∧ RelV x u := by
  cases r with
  | cons r1 r2 => cases r2; exact ⟨_,rfl,r1⟩
theorem GM {x y : V} {us : List Value} (r : Vals [x,y] us) : ∃ u w',us = [u,w'] ∧ RelV x u ∧ RelV y w' := by
  cases r with
  | cons r1 r2 =>
    cases r2 with
    | cons r3 r4 => cases r4; exact ⟨_,_,rfl,r1,r3⟩
theorem C6 : xa X (.builtin "abs") (fun xs H Q => ∃ i,xs = [.int i] ∧ Q (.int (if i < 0 then -i else i)) H) := by
  intro pins s σ H xs us Q I r h
  obtain ⟨i,rfl,q⟩ := h
  obtain ⟨u,rfl,t,rfl⟩ := Ap r
  exact call_abs_int fun u tk => ⟨.int (if i < 0 then -i else i),H,I.tok _,⟨_,rfl⟩,q⟩
theorem Bj : xa X (.type "int") (fun xs H Q => (∃ i,xs = [.int i] ∧ Q (.int i) H) ∨ ∃ k,xs = [.bl k] ∧ Q (.int (if k then 1 else 0)) H) := by
  intro pins s σ H xs us Q I r h
  rcases h with ⟨i,rfl,q⟩ | ⟨k,rfl,q⟩
  · obtain ⟨u,rfl,t,rfl⟩ := Ap r
    exact call_int_int ⟨.int i,H,I,⟨_,rfl⟩,q⟩
  · obtain ⟨u,rfl,r1⟩ := Ap r
    cases r1
    exact call_int_bool ⟨.int (if k then 1 else 0),H,I.tok _,⟨_,rfl⟩,q⟩
end
end L2
namespace L2
open PySem PySem.Spec PyProof.Rows
structure ObjM (h : Heap) (x dx C : Addr) (mA : Str → Option Value) : Prop where
  obj : h.get? x = some (PySem.W.instObj C dx)
  ns : h.Ns1 dx mA
  ne : dx ≠ x
theorem AT {h : Heap} {dx : Addr} {mA : Str → Option Value} (n : h.Ns1 dx mA) : ∃ od,h.get? dx = some od ∧ ∀ name,PySem.W.lookIn name od = some (mA name) := by
  obtain ⟨o,es,ep,ho,hd,hk,_,hm⟩ := n
  refine ⟨o,ho,fun name => ?_⟩
  have e := hm name
  unfold nsFind findBy at e
  rw [← Array.find?_toList] at e
  unfold PySem.W.lookIn
  rw [hd]
  dsimp only
  split
  · rename_i y q
    rw [q] at e
    exact congrArg some e
  · rename_i q
    rw [q] at e
    have a : es.toList.any (·.refKey) = false := by
      rw [List.any_eq_false]
      intro y hy
      obtain ⟨z,t,hkey⟩ := hk y (Array.mem_toList_iff.mp hy)
      simp [DictEntry.refKey,hkey]
    have a' : ¬ es.toList.any (·.refKey) = true := by rw [a]; exact Bool.false_ne_true
    rw [if_neg a']
    exact congrArg some e
theorem ObjM.look {h : Heap} {x dx C : Addr} {mA : Str → Option Value} (I : ObjM h x dx C mA) : ∃ od,PySem.W.InstAt h x (PySem.W.instObj C dx) C (some od) ∧ ∀ name,PySem.W.lookIn name od = some (mA name) :=
  let ⟨od,ho,hl⟩ := AT I.ns
  ⟨od,⟨I.obj,rfl,rfl,ho⟩,hl⟩
section
variable {prog : Program} {w : World} {A : Around} {E : Value → Shared → Prop} {s : Shared} {K : PySem.W.Frag} {x dx C f : Addr} {mA : Str → Option Value} {name : Str} {v : Value}
theorem Ee {expr : Bool} {Q : Value → Shared → Prop} (X : K.In s.heap) (I : ObjM s.heap x dx C mA) (hg : PySem.W.plainGet K C name = true) (hh : PySem.W.hasDictIn K C = true)
    (ha : PySem.W.findIn K (.ref C) name = some none) (hv : mA name = some v) (hv' : PySem.W.handedIn v = true) (h : Q v { s with toks := s.toks + 1 }) :
    wpAny (model prog w) A (getAttr (.ref x) name expr) Q E s := by
  obtain ⟨od,J,hl⟩ := I.look
  exact PySem.W.get_value X J (PySem.W.plainGet_of hg).1 (PySem.W.findObj_own hh ha rfl (by rw [hl,hv])) hv' h
theorem Cn {pl : Sem Bool} {Q : Value × List Value → Shared → Prop} (X : K.In s.heap) (I : ObjM s.heap x dx C mA) (hg : PySem.W.plainGet K C name = true)
    (hf : PySem.W.findIn K (.ref C) name = some (some (.ref f))) (ht : PySem.W.isFn K (.ref f) = true) (hv : mA name = none) (h : Q (.ref f,[.ref x]) s) :
    wpAny (model prog w) A (getMethod (.ref x) name pl) Q E s := by
  obtain ⟨od,J,hl⟩ := I.look
  exact PySem.W.method_fn X J (PySem.W.plainGet_of hg).1 (PySem.W.plainGet_of hg).2 hf (beq_iff_eq.mp ht) (by show (PySem.W.lookIn name od).map (·.isSome) = some false; rw [hl,hv]; rfl) h
theorem D9 {ns : List Str} {Q : Unit → Shared → Prop} (X : K.In s.heap) (I : ObjM s.heap x dx C mA)
    (hs : PySem.W.findIn K (.ref C) "__setattr__" = some (some (.builtin "object.__setattr__"))) (hp : PySem.W.plainOver K C = true) (ht : PySem.W.takerIn K C name = some none) (hh : PySem.W.hasDictIn K C = true)
    (hw : PySem.Within mA ns) (hsz : ns.length ≤ sizeLine)
    (h : ∀ h',ObjM h' x dx C (fun y => if y = name then some v else mA y) → Heap.SameBut dx s.heap h' → Q () { s with heap := h',toks := s.toks + 2 }) :
    wpAny (model prog w) A (setAttr (.ref x) name v) Q E s := by
  obtain ⟨od,J,hl⟩ := I.look
  refine PySem.W.set_plain X J hs (PySem.W.osa_open (s := { s with toks := s.toks + 1 }) (r := none) X J hp ht fun b => ?_)
  obtain ⟨cd,hc,hd'⟩ := PySem.W.any_some hh
  have hx : s.heap.get? x = some ⟨.ref C,some dx,.plain,#[]⟩ := I.obj
  refine wpAny_bind (wpAny_pure (wpAny_bind (wpAny_bind (wpAny_loadPart hx (wpAny_bind (PySem.W.Looks.here (s := { s with toks := s.toks + 1 }) (PySem.W.looks_clsIn X hc) ?_))))))
  rw [hd']
  refine wpAny_pure (a := some dx) (wpAny_bind (wpAny_pure (wpAny_bind ?_)))
  refine wpAny_nsSet1 (s := { s with toks := s.toks + 1 }) I.ns fun h' hn2 hs2 => ?_
  obtain ⟨oD,esD,epD,hoD,hdD,hcD⟩ := hn2.count (PySem.Within.cons name v hw)
  refine wpAny_bind (wpAny_lookBehind hoD (by rw [hdD]; exact pastItsLine_dict (Nat.le_trans hcD (by rw [List.length_cons]; omega))) ?_)
  exact wpAny_pure (h _ ⟨(hs2.2 _ (Ne.symm I.ne)).trans I.obj,hn2,I.ne⟩ hs2)
theorem Ck {R : Result → Shared → Prop} {vs : List Value} {kw : List (Str × Value)} (X : K.In s.heap) (hm : PySem.W.makesIn K C = true)
    (hi : PySem.W.findIn K (.ref C) "__init__" = some (some (.ref f))) (hf : PySem.W.typeIn K (.ref f) = some (.type "function"))
    (h : codeAny (model prog w) (A.under (.builtin "type.__call__" ⟨.ref C :: vs,kw⟩)) (.call (.ref f) ⟨.ref (s.heap.objs.size + 1) :: vs,kw⟩) (PySem.W.InitBack (s.heap.objs.size + 1) R)
      { s with heap := (s.heap.push PySem.W.emptyDict).push (PySem.W.instObj C s.heap.objs.size) }) :
    codeAny (model prog w) A (.call (.ref C) ⟨vs,kw⟩) R s := by
  obtain ⟨hh,g,d,t,os⟩ := s
  exact PySem.W.make_core (PySem.W.makes_of X hm) (PySem.W.looks_findIn X hi) (fun self => PySem.W.bind_fn X self hf) (.inl rfl) h
end
def putF (f : Str) (v : V) : List (Str × V) → List (Str × V)
  | [] => [(f,v)]
  | (g,x) :: r => if g = f then (g,v) :: r else (g,x) :: putF f v r
theorem wz (f g : Str) (v : V) : ∀ fs : List (Str × V),(putF f v fs).lookup g = if g = f then some v else fs.lookup g
  | [] => by
    show List.lookup g [(f,v)] = _
    by_cases h : g = f
    · have hb : (g == f) = true := beq_iff_eq.mpr h
      simp only [List.lookup,hb,if_pos h]
    · have hb : (g == f) = false := beq_eq_false_iff_ne.mpr h
      simp only [List.lookup,hb,if_neg h]
  | (k,x) :: r => by
    have ih := wz f g v r
    rw [show putF f v ((k,x) :: r) = (if k = f then (k,v) :: r else (k,x) :: putF f v r) from rfl]
    by_cases hk : k = f
    · rw [if_pos hk]
      by_cases h : g = k
      · have hb : (g == k) = true := beq_iff_eq.mpr h
        simp only [List.lookup,hb,if_pos (h.trans hk)]
      · have hb : (g == k) = false := beq_eq_false_iff_ne.mpr h
        simp only [List.lookup,hb,if_neg (fun e : g = f => h (e.trans hk.symm))]
    · rw [if_neg hk]
      by_cases h : g = k
      · have hb : (g == k) = true := beq_iff_eq.mpr h
        simp only [List.lookup,hb,if_neg (fun e : g = f => hk (h.symm.trans e))]
      · have hb : (g == k) = false := beq_eq_false_iff_ne.mpr h
        simp only [List.lookup,hb]
        exact ih
theorem wx (f : Str) (v : V) : ∀ fs : List (Str × V),f ∈ (putF f v fs).map (·.1) ∧ ∀ g,g ∈ fs.map (·.1) → g ∈ (putF f v fs).map (·.1)
  | [] => ⟨by simp [putF],fun g h => by simp at h⟩
  | (k,x) :: r => by
    obtain ⟨i1,i2⟩ := wx f v r
    rw [show putF f v ((k,x) :: r) = (if k = f then (k,v) :: r else (k,x) :: putF f v r) from rfl]
    by_cases hk : k = f
    · rw [if_pos hk]
      subst hk
      exact ⟨by simp,fun g h => by simpa using h⟩
    · rw [if_neg hk]
      refine ⟨?_,fun g h => ?_⟩
      · rw [List.map_cons]
        exact List.mem_cons_of_mem _ i1
      · rw [List.map_cons] at h ⊢
        rcases List.mem_cons.mp h with e | e
        · exact List.mem_cons.mpr (.inl e)
        · exact List.mem_cons_of_mem _ (i2 g e)
theorem xq (f : Str) (v : V) : ∀ fs : List (Str × V),(putF f v fs).length ≤ fs.length + 1
  | [] => by simp [putF]
  | (k,x) :: r => by
    have ih := xq f v r
    rw [show putF f v ((k,x) :: r) = (if k = f then (k,v) :: r else (k,x) :: putF f v r) from rfl]
    by_cases hk : k = f
    · rw [if_pos hk,List.length_cons,List.length_cons]; omega
    · rw [if_neg hk,List.length_cons,List.length_cons]; omega
theorem RelO.some_of {v : V} {o : Option Value} (r : RelO (some v) o) : ∃ u,o = some u ∧ RelV v u := by
  cases o with
  | none => exact (show False from r).elim
  | some u => exact ⟨u,rfl,r⟩
theorem RelO.none_of {o : Option Value} (r : RelO none o) : o = none := by
  cases o with
  | none => rfl
  | some u => exact (show False from r).elim
theorem Bc {v : V} {u : Value} (r : RelV v u) : PySem.W.handedIn u = true := by
  cases v with
  | non => cases (show u = Value.none from r); rfl
  | bl b => cases (show u = Value.bool b from r); rfl
  | int i => obtain ⟨t,e⟩ := (show ∃ t,u = Value.int i t from r); cases e; rfl
  | str x => obtain ⟨t,e⟩ := (show ∃ t,u = Value.str x t from r); cases e; rfl
  | byt b => obtain ⟨t,e⟩ := (show ∃ t,u = Value.bytes b t from r); cases e; rfl
  | flt b => obtain ⟨t,e⟩ := (show ∃ t,u = Value.float b t from r); cases e; rfl
  | ref a => cases (show u = Value.ref a from r); rfl
  | ty n => cases (show u = Value.type n from r); rfl
section
variable {P : Program} {w : World} {H H' : Hp} {h h' : Heap} {a C dx : Addr} {fs fs' : List (Str × V)}
theorem v0 (hok : HOk P w H h) (e : H a = some (.ins C dx fs)) : ∃ mA,ObjM h a dx C mA ∧ (∀ f,RelO (fs.lookup f) (mA f)) ∧ PySem.Within mA (fs.map (·.1)) ∧ fs.length ≤ 1000 ∧ H dx = some (.own a) := by
  obtain ⟨d,z,ne,ob,mA,n,r,q⟩ := (show ObjOk P w H h a (.ins C dx fs) from hok a _ e)
  exact ⟨mA,⟨ob,n,ne⟩,r,q,z,d⟩
end
structure Cls (K : PySem.W.Frag) (C : Addr) : Prop where
  pg : PySem.W.plainGet K C Str.empty = true
  hd : PySem.W.hasDictIn K C = true
  po : PySem.W.plainOver K C = true
  sa : PySem.W.findIn K (.ref C) "__setattr__" = some (some (.builtin "object.__setattr__"))
theorem Cls.get {K : PySem.W.Frag} {C : Addr} (c : Cls K C) (f : Str) : PySem.W.plainGet K C f = true := c.pg
def NoAttr (K : PySem.W.Frag) (C : Addr) (f : Str) : Prop := PySem.W.findIn K (.ref C) f = some none
theorem NoAttr.taker {K : PySem.W.Frag} {C : Addr} {f : Str} (n : NoAttr K C f) : PySem.W.takerIn K C f = some none := by
  unfold PySem.W.takerIn
  rw [show PySem.W.findIn K (.ref C) f = some none from n]
  rfl
structure Meth (K : PySem.W.Frag) (C : Addr) (m : Str) (f : Addr) : Prop where
  at_ : PySem.W.findIn K (.ref C) m = some (some (.ref f))
  fn : PySem.W.isFn K (.ref f) = true
  kp : PySem.W.keepIn K (.ref f) = true
section
variable {X : Cx} {pins : List (Addr × Obj)} {σ : St} {H : Hp} {s : Shared} {a C dx : Addr} {fs : List (Str × V)} {f : Str} {v : V} {A : Around} {E : Value → Shared → Prop}
theorem AG {b : Bool} {Q : Value → Shared → Prop} (I : Inv X pins σ H s) (e : H a = some (.ins C dx fs)) (c : Cls X.K C) (n : NoAttr X.K C f) (l : fs.lookup f = some v)
    (h : ∀ u s',Inv X pins σ H s' → RelV v u → Q u s') : wpAny (model X.prog X.w) A (getAttr (.ref a) f b) Q E s := by
  obtain ⟨mA,O,r,_,_,_⟩ := v0 I.hok e
  obtain ⟨u,hu,ru⟩ := RelO.some_of (v := v) (o := mA f) (by rw [← l]; exact r f)
  exact Ee I.kIn O (c.get f) c.hd n hu (Bc ru) (h u _ (I.tok _) ru)
theorem vm {m : Str} {g : Addr} {pl : Sem Bool} {Q : Value × List Value → Shared → Prop} (I : Inv X pins σ H s) (e : H a = some (.ins C dx fs)) (c : Cls X.K C) (k : Meth X.K C m g) (l : fs.lookup m = none)
    (h : Q (.ref g,[.ref a]) s) : wpAny (model X.prog X.w) A (getMethod (.ref a) m pl) Q E s := by
  obtain ⟨mA,O,r,_,_,_⟩ := v0 I.hok e
  have hn : mA m = none := RelO.none_of (by rw [← l]; exact r m)
  exact Cn I.kIn O (c.get m) k.at_ k.fn hn h
theorem Az {y : V} {u : Value} {Q : Unit → Shared → Prop} (I : Inv X pins σ H s) (e : H a = some (.ins C dx fs)) (c : Cls X.K C) (n : NoAttr X.K C f) (hl : fs.length < 1000) (ry : RelV y u)
    (h : ∀ s',Inv X pins σ (upd H a (.ins C dx (putF f y fs))) s' → Q () s') : wpAny (model X.prog X.w) A (setAttr (.ref a) f u) Q E s := by
  obtain ⟨mA,O,r,wi,_,ho⟩ := v0 I.hok e
  have hz : (fs.map (·.1)).length ≤ sizeLine := by rw [List.length_map,sizeLine_eq]; omega
  refine D9 I.kIn O c.sa c.po n.taker c.hd wi hz fun h' O' sb => h _ ?_
  have hd : ∃ o,h'.get? dx = some o := let ⟨o,_,_,e',_⟩ := O'.ns; ⟨o,e'⟩
  refine I.write (x := a) (e := dx) (by rw [e]; exact True.intro) (.inr ho) (fun b q hb z => (sb.2 b hb).trans z) hd ?_
  refine ⟨by rw [zv O.ne]; exact ho,?_,O.ne,O'.obj,_,O'.ns,fun g => ?_,fun g hg => ?_⟩
  · have := xq f y fs; omega
  · show RelO ((putF f y fs).lookup g) (if g = f then some u else mA g)
    rw [wz]
    by_cases q : g = f
    · rw [if_pos q,if_pos q]; exact ry
    · rw [if_neg q,if_neg q]; exact r g
  · by_cases q : g = f
    · rw [q]; exact (wx f y fs).1
    · refine (wx f y fs).2 g (wi g fun z => hg ?_)
      show (if g = f then some u else mA g) = none
      rw [if_neg q]; exact z
theorem Inv.made (I : Inv X pins σ H s) : Inv X pins σ (upd (upd H s.heap.objs.size (.own (s.heap.objs.size + 1))) (s.heap.objs.size + 1) (.ins C s.heap.objs.size []))
    { s with heap := (s.heap.push PySem.W.emptyDict).push (PySem.W.instObj C s.heap.objs.size) } := by
  have e1 : (s.heap.push PySem.W.emptyDict).get? s.heap.objs.size = some PySem.W.emptyDict := Heap.get?_push_size s.heap rfl
  have e2 : ((s.heap.push PySem.W.emptyDict).push (PySem.W.instObj C s.heap.objs.size)).get? (s.heap.objs.size + 1) = some (PySem.W.instObj C s.heap.objs.size) := by
    have := Heap.get?_push_size (s.heap.push PySem.W.emptyDict) (o := PySem.W.instObj C s.heap.objs.size) rfl
    rwa [Heap.size_push] at this
  have e3 : (s.heap.push PySem.W.emptyDict).Ns s.heap.objs.size (fun _ => none) := ⟨PySem.W.emptyDict,#[],_,e1,rfl,(fun e he => absurd he (by simp)),fun _ => rfl⟩
  have I1 := I.laid (a := s.heap.objs.size) (o := .own (s.heap.objs.size + 1)) (h' := s.heap.push PySem.W.emptyDict) (t' := s.toks) (fun b u q => Heap.get?_push_of_some _ q) (Nat.le_refl _) ⟨_,e1⟩
  refine I1.laid (a := s.heap.objs.size + 1) (o := .ins C s.heap.objs.size []) (t' := s.toks) (fun b u q => Heap.get?_push_of_some _ q) (Nat.le_of_eq (Heap.size_push _ _)) ?_
  have ne : s.heap.objs.size ≠ s.heap.objs.size + 1 := Nat.ne_of_lt (Nat.lt_succ_self _)
  refine ⟨by rw [zv ne,zq],Nat.zero_le _,ne,e2,fun _ => none,(Heap.Ns1.of_empty e3).at fun o q => Heap.get?_push_of_some _ q,fun _ => True.intro,fun y hy => absurd rfl hy⟩
theorem Ez {prog : Program} {w : World} {env : Env} {e : Expr} {f : Str} {pos : Pos} {s : Shared} {Q : Value → Shared → Prop} (hb : attributeBase e f env (eval e env) = eval e env)
    (h : wpAny (model prog w) A (eval e env) (fun o s₁ => wpAny (model prog w) A (getAttr o f true) Q E s₁) E s) : wpAny (model prog w) A (eval (.Attribute e f pos) env) Q E s :=
  Attribute_any_ h (by rw [arm_eval_Attribute,hb])
end
def tFld (K : PySem.W.Frag) (ta : TE) (f : Str) : TE := fun σ H Q => ta σ H fun x H1 => ∃ a C dx fs v,x = .ref a ∧ H1 a = some (.ins C dx fs) ∧ Cls K C ∧ NoAttr K C f ∧ fs.lookup f = some v ∧ Q v H1
def sFld (K : PySem.W.Frag) (ta tv : TE) (f : Str) : TS := fun D σ H => tv σ H fun y H1 => ta σ H1 fun x H2 => ∃ a C dx fs,x = .ref a ∧ H2 a = some (.ins C dx fs) ∧ Cls K C ∧ NoAttr K C f ∧ fs.length < 1000 ∧
  D.nx σ (upd H2 a (.ins C dx (putF f y fs)))
section
variable {X : Cx} {o e value : Expr} {f : Str} {pos pos' tpos : Pos} {ta tv : TE}
theorem Ff (he : PE X e ta) (hb : attributeBase e f X.env (eval e X.env) = eval e X.env) : PE X (.Attribute e f pos) (tFld X.K ta f) := by
  intro pins s σ H Q I h
  refine Ez hb (thn (he pins s σ H _ I h) fun u s1 ⟨x,H1,I1,rx,a,C,dx,fs,v,ex,ea,c,n,l,q⟩ => ?_)
  subst ex
  obtain rfl : u = Value.ref a := rx
  exact AG I1 ea c n l fun u' s2 I2 ru => ⟨v,H1,I2,ru,q⟩
theorem uz (ha : PE X o ta) (hv : PE X value tv) (hs : swapsWith value (some (.Attribute o f pos')) pos.line X.env = pure false) : PS X (.Assign [.Attribute o f pos'] value pos) (sFld X.K ta tv f) := by
  intro pins s σ H D I h
  refine plainObj_wpAny_Assign_Attribute (thn (hv pins s σ H _ I h) fun u s1 ⟨y,H1,I1,ry,q⟩ => thn (ha pins s1 σ H1 _ I1 q) fun ov s2 ⟨x,H2,I2,rx,a,C,dx,fs,ex,ea,c,n,l,q2⟩ => ?_) hs
  subst ex
  obtain rfl : ov = Value.ref a := rx
  exact Az I2 ea c n l ry fun s3 I3 => ⟨σ,_,I3,q2⟩
end
section
variable {X : Cx} {pins : List (Addr × Obj)} {σ : St} {H : Hp} {s : Shared} {A : Around} {E : Value → Shared → Prop} {Q : Value → Shared → Prop} {c : Value} {b : Bool}
inductive TyOf (K : PySem.W.Frag) (H : Hp) : V → Value → Prop where
  | non : TyOf K H .non (.type "NoneType")
  | bl (x : Bool) : TyOf K H (.bl x) (.type "bool")
  | int (i : Int) : TyOf K H (.int i) (.type "int")
  | str (x : Str) : TyOf K H (.str x) (.type "str")
  | flt (x : UInt64) : TyOf K H (.flt x) (.type "float")
  | lst {a : Addr} {xs : List V} (e : H a = some (.lst xs)) : TyOf K H (.ref a) (.type "list")
  | frz {a : Addr} {o : Obj} {xs : List V} (e : H a = some (.frz o (.lst xs))) : TyOf K H (.ref a) (.type "list")
  | tup {a : Addr} {xs : List V} (e : H a = some (.tup xs)) : TyOf K H (.ref a) (.type "tuple")
  | dK {a : Addr} {kvs : List (Key × V)} (e : H a = some (.dK kvs)) : TyOf K H (.ref a) (.type "dict")
  | dT {a : Addr} {kvs : List (List Key × V)} (e : H a = some (.dT kvs)) : TyOf K H (.ref a) (.type "dict")
  | ins {a C dx : Addr} {fs : List (Str × V)} (e : H a = some (.ins C dx fs)) (cl : Cls K C) (ha : PySem.W.findIn K (.ref C) "__class__" = some (some (.builtin "object.__class__")))
      (hn : PySem.W.specialIn K (.builtin "object.__class__") "__get__" = some (some (.builtin "getset_descriptor.__get__"))) (htk : PySem.W.takesIn K (.builtin "object.__class__") = some true)
      (hm : PySem.W.mroIn K C (.type "object") = some true) : TyOf K H (.ref a) (.ref C)
theorem A4 {x : V} {u t : Value} (I : Inv X pins σ H s) (rx : RelV x u) (ty : TyOf X.K H x t) (e : PySem.W.kitOne X.K t c = some b) (h : ∀ tk,Q (.bool b) { s with toks := tk }) :
    wpAny (model X.prog X.w) A (call (.builtin "isinstance") [u,c]) Q E s := by
  cases ty with
  | non => cases (show u = Value.none from rx); exact PySem.W.kia_one PySem.W.kitx_none I.kIn True.intro e (fun z => nomatch z) h
  | bl y => cases (show u = Value.bool y from rx); exact PySem.W.kia_one PySem.W.kitx_bool I.kIn True.intro e (fun z => nomatch z) h
  | int i => obtain ⟨t,q⟩ := (show ∃ t,u = Value.int i t from rx); cases q; exact PySem.W.kia_one PySem.W.kitx_int I.kIn True.intro e (fun z => nomatch z) h
  | str y => obtain ⟨t,q⟩ := (show ∃ t,u = Value.str y t from rx); cases q; exact PySem.W.kia_one PySem.W.kitx_str I.kIn True.intro e (fun z => nomatch z) h
  | flt y => obtain ⟨t,q⟩ := (show ∃ t,u = Value.float y t from rx); cases q; exact PySem.W.kia_one PySem.W.kitx_float I.kIn True.intro e (fun z => nomatch z) h
  | @lst a xs ea =>
    cases (show u = Value.ref a from rx)
    obtain ⟨_,_,n,_,h1⟩ := (show ObjOk X.prog X.w H s.heap a (.lst xs) from I.hok a _ ea)
    exact PySem.W.kia_one PySem.W.kitx_list I.kIn ⟨_,h1,rfl⟩ e (fun z => nomatch z) h
  | @frz a ob xs ea =>
    cases (show u = Value.ref a from rx)
    obtain ⟨_,_,_,n,_,h1⟩ := (show ObjOk X.prog X.w H s.heap a (.frz ob (.lst xs)) from I.hok a _ ea)
    exact PySem.W.kia_one PySem.W.kitx_list I.kIn ⟨_,h1,rfl⟩ e (fun z => nomatch z) h
  | @tup a xs ea =>
    cases (show u = Value.ref a from rx)
    obtain ⟨_,_,_,p⟩ := (show ObjOk X.prog X.w H s.heap a (.tup xs) from I.hok a _ ea)
    obtain ⟨o,h1,h2,_⟩ := p
    exact PySem.W.kia_one PySem.W.kitx_tuple I.kIn ⟨o,h1,h2⟩ e (fun z => nomatch z) h
  | @dK a kvs ea =>
    cases (show u = Value.ref a from rx)
    obtain ⟨_,_,vs,_,p⟩ := (show ObjOk X.prog X.w H s.heap a (.dK kvs) from I.hok a _ ea)
    obtain ⟨o,es,ep,h1,h2,_⟩ := p
    exact PySem.W.kia_one PySem.W.kitx_dict I.kIn ⟨o,h1,h2.1⟩ e (fun z => nomatch z) h
  | @dT a kvs ea =>
    cases (show u = Value.ref a from rx)
    obtain ⟨_,_,xs,_,o,es,ep,h1,h2,_⟩ := (show ObjOk X.prog X.w H s.heap a (.dT kvs) from I.hok a _ ea)
    exact PySem.W.kia_one PySem.W.kitx_dict I.kIn ⟨o,h1,h2.1⟩ e (fun z => nomatch z) h
  | @ins a C dx fs ea cl ha hn htk hm =>
    cases (show u = Value.ref a from rx)
    obtain ⟨mA,O,_⟩ := v0 I.hok ea
    obtain ⟨od,J,_⟩ := O.look
    exact PySem.W.kia_one (PySem.W.kitx_own (cl.get _) cl.hd ha hn htk hm) I.kIn J e (fun z => nomatch z) h
end
end L2
namespace L2
open PySem PySem.Spec PyProof.Rows
structure Room (k : Nat) (A : Around) : Prop where
  hd : A.handled = none
  dp : A.depth + 3 * k + 5 < recursionLimit
  un : A.units + 16 * k + 200 < cLine
theorem Room.mono {j k : Nat} {A : Around} (r : Room k A) (h : j ≤ k) : Room j A := ⟨r.hd,by have := r.dp; omega,by have := r.un; omega⟩
theorem Room.deeper {k : Nat} {A : Around} (r : Room (k + 1) A) (env : Env) : Room k (A.deeper env) :=
  ⟨r.hd,by have := r.dp; show A.depth + 1 + 3 * k + 5 < _; omega,by have := r.un; show A.units + 3 + 16 * k + 200 < _; omega⟩
theorem An {A : Around} {C : Addr} {us : List Value} {kw : List (Str × Value)} : (A.under (.builtin "type.__call__" ⟨.ref C :: us,kw⟩)).depth = A.depth + 1 := by
  first | rfl | simp [Around.under,Code.weight,Code.isCreation,Code.isGuard,Code.isCaller,Code.frames,Code.isFrame,guardIds]
theorem AE {A : Around} {C : Addr} {us : List Value} {kw : List (Str × Value)} : (A.under (.builtin "type.__call__" ⟨.ref C :: us,kw⟩)).units = A.units + 1 := by
  first | rfl | simp [Around.under,Code.cUnits,Code.frames,Code.isFrame]
theorem Room.make {k : Nat} {A : Around} (r : Room (k + 1) A) (C : Addr) (us : List Value) (kw : List (Str × Value)) : Room k (A.under (.builtin "type.__call__" ⟨.ref C :: us,kw⟩)) :=
  ⟨r.hd,by have := r.dp; rw [An]; omega,by have := r.un; rw [AE]; omega⟩
theorem Room.depth {k : Nat} {A : Around} (r : Room k A) : A.depth < recursionLimit := by have := r.dp; omega
theorem Room.units {k : Nat} {A : Around} (r : Room k A) : A.units + 64 < cLine := by have := r.un; omega
def tNil : TA := fun _ H Q => Q [] H
def Co (ta : TE) (tr : TA) : TA := fun σ H Q => ta σ H fun x H1 => tr σ H1 fun xs H2 => Q (x :: xs) H2
section
variable {X : Cx} {e : Expr} {es : List Expr} {te : TE} {t : TA} {pos : Pos}
theorem zc : PA X [] tNil := fun _ _ _ _ H Q I h => Calls.spliced_nil ⟨[],H,I,.nil,h⟩
theorem za (ha : PE X e te) (hr : PA X es t) (hs : starEach (e :: es) X.env = (false,eval e X.env) :: starEach es X.env := by rfl) : PA X (e :: es) (Co te t) := by
  intro pos pins s σ H Q I h
  rw [hs]
  show wpAny _ _ (spliced ((false,eval e X.env) :: backTo pos (starEach es X.env))) _ _ s
  refine Calls.spliced_cons (thn (ha pins s σ H _ I h) fun u s1 ⟨x,H1,I1,r1,q1⟩ => ?_)
  exact thn (hr pos pins s1 σ H1 _ I1 q1) fun us s2 ⟨xs,H2,I2,r2,q2⟩ => ⟨x :: xs,H2,I2,.cons r1 r2,q2⟩
def tTup (t : TA) : TE := fun σ H Q => t σ H fun xs H1 => xs.length ≤ sizeLine ∧ ∀ p,H1 p = none → Q (.ref p) (upd H1 p (.tup xs))
def tLst (t : TA) : TE := fun σ H Q => t σ H fun xs H1 => xs.length ≤ sizeLine ∧ ∀ p,H1 p = none → Q (.ref p) (upd H1 p (.lst xs))
theorem zR {x1} (h : PA X es t) : PE X (.Tuple es x1 pos) (tTup t) := by
  intro pins s σ H Q I hq
  refine wpAny_Tuple_spliced (thn (h pos pins s σ H _ I hq) fun us s1 ⟨xs,H1,I1,r,z,q⟩ => ⟨by rw [← r.length]; exact z,?_⟩)
  have hf : H1 s1.heap.objs.size = none := I1.hok.fresh (Nat.le_refl _)
  refine ⟨.ref s1.heap.objs.size,upd H1 s1.heap.objs.size (.tup xs),I1.laid (t' := s1.toks) (fun b u e => Heap.get?_push_of_some _ e) (Nat.le_refl _) ?_,rfl,q _ hf⟩
  exact ⟨z,us,r,⟨_,Heap.get?_push_size _ rfl,rfl,_,rfl⟩⟩
theorem zQ (h : PA X es t) : PE X (.List es pos) (tLst t) := by
  intro pins s σ H Q I hq
  refine wpAny_List_spliced (thn (h pos pins s σ H _ I hq) fun us s1 ⟨xs,H1,I1,r,z,q⟩ => ⟨by rw [← r.length]; exact z,?_⟩)
  have hf : H1 s1.heap.objs.size = none := I1.hok.fresh (Nat.le_refl _)
  refine ⟨.ref s1.heap.objs.size,upd H1 s1.heap.objs.size (.lst xs),I1.laid (t' := s1.toks) (fun b u e => Heap.get?_push_of_some _ e) (Nat.le_refl _) ?_,rfl,q _ hf⟩
  exact ⟨z,us,0,r,Heap.get?_push_size _ rfl⟩
end
abbrev Sp := List V → Hp → VK → XK → Prop
abbrev CXT := List Env → Hp → Shared → XK → Value → Shared → Prop
structure Env0 (P : Program) (w : World) (K : PySem.W.Frag) (mg : Str → Option Value) (base : Heap) (A : Around) (outer : List Env) (s : Shared) (H : Hp) : Prop where
  frames : A.frames = some outer
  mod : Mod K mg base
  bs : ∀ b o,base.get? b = some o → s.heap.get? b = some o ∧ H b = none
  bsz : base.objs.size ≤ s.heap.objs.size
  funs : s.heap.FunFrames base outer
  frf : ∀ b ∈ frs outer,H b = none
  hok : HOk P w H s.heap
  bare : AllBare s.gens
def CE (outer : List Env) (P : Program) (w : World) (H : Hp) (s : Shared) (Q : VK) (u : Value) (s' : Shared) : Prop :=
  ∃ v H',s'.os = s.os ∧ AllBare s'.gens ∧ Un (frs outer) [] H H' s.heap s'.heap ∧ HOk P w H' s'.heap ∧ RelV v u ∧ Q v H'
def CR (CX : CXT) (outer : List Env) (P : Program) (w : World) (H : Hp) (s : Shared) (Q : VK) (E : XK) (r : Result) (s' : Shared) : Prop :=
  match r with
  | .ok (.ret u) => CE outer P w H s Q u s'
  | .ok _ => False
  | .error e => CX outer H s E e s'
structure FnOk (P : Program) (w : World) (K : PySem.W.Frag) (mg : Str → Option Value) (base : Heap) (CX : CXT) (k : Nat) (f : Addr) (fd : FuncData) (ps : List Str) (sp : Sp) : Prop where
  len : ∀ vs H Q E,sp vs H Q E → vs.length = ps.length
  run : ∀ (A : Around) (outer : List Env) (s : Shared) (H : Hp) (args : Args) (us : List Value) (vs : List V) (Q : VK) (E : XK),Room k A → Env0 P w K mg base A outer s H → BindsTo s fd args (ps.zip us) → Vals vs us → sp vs H Q E →
    codeAny (model P w) A (.call (.ref f) args) (CR CX outer P w H s Q E) s
theorem Env0.make {P : Program} {w : World} {K : PySem.W.Frag} {mg : Str → Option Value} {base : Heap} {A : Around} {outer : List Env} {s : Shared} {H : Hp} (e : Env0 P w K mg base A outer s H) (C : Addr) (us : List Value) (kw : List (Str × Value)) :
    Env0 P w K mg base (A.under (.builtin "type.__call__" ⟨.ref C :: us,kw⟩)) outer s H := ⟨by first | exact e.frames | (simpa [Around.under,Code.envs,Code.isFrame,pushEnvs] using e.frames),e.mod,e.bs,e.bsz,e.funs,e.frf,e.hok,e.bare⟩
section
variable {X : Cx} {pins : List (Addr × Obj)} {σ : St} {H : Hp} {s s' : Shared}
theorem Inv.env0 (I : Inv X pins σ H s) : Env0 X.prog X.w X.K X.mg X.base X.A X.stack s H :=
  ⟨I.ok.frames,I.ok.mod,I.bs,Nat.le_trans I.ok.bsz I.sz,I.stack,I.stkFree,I.hok,I.bare⟩
theorem Inv.after {Q : VK} {u : Value} (I : Inv X pins σ H s) (h : CE X.stack X.prog X.w H s Q u s') : EP X pins σ Q u s' := by
  obtain ⟨v,H',os,bare,un,hok,r,q⟩ := h
  obtain ⟨hh,g,d,t,os'⟩ := s'
  obtain rfl : os' = s.os := os
  exact ⟨v,H',I.call (h' := hh) (g' := g) (d' := d) (t' := t) (ch := []) un hok bare (fun b z => absurd z (by simp)),r,q⟩
end
def AU (sp : Sp) (dvs : List V) (E : XK) (t : TA) : TE := fun σ H Q => t σ H fun vs H1 => sp (vs ++ dvs) H1 Q E
def BJ (C : Addr) (m : Str) (sp : Sp) (dvs : List V) (E : XK) (ta : TE) (t : TA) : TE := fun σ H Q => ta σ H fun x H1 => ∃ a dx fs,x = .ref a ∧ H1 a = some (.ins C dx fs) ∧ fs.lookup m = none ∧
  t σ H1 fun vs H2 => sp (x :: (vs ++ dvs)) H2 Q E
def D3 (C : Addr) (sp : Sp) (dvs : List V) (E : XK) (t : TA) : TE := fun σ H Q => t σ H fun vs H1 => ∀ x dx,H1 x = none → H1 dx = none → dx ≠ x →
  sp (.ref x :: (vs ++ dvs)) (upd (upd H1 dx (.own x)) x (.ins C dx [])) (fun v H2 => v = .non ∧ Q (.ref x) H2) E
def Binds (K : PySem.W.Frag) (fd : FuncData) (ps : List Str) (ds : List Value) : Prop :=
  ∀ (s : Shared) (us : List Value),K.In s.heap → (us ++ ds).length = ps.length → BindsTo s fd ⟨us,[]⟩ (ps.zip (us ++ ds))
theorem Binds.all {K : PySem.W.Frag} {fd : FuncData} {ps : List Str} (h : ∀ us : List Value,us.length = ps.length → bindArgs fd ⟨us,[]⟩ = pure (ps.zip us)) : Binds K fd ps [] := fun s us _ hl => by
  rw [List.append_nil] at hl ⊢
  exact .of_eq (h us hl)
def yC (CX : CXT) (X : Cx) (E : XK) : Prop := ∀ (pins : List (Addr × Obj)) (σ : St) (H : Hp) (s : Shared) (e : Value) (s' : Shared),Inv X pins σ H s → CX X.stack H s E e s' → X.xe e s'
section
variable {X : Cx} {CX : CXT} {k : Nat} {f C : Addr} {fd : FuncData} {ps : List Str} {sp : Sp} {dvs : List V} {ds : List Value} {E : XK} {x m : Str} {p pos apos : Pos} {e o : Expr} {es : List Expr} {ta : TE} {t : TA}
theorem AV {pins : List (Addr × Obj)} {σ : St} {H : Hp} {s : Shared} {Q : VK} {us : List Value} {vs : List V} (F : FnOk X.prog X.w X.K X.mg X.base CX k f fd ps sp) (hr : Room k X.A) (hb : Binds X.K fd ps ds) (hd : Vals dvs ds) (hx : yC CX X E)
    (I : Inv X pins σ H s) (r : Vals vs us) (h : sp (vs ++ dvs) H Q E) : wpAny (model X.prog X.w) X.A (call (.ref f) us) (EP X pins σ Q) X.xe s := by
  have r2 : Vals (vs ++ dvs) (us ++ ds) := r.append hd
  have hl : (us ++ ds).length = ps.length := by rw [← r2.length]; exact F.len _ _ _ _ h
  refine wpAny_call (codeAny_mono (F.run X.A X.stack s H ⟨us,[]⟩ (us ++ ds) (vs ++ dvs) Q E hr I.env0 (hb s us I.kIn hl) r2 h) fun r s' hq => ?_)
  cases r with
  | error e => exact hx pins σ H s e s' I hq
  | ok fl =>
    cases fl with
    | ret u => exact I.after hq
    | next => exact False.elim hq
    | brk => exact False.elim hq
    | cont => exact False.elim hq
theorem u7 (F : FnOk X.prog X.w X.K X.mg X.base CX k f fd ps sp) (hr : Room k X.A) (hg : Gl X x) (hm : X.mg x = some (.ref f)) (hk : PySem.W.keepIn X.K (.ref f) = true) (hb : Binds X.K fd ps ds) (hd : Vals dvs ds) (hx : yC CX X E)
    (ha : PA X (e :: es) t) (hdb : (x == ("__debug__" : Str)) = false := by decide) (he : starEach (e :: es) X.env = (false,eval e X.env) :: starEach es X.env := by rfl) (hpl : (backTo pos (starEach es X.env)).any (·.1) = false := by rfl) :
    PE X (.Call (.Name x p) (e :: es) [] pos) (AU sp dvs E t) := by
  intro pins s σ H Q I h
  refine wpAny_Call_Name_kw (xt I hg hm ?_ hdb)
  refine PySem.W.callWith_K (h₀ := X.base) I.ok.mod.kin hk (thn (ha pos pins s σ H _ I h) fun us s1 ⟨vs,H1,I1,r,q⟩ => ⟨I1.kIn,?_⟩) he hpl
  exact AV F hr hb hd hx I1 r q
theorem Ew {pl : Sem Bool} (he : PE X o ta) (c : Cls X.K C) (hm : Meth X.K C m f) (F : FnOk X.prog X.w X.K X.mg X.base CX k f fd ps sp) (hr : Room k X.A) (hb : Binds X.K fd ps ds) (hd : Vals dvs ds) (hx : yC CX X E) (ha : PA X (e :: es) t)
    (hst : starEach (e :: es) X.env = (false,eval e X.env) :: starEach es X.env := by rfl) (hpl : (backTo pos (starEach es X.env)).any (·.1) = false := by rfl)
    (ht : eval (.Call (.Attribute o m apos) (e :: es) [] pos) X.env = (do
      let ov ← eval o X.env
      standAt apos.atName
      let (f,first) ← holding [ov] (getMethod ov m pl)
      callWith pos f first (backTo pos (starEach (e :: es) X.env)) (backToKw pos (keywordEach [] X.env))) := by rfl) :
    PE X (.Call (.Attribute o m apos) (e :: es) [] pos) (BJ C m sp dvs E ta t) := by
  intro pins s σ H Q I h
  refine PySem.W.methodCall_KW (pl := pl) (thn (he pins s σ H _ I h) fun u s1 ⟨x,H1,I1,rx,a,dx,fs,ex,ea,l,q⟩ => ?_) ht
  subst ex
  obtain rfl : u = Value.ref a := rx
  refine vm I1 ea c hm l ?_
  refine PySem.W.callWith_K (first := [.ref a]) (h₀ := X.base) I.ok.mod.kin hm.kp (thn (ha pos pins s1 σ H1 _ I1 q) fun us s2 ⟨vs,H2,I2,r,q2⟩ => ⟨I2.kIn,?_⟩) hst hpl
  exact AV (us := .ref a :: us) (vs := .ref a :: vs) F hr hb hd hx I2 (.cons rfl r) q2
theorem C2 {pl : Sem Bool} (he : PE X o ta) (c : Cls X.K C) (hm : Meth X.K C m f) (F : FnOk X.prog X.w X.K X.mg X.base CX k f fd ps sp) (hr : Room k X.A) (hb : Binds X.K fd ps ds) (hd : Vals dvs ds) (hx : yC CX X E)
    (ht : eval (.Call (.Attribute o m apos) [] [] pos) X.env = (do
      let ov ← eval o X.env
      standAt apos.atName
      let (f,first) ← holding [ov] (getMethod ov m pl)
      callWith pos f first (backTo pos (starEach [] X.env)) (backToKw pos (keywordEach [] X.env))) := by rfl) :
    PE X (.Call (.Attribute o m apos) [] [] pos) (BJ C m sp dvs E ta tNil) := by
  intro pins s σ H Q I h
  refine PySem.W.methodCall_KW (pl := pl) (thn (he pins s σ H _ I h) fun u s1 ⟨x,H1,I1,rx,a,dx,fs,ex,ea,l,q⟩ => ?_) ht
  subst ex
  obtain rfl : u = Value.ref a := rx
  refine vm I1 ea c hm l ?_
  exact PySem.W.callWith_K0 (first := [.ref a]) I1.kIn hm.kp (AV (us := [.ref a]) (vs := [.ref a]) F hr hb hd hx I1 (.cons rfl .nil) q)
structure Mk (K : PySem.W.Frag) (C f : Addr) : Prop where
  makes : PySem.W.makesIn K C = true
  init : PySem.W.findIn K (.ref C) "__init__" = some (some (.ref f))
  fn : PySem.W.isFn K (.ref f) = true
  kp : PySem.W.keepIn K (.ref C) = true
theorem CB {pins : List (Addr × Obj)} {σ : St} {H : Hp} {s : Shared} {Q : VK} {us : List Value} {vs : List V} (M : Mk X.K C f) (F : FnOk X.prog X.w X.K X.mg X.base CX k f fd ps sp) (hr : Room (k + 1) X.A) (hb : Binds X.K fd ps ds) (hd : Vals dvs ds)
    (hx : yC CX X E) (I : Inv X pins σ H s) (r : Vals vs us)
    (h : ∀ x dx,H x = none → H dx = none → dx ≠ x → sp (.ref x :: (vs ++ dvs)) (upd (upd H dx (.own x)) x (.ins C dx [])) (fun v H2 => v = .non ∧ Q (.ref x) H2) E) :
    wpAny (model X.prog X.w) X.A (call (.ref C) us) (EP X pins σ Q) X.xe s := by
  have hq := h (s.heap.objs.size + 1) s.heap.objs.size (I.hok.fresh (Nat.le_succ _)) (I.hok.fresh (Nat.le_refl _)) (Nat.ne_of_lt (Nat.lt_succ_self _))
  have I2 := Inv.made (C := C) I
  have r2 : Vals (V.ref (s.heap.objs.size + 1) :: (vs ++ dvs)) (Value.ref (s.heap.objs.size + 1) :: (us ++ ds)) := .cons rfl (r.append hd)
  have hl : (Value.ref (s.heap.objs.size + 1) :: us ++ ds).length = ps.length := by
    have e := r2.length
    rw [F.len _ _ _ _ hq] at e
    exact e.symm
  refine wpAny_call (Ck (f := f) I.kIn M.makes M.init (beq_iff_eq.mp M.fn) (codeAny_mono (F.run _ X.stack _ _ ⟨Value.ref (s.heap.objs.size + 1) :: us,[]⟩ (Value.ref (s.heap.objs.size + 1) :: (us ++ ds)) _ _ E (hr.make C us [])
    (I2.env0.make C us []) (hb _ (Value.ref (s.heap.objs.size + 1) :: us) I2.kIn hl) r2 hq) fun r s' hq' => ?_))
  cases r with
  | error e => exact hx pins σ _ _ e s' I2 hq'
  | ok fl =>
    cases fl with
    | ret u =>
      obtain ⟨v,H',I3,rv,ev,q3⟩ := I2.after hq'
      subst ev
      exact ⟨rv,⟨V.ref (s.heap.objs.size + 1),H',I3,rfl,q3⟩⟩
    | next => exact False.elim hq'
    | brk => exact False.elim hq'
    | cont => exact False.elim hq'
theorem Ev (M : Mk X.K C f) (F : FnOk X.prog X.w X.K X.mg X.base CX k f fd ps sp) (hr : Room (k + 1) X.A) (hg : Gl X x) (hm : X.mg x = some (.ref C)) (hb : Binds X.K fd ps ds) (hd : Vals dvs ds) (hx : yC CX X E)
    (ha : PA X (e :: es) t) (hdb : (x == ("__debug__" : Str)) = false := by decide) (he : starEach (e :: es) X.env = (false,eval e X.env) :: starEach es X.env := by rfl) (hpl : (backTo pos (starEach es X.env)).any (·.1) = false := by rfl) :
    PE X (.Call (.Name x p) (e :: es) [] pos) (D3 C sp dvs E t) := by
  intro pins s σ H Q I h
  refine wpAny_Call_Name_kw (xt I hg hm ?_ hdb)
  refine PySem.W.callWith_K (h₀ := X.base) I.ok.mod.kin M.kp (thn (ha pos pins s σ H _ I h) fun us s1 ⟨vs,H1,I1,r,q⟩ => ⟨I1.kIn,?_⟩) he hpl
  exact CB M F hr hb hd hx I1 r q
end
def PK (X : Cx) (kws : List Keyword) (t : TA) : Prop :=
  ∀ (pos : Pos) (pins : List (Addr × Obj)) (s : Shared) (σ : St) (H : Hp) (Q : List V → Hp → Prop),Inv X pins σ H s → t σ H Q → wpAny (model X.prog X.w) X.A (evalAll ((backToKw pos (keywordEach kws X.env)).map (·.2))) (AP X pins σ Q) X.xe s
section
variable {X : Cx} {CX : CXT} {k : Nat} {f C : Addr} {fd : FuncData} {ps ks : List Str} {sp : Sp} {E : XK} {x m : Str} {p pos apos kpos : Pos} {e o : Expr} {es : List Expr} {kws : List Keyword} {te ta : TE} {t tk : TA} {nm : Option Str}
theorem Df : PK X [] tNil := fun _ _ _ _ H Q I h => wpAny_evalAll_nil ⟨[],H,I,.nil,h⟩
theorem Bu (ha : PE X e te) (hr : PK X kws t) : PK X (⟨nm,e,kpos⟩ :: kws) (Co te t) := by
  intro pos pins s σ H Q I h
  show wpAny _ _ (evalAll ((do let v ← eval e X.env; standAt pos; pure v) :: (backToKw pos (keywordEach kws X.env)).map (·.2))) _ _ s
  refine wpAny_evalAll_cons (wpAny_bind (thn (ha pins s σ H _ I h) fun u s1 ⟨x,H1,I1,r1,q1⟩ => wpAny_bind (wpAny_standAt (wpAny_pure ?_))))
  exact thn (hr pos pins s1 σ H1 _ I1 q1) fun us s2 ⟨xs,H2,I2,r2,q2⟩ => ⟨x :: xs,H2,I2,.cons r1 r2,q2⟩
structure KBinds (K : PySem.W.Frag) (fd : FuncData) (ps ks : List Str) (g : List Value → List Value → List Value) (gV : List V → List V → List V) : Prop where
  to : ∀ (s : Shared) (us ws : List Value),K.In s.heap → (g us ws).length = ps.length → BindsTo s fd ⟨us,ks.zip ws⟩ (ps.zip (g us ws))
  rel : ∀ {vs : List V} {us : List Value} {zs : List V} {ws : List Value},Vals vs us → Vals zs ws → Vals (gV vs zs) (g us ws)
def B7 (sp : Sp) (gV : List V → List V → List V) (E : XK) (t tk : TA) : TE := fun σ H Q => t σ H fun vs H1 => tk σ H1 fun zs H2 => sp (gV vs zs) H2 Q E
variable {g : List Value → List Value → List Value} {gV : List V → List V → List V}
theorem Ey {pins : List (Addr × Obj)} {σ : St} {H : Hp} {s : Shared} {Q : VK} {us ws : List Value} {vs zs : List V} (F : FnOk X.prog X.w X.K X.mg X.base CX k f fd ps sp) (hr : Room k X.A) (hb : KBinds X.K fd ps ks g gV) (hx : yC CX X E)
    (I : Inv X pins σ H s) (r : Vals vs us) (rz : Vals zs ws) (h : sp (gV vs zs) H Q E) : wpAny (model X.prog X.w) X.A (call (.ref f) us (ks.zip ws)) (EP X pins σ Q) X.xe s := by
  have r2 := hb.rel r rz
  have hl : (g us ws).length = ps.length := by rw [← r2.length]; exact F.len _ _ _ _ h
  refine wpAny_call (codeAny_mono (F.run X.A X.stack s H ⟨us,ks.zip ws⟩ (g us ws) (gV vs zs) Q E hr I.env0 (hb.to s us ws I.kIn hl) r2 h) fun r s' hq => ?_)
  cases r with
  | error e => exact hx pins σ H s e s' I hq
  | ok fl =>
    cases fl with
    | ret u => exact I.after hq
    | next => exact False.elim hq
    | brk => exact False.elim hq
    | cont => exact False.elim hq
theorem CC (F : FnOk X.prog X.w X.K X.mg X.base CX k f fd ps sp) (hr : Room k X.A) (hg : Gl X x) (hm : X.mg x = some (.ref f)) (hk : PySem.W.keepIn X.K (.ref f) = true) (hb : KBinds X.K fd ps ks g gV) (hx : yC CX X E)
    (ha : PA X (e :: es) t) (hkw : PK X kws tk) (hall : (backToKw pos (keywordEach kws X.env)).all (·.1.isSome) = true := by rfl) (hks : (backToKw pos (keywordEach kws X.env)).filterMap (·.1) = ks := by rfl)
    (hdb : (x == ("__debug__" : Str)) = false := by decide) (he : starEach (e :: es) X.env = (false,eval e X.env) :: starEach es X.env := by rfl)
    (hpl : ((backTo pos (starEach (e :: es) X.env)).any (·.1) || (backToKw pos (keywordEach kws X.env)).any (·.1.isNone)) = false := by rfl) :
    PE X (.Call (.Name x p) (e :: es) kws pos) (B7 sp gV E t tk) := by
  intro pins s σ H Q I h
  refine wpAny_Call_Name_kw (xt I hg hm ?_ hdb)
  refine PySem.W.callWith_KW (h₀ := X.base) I.ok.mod.kin hk hall (thn (ha pos pins s σ H _ I h) fun us s1 ⟨vs,H1,I1,r,q⟩ => ?_) hpl he
  refine thn (hkw pos pins s1 σ H1 _ I1 q) fun ws s2 ⟨zs,H2,I2,rz,q2⟩ => ⟨I2.kIn,?_⟩
  rw [hks]
  exact Ey F hr hb hx I2 r rz q2
end
structure FnScope (N P : List Str) (sc : Scope) : Prop where
  kind : sc.kind = .function
  co : sc.isCoroutine = false
  gen : sc.isGenerator = false
  nd : N.Nodup
  pre : N.take P.length = P
  par : ∀ x ∈ P,sc.names.lookup x = some .local ∨ sc.names.lookup x = some .cell
  nofree : ∀ y ∈ sc.names,y.2 ≠ .free
theorem uR {kindOf : Str → Option NameKind} {x : Str} : ∀ {binds : List (Str × Value)} {m : Str → Option Value},(∀ v,(x,v) ∉ binds) → bindL kindOf binds m x = m x
  | [],_,_ => rfl
  | (n,v) :: r,m,h => by
    unfold bindL
    rw [uR fun w hw => h w (List.mem_cons_of_mem _ hw)]
    split
    · have : x ≠ n := by rintro rfl; exact h v List.mem_cons_self
      simp [this]
    · rfl
theorem ud {kindOf : Str → Option NameKind} {x : Str} : ∀ {binds : List (Str × Value)} {m : Str → Option Value},(∀ v,(x,v) ∉ binds) → bindC kindOf binds m x = m x
  | [],_,_ => rfl
  | (n,v) :: r,m,h => by
    unfold bindC
    rw [ud fun w hw => h w (List.mem_cons_of_mem _ hw)]
    split
    · rfl
    · have : x ≠ n := by rintro rfl; exact h v List.mem_cons_self
      simp [this]
theorem uc {kindOf : Str → Option NameKind} {x : Str} {v : Value} : ∀ {P : List Str} {vs : List Value} {i : Nat} {m : Str → Option Value},P.Nodup → P[i]? = some x → vs[i]? = some v → kindOf x = some .local →
    bindL kindOf (P.zip vs) m x = some v
  | [],_,_,_,_,h,_,_ => by simp at h
  | _ :: _,[],_,_,_,_,h,_ => by simp at h
  | p :: P,w :: vs,0,m,nd,h1,h2,hk => by
    simp at h1 h2; subst h1; subst h2
    show bindL kindOf ((p,w) :: P.zip vs) m p = _
    unfold bindL
    rw [uR fun v hv => (List.nodup_cons.mp nd).1 (List.of_mem_zip hv).1,if_pos hk]
    simp
  | p :: P,w :: vs,i + 1,m,nd,h1,h2,hk => by
    show bindL kindOf ((p,w) :: P.zip vs) m x = _
    unfold bindL
    exact uc (i := i) (List.nodup_cons.mp nd).2 (by simpa using h1) (by simpa using h2) hk
theorem ux {kindOf : Str → Option NameKind} {x : Str} {v : Value} : ∀ {P : List Str} {vs : List Value} {i : Nat} {m : Str → Option Value},P.Nodup → P[i]? = some x → vs[i]? = some v → kindOf x ≠ some .local →
    bindC kindOf (P.zip vs) m x = some v
  | [],_,_,_,_,h,_,_ => by simp at h
  | _ :: _,[],_,_,_,_,h,_ => by simp at h
  | p :: P,w :: vs,0,m,nd,h1,h2,hk => by
    simp at h1 h2; subst h1; subst h2
    show bindC kindOf ((p,w) :: P.zip vs) m p = _
    unfold bindC
    rw [ud fun v hv => (List.nodup_cons.mp nd).1 (List.of_mem_zip hv).1,if_neg hk]
    simp
  | p :: P,w :: vs,i + 1,m,nd,h1,h2,hk => by
    show bindC kindOf ((p,w) :: P.zip vs) m x = _
    unfold bindC
    exact ux (i := i) (List.nodup_cons.mp nd).2 (by simpa using h1) (by simpa using h2) hk
def zI (N : List Str) (vs : List V) : St := vs.map some ++ List.replicate (N.length - vs.length) none
def cxOf (CX : CXT) (P : Program) (w : World) (K : PySem.W.Frag) (mg : Str → Option Value) (base : Heap) (N : List Str) (qual : Str) (scope : Scope) (f : Addr) (cd : Value) (A : Around) (outer : List Env) (s : Shared) (H : Hp) (E : XK) : Cx where
  prog := P
  w := w
  K := K
  mg := mg
  base := base
  A := A.deeper (envOfC qual scope s.heap.objs.size f cd)
  N := N
  s₀ := s
  H₀ := H
  env := envOfC qual scope s.heap.objs.size f cd
  outer := outer
  stack := envOfC qual scope s.heap.objs.size f cd :: outer
  ex := []
  calm := true
  fn := fun _ => true
  pn := []
  xe := fun e s' => wpAny (model P w) (A.deeper (envOfC qual scope s.heap.objs.size f cd)) (leaving (envOfC qual scope s.heap.objs.size f cd) e) (fun _ s'' => CX outer H s E e s'') (fun e' s'' => CX outer H s E e' s'') s'
theorem tQ {sc : Scope} {n : Nat} {x : Str} (h : sc.names.lookup x = some .cell) : ∃ c,(cellsFrom n sc.names []).lookup x = some c := by
  have q := PySem.W.cellsFrom_some sc.names n [] (.inl h)
  exact Option.isSome_iff_exists.mp q
theorem BX {CX : CXT} {P : Program} {w : World} {K : PySem.W.Frag} {mg : Str → Option Value} {base : Heap} {N ps : List Str} {qual : Str} {scope : Scope} {f : Addr} {cd : Value} {A : Around} {outer : List Env} {s s1 : Shared} {H : Hp} {E : XK} {us : List Value} {vs : List V}
    (S : FnScope N ps scope) (hd : A.handled = none) (e0 : Env0 P w K mg base A outer s H) (hl : vs.length = ps.length) (r : Vals vs us)
    (x : InCallC s s.heap.objs.size (bindL (envOfC qual scope s.heap.objs.size f cd).kindOf (ps.zip us) fun _ => none) (cellsFrom (s.heap.objs.size + 1) scope.names []) (bindC (envOfC qual scope s.heap.objs.size f cd).kindOf (ps.zip us) fun _ => none) s1) :
    Inv (cxOf CX P w K mg base N qual scope f cd A outer s H E) [] (zI N vs) H s1 := by
  have hpl : ps.length ≤ N.length := by have := congrArg List.length S.pre; rw [List.length_take] at this; omega
  obtain ⟨h1,tk,rfl,hk⟩ := x.done
  have noA : ∀ b : Addr,b ∉ (cxOf CX P w K mg base N qual scope f cd A outer s H E).ex := fun b z => absurd (show b ∈ ([] : List Addr) from z) (by simp)
  refine ⟨⟨e0.mod,S.kind,rfl,rfl,Nat.le_refl _,fun y z c h1 h2 => ?_,fun y hy => ?_,fun y c _ h => ?_,fun _ => hd,Around.frames_deeper e0.frames,.inr ⟨rfl,rfl⟩,fun b z => absurd z (noA b),e0.bs,e0.bsz,fun b _ _ => noA b,fun b z => absurd z (noA b),e0.funs,e0.frf⟩,
    rfl,e0.bare,Un.kept hk,⟨_,x.toInCall.ns,fun i y v h1 h2 h3 => ?_⟩,fun y c h => ⟨_,x.cell y c h⟩,e0.hok.fresh (Nat.le_refl _),fun y c h => ?_,fun p hp => absurd (show p ∈ ([] : List (Addr × Obj)) from hp) (by simp),e0.hok.kept hk,?_⟩
  · exact name_of_addr x.apart (PySem.mem_of_lookup h1) (PySem.mem_of_lookup h2)
  · have hy : scope.names.lookup y = some .cell ∨ scope.names.lookup y = some .free := hy
    rcases hy with hy | hy
    · exact tQ hy
    · exact absurd rfl (S.nofree _ (PySem.mem_of_lookup hy))
  · exact Nat.le_of_lt (x.above y c (PySem.mem_of_lookup h))
  · have hi : i < vs.length := by
      unfold zI at h2
      by_cases hi : i < vs.length
      · exact hi
      · rw [List.getElem?_append_right (by simpa using hi)] at h2
        rw [List.getElem?_replicate] at h2
        split at h2 <;> cases h2
    have ha : vs[i]? = some v := by
      unfold zI at h2
      rw [List.getElem?_append_left (by simpa using hi),List.getElem?_map] at h2
      cases e : vs[i]? with
      | none => rw [e] at h2; cases h2
      | some a => rw [e] at h2; cases h2; rfl
    obtain ⟨u,hu,rv⟩ := r.get ha
    have hp : ps[i]? = some y := by
      rw [← S.pre,List.getElem?_take_of_lt (by omega)]; exact h1
    have ndP : ps.Nodup := by rw [← S.pre]; exact S.nd.sublist (List.take_sublist _ _)
    refine ⟨u,rv,?_⟩
    rcases S.par y (List.mem_of_getElem? hp) with k | k
    · exact .inl ⟨k,uc ndP hp hu k⟩
    · obtain ⟨c,e⟩ := tQ (n := s.heap.objs.size + 1) k
      refine .inr ⟨.inl k,c,e,?_⟩
      have q := x.cell y c e
      rw [ux ndP hp hu (by show scope.names.lookup y ≠ _; rw [k]; decide)] at q
      exact q
  · exact e0.hok.fresh (Nat.le_of_lt (x.above y c (PySem.mem_of_lookup h)))
  · unfold zI
    show _ = N.length
    rw [List.length_append,List.length_map,List.length_replicate]
    omega
theorem CY {CX : CXT} {P : Program} {w : World} {K : PySem.W.Frag} {mg : Str → Option Value} {base : Heap} {k : Nat} {f : Addr} {name qual : Str} {params : Arguments} {body : List Stmt} {scope : Scope} {dV kV doc pm cdv ct oc : Value} {an od : Option Addr}
    {osl : Array (Option Value)} {N ps : List Str} {sp : Sp} (lk : K.lookup f = some ⟨oc,od,.func (PySem.W.fnOf name qual params body scope dV kV doc pm an cdv ct),osl⟩) (hcd : PySem.W.codeIn K cdv qual = true) (S : FnScope N ps scope)
    (len : ∀ vs H Q E,sp vs H Q E → vs.length = ps.length)
    (hbody : ∀ (A : Around) (outer : List Env) (s : Shared) (H : Hp) (vs : List V) (Q : VK) (E : XK),Room k (A.deeper (envOfC qual scope s.heap.objs.size f cdv)) → sp vs H Q E →
      ∃ t,PSs (cxOf CX P w K mg base N qual scope f cdv A outer s H E) body t ∧ t { nx := fun _ H' => Q .non H',rt := Q } (zI N vs) H) :
    FnOk P w K mg base CX (k + 1) f (PySem.W.fnOf name qual params body scope dV kV doc pm an cdv ct) ps sp := by
  refine ⟨len,fun A outer s H args us vs Q E hr e0 hb r hsp => ?_⟩
  have hl := len _ _ _ _ hsp
  have KX : K.In s.heap := e0.mod.kin.keeps fun b o e => (e0.bs b o e).1
  have lim : s.heap.NoLimit := e0.mod.nolimit.keeps fun b o e => (e0.bs b o e).1
  have hkind : ∀ y ∈ ps.zip us,scope.names.lookup y.1 = some .local ∨ (scope.names.lookup y.1 = some .cell ∧ ((cellsFrom (s.heap.objs.size + 1) scope.names []).lookup y.1).isSome = true) := fun ⟨n,v⟩ hy => by
    rcases S.par n (List.of_mem_zip hy).1 with q | q
    · exact .inl q
    · exact .inr ⟨q,PySem.W.cellsFrom_some _ _ _ (.inl q)⟩
  refine codeAny_call_function hr.depth (KX _ _ lk) rfl S.co S.gen rfl (PySem.W.codeRec_of KX hcd) (hb _ _ _ _ ?_)
  refine wpAny_newFunctionEnv_cells S.kind hkind fun env he s1 x => ?_
  subst he
  refine ⟨lim.keeps x.toInCall.keep,codeAny_func ?_⟩
  obtain ⟨t,ht,hq⟩ := hbody A outer s H vs Q E (hr.deeper _) hsp
  have I : Inv (cxOf CX P w K mg base N qual scope f cdv A outer s H E) [] (zI N vs) H s1 := BX S hr.hd e0 hl r x
  refine wpAny_mono (ht [] s1 (zI N vs) H _ I hq) (fun fl s' hs => ?_) fun e s' hs => hs
  have fin : ∀ {σ' : St} {H' : Hp} {v : V} {u : Value},Inv (cxOf CX P w K mg base N qual scope f cdv A outer s H E) [] σ' H' s' → RelV v u → Q v H' → CE outer P w H s Q u s' :=
    fun {σ' H' v u} J rv q => ⟨v,H',J.os,J.bare,J.base,J.hok,rv,q⟩
  cases fl with
  | ret u =>
    obtain ⟨v,σ',H',J,rv,q⟩ := hs
    exact fin J rv q
  | next =>
    obtain ⟨σ',H',J,q⟩ := hs
    exact fin (v := V.non) (u := Value.none) J rfl q
  | brk =>
    obtain ⟨_,_,_,q⟩ := hs
    exact False.elim q
  | cont =>
    obtain ⟨_,_,_,q⟩ := hs
    exact False.elim q
end L2
namespace L2
open PySem PySem.Spec PyProof.Rows
section
variable {X : Cx} {x : Str} {p pos : Pos} {e : Expr} {es : List Expr} {t : TA} {id T : String} {r : List V → Hp → VK → Prop}
def tCB (r : List V → Hp → VK → Prop) (t : TA) : TE := fun σ H Q => t σ H fun vs H1 => r vs H1 Q
theorem zm (hc : xa X (.builtin id) r) (hg : Gl X x) (hm : X.mg x = none) (hv : bootBuiltins x = some (.builtin id)) (ha : PA X (e :: es) t) (hn : x ≠ "__name__" := by decide) (hdb : (x == ("__debug__" : Str)) = false := by decide)
    (he : starEach (e :: es) X.env = (false,eval e X.env) :: starEach es X.env := by rfl) (hpl : (backTo pos (starEach es X.env)).any (·.1) = false := by rfl) : PE X (.Call (.Name x p) (e :: es) [] pos) (tCB r t) := by
  intro pins s σ H Q I h
  refine wpAny_Call_Name_kw (uG I hg hm hv ?_ hn hdb)
  exact PyProof.Rows.callWith_builtin1 (thn (ha pos pins s σ H _ I h) fun us s1 ⟨vs,H1,I1,r1,q1⟩ => hc pins s1 σ H1 vs us Q I1 r1 q1) he hpl
theorem zF (hc : xa X (.type T) r) (hg : Gl X x) (hm : X.mg x = none) (hv : bootBuiltins x = some (.type T)) (ha : PA X (e :: es) t) (hn : x ≠ "__name__" := by decide) (hdb : (x == ("__debug__" : Str)) = false := by decide)
    (he : starEach (e :: es) X.env = (false,eval e X.env) :: starEach es X.env := by rfl) (hpl : (backTo pos (starEach es X.env)).any (·.1) = false := by rfl) : PE X (.Call (.Name x p) (e :: es) [] pos) (tCB r t) := by
  intro pins s σ H Q I h
  refine wpAny_Call_Name_kw (uG I hg hm hv ?_ hn hdb)
  exact PyProof.Rows.callWith_type1 (thn (ha pos pins s σ H _ I h) fun us s1 ⟨vs,H1,I1,r1,q1⟩ => hc pins s1 σ H1 vs us Q I1 r1 q1) he hpl
end
end L2
namespace HT
open PySem PyProof.Rows
section
open PySem.SeqAt
open PySem.AutoSeq1 (wpAny_loadPart')
open PySem.MeetsSeq PySem.MeetsSeq2 PySem.MeetsSeq3
end
section
variable {prog : Program} {w : World} {A : Around} {E : Value → Shared → Prop} {s : Shared}
def sIx (n d : Nat) : Option Int → Nat
  | none => d
  | some v => if v < 0 then (v + (n : Int)).toNat else min v.toNat n
theorem sIx_none (n d : Nat) : sIx n d none = d := rfl
theorem sIx_nat (n d k : Nat) : sIx n d (some (k : Int)) = min k n := by
  show (if (k : Int) < 0 then ((k : Int) + (n : Int)).toNat else min (k : Int).toNat n) = min k n
  rw [if_neg (by omega),Int.toNat_natCast]
theorem FT (n d : Nat) (hd : d ≤ n) (o : Option Int) : sIx n d o ≤ n := by
  cases o with
  | none => exact hd
  | some v =>
    show (if v < 0 then (v + (n : Int)).toNat else min v.toNat n) ≤ n
    by_cases hv : v < 0
    · rw [if_pos hv]; omega
    · rw [if_neg hv]; exact Nat.min_le_right _ _
theorem Bh (v : Int) (n d : Nat) : (if v < 0 then max (v + (n : Int)) 0 else min v (n : Int)) = ((sIx n d (some v) : Nat) : Int) := by
  show (if v < 0 then max (v + (n : Int)) 0 else min v (n : Int)) = (((if v < 0 then (v + (n : Int)).toNat else min v.toNat n) : Nat) : Int)
  by_cases hv : v < 0
  · simp only [if_pos hv]; omega
  · simp only [if_neg hv]; omega
theorem Am (lo hi : Option Int) (n : Nat) : Builtin.Slice.sliceAdjust lo hi 1 (n : Int) = (((sIx n 0 lo : Nat) : Int),((sIx n n hi : Nat) : Int)) := by
  have h1 : ¬ ((1 : Int) < 0) := by omega
  unfold Builtin.Slice.sliceAdjust
  simp only [h1,if_false]
  refine Prod.ext ?_ ?_
  · cases lo with
    | none => rfl
    | some v => exact Bh v n 0
  · cases hi with
    | none => rfl
    | some v => exact Bh v n n
theorem Au (i j : Nat) : Builtin.Slice.slicePlaces (i : Int) (j : Int) 1 = j - i := by
  unfold Builtin.Slice.slicePlaces
  have h1 : (1 : Int) > 0 := by omega
  simp only [h1,if_true,Int.ediv_one]
  split <;> omega
theorem vj {v : Value} {o : Option Int} {Q : Option Int → Shared → Prop} (p : IsPart v o) (h : Q o s) : wpAny (model prog w) A (Builtin.Slice.slicePartIndex v) Q E s := by
  cases p with
  | none => exact slicePart_none h
  | int i t => exact slicePart_int h
theorem wn {sl : Addr} {vl vu : Value} {lo hi : Option Int} {n : Nat} {Q : Int × Int × Nat → Shared → Prop} (hs : s.heap.IsSliceOf sl vl vu .none) (pl : IsPart vl lo) (pu : IsPart vu hi)
    (h : Q (((sIx n 0 lo : Nat) : Int),1,sIx n n hi - sIx n 0 lo) s) : wpAny (model prog w) A (Builtin.Slice.sliceApplied (.ref sl) (pure (n : Int))) Q E s := by
  obtain ⟨os,hos,hcs,hds⟩ := id hs
  unfold Builtin.Slice.sliceApplied Builtin.Slice.sliceFields
  refine wpAny_bind (wpAny_bind (wpAny_field hos hds (x := vl) rfl (wpAny_bind (wpAny_field hos hds (x := vu) rfl (wpAny_bind (wpAny_field hos hds (x := .none) rfl (wpAny_pure ?_)))))))
  refine wpAny_bind (slicePart_none ?_)
  show wpAny _ _ (if ((1 : Int) == 0) = true then _ else _) _ _ s
  rw [if_neg (by decide)]
  refine wpAny_bind (vj pl (wpAny_bind (vj pu (wpAny_bind (wpAny_pure ?_)))))
  show wpAny _ _ (match Builtin.Slice.sliceAdjust lo hi 1 (n : Int) with | (lo,hi) => pure (lo,(1 : Int),Builtin.Slice.slicePlaces lo hi 1)) _ _ s
  rw [Am lo hi n]
  show wpAny _ _ (pure (((sIx n 0 lo : Nat) : Int),(1 : Int),Builtin.Slice.slicePlaces ((sIx n 0 lo : Nat) : Int) ((sIx n n hi : Nat) : Int) 1)) _ _ s
  rw [Au]
  exact wpAny_pure h
theorem CT (xs : Array Value) (i k : Nat) : ((List.range k).filterMap fun (m : Nat) => xs[((i : Int) + (m : Int) * 1).toNat]?).toArray = ((xs.toList.drop i).take k).toArray := by
  have e : (fun (m : Nat) => xs[((i : Int) + (m : Int) * 1).toNat]?) = fun m => xs[i + m]? := by
    funext m
    have : ((i : Int) + (m : Int) * 1).toNat = i + m := by omega
    rw [this]
  rw [e]
  have := pick_run xs i k
  rw [List.filterMap_map] at this
  have e2 : ((fun x => xs[x]?) ∘ fun x => i + x) = fun m => xs[i + m]? := rfl
  rw [e2] at this
  rw [this]
theorem getItem_tuple_cut {t sl : Addr} {items : Array Value} {vl vu : Value} {lo hi : Option Int} {Q : Value → Shared → Prop} (ht : IsTup s.heap t items) (hs : s.heap.IsSliceOf sl vl vu .none) (pl : IsPart vl lo) (pu : IsPart vu hi)
    (hw : ¬ (sIx items.size 0 lo = 0 ∧ sIx items.size items.size hi = items.size))
    (h : Q (.ref s.heap.objs.size) { s with heap := s.heap.push { cls := .type "tuple",data := .seq ((items.toList.drop (sIx items.size 0 lo)).take (sIx items.size items.size hi - sIx items.size 0 lo)).toArray } })
    (hsz : items.size ≤ sizeLine) : wpAny (model prog w) A (getItem (.ref t) (.ref sl)) Q E s := by
  have htake : sizeOk (.seq ((items.toList.drop (sIx items.size 0 lo)).take (sIx items.size items.size hi - sIx items.size 0 lo)).toArray) := by
    show ((items.toList.drop (sIx items.size 0 lo)).take (sIx items.size items.size hi - sIx items.size 0 lo)).toArray.size ≤ sizeLine
    rw [List.size_toArray,List.length_take,List.length_drop,Array.length_toList]
    omega
  have hj : sIx items.size items.size hi ≤ items.size := FT _ _ (Nat.le_refl _) hi
  obtain ⟨os,hos,hcs,hds⟩ := id hs
  have hTs : s.TypeIs (.ref sl) "slice" := ⟨os,hos,hcs⟩
  unfold getItem
  try with_reducible refine wpAny_holding ?_
  first | refine wpAny_bind (wpAny_pure ?_) | skip
  refine wpAny_bind (wpAny_sequenceKey ht.typeIs (by decide) ?_)
  refine wpAny_bind (wpAny_callSpecial?_slot (name := Str.ofString "__getitem__") ht.typeIs PyProof.Rows.slot_tuple_getitem
    (wpAny_call_entry PyProof.Rows.slot_tuple_getitem ht.typeIs entry_tuple_getitem ?_ (args_tuple_getitem _ _)))
  show wpAny _ _ (Builtin.Tuple.tupleItemsOf (.ref t) >>= _) _ _ s
  refine wpAny_bind (tupleItemsOf_ ht ?_)
  refine wpAny_bind (wpAny_typeOf hTs ?_)
  rw [if_pos (by decide)]
  refine wpAny_bind (wn hs pl pu ?_)
  have hno : ¬ ((((sIx items.size 0 lo : Nat) : Int) == 0 && (1 : Int) == 1 && (sIx items.size items.size hi - sIx items.size 0 lo) == items.size) = true) := by
    intro q
    rw [Bool.and_eq_true,Bool.and_eq_true] at q
    have q1 : ((sIx items.size 0 lo : Nat) : Int) = 0 := eq_of_beq q.1.1
    have q2 : sIx items.size items.size hi - sIx items.size 0 lo = items.size := eq_of_beq q.2
    exact hw ⟨by omega,by omega⟩
  show wpAny _ _ (if (((sIx items.size 0 lo : Nat) : Int) == 0 && (1 : Int) == 1 && (sIx items.size items.size hi - sIx items.size 0 lo) == items.size) = true then _ else _) _ _ s
  rw [if_neg hno,CT]
  first
    | exact wpAny_bind (m := Builtin.Tuple.tupleExact _) (wpAny_newObj_type (wpAny_pure ⟨_,rfl,wpAny_pure h⟩) htake)
    | exact wpAny_bind (m := Builtin.Tuple.tupleExact _) (wpAny_newObj_type (wpAny_bind (wpAny_pure (wpAny_pure ⟨_,rfl,wpAny_pure h⟩))) htake)
    | exact wpAny_bind (wpAny_bind (m := Builtin.Tuple.tupleExact _) (wpAny_newObj_type (wpAny_pure (wpAny_pure ⟨_,rfl,wpAny_pure h⟩)) htake))
    | exact wpAny_bind (wpAny_bind (m := Builtin.Tuple.tupleExact _) (wpAny_newObj_type (wpAny_pure ⟨_,rfl,wpAny_pure h⟩) htake))
end
end HT
namespace L2
open PySem PySem.Spec PyProof.Rows
abbrev TO := St → Hp → (Option Int → Hp → Prop) → Prop
def PO (X : Cx) (e : Option Expr) (t : TO) : Prop :=
  ∀ (pins : List (Addr × Obj)) (s : Shared) (σ : St) (H : Hp) (Q : Option Int → Hp → Prop),Inv X pins σ H s → t σ H Q →
    wpAny (model X.prog X.w) X.A (evalPart e X.env) (fun u s' => ∃ o H',Inv X pins σ H' s' ∧ IsPart u o ∧ Q o H') X.xe s
def BD : TO := fun _ H Q => Q none H
def EO (t : TE) : TO := fun σ H Q => t σ H fun x H1 => ∃ i,x = .int i ∧ Q (some i) H1
section
variable {X : Cx} {e : Expr} {te : TE} {lo hi : Option Expr} {tl th : TO} {pos p2 : Pos}
theorem vW : PO X none BD := by
  intro pins s σ H Q I h
  rw [evalPart_none]
  exact wpAny_pure ⟨none,H,I,.none,h⟩
theorem xY (h : PE X e te) : PO X (some e) (EO te) := by
  intro pins s σ H Q I hw
  rw [evalPart_some]
  refine thn (h pins s σ H _ I hw) fun u s1 ⟨x,H1,I1,r1,q1⟩ => ?_
  obtain ⟨i,rfl,q⟩ := q1
  obtain ⟨t,rfl⟩ := r1
  exact ⟨some i,H1,I1,.int i t,q⟩
def SlR (X : Cx) (r : V → Option Int → Option Int → Hp → VK → Prop) : Prop :=
  ∀ (pins : List (Addr × Obj)) (s : Shared) (σ : St) (H : Hp) (x : V) (v vl vu : Value) (lo hi : Option Int) (sl : Addr) (Q : VK),Inv X pins σ H s → RelV x v → s.heap.IsSliceOf sl vl vu .none → IsPart vl lo → IsPart vu hi → r x lo hi H Q →
    ∃ T id,typeLookup (.type T) "__getitem__" = pure (some (.builtin id)) ∧ s.TypeIs v T ∧ wpAny (model X.prog X.w) X.A (getItem v (.ref sl)) (EP X pins σ Q) X.xe s
def tSl (r : V → Option Int → Option Int → Hp → VK → Prop) (te : TE) (tl th : TO) : TE := fun σ H Q => te σ H fun x H1 => tl σ H1 fun l H2 => th σ H2 fun u H3 => r x l u H3 Q
theorem xK {r : V → Option Int → Option Int → Hp → VK → Prop} (hr : SlR X r) (he : PE X e te) (hl : PO X lo tl) (hu : PO X hi th) : PE X (.Subscript e (.Slice lo hi none p2) pos) (tSl r te tl th) := by
  intro pins s σ H Q I h
  refine Subscript_ (thn (he pins s σ H _ I h) fun v s1 ⟨x,H1,I1,r1,q1⟩ => ?_)
  refine wpAny_Slice (thn (hl pins s1 σ H1 _ I1 q1) fun vl s2 ⟨l,H2,I2,pl,q2⟩ => thn (hu pins s2 σ H2 _ I2 q2) fun vu s3 ⟨u,H3,I3,pu,q3⟩ => ?_)
  rw [evalPart_none]
  refine wpAny_pure ?_
  have I4 : Inv X pins σ H3 { s3 with heap := s3.heap.push { cls := .type "slice",data := .fields #[vl,vu,.none] } } := I3.kept (t' := s3.toks) fun b ob q => Heap.get?_push_of_some _ q
  obtain ⟨T,id,hT,ht,hg⟩ := hr pins { s3 with heap := s3.heap.push { cls := .type "slice",data := .fields #[vl,vu,.none] } } σ H3 x v vl vu l u s3.heap.objs.size Q I4 r1 (Heap.IsSliceOf.new ..) pl pu q3
  show wpAny (model X.prog X.w) X.A (subscriptTail e (.Slice lo hi none p2) v (.ref s3.heap.objs.size)) (EP X pins σ Q) X.xe { s3 with heap := s3.heap.push { cls := .type "slice",data := .fields #[vl,vu,.none] } }
  exact tail_any (ops := [.ref s3.heap.objs.size,v]) ht hT hg (by with_unfolding_all rfl)
def cutV (xs : List V) (lo hi : Option Int) : List V := (xs.drop (HT.sIx xs.length 0 lo)).take (HT.sIx xs.length xs.length hi - HT.sIx xs.length 0 lo)
theorem wA (xs : List V) (lo hi : Option Int) : (cutV xs lo hi).length ≤ xs.length := by
  unfold cutV
  rw [List.length_take,List.length_drop]
  omega
def rSlT (K : PySem.W.Frag) : V → Option Int → Option Int → Hp → VK → Prop := fun x lo hi H Q => ∃ a xs,x = .ref a ∧ SqT K H a xs ∧
  ¬ (HT.sIx xs.length 0 lo = 0 ∧ HT.sIx xs.length xs.length hi = xs.length) ∧ ∀ p,H p = none → Q (.ref p) (upd H p (.tup (cutV xs lo hi)))
theorem FV : SlR X (rSlT X.K) := by
  intro pins s σ H x v vl vu lo hi sl Q I rx hs pl pu h
  obtain ⟨a,xs,rfl,hx,hw,q⟩ := h
  cases rx
  obtain ⟨its,r,ht,hz⟩ := I.tuple hx
  have hlen : its.toArray.size = xs.length := by rw [List.size_toArray]; exact r.length.symm
  refine ⟨"tuple",_,PyProof.Rows.slot_tuple_getitem.lookup,ht.typeIs,?_⟩
  refine HT.getItem_tuple_cut ht hs pl pu (by rw [hlen]; exact hw) ?_ (by rw [hlen]; exact hz)
  rw [hlen]
  refine ⟨.ref s.heap.objs.size,_,I.laid (t' := s.toks) (o := .tup (cutV xs lo hi)) (fun b ob q => Heap.get?_push_of_some _ q) (Nat.le_refl _) ?_,rfl,q _ (I.hok.fresh (Nat.le_refl _))⟩
  exact ⟨Nat.le_trans (wA xs lo hi) hz,_,(r.drop (HT.sIx xs.length 0 lo)).take (HT.sIx xs.length xs.length hi - HT.sIx xs.length 0 lo),IsTup.new _ _⟩
end
end L2
namespace L2
open PySem PySem.Spec PyProof.Rows
def ixN (n : Nat) (i : Int) : Option Nat := if 0 ≤ i then (if i < n then some i.toNat else none) else if -(n : Int) ≤ i then some (i + n).toNat else none
def atI {α : Type} (xs : List α) (i : Int) : Option α := (ixN xs.length i).bind fun j => xs[j]?
theorem Ec {n : Nat} {i : Int} {j : Nat} (h : ixN n i = some j) : seqIndex? i n = some j ∧ j < n ∧ -(n : Int) ≤ i ∧ i < n := by
  unfold ixN at h
  by_cases h0 : 0 ≤ i
  · rw [if_pos h0] at h
    by_cases h1 : i < n
    · rw [if_pos h1] at h
      have e : i.toNat = j := Option.some.inj h
      exact ⟨by rw [seqIndex_of h0 h1,e],by omega,by omega,h1⟩
    · rw [if_neg h1] at h; cases h
  · rw [if_neg h0] at h
    by_cases h1 : -(n : Int) ≤ i
    · rw [if_pos h1] at h
      have e : (i + n).toNat = j := Option.some.inj h
      exact ⟨by rw [seqIndex_neg (by omega) h1,e],by omega,h1,by omega⟩
    · rw [if_neg h1] at h; cases h
theorem AX {α : Type} {xs : List α} {i : Int} {v : α} (h : atI xs i = some v) : ∃ j,seqIndex? i xs.length = some j ∧ xs[j]? = some v ∧ j < xs.length ∧ -(xs.length : Int) ≤ i ∧ i < xs.length := by
  unfold atI at h
  cases e : ixN xs.length i with
  | none => rw [e] at h; cases h
  | some j =>
    rw [e] at h
    obtain ⟨h1,h2,h3,h4⟩ := Ec e
    exact ⟨j,h1,h,h2,h3,h4⟩
theorem zL {α : Type} {xs : List α} {j : Nat} {v : α} (h : xs[j]? = some v) : atI xs (j : Int) = some v := by
  have hj : j < xs.length := (List.getElem?_eq_some_iff.mp h).1
  have e : ixN xs.length (j : Int) = some j := by
    unfold ixN
    rw [if_pos (by omega),if_pos (by omega)]; simp
  unfold atI; rw [e]; exact h
theorem C5 {α : Type} (xs : List α) (v : α) : atI (xs ++ [v]) (-1) = some v := by
  have hl : (xs ++ [v]).length = xs.length + 1 := by simp
  have e : ixN (xs ++ [v]).length (-1) = some xs.length := by
    unfold ixN
    rw [hl,if_neg (by decide),if_pos (by omega)]
    congr 1
    omega
  unfold atI
  rw [e]
  show (xs ++ [v])[xs.length]? = some v
  simp
def DX (b : Expr) : Prop := ∀ o i,subscripted b false o i = operate [o,i] (getItem o i)
def IxR (X : Cx) (r : R2) : Prop :=
  ∀ (value slice : Expr) (pins : List (Addr × Obj)) (s : Shared) (σ : St) (H : Hp) (x y : V) (v u : Value) (Q : VK),Inv X pins σ H s → RelV x v → RelV y u → r x y H Q →
    subscripted slice false v u = operate [v,u] (getItem v u) → wpAny (model X.prog X.w) X.A (subscriptTail value slice v u) (EP X pins σ Q) X.xe s
def MtR (X : Cx) (id : String) (r : V → List V → Hp → VK → Prop) : Prop :=
  ∀ (pins : List (Addr × Obj)) (s : Shared) (σ : St) (H : Hp) (x : V) (xs : List V) (v : Value) (us : List Value) (Q : VK),Inv X pins σ H s → RelV x v → Vals xs us → r x xs H Q →
    wpAny (model X.prog X.w) X.A (call (.builtin id) (v :: us)) (EP X pins σ Q) X.xe s
section
variable {X : Cx} {a b : Expr} {ta tb : TE} {pos : Pos}
theorem zg {r : R2} (hr : IxR X r) (ha : PE X a ta) (hb : PE X b tb) (hs : DX b) : PE X (.Subscript a b pos) (tOp r ta tb) := by
  intro pins s σ H Q I h
  exact Subscript_ (binT ha hb I h fun v u s2 x y H2 I2 rx ry q => hr a b pins s2 σ H2 x y v u Q I2 rx ry q (hs _ _))
def rIxL (K : PySem.W.Frag) : R2 := fun x y H Q => ∃ p xs i v,x = .ref p ∧ y = .int i ∧ SqL K H p xs ∧ atI xs i = some v ∧ Q v H
def rIxT (K : PySem.W.Frag) : R2 := fun x y H Q => ∃ p xs i v,x = .ref p ∧ y = .int i ∧ SqT K H p xs ∧ atI xs i = some v ∧ Q v H
theorem zo : IxR X (rIxL X.K) := by
  intro value slice pins s σ H x y v u Q I rx ry h hs
  obtain ⟨p,xs,i,z,rfl,rfl,hq,he,q⟩ := h
  cases rx
  obtain ⟨t,rfl⟩ := ry
  obtain ⟨its,r,pl,hz⟩ := I.list hq
  obtain ⟨j,h1,h2,h3,h4,h5⟩ := AX he
  obtain ⟨w,ew,rw'⟩ := r.get h2
  have hl := r.length
  have hn := BO
  have fin : EP X pins σ Q w s := ⟨z,H,I,rw',q⟩
  by_cases h0 : 0 ≤ i
  · have hj : i.toNat = j := by
      rw [seqIndex_of h0 h5] at h1
      exact Option.some.inj h1
    exact item_listR pl.isList h0 (by omega) (by rw [hj]; simpa using ew) fin hs
  · have hj : (i + (its.toArray.size : Int)).toNat = j := by
      rw [seqIndex_neg (by omega) h4] at h1
      rw [List.size_toArray,← hl]
      exact Option.some.inj h1
    exact subscriptTail_builtinR (x := w) pl.isList.typeIs slot_list_getitem.lookup
      (wpAny_getItem_list_neg (Q := fun r s' => r = w ∧ EP X pins σ Q r s') pl.isList (by omega) (by rw [List.size_toArray] <;> omega) (by omega) (by rw [hj]; simpa using ew) ⟨rfl,fin⟩) hs
theorem zh : IxR X (rIxT X.K) := by
  intro value slice pins s σ H x y v u Q I rx ry h hs
  obtain ⟨p,xs,i,z,rfl,rfl,hq,he,q⟩ := h
  cases rx
  obtain ⟨t,rfl⟩ := ry
  obtain ⟨its,r,pl,hz⟩ := I.tuple hq
  obtain ⟨j,h1,h2,h3,h4,h5⟩ := AX he
  obtain ⟨w,ew,rw'⟩ := r.get h2
  have hl := r.length
  have hn := BO
  have fin : EP X pins σ Q w s := ⟨z,H,I,rw',q⟩
  exact subscriptTail_builtinR (x := w) pl.typeIs slot_tuple_getitem.lookup
    (getItem_tuple (j := j) (Q := fun r s' => r = w ∧ EP X pins σ Q r s') pl (by omega) (by omega) (by rw [List.size_toArray,← hl]; exact h1) (by simpa using ew) ⟨rfl,fin⟩) hs
theorem uM (lo hi : Option Int) (n : Nat) : (sliceBounds lo hi none n).1 = ((HT.sIx n 0 lo : Nat) : Int) ∧ (sliceBounds lo hi none n).2.1 = ((HT.sIx n n hi : Nat) : Int) ∧ (sliceBounds lo hi none n).2.2 = 1 := by
  refine ⟨?_,?_,rfl⟩
  · cases lo with
    | none => simp [sliceBounds,HT.sIx]
    | some i =>
      simp only [sliceBounds,HT.sIx,Option.getD_none,show (1 : Int) > 0 by decide,if_true]
      by_cases h : i < 0
      · simp only [h,if_true] <;> omega
      · simp only [h,if_false] <;> omega
  · cases hi with
    | none => simp [sliceBounds,HT.sIx]
    | some i =>
      simp only [sliceBounds,HT.sIx,Option.getD_none,show (1 : Int) > 0 by decide,if_true]
      by_cases h : i < 0
      · simp only [h,if_true] <;> omega
      · simp only [h,if_false] <;> omega
theorem vJ (its : List Value) (lo hi : Option Int) : slicePick its.toArray lo hi none = ((its.drop (HT.sIx its.length 0 lo)).take (HT.sIx its.length its.length hi - HT.sIx its.length 0 lo)).toArray := by
  obtain ⟨h1,h2,h3⟩ := uM lo hi its.toArray.size
  unfold slicePick
  rw [h1,h2,h3]
  simp only [sliceRange_one,pick_run,List.size_toArray] <;> rfl
def rSlL (K : PySem.W.Frag) : V → Option Int → Option Int → Hp → VK → Prop := fun x lo hi H Q => ∃ a xs,x = .ref a ∧ SqL K H a xs ∧ ∀ p,H p = none → Q (.ref p) (upd H p (.lst (cutV xs lo hi)))
theorem v7 : SlR X (rSlL X.K) := by
  intro pins s σ H x v vl vu lo hi sl Q I rx hs pl pu h
  obtain ⟨a,xs,rfl,hx,q⟩ := h
  cases rx
  obtain ⟨its,r,ht,hz⟩ := I.list hx
  have hlen := r.length
  refine ⟨"list",_,slot_list_getitem.lookup,ht.isList.typeIs,?_⟩
  refine wpAny_getItem_list_slice ht.isList hs pl pu .none (by simp) ?_ (by rw [List.size_toArray] <;> omega)
  rw [vJ,← hlen]
  refine ⟨.ref s.heap.objs.size,_,I.laid (t' := s.toks) (o := .lst (cutV xs lo hi)) (fun b ob q => Heap.get?_push_of_some _ q) (Nat.le_refl _) ?_,rfl,q _ (I.hok.fresh (Nat.le_refl _))⟩
  exact ⟨Nat.le_trans (wA xs lo hi) hz,_,0,(r.drop (HT.sIx xs.length 0 lo)).take (HT.sIx xs.length xs.length hi - HT.sIx xs.length 0 lo),Heap.get?_push_size _ rfl⟩
def xz : V → Bool
  | .non => true
  | .bl _ => true
  | .int _ => true
  | .str _ => true
  | _ => false
def eqV : V → V → Bool
  | .non,.non => true
  | .bl a,.bl b => a == b
  | .bl a,.int b => (if a then 1 else 0) == b
  | .int a,.bl b => a == (if b then 1 else 0)
  | .int a,.int b => a == b
  | .str a,.str b => a == b
  | _,_ => false
theorem EZ {A : Around} {s : Shared} {y x : V} {u v : Value} (ry : RelV y u) (rx : RelV x v) (fy : xz y = true) (fx : xz x = true) : SeqAt.EqAt A s u v (eqV y x) := by
  cases y with
  | non =>
    cases ry
    cases x with
    | non => cases rx; exact SeqAt.EqAt.same _
    | bl b => cases rx; exact SeqAt.EqAt.none_bool b
    | int b => obtain ⟨t,rfl⟩ := rx; exact SeqAt.EqAt.none_int b t
    | str b => obtain ⟨t,rfl⟩ := rx; exact SeqAt.EqAt.none_str b t
    | _ => exact absurd (show false = true from fx) Bool.false_ne_true
  | bl a =>
    cases ry
    cases x with
    | non => cases rx; exact SeqAt.EqAt.bool_none a
    | bl b => cases rx; exact SeqAt.EqAt.bool_bool a b
    | int b => obtain ⟨t,rfl⟩ := rx; exact SeqAt.EqAt.bool_int a b t
    | str b => obtain ⟨t,rfl⟩ := rx; exact SeqAt.EqAt.bool_str a b t
    | _ => exact absurd (show false = true from fx) Bool.false_ne_true
  | int a =>
    obtain ⟨t',rfl⟩ := ry
    cases x with
    | non => cases rx; exact SeqAt.EqAt.int_none a t'
    | bl b => cases rx; exact SeqAt.EqAt.int_bool a t' b
    | int b => obtain ⟨t,rfl⟩ := rx; exact SeqAt.EqAt.int_int a t' b t
    | str b => obtain ⟨t,rfl⟩ := rx; exact SeqAt.EqAt.int_str a t' b t
    | _ => exact absurd (show false = true from fx) Bool.false_ne_true
  | str a =>
    obtain ⟨t',rfl⟩ := ry
    cases x with
    | non => cases rx; exact SeqAt.EqAt.str_none a t'
    | bl b => cases rx; exact SeqAt.EqAt.str_bool a t' b
    | int b => obtain ⟨t,rfl⟩ := rx; exact SeqAt.EqAt.str_int a t' b t
    | str b => obtain ⟨t,rfl⟩ := rx; exact SeqAt.EqAt.str_str a t' b t
    | _ => exact absurd (show false = true from fx) Bool.false_ne_true
  | _ => exact absurd (show false = true from fy) Bool.false_ne_true
def eqU (x : V) (u : Value) : Bool := match u with
  | .none => eqV .non x
  | .bool b => eqV (.bl b) x
  | .int i _ => eqV (.int i) x
  | .str z _ => eqV (.str z) x
  | _ => false
theorem Di {x y : V} {u : Value} (r : RelV y u) (f : xz y = true) : eqU x u = eqV y x := by
  cases y with
  | non => cases r; rfl
  | bl b => cases r; rfl
  | int i => obtain ⟨t,rfl⟩ := r; rfl
  | str z => obtain ⟨t,rfl⟩ := r; rfl
  | _ => exact absurd (show false = true from f) Bool.false_ne_true
theorem ww {x : V} : ∀ {xs : List V} {us : List Value},Vals xs us → xs.all xz = true → us.any (eqU x) = xs.any fun y => eqV y x
  | _,_,.nil,_ => rfl
  | y :: xs,u :: us,.cons r t,f => by
    rw [List.all_cons,Bool.and_eq_true] at f
    rw [List.any_cons,List.any_cons,Di r f.1,ww t f.2]
theorem xO {A : Around} {s : Shared} {x : V} {v : Value} (rx : RelV x v) (fx : xz x = true) : ∀ {xs : List V} {us : List Value},Vals xs us → xs.all xz = true → ∀ u ∈ us,SeqAt.EqAt A s u v (eqU x u)
  | _,_,.nil,_ => fun u hu => by cases hu
  | y :: xs,u :: us,.cons r t,f => fun u' hu => by
    rw [List.all_cons,Bool.and_eq_true] at f
    rcases List.mem_cons.mp hu with rfl | hu
    · rw [Di r f.1]; exact EZ r rx f.1 fx
    · exact xO rx fx t f.2 u' hu
def inV (x : V) (xs : List V) : Bool := xs.any fun y => eqV y x
def rIn (K : PySem.W.Frag) (neg : Bool) : R2 := fun x y H Q => ∃ p xs,y = .ref p ∧ (SqL K H p xs ∨ SqT K H p xs) ∧ xz x = true ∧ xs.all xz = true ∧ Q (.bl (if neg then !inV x xs else inV x xs)) H
theorem xh : OpR X (compareOp .In) (rIn X.K false) := by
  intro pins s σ H x y v u Q I rx ry h
  obtain ⟨p,xs,rfl,hq,fx,fs,q⟩ := h
  cases ry
  rcases hq with hq | hq
  · obtain ⟨its,r,pl,hz⟩ := I.list hq
    refine SeqAt.in_listAt (eqU x) pl.isList (fun w hw => xO rx fx r fs w (by simpa using hw)) ⟨.bl _,H,I,rfl,?_⟩
    rw [show its.toArray.any (eqU x) = its.any (eqU x) by simp,ww r fs]
    exact q
  · obtain ⟨its,r,pl,hz⟩ := I.tuple hq
    refine SeqAt.in_tupleAt (eqU x) pl (fun w hw => xO rx fx r fs w (by simpa using hw)) ⟨.bl _,H,I,rfl,?_⟩
    rw [show its.toArray.any (eqU x) = its.any (eqU x) by simp,ww r fs]
    exact q
theorem uu : OpR X (compareOp .NotIn) (rIn X.K true) := by
  intro pins s σ H x y v u Q I rx ry h
  obtain ⟨p,xs,rfl,hq,fx,fs,q⟩ := h
  cases ry
  rcases hq with hq | hq
  · obtain ⟨its,r,pl,hz⟩ := I.list hq
    refine SeqAt.notIn_listAt (eqU x) pl.isList (fun w hw => xO rx fx r fs w (by simpa using hw)) ⟨.bl _,H,I,rfl,?_⟩
    rw [show its.toArray.any (eqU x) = its.any (eqU x) by simp,ww r fs]
    exact q
  · obtain ⟨its,r,pl,hz⟩ := I.tuple hq
    refine SeqAt.notIn_tupleAt (eqU x) pl (fun w hw => xO rx fx r fs w (by simpa using hw)) ⟨.bl _,H,I,rfl,?_⟩
    rw [show its.toArray.any (eqU x) = its.any (eqU x) by simp,ww r fs]
    exact q
theorem uJ : xa X (.builtin "len") (fun xs H Q => ∃ p ys,xs = [.ref p] ∧ (SqL X.K H p ys ∨ SqT X.K H p ys) ∧ Q (.int ys.length) H) := by
  intro pins s σ H xs us Q I r h
  obtain ⟨p,ys,rfl,hq,q⟩ := h
  obtain ⟨u,rfl,rx⟩ := Ap r
  cases rx
  have hn := BO
  rcases hq with hq | hq
  · obtain ⟨its,r',pl,hz⟩ := I.list hq
    have hlen := r'.length
    exact Calls.call_len_list pl.isList (by simp only [List.size_toArray] <;> omega) ⟨.int ys.length,H,I.tok _,⟨s.toks + 1,by rw [List.size_toArray,hlen]⟩,q⟩
  · obtain ⟨its,r',pl,hz⟩ := I.tuple hq
    have hlen := r'.length
    exact len_tuple pl (by simp only [List.size_toArray] <;> omega) ⟨.int ys.length,H,I.tok _,⟨s.toks + 1,by rw [List.size_toArray,hlen]⟩,q⟩
theorem ul : xa X (.type "list") (fun xs H Q => ∃ p ys,xs = [.ref p] ∧ (SqL X.K H p ys ∨ SqT X.K H p ys) ∧ ∀ l,H l = none → Q (.ref l) (upd H l (.lst ys))) := by
  intro pins s σ H xs us Q I r h
  obtain ⟨p,ys,rfl,hq,q⟩ := h
  obtain ⟨u,rfl,rx⟩ := Ap r
  cases rx
  have fin : ∀ (its : List Value),Vals ys its → ys.length ≤ sizeLine → ∀ (h' : Heap) (c' : Nat),(∀ b o',s.heap.get? b = some o' → h'.get? b = some o') →
      h'.get? s.heap.objs.size = some { cls := .type "list",dict := none,data := .seq its.toArray c',slots := #[] } → EP X pins σ Q (.ref s.heap.objs.size) { s with heap := h' } := fun its r' hz h' c' kp e =>
    ⟨.ref s.heap.objs.size,_,I.laid (t' := s.toks) kp (Nat.le_refl _) (show ObjOk X.prog X.w _ h' _ (.lst ys) from ⟨hz,its,c',r',e⟩),rfl,q _ (I.hok.fresh (Nat.le_refl _))⟩
  rcases hq with hq | hq
  · obtain ⟨its,r',pl,hz⟩ := I.list hq
    have hlen := r'.length
    obtain ⟨o,ho,hc,n,hd⟩ := pl.isList
    exact call_list_seq p (.inl rfl) ho hc hd (fun h' c' kp e => fin its r' hz h' c' kp e) (by simp only [List.size_toArray] <;> omega)
  · obtain ⟨its,r',pl,hz⟩ := I.tuple hq
    have hlen := r'.length
    obtain ⟨o,ho,hc,n,hd⟩ := pl
    exact call_list_seq p (.inr rfl) ho hc hd (fun h' c' kp e => fin its r' hz h' c' kp e) (by simp only [List.size_toArray] <;> omega)
def tyV (K : PySem.W.Frag) (T : String) (x : V) (H : Hp) : Prop := match x with
  | .str _ => T = "str"
  | .int _ => T = "int"
  | .ref p => (T = "list" ∧ ∃ xs,SqL K H p xs) ∨ (T = "tuple" ∧ ∃ o,K.lookup p = some o ∧ o.cls = .type "tuple" ∧ o.dict = none) ∨
      (T = "dict" ∧ ((∃ kvs,H p = some (.dK kvs)) ∨ ∃ kvs,H p = some (.dT kvs))) ∨ (T = "set" ∧ ∃ S n,H p = some (.set S n))
  | _ => False
theorem DD {pins : List (Addr × Obj)} {σ : St} {H : Hp} {s : Shared} {T : String} {x : V} {v : Value} (I : Inv X pins σ H s) (r : RelV x v) (ty : tyV X.K T x H) :
    s.TypeIs v T ∧ ∀ a,v = .ref a → ∃ ob,s.heap.get? a = some ob ∧ ob.dict = none := by
  cases x with
  | str z =>
    obtain ⟨t,rfl⟩ := r
    cases (show T = "str" from ty)
    exact ⟨typeIs_str s z t,fun _ e => nomatch e⟩
  | int i =>
    obtain ⟨t,rfl⟩ := r
    cases (show T = "int" from ty)
    exact ⟨typeIs_int s i t,fun _ e => nomatch e⟩
  | ref p =>
    cases r
    rcases ty with ⟨rfl,xs,hq⟩ | ⟨rfl,o,hk,hc,hd⟩ | ⟨rfl,hk⟩ | ⟨rfl,S,n,hk⟩
    · obtain ⟨its,_,pl,_⟩ := I.list hq
      refine ⟨pl.isList.typeIs,fun a e => ?_⟩
      cases e
      obtain ⟨o,n,e,c,hd,_⟩ := pl
      exact ⟨o,e,hd⟩
    · refine ⟨⟨o,I.kIn p o hk,hc⟩,fun a e => ?_⟩
      cases e
      exact ⟨o,I.kIn _ o hk,hd⟩
    · have z : ∃ o,s.heap.get? p = some o ∧ o.ExactDict := by
        rcases hk with ⟨kvs,hk⟩ | ⟨kvs,hk⟩
        · obtain ⟨_,_,_,_,o,_,_,e,ex,_⟩ := I.hok p _ hk
          exact ⟨o,e,ex⟩
        · obtain ⟨_,_,_,_,o,_,_,e,ex,_⟩ := I.hok p _ hk
          exact ⟨o,e,ex⟩
      obtain ⟨o,e,ex⟩ := z
      refine ⟨⟨o,e,ex.1⟩,fun a e2 => ?_⟩
      cases e2
      exact ⟨o,e,ex.2.1⟩
    · obtain ⟨o,_,_,_,e,ex,_⟩ := I.hok p _ hk
      refine ⟨⟨o,e,ex.1⟩,fun a e2 => ?_⟩
      cases e2
      exact ⟨o,e,ex.2.1⟩
  | _ => exact False.elim ty
def tBM0 (K : PySem.W.Frag) (T : String) (r : V → List V → Hp → VK → Prop) (to : TE) : TE := fun σ H Q => to σ H fun x H1 => tyV K T x H1 ∧ r x [] H1 Q
def tBM (K : PySem.W.Frag) (T : String) (r : V → List V → Hp → VK → Prop) (to : TE) (t : TA) : TE := fun σ H Q => to σ H fun x H1 => tyV K T x H1 ∧ t σ H1 fun xs H2 => r x xs H2 Q
variable {o e : Expr} {es : List Expr} {to : TE} {t : TA} {name : Str} {apos cpos : Pos} {T id : String} {r : V → List V → Hp → VK → Prop}
theorem EJ (pa : PlainAttrs T) (slot : Slot T name id) (hty : typeOf (.builtin id) = pure (.type "method_descriptor")) (hm : MtR X id r) (ho : PE X o to)
    (hbase : attributeBase o name X.env (eval o X.env) = eval o X.env := by rfl) (hline : (apos.endLine == cpos.line) = true := by rfl) : PE X (.Call (.Attribute o name apos) [] [] cpos) (tBM0 X.K T r to) := by
  intro pins s σ H Q I h
  refine wpAny_Call_method0_late hbase hline (thn (ho pins s σ H _ I h) fun v s1 ⟨x,H1,I1,r1,ty,q1⟩ => ?_)
  obtain ⟨h1,h2⟩ := DD I1 r1 ty
  exact ⟨T,id,pa,slot,hty,h1,h2,Calls.callWith_builtin rfl (PySem.evalArgs_none (hm pins s1 σ H1 x [] v [] Q I1 r1 .nil q1))⟩
theorem vF (pa : PlainAttrs T) (slot : Slot T name id) (hty : typeOf (.builtin id) = pure (.type "method_descriptor")) (hm : MtR X id r) (ho : PE X o to) (ha : PA X (e :: es) t)
    (hbase : attributeBase o name X.env (eval o X.env) = eval o X.env := by rfl)
    (hfew : ((backTo cpos (starEach (e :: es) X.env)).all (fun x => !x.1) && (backToKw cpos (keywordEach [] X.env)).all (fun x => x.1.isSome)
      && decide ((e :: es).length + ([] : List Keyword).length + (if ([] : List Keyword).isEmpty then 0 else 1) < 30)) = true := by rfl)
    (hline : (apos.endLine == cpos.line) = true := by rfl) (hs : starEach (e :: es) X.env = (false,eval e X.env) :: starEach es X.env := by rfl) (hplain : (backTo cpos (starEach es X.env)).any (·.1) = false := by rfl) :
    PE X (.Call (.Attribute o name apos) (e :: es) [] cpos) (tBM X.K T r to t) := by
  intro pins s σ H Q I h
  refine wpAny_Call_method_late hbase hfew hline rfl (thn (ho pins s σ H _ I h) fun v s1 ⟨x,H1,I1,r1,ty,q1⟩ => ?_)
  obtain ⟨h1,h2⟩ := DD I1 r1 ty
  refine ⟨T,id,pa,slot,hty,h1,h2,?_⟩
  have hA := ha cpos pins s1 σ H1 _ I1 q1
  rw [hs] at hA ⊢
  refine Calls.callWith_builtin (by show (false || (backTo cpos (starEach es X.env)).any (·.1)) = false; rw [hplain] <;> rfl) (Calls.evalArgs_plain ?_)
  exact thn hA fun us s2 ⟨vs,H2,I2,r2,q2⟩ => hm pins s2 σ H2 x vs v us Q I2 r1 r2 q2
end
end L2
namespace L2
open PySem PySem.Spec PyProof.Rows
def MtM (X : Cx) (id : String) (r : V → List V → Hp → VK → Prop) : Prop :=
  ∀ (pins : List (Addr × Obj)) (s : Shared) (σ : St) (H : Hp) (x : V) (xs : List V) (v : Value) (us : List Value) (Q : VK),Inv X pins σ H s → RelV x v → Vals xs us → r x xs H Q →
    wpAny (model X.prog X.w) X.A (call (.builtin id) (v :: us)) (EP X pins σ Q) X.xe s
theorem Vals.one : ∀ {x : V} {us : List Value},Vals [x] us → ∃ u,us = [u] ∧ RelV x u
  | _,_,.cons r .nil => ⟨_,rfl,r⟩
theorem Vals.two : ∀ {x y : V} {us : List Value},Vals [x,y] us → ∃ u v,us = [u,v] ∧ RelV x u ∧ RelV y v
  | _,_,_,.cons r (.cons q .nil) => ⟨_,_,rfl,r,q⟩
theorem Vals.zero : ∀ {us : List Value},Vals [] us → us = []
  | _,.nil => rfl
section
variable {X : Cx} {pins : List (Addr × Obj)} {σ : St} {H : Hp} {s : Shared} {l b : Addr} {xs ys zs : List V}
theorem Inv.lset {its its' : List Value} {n : Nat} {f : Array Value → Array Value} {t' : Nat} (I : Inv X pins σ H s) (hH : H l = some (.lst xs))
    (e : s.heap.get? l = some { cls := .type "list",data := .seq its.toArray n }) (hf : f its.toArray = its'.toArray) (hv : Vals ys its') (hz : ys.length ≤ sizeLine) :
    Inv X pins σ (upd H l (.lst ys)) { s with heap := s.heap.update l (Obj.mapSeq f),toks := t' } := by
  have q := PySem.IsL.update e f
  rw [hf] at q
  refine I.write (x := l) (e := l) (by rw [hH]; exact trivial) (.inl rfl) (fun b' u hb hu => (Heap.get?_update_other s.heap (Obj.mapSeq f) (Ne.symm hb)).trans hu) ⟨_,q⟩ ?_
  exact ⟨hz,its',_,hv,q⟩
theorem Inv.lnew {its : List Value} {t' : Nat} (I : Inv X pins σ H s) (hv : Vals ys its) (hz : ys.length ≤ sizeLine) :
    Inv X pins σ (upd H s.heap.objs.size (.lst ys)) { s with heap := s.heap.push { cls := .type "list",data := .seq its.toArray },toks := t' } :=
  I.laid (fun _ _ q => Heap.get?_push_of_some _ q) (Nat.le_refl _) ⟨hz,its,0,hv,Heap.get?_push_size _ rfl⟩
theorem Inv.fresh (I : Inv X pins σ H s) : H s.heap.objs.size = none := I.hok.fresh (Nat.le_refl _)
theorem Inv.lstM (I : Inv X pins σ H s) (hH : H l = some (.lst xs)) : xs.length ≤ sizeLine ∧ ∃ (its : List Value) (n : Nat),Vals xs its ∧ xs.length = its.length ∧ s.heap.get? l = some { cls := .type "list",data := .seq its.toArray n } := by
  obtain ⟨z,its,n,r,e⟩ := I.hok l _ hH
  exact ⟨z,its,n,r,r.length,e⟩
end
section
variable {X : Cx}
def zZ : V → List V → Hp → VK → Prop := fun x vs H Q => ∃ l xs y,x = .ref l ∧ vs = [y] ∧ H l = some (.lst xs) ∧ xs.length < sizeLine ∧ Q .non (upd H l (.lst (xs ++ [y])))
theorem z6 : MtM X "list.append" zZ := by
  intro pins s σ H x vs v us Q I rx rv h
  obtain ⟨l,xs,y,rfl,rfl,hH,hz,q⟩ := h
  cases rx
  obtain ⟨u,rfl,ru⟩ := rv.one
  obtain ⟨z,its,n,r,hl,e⟩ := I.lstM hH
  refine call_meets F.slot_list_append ⟨_,e,rfl⟩ F.entry_list_append (F.args_list_append_2 _ _) (PySem.list_append l its.toArray n u (by rw [List.size_toArray]; omega)) ⟨e,?_⟩
  refine ⟨.non,_,I.lset (its' := its ++ [u]) hH e (by simp) (r.append (.cons ru .nil)) ?_,rfl,q⟩
  rw [List.length_append,List.length_singleton]
  omega
def rCat : R2 := fun x y H Q => ∃ l b xs zs,x = .ref l ∧ y = .ref b ∧ H l = some (.lst xs) ∧ H b = some (.lst zs) ∧ xs.length + zs.length ≤ sizeLine ∧ ∀ p,H p = none → Q (.ref p) (upd H p (.lst (xs ++ zs)))
theorem B3 : OpR X (binaryOp .Add) rCat := by
  intro pins s σ H x y v u Q I rx ry h
  obtain ⟨l,b,xs,zs,rfl,rfl,hH,hB,hz,q⟩ := h
  cases rx
  cases ry
  obtain ⟨z,its,n,r,hl,e⟩ := I.lstM hH
  obtain ⟨z2,its2,n2,r2,hl2,e2⟩ := I.lstM hB
  refine PySem.P.add_list e e2 ?_ (by rw [List.size_toArray,List.size_toArray]; omega)
  have ea : its.toArray ++ its2.toArray = (its ++ its2).toArray := by simp
  rw [ea]
  exact ⟨.ref _,_,I.lnew (t' := s.toks) (r.append r2) (by rw [List.length_append]; omega),rfl,q _ I.fresh⟩
end
section
variable {prog : Program} {w : World} {A : Around} {E : Value → Shared → Prop} {s : Shared}
end
section
variable {X : Cx}
end
end L2
namespace Att
open PySem PySem.W PySem.Calls PyProof.Rows
theorem wt {P : Params} {h : Heap} : ∀ (ns : List Int) (vs : List Value),WellAll P h vs (ns.map WData.int) → IntsAre vs ns := by
  intro ns
  induction ns with
  | nil =>
    intro vs w
    rw [List.map_nil] at w
    cases w
    exact .nil
  | cons n ns ih =>
    intro vs w
    rw [List.map_cons] at w
    cases w with
    | cons a b =>
      cases a
      exact .cons _ _ (ih _ b)
theorem BH {l : OpenLaw} {n : Nat} (hn : l.most = some n) {P : Params} {h : Heap} {args : List WData} {vals : List Value}
    (hpre : l.row.toRowW.claim.pre args = true) (hwl : WellAll P h vals args) :
    ∃ a vs ns,vals = [Value.ref a] ∧ args = [WData.list (ns.map WData.int)] ∧ h.get? a = some { cls := .type "list",data := .seq vs.toArray } ∧ IntsAre vs ns ∧ ns.length ≤ n := by
  have hsh : WShape.hasAll [] args [.list .int] = true := (pre_splitW hpre).1
  have hc : l.pre.holds [] { args := args } = true := (pre_splitW hpre).2
  obtain ⟨d,r,rfl,h1,h2⟩ := hasAllW_cons hsh
  obtain rfl := hasAllW_nil h2
  obtain ⟨xs,rfl,h3⟩ := hasW_list h1
  obtain ⟨ns,rfl⟩ := items_int h3
  have hlen : ns.length ≤ n := by
    unfold OpenLaw.pre at hc
    have h4 : (WTm.not (.lt (.lit (.int (n : Int))) (.len (.arg 0)))).holds [] { args := [.list (ns.map .int)] } = true := by
      have h4 := (holds_andW hc).1
      rw [hn] at h4
      exact h4
    have h5 := condW_of h4 (w_not (w_lt w_lit (w_len_list (w_arg rfl))))
    rw [List.length_map] at h5
    refine Nat.le_of_not_lt fun q => ?_
    have q' : (n : Int) < ((ns.length : Nat) : Int) := by omega
    first
      | (rw [decide_eq_true q'] at h5; exact absurd h5 (by decide))
      | (simp at h5; omega)
  cases hwl with
  | cons w1 w2 =>
    cases w2
    cases w1 with
    | list ho hall => exact ⟨_,_,ns,rfl,rfl,ho,wt ns _ hall,hlen⟩
theorem AR (l : OpenLaw) (args : List WData) : l.row.toRowW.claim.post args (.bool true) args = true :=
  postW_of (r := l.row.toRowW) (X := (true == true))
    (show WShape.has [] (.bool true) .bool = true by first | rfl | decide | simp [WShape.has,WShape.arms,WShape.armsAll])
    (show (WTm.eq .res (.lit (.bool true))).value [] { args := args,res := some (.bool true),after := args } = some (.bool (true == true)) from w_eq_bool (w_res rfl) w_lit) rfl
section
variable {prog : Program} {w : World} {A : Around} {E : Value → Shared → Prop} {s : Shared} {K : Frag}
end
end Att
namespace L2
open PySem PySem.Spec PyProof.Rows
theorem uH : ∀ {vs : List Value} {ns : List Int},IntsAre vs ns → Vals (ns.map V.int) vs
  | _,_,.nil => .nil
  | _,_,.cons n t h => .cons ⟨t,rfl⟩ (uH h)
def Only (H : Hp) : Prop := ∀ b,H b = none ∨ ∃ o xs,H b = some (.frz o (.lst xs))
theorem CP {P : Program} {w : World} {K : PySem.W.Frag} {mg mb : Str → Option Value} {CX : CXT} {k : Nat} {fa a : Addr} {fd : FuncData} {x : Str} {sp : Sp} {s₁ : Shared} {vs : List Value} {ns : List Int}
    (KX : K.In s₁.heap) (hns : s₁.heap.Ns mainGlobals mg) (hb : s₁.heap.Ns builtinsNs mb) (hbb : ∀ x : Str,x ≠ "__name__" → mb x = bootBuiltins x) (hlim : s₁.heap.NoLimit) (hg : s₁.gens = #[])
    (ha : s₁.heap.get? a = some { cls := .type "list",data := .seq vs.toArray }) (hi : IntsAre vs ns) (hl : ns.length ≤ sizeLine) (hr : Room k callerA)
    (F : ∀ base : Heap,K.In base → base.Ns mainGlobals mg → FnOk P w K mg base CX k fa fd [x] sp) (hbind : ∀ (s : Shared) (u : Value),BindsTo s fd ⟨[u],[]⟩ [(x,u)])
    (hsp : ∀ H : Hp,Only H → SqL K H a (ns.map V.int) → sp [.ref a] H (fun v _ => v = .bl true) fun _ _ _ => False)
    (hCX : ∀ H e s',CX [] H s₁ (fun _ _ _ => False) e s' → False) :
    codeAny (model P w) callerA (.call (.ref fa) ⟨[.ref a],[]⟩) (fun r s' => r = .ok (.ret (.bool true)) ∧ OldK s₁.heap s'.heap ∧ s'.os = s₁.os ∧ AllBare s'.gens) s₁ := by
  have rv := uH hi
  have lenV := hi.length
  have core : ∀ H : Hp,Only H → SqL K H a (ns.map V.int) → HOk P w H s₁.heap → (∀ b,H b ≠ none → b = a) → (H a ≠ none → K.lookup a = none) →
      codeAny (model P w) callerA (.call (.ref fa) ⟨[.ref a],[]⟩) (fun r s' => r = .ok (.ret (.bool true)) ∧ OldK s₁.heap s'.heap ∧ s'.os = s₁.os ∧ AllBare s'.gens) s₁ := by
    intro H hO hS hok hA hK
    have base_of : ∀ {b : Addr} {o : Obj},s₁.heap.get? b = some o → H b = none → (hidT s₁.heap H).get? b = some o := fun e n => Cq e n
    have noA : ∀ {b : Addr} {o : Obj} {es : Array DictEntry} {ep : Nat},s₁.heap.get? b = some o → o.data = .dict es ep → H b = none := fun {b o es ep} e d => by
      cases q : H b with
      | none => rfl
      | some u =>
        have e' : b = a := hA b (by rw [q]; simp)
        subst e'
        rw [ha] at e; cases e
        have d' : Data.seq vs.toArray _ = Data.dict es ep := d
        cases d'
    have nsK : ∀ {b : Addr} {m : Str → Option Value},s₁.heap.Ns b m → (hidT s₁.heap H).Ns b m := fun {b m} ⟨o,es,ep,e,d,r⟩ => ⟨o,es,ep,base_of e (noA e d),d,r⟩
    have hKb : K.In (hidT s₁.heap H) := fun b o e => base_of (KX b o e) (by
      cases q : H b with
      | none => rfl
      | some u =>
        have e' : b = a := hA b (by rw [q]; simp)
        subst e'
        rw [hK (by rw [q]; simp)] at e; cases e)
    have hM : Mod K mg (hidT s₁.heap H) := ⟨hKb,nsK hns,⟨mb,nsK hb,hbb⟩,let ⟨mc,h1,h2⟩ := hlim; ⟨mc,nsK h1,h2⟩⟩
    have e0 : Env0 P w K mg (hidT s₁.heap H) callerA [] s₁ H := ⟨rfl,hM,fun b o e => El e,Nat.le_of_eq (Bx _ _),trivial,fun b hb => absurd (show b ∈ ([] : List Addr) from hb) (by simp),hok,.of_eq hg⟩
    refine codeAny_mono ((F _ hKb (nsK hns)).run callerA [] s₁ H ⟨[.ref a],[]⟩ [.ref a] [.ref a] _ _ hr e0 (hbind s₁ (.ref a)) (.cons rfl .nil) (hsp H hO hS)) fun r s' h => ?_
    cases r with
    | error e => exact (hCX H e s' h).elim
    | ok fl =>
      cases fl with
      | next => exact False.elim h
      | brk => exact False.elim h
      | cont => exact False.elim h
      | ret u =>
        obtain ⟨v,H',os,bare,un,hok',r',q⟩ := h
        have q' : v = .bl true := q
        subst q'
        obtain rfl : u = Value.bool true := r'
        refine ⟨rfl,OldK.of_keep fun b o e => ?_,os,bare⟩
        cases q : H b with
        | none => exact un.keep b o e q (by intro z; exact absurd (show b ∈ ([] : List Addr) from z) (by simp)) (by simp)
        | some u =>
          rcases hO b with z | ⟨ob,xs,z⟩
          · rw [q] at z; cases z
          · have z2 := un.frzs b ob _ z
            obtain ⟨e1,_⟩ := hok b _ z
            obtain ⟨e2,_⟩ := hok' b _ z2
            rw [e] at e1; cases e1
            exact e2
  cases hk : K.lookup a with
  | some o =>
    have e := KX a o hk
    rw [ha] at e
    cases e
    refine core (fun _ => none) (fun _ => .inl rfl) (.inr ⟨_,vs.toArray,_,hk,rfl,rfl,rfl,by rw [List.size_toArray,lenV]; exact hl,by simpa using rv⟩) (fun b u z => by have z' : (none : Option HO) = some u := z; cases z') (fun b z => absurd rfl z) fun z => absurd rfl z
  | none =>
    refine core (fun b => if b = a then some (.frz { cls := .type "list",data := .seq vs.toArray } (.lst (ns.map V.int))) else none) (fun b => ?_) (.inl (.inr ⟨{ cls := .type "list",data := .seq vs.toArray },if_pos rfl⟩)) (fun b u z => ?_) (fun b z => ?_) fun _ => hk
    · by_cases hb : b = a
      · exact .inr ⟨_,_,if_pos hb⟩
      · exact .inl (if_neg hb)
    · by_cases hb : b = a
      · have z' := (if_pos hb).symm.trans z
        cases z'
        subst hb
        exact ⟨ha,by rw [List.length_map]; exact hl,vs,_,rv,ha⟩
      · have z' := (if_neg hb).symm.trans z
        cases z'
    · by_cases hb : b = a
      · exact hb
      · exact absurd (if_neg hb) z
end L2
namespace L2
open PySem PySem.Spec PyProof.Rows
end L2
namespace L2
open PySem PySem.Spec PyProof.Rows
def wL (s : Stmt) (j : Nat) : Stmt := match s with
  | .ClassDef _ _ _ body _ _ _ _ _ _ _ => body.getD j (.Pass ⟨0,0,0,0⟩)
  | _ => .Pass ⟨0,0,0,0⟩
def defArgs (s : Stmt) : Arguments := match s with
  | .FunctionDef _ a _ _ _ _ _ _ _ _ => a
  | _ => { posonlyargs := [],args := [],vararg := none,kwonlyargs := [],kw_defaults := [],kwarg := none,defaults := [] }
def defBody (s : Stmt) : List Stmt := match s with
  | .FunctionDef _ _ b _ _ _ _ _ _ _ => b
  | _ => []
def defScope (s : Stmt) : Scope := match s with
  | .FunctionDef _ _ _ _ _ _ sc _ _ _ => sc
  | _ => { kind := .function,names := [],isGenerator := false,isCoroutine := false }
abbrev CX0 : CXT := fun _ _ _ _ _ _ => False
abbrev E0 : XK := fun _ _ _ => False
theorem EB {X : Cx} : yC CX0 X E0 := fun _ _ _ _ _ _ _ h => h.elim
structure Fun (K : PySem.W.Frag) (x qual : Str) (st : Stmt) (f : Addr) (fd : FuncData) : Prop where
  ex : ∃ (oc : Value) (od : Option Addr) (kV doc pm : Value) (an : Option Addr) (cdv ct : Value) (osl : Array (Option Value)),
    fd = PySem.W.fnOf x qual (defArgs st) (defBody st) (defScope st) .none kV doc pm an cdv ct ∧ K.lookup f = some ⟨oc,od,.func fd,osl⟩ ∧ PySem.W.codeIn K cdv qual = true
  kp : PySem.W.keepIn K (.ref f) = true
section
variable {P : Program} {w : World} {K : PySem.W.Frag} {mg : Str → Option Value} {base : Heap}
theorem Fun.ok {x qual : Str} {st : Stmt} {f : Addr} {fd : FuncData} {N ps : List Str} {k : Nat} {sp : Sp} (F : Fun K x qual st f fd) (S : FnScope N ps (defScope st)) (len : ∀ vs H Q E,sp vs H Q E → vs.length = ps.length)
    (hbody : ∀ (cdv : Value) (A : Around) (outer : List Env) (s : Shared) (H : Hp) (vs : List V) (Q : VK) (E : XK),Room k (A.deeper (envOfC qual (defScope st) s.heap.objs.size f cdv)) → sp vs H Q E →
      ∃ t,PSs (cxOf CX0 P w K mg base N qual (defScope st) f cdv A outer s H E).nox (defBody st) t ∧ t { nx := fun _ H' => Q .non H',rt := Q } (zI N vs) H) : FnOk P w K mg base CX0 (k + 1) f fd ps sp := by
  obtain ⟨oc,od,kV,doc,pm,an,cdv,ct,osl,rfl,lk,hcd⟩ := F.ex
  refine CY lk hcd S len fun A outer s H vs Q E hr hsp => ?_
  obtain ⟨t,h,q⟩ := hbody cdv A outer s H vs Q E hr hsp
  exact ⟨t,h.nox,q⟩
theorem Fun.binds {x qual : Str} {st : Stmt} {f : Addr} {fd : FuncData} {ps : List Str} (F : Fun K x qual st f fd)
    (h : ∀ (kV doc pm : Value) (an : Option Addr) (cdv ct : Value) (us : List Value),us.length = ps.length → bindArgs (PySem.W.fnOf x qual (defArgs st) (defBody st) (defScope st) .none kV doc pm an cdv ct) ⟨us,[]⟩ = pure (ps.zip us)) : Binds K fd ps [] := by
  obtain ⟨oc,od,kV,doc,pm,an,cdv,ct,osl,rfl,lk,hcd⟩ := F.ex
  exact .all (h kV doc pm an cdv ct)
theorem DA {x qual : Str} {st : Stmt} {f : Addr} {oc : Value} {od an : Option Addr} {osl : Array (Option Value)} {kV doc pm cdv ct : Value} (l : K.lookup f = some ⟨oc,od,.func (PySem.W.fnOf x qual (defArgs st) (defBody st) (defScope st) .none kV doc pm an cdv ct),osl⟩)
    (c : PySem.W.codeIn K cdv qual = true) (k : PySem.W.keepIn K (.ref f) = true) : Fun K x qual st f (PySem.W.fnOf x qual (defArgs st) (defBody st) (defScope st) .none kV doc pm an cdv ct) := ⟨⟨oc,od,kV,doc,pm,an,cdv,ct,osl,rfl,l,c⟩,k⟩
end
theorem wG {A : Around} {k : Nat} (hr : Room k A) : A.units + 1 < cLine := Nat.lt_of_le_of_lt (Nat.add_le_add_left (by decide : 1 ≤ 64) _) hr.units
theorem Bs {n : Nat} (h : n ≤ 1000) : n < sizeLine := Nat.lt_of_le_of_lt h (by decide)
section
variable {X : Cx}
theorem pv (i : Nat) {x : Str} {pos : Pos} (hN : X.N[i]? = some x := by rfl) (hv : Vis X.env.scope x := by first | exact Or.inl rfl | exact Or.inr (Or.inl rfl) | exact Or.inr (Or.inr rfl)) (hd : (x == ("__debug__" : Str)) = false := by decide)
    (hcd : (x == ("__classdict__" : Str)) = false := by decide) : PE X (.Name x pos) (tVar i) := EK hN hv hd hcd
end
def Same (H H' : Hp) : Prop := ∀ b o,H b = some o → H' b = some o
theorem Same.refl (H : Hp) : Same H H := fun _ _ h => h
theorem Same.trans {H H1 H2 : Hp} (a : Same H H1) (b : Same H1 H2) : Same H H2 := fun c o h => b c o (a c o h)
theorem Same.seq {K : PySem.W.Frag} {H H' : Hp} {a : Addr} {xs : List V} (e : Same H H') (h : SqL K H a xs) : SqL K H' a xs := by
  rcases h with (h | ⟨o,h⟩) | h
  · exact .inl (.inl (e _ _ h))
  · exact .inl (.inr ⟨o,e _ _ h⟩)
  · exact .inr h
end L2
namespace L2
open PySem PySem.Spec PyProof.Rows
end L2
namespace L2
open PySem PySem.Spec PyProof.Rows
end L2
namespace L2
open PySem PySem.Spec PyProof.Rows
end L2
namespace L2
open PySem PySem.Spec PyProof.Rows
end L2
namespace L2
open PySem PySem.Spec PyProof.Rows
end L2
namespace L2
open PySem PySem.Spec PyProof.Rows
end L2
namespace L2
open PySem PySem.Spec PyProof.Rows
end L2
namespace L2
open PySem PySem.Spec PyProof.Rows
end L2
namespace L2
open PySem PySem.Spec PyProof.Rows
end L2
namespace L2
open PySem PySem.Spec PyProof.Rows
end L2
namespace L2
open PySem PySem.Spec PyProof.Rows
section
variable {κ : Type} [DecidableEq κ]
def valV (kvs : List (κ × V)) (k : κ) : Option V := (kvs.find? fun kv => decide (kv.1 = k)).map (·.2)
def putK (kvs : List (κ × V)) (k : κ) (v : V) : List (κ × V) :=
  if (kvs.any fun kv => decide (kv.1 = k)) = true then kvs.map (fun kv => if kv.1 = k then (kv.1,v) else kv) else kvs ++ [(k,v)]
def wY (kvs : List (κ × V)) (k : κ) : List (κ × V) := kvs.filter fun kv => decide (kv.1 ≠ k)
theorem xJ {p : κ × V} {r : List (κ × V)} {k : κ} (e : p.1 = k) : valV (p :: r) k = some p.2 := by simp [valV,List.find?_cons,e]
theorem yz {p : κ × V} {r : List (κ × V)} {k : κ} (e : ¬ p.1 = k) : valV (p :: r) k = valV r k := by simp [valV,List.find?_cons,e]
theorem vM (k : κ) : ∀ kvs : List (κ × V),(kvs.any fun kv => decide (kv.1 = k)) = (valV kvs k).isSome
  | [] => rfl
  | p :: r => by
    rw [List.any_cons]
    by_cases e : p.1 = k
    · simp only [xJ e,decide_eq_true e,Bool.true_or,Option.isSome_some]
    · rw [yz e,decide_eq_false e,Bool.false_or]; exact vM k r
theorem wS (kvs : List (κ × V)) (k : κ) (v : V) : (putK kvs k v).length ≤ kvs.length + 1 := by
  unfold putK
  split
  · rw [List.length_map]; omega
  · rw [List.length_append,List.length_cons,List.length_nil]; omega
theorem vB {kvs : List (κ × V)} {k : κ} (v : V) (h : valV kvs k = none) : putK kvs k v = kvs ++ [(k,v)] := by
  unfold putK
  rw [vM,h]
  exact if_neg (by decide)
theorem RelO.isSome_eq {o : Option V} {u : Option Value} (r : RelO o u) : o.isSome = u.isSome := by
  cases o with
  | none => cases u with
    | none => rfl
    | some _ => exact (show False from r).elim
  | some _ => cases u with
    | none => exact (show False from r).elim
    | some _ => rfl
theorem KV.val {kvs : List (κ × V)} {vs : List (κ × Value)} (r : KV kvs vs) (k : κ) : RelO (valV kvs k) (valueAt vs k) := by
  unfold KV at r
  induction r with
  | nil => exact True.intro
  | @cons p q ps qs h t ih =>
    obtain ⟨h1,h2⟩ := h
    by_cases e : p.1 = k
    · have e' : q.1 = k := h1.symm.trans e
      have b : valueAt (q :: qs) k = some q.2 := by simp [valueAt,List.find?_cons,e']
      rw [xJ e,b]; exact h2
    · have e' : ¬ q.1 = k := fun z => e (h1.trans z)
      have b : valueAt (q :: qs) k = valueAt qs k := by simp [valueAt,List.find?_cons,e']
      rw [yz e,b]; exact ih
theorem KV.any {kvs : List (κ × V)} {vs : List (κ × Value)} (r : KV kvs vs) (k : κ) : (kvs.any fun kv => decide (kv.1 = k)) = vs.any fun kv => decide (kv.1 = k) := by
  unfold KV at r
  induction r with
  | nil => rfl
  | cons h t ih => rw [List.any_cons,List.any_cons,ih,h.1]
theorem KV.repl {kvs : List (κ × V)} {vs : List (κ × Value)} (r : KV kvs vs) (k : κ) {y : V} {u : Value} (ry : RelV y u) :
    KV (kvs.map fun kv => if kv.1 = k then (kv.1,y) else kv) (vs.map fun kv => if kv.1 = k then (kv.1,u) else kv) := by
  unfold KV at r ⊢
  induction r with
  | nil => exact .nil
  | @cons p q ps qs h t ih =>
    rw [List.map_cons,List.map_cons]
    refine .cons ?_ ih
    obtain ⟨h1,h2⟩ := h
    by_cases e : p.1 = k
    · rw [if_pos e,if_pos (h1.symm.trans e)]; exact ⟨h1,ry⟩
    · rw [if_neg e,if_neg (fun z => e (h1.trans z))]; exact ⟨h1,h2⟩
theorem KV.put {kvs : List (κ × V)} {vs : List (κ × Value)} (r : KV kvs vs) (k : κ) {y : V} {u : Value} (ry : RelV y u) : KV (putK kvs k y) (stored vs k u) := by
  unfold putK stored
  rw [r.any k]
  by_cases e : (vs.any fun kv => decide (kv.1 = k)) = true
  · rw [if_pos e,if_pos e]; exact r.repl k ry
  · rw [if_neg e,if_neg e]; exact Paired.snoc r ⟨rfl,ry⟩
theorem KV.drop {kvs : List (κ × V)} {vs : List (κ × Value)} (r : KV kvs vs) (k : κ) : KV (wY kvs k) (without vs k) := by
  unfold KV at r ⊢
  unfold wY without
  induction r with
  | nil => exact .nil
  | @cons p q ps qs h t ih =>
    obtain ⟨h1,h2⟩ := h
    rw [List.filter_cons,List.filter_cons]
    by_cases e : p.1 = k
    · have a : ¬ decide (p.1 ≠ k) = true := by simp [e]
      have b : ¬ decide (q.1 ≠ k) = true := by simp [h1.symm.trans e]
      rw [if_neg a,if_neg b]; exact ih
    · have e' : ¬ q.1 = k := fun z => e (h1.trans z)
      have a : decide (p.1 ≠ k) = true := by simp [e]
      have b : decide (q.1 ≠ k) = true := by simp [e']
      rw [if_pos a,if_pos b]; exact .cons ⟨h1,h2⟩ ih
theorem KV.keys {kvs : List (κ × V)} {vs : List (κ × Value)} (r : KV kvs vs) : kvs.map (·.1) = vs.map (·.1) := by
  unfold KV at r
  induction r with
  | nil => rfl
  | cons h t ih => rw [List.map_cons,List.map_cons,ih,h.1]
theorem KV.length {kvs : List (κ × V)} {vs : List (κ × Value)} (r : KV kvs vs) : kvs.length = vs.length := Paired.length r
theorem C0 (kvs : List (κ × V)) (k : κ) : (wY kvs k).length ≤ kvs.length := List.length_filter_le _ _
end
theorem Aq {P : Program} {w : World} {k : Key} {u : Value} (r : RelV (kV k) u) : (zS P w).is k u = true := by
  cases k with
  | inl i => obtain ⟨t,e⟩ := (show ∃ t,u = Value.int i t from r); subst e; exact tq P w i t
  | inr x => obtain ⟨t,e⟩ := (show ∃ t,u = Value.str x t from r); subst e; exact uU P w x t
theorem uP {P : Program} {w : World} : ∀ {ks : List Key} {us : List Value},Vals (ks.map kV) us → ItemsAre (zS P w) ks us
  | [],_,r => by rw [List.map_nil] at r; cases r; exact .nil
  | k :: ks,_,r => by
    rw [List.map_cons] at r
    cases r with
    | cons h t => exact .cons (Aq h) (uP t)
abbrev KT (H : Hp) : List (List Key × V) → List (List Key × Addr × Value) → Prop := Paired fun p q => p.1 = q.1 ∧ H q.2.1 = some (.tup (p.1.map kV)) ∧ RelV p.2 q.2.2
theorem KT.val {H : Hp} {kvs : List (List Key × V)} {xs : List (List Key × Addr × Value)} (r : KT H kvs xs) (k : List Key) : RelO (valV kvs k) ((atKey xs k).map (·.2)) := by
  induction r with
  | nil => exact True.intro
  | @cons p q ps qs h t ih =>
    obtain ⟨h1,_,h2⟩ := h
    by_cases e : p.1 = k
    · have e' : q.1 = k := h1.symm.trans e
      have b : atKey (q :: qs) k = some q.2 := by simp [atKey,List.find?_cons,e']
      rw [xJ e,b]; exact h2
    · have e' : ¬ q.1 = k := fun z => e (h1.trans z)
      have b : atKey (q :: qs) k = atKey qs k := by simp [atKey,List.find?_cons,e']
      rw [yz e,b]; exact ih
theorem KT.repl {H : Hp} {kvs : List (List Key × V)} {xs : List (List Key × Addr × Value)} (r : KT H kvs xs) (k : List Key) {y : V} {u : Value} (ry : RelV y u) :
    KT H (kvs.map fun kv => if kv.1 = k then (kv.1,y) else kv) (xs.map (putAt k u)) := by
  induction r with
  | nil => exact .nil
  | @cons p q ps qs h t ih =>
    rw [List.map_cons,List.map_cons]
    refine .cons ?_ ih
    obtain ⟨h1,h2,h3⟩ := h
    unfold putAt
    by_cases e : p.1 = k
    · rw [if_pos e,if_pos (h1.symm.trans e)]; exact ⟨h1,h2,ry⟩
    · rw [if_neg e,if_neg (fun z => e (h1.trans z))]; exact ⟨h1,h2,h3⟩
theorem KT.put {H : Hp} {kvs : List (List Key × V)} {xs : List (List Key × Addr × Value)} (r : KT H kvs xs) (k : List Key) {b : Addr} {y : V} {u : Value} (hb : H b = some (.tup (k.map kV))) (ry : RelV y u) :
    KT H (putK kvs k y) (storedH xs k b u) := by
  have e : (kvs.any fun kv => decide (kv.1 = k)) = (atKey xs k).isSome := by
    rw [vM,(r.val k).isSome_eq,Option.isSome_map]
  unfold putK storedH
  rw [e]
  by_cases q : (atKey xs k).isSome = true
  · rw [if_pos q,if_pos q]; exact r.repl k ry
  · rw [if_neg q,if_neg q]; exact Paired.snoc r ⟨rfl,hb,ry⟩
theorem KT.keeps {H H' : Hp} {kvs : List (List Key × V)} {xs : List (List Key × Addr × Value)} (r : KT H kvs xs) (ht : ∀ b ys,H b = some (.tup ys) → H' b = some (.tup ys)) : KT H' kvs xs :=
  Paired.mapP r fun _ _ z => ⟨z.1,ht _ _ z.2.1,z.2.2⟩
section
variable {P : Program} {w : World} {H : Hp} {h : Heap} {a : Addr}
theorem E4 {u : HO} (ok : HOk P w H h) (e : Rd H a u) : ObjOk P w H h a u := e.ok ok
theorem uX {kvs : List (Key × V)} (ok : HOk P w H h) (e : Rd H a (.dK kvs)) : kvs.length ≤ sizeLine ∧ (a == sysModules) = false ∧ ∃ vs,KV kvs vs ∧ h.DictOf (zS P w) a vs :=
  show ObjOk P w H h a (.dK kvs) from E4 ok e
theorem ET {kvs : List (Key × V)} (ok : HOk P w H h) (e : H a = some (.dK kvs)) : kvs.length ≤ sizeLine ∧ (a == sysModules) = false ∧ ∃ vs,KV kvs vs ∧ h.DictOf (zS P w) a vs := uX ok (.inl e)
theorem tV {ks : List Key} (ok : HOk P w H h) (e : H a = some (.tup (ks.map kV))) : (tupleKind (zS P w)).is h ks a := by
  obtain ⟨_,its,r,o,h1,h2,n,h3⟩ := (show ObjOk P w H h a (.tup (ks.map kV)) from ok a _ e)
  exact ⟨o,its.toArray,n,h1,h2,h3,by simpa using uP r⟩
theorem Bf {kvs : List (List Key × V)} (ok : HOk P w H h) (e : Rd H a (.dT kvs)) : kvs.length ≤ sizeLine ∧ (a == sysModules) = false ∧
    ∃ xs,KT H kvs xs ∧ h.DictOfH (tupleKind (zS P w)) a xs := by
  obtain ⟨z,y,xs,r,o,es,ep,h1,h2,h3,h4,h5⟩ := (show ObjOk P w H h a (.dT kvs) from E4 ok e)
  refine ⟨z,y,xs,r,o,es,ep,h1,h2,h3,h4,fun x hx => ?_,h5⟩
  have all : ∀ {l : List (List Key × V)} {m : List (List Key × Addr × Value)},KT H l m → ∀ x ∈ m,(tupleKind (zS P w)).is h x.1 x.2.1 := by
    intro l m q
    induction q with
    | nil => intro x hx; exact nomatch hx
    | @cons p q ps qs hq t ih =>
      intro x hx
      rcases List.mem_cons.mp hx with e | hx
      · subst e
        exact tV ok (by rw [← hq.1]; exact hq.2.1)
      · exact ih x hx
  exact all r x hx
theorem GY {kvs : List (List Key × V)} (ok : HOk P w H h) (e : H a = some (.dT kvs)) : kvs.length ≤ sizeLine ∧ (a == sysModules) = false ∧
    ∃ xs,KT H kvs xs ∧ h.DictOfH (tupleKind (zS P w)) a xs := Bf ok (.inl e)
end
def DGet (H : Hp) (a : Addr) (y : V) (r : Option V) : Prop :=
  (∃ kvs k,Rd H a (.dK kvs) ∧ y = kV k ∧ r = valV kvs k) ∨ ∃ kvs k b,Rd H a (.dT kvs) ∧ y = .ref b ∧ H b = some (.tup (k.map kV)) ∧ r = valV kvs k
def DPut (H : Hp) (a : Addr) (y v : V) (H' : Hp) : Prop :=
  (∃ kvs k,H a = some (.dK kvs) ∧ y = kV k ∧ kvs.length < sizeLine ∧ H' = upd H a (.dK (putK kvs k v))) ∨
  ∃ kvs k b,H a = some (.dT kvs) ∧ y = .ref b ∧ H b = some (.tup (k.map kV)) ∧ kvs.length < sizeLine ∧ H' = upd H a (.dT (putK kvs k v))
theorem DGet.k {H : Hp} {a : Addr} {kvs : List (Key × V)} {k : Key} (e : H a = some (.dK kvs)) : DGet H a (kV k) (valV kvs k) := .inl ⟨kvs,k,.inl e,rfl,rfl⟩
theorem DPut.k {H : Hp} {a : Addr} {kvs : List (Key × V)} {k : Key} {v : V} (e : H a = some (.dK kvs)) (hl : kvs.length < sizeLine) : DPut H a (kV k) v (upd H a (.dK (putK kvs k v))) := .inl ⟨kvs,k,e,rfl,hl,rfl⟩
section
variable {X : Cx} {pins : List (Addr × Obj)} {σ : St} {H : Hp} {s : Shared} {a : Addr} {y v : V} {u r : Value} {o : Option V} {A : Around} {E : Value → Shared → Prop}
theorem Inv.big (I : Inv X pins σ H s) : sysModules < s.heap.objs.size := by
  have h : mainGlobals < s.heap.objs.size := (I.mod.glob.keeps I.bk).lt
  exact Nat.lt_trans (by decide) h
theorem Bt {Q : Value → Shared → Prop} (hu : A.units + 1 < cLine) (I : Inv X pins σ H s) (g : DGet H a y (some v)) (ry : RelV y u) (h : ∀ w' s',Inv X pins σ H s' → RelV v w' → Q w' s') :
    wpAny (model X.prog X.w) A (getItem (.ref a) u) Q E s := by
  rcases g with ⟨kvs,k,e,ey,l⟩ | ⟨kvs,k,b,e,ey,eb,l⟩
  · subst ey
    obtain ⟨z,hd,vs,rel,dd⟩ := uX I.hok e
    obtain ⟨w',hw,rw'⟩ := RelO.some_of (v := v) (o := valueAt vs k) (by rw [l]; exact rel.val k)
    exact wpAny_getItem_of (Aq ry) dd.mapOf hw (h w' _ (I.tok _) rw')
  · subst ey
    cases (show u = Value.ref b from ry)
    obtain ⟨z,hd,xs,rel,dd⟩ := Bf I.hok e
    obtain ⟨w',hw,rw'⟩ := RelO.some_of (v := v) (o := (atKey xs k).map (·.2)) (by rw [l]; exact rel.val k)
    obtain ⟨p,hp,hp2⟩ := Option.map_eq_some_iff.mp hw
    refine wpAny_getItem_heap (tupleKind_room_in1 hu) (tV I.hok eb) dd hp ?_
    rw [hp2]
    exact h w' _ (I.tok _) rw'
theorem DW {Q : Value → Shared → Prop} (hu : A.units + 1 < cLine) (I : Inv X pins σ H s) (g : DGet H a y o) (ry : RelV y u) (h : ∀ s',Inv X pins σ H s' → Q (.bool (!o.isSome)) s') :
    wpAny (model X.prog X.w) A (compareOp .NotIn u (.ref a)) Q E s := by
  rcases g with ⟨kvs,k,e,ey,l⟩ | ⟨kvs,k,b,e,ey,eb,l⟩
  · subst ey
    obtain ⟨z,hd,vs,rel,dd⟩ := uX I.hok e
    refine wpAny_notIn_of (Aq ry) hd dd.mapOf ?_
    rw [← (rel.val k).isSome_eq,← l]
    exact h _ (I.tok _)
  · subst ey
    cases (show u = Value.ref b from ry)
    obtain ⟨z,hd,xs,rel,dd⟩ := Bf I.hok e
    refine wpAny_notIn_heap (tupleKind_room_in1 hu) (tV I.hok eb) hd dd ?_
    have q := (rel.val k).isSome_eq
    rw [Option.isSome_map] at q
    rw [← q,← l]
    exact h _ (I.tok _)
theorem ti {h' : Heap} {t' : Nat} {ob : HO} (I : Inv X pins σ H s) (mu : Mut (H a)) (hs : Heap.SameBut a s.heap h') (he : ∃ q,h'.get? a = some q) (new : ObjOk X.prog X.w (upd H a ob) h' a ob) :
    Inv X pins σ (upd H a ob) { s with heap := h',toks := t' } :=
  I.write (x := a) (e := a) mu (.inl rfl) (fun b q hb z => (hs.2 b hb).trans z) he new
theorem tS {P : Program} {w : World} {H' : Hp} {h' : Heap} {kvs : List (Key × V)} {vs : List (Key × Value)} (z : kvs.length ≤ sizeLine) (hd : (a == sysModules) = false) (rel : KV kvs vs) (dd : h'.DictOf (zS P w) a vs) :
    ObjOk P w H' h' a (.dK kvs) := ⟨z,hd,vs,rel,dd⟩
theorem A2 {H' : Hp} {Q : Unit → Shared → Prop} (hu : A.units + 1 < cLine) (I : Inv X pins σ H s) (g : DPut H a y v H') (ry : RelV y u) (rv : RelV v r) (h : ∀ s',Inv X pins σ H' s' → Q () s') :
    wpAny (model X.prog X.w) A (setItem (.ref a) u r) Q E s := by
  rcases g with ⟨kvs,k,e,ey,l,eH⟩ | ⟨kvs,k,b,e,ey,eb,l,eH⟩
  · subst ey eH
    obtain ⟨z,hd,vs,rel,dd⟩ := ET I.hok e
    have hz : vs.length ≤ sizeLine := by rw [← rel.length]; exact z
    have hl : (putK kvs k v).length ≤ sizeLine := by have := wS kvs k v; omega
    refine wpAny_setItem_pairs (hsz := hz) (Aq ry) dd fun h' dd' hs => h _ ?_
    have he : ∃ q,h'.get? a = some q := let ⟨q,_,_,hq,_⟩ := dd'; ⟨q,hq⟩
    exact ti I (by rw [e]; exact True.intro) hs he (tS hl hd (rel.put k rv) dd')
  · subst ey eH
    cases (show u = Value.ref b from ry)
    obtain ⟨z,hd,xs,rel,dd⟩ := GY I.hok e
    have hz : xs.length ≤ sizeLine := by rw [← Paired.length rel]; exact z
    have hl : (putK kvs k v).length ≤ sizeLine := by have := wS kvs k v; omega
    refine wpAny_setItem_heap (hsz := hz) (tupleKind_room_in1 hu) (tV I.hok eb) dd fun h' dd' hs => h _ ?_
    obtain ⟨q,es,ep,hq,h2,h3,h4,_,h5⟩ := dd'
    refine ti I (by rw [e]; exact True.intro) hs ⟨q,hq⟩ ⟨hl,hd,_,(rel.put k eb rv).keeps fun c ys ec => ?_,q,es,ep,hq,h2,h3,h4,h5⟩
    rw [zv (yw ec e (fun z => nomatch z))]
    exact ec
end
section
variable {X : Cx} {pins : List (Addr × Obj)} {σ : St} {H : Hp} {s : Shared} {a : Addr} {kvs : List (Key × V)} {k : Key} {u : Value} {A : Around} {E : Value → Shared → Prop}
theorem GQ {v : V} {more : List Value} {Q : Value → Shared → Prop} (I : Inv X pins σ H s) (e : H a = some (.dK kvs)) (ry : RelV (kV k) u) (l : valV kvs k = some v) (hm : more = [] ∨ ∃ x,more = [x])
    (h : ∀ w' s',Inv X pins σ (upd H a (.dK (wY kvs k))) s' → RelV v w' → Q w' s') : wpAny (model X.prog X.w) A (call (.builtin "dict.pop") (.ref a :: u :: more)) Q E s := by
  obtain ⟨z,hd,vs,rel,dd⟩ := ET I.hok e
  obtain ⟨w',hw,rw'⟩ := RelO.some_of (v := v) (o := valueAt vs k) (by rw [← l]; exact rel.val k)
  have hp : (keyPart u).isSome = true := by
    cases k with
    | inl i => obtain ⟨t,q⟩ := (show ∃ t,u = Value.int i t from ry); subst q; rfl
    | inr x => obtain ⟨t,q⟩ := (show ∃ t,u = Value.str x t from ry); subst q; rfl
  have ha : argsOk "dict.pop" ⟨.ref a :: u :: more,[]⟩ := by
    rcases hm with q | ⟨x,q⟩
    · subst q; exact PySem.F.args_dict_pop_2 _ _
    · subst q; exact PySem.F.args_dict_pop_3 _ _ _
  refine call_meetsIn PySem.F.slot_dict_pop dd.typeIs PySem.F.entry_dict_pop ha (meets_dict_pop_there (zS X.prog X.w) a (Aq ry) more hm hp)
    ⟨vs,w',dd,by rw [← rel.length]; exact z,hw,fun h' dd' hs => h w' _ ?_ rw'⟩
  have he : ∃ q,h'.get? a = some q := let ⟨q,_,_,hq,_⟩ := dd'; ⟨q,hq⟩
  exact ti I (by rw [e]; exact True.intro) hs he (tS (Nat.le_trans (C0 kvs k) z) hd (rel.drop k) dd')
theorem Gp {Q : Value → Shared → Prop} (I : Inv X pins σ H s) (e : Rd H a (.dK kvs)) (h : ∀ t s',Inv X pins σ H s' → Q (.int kvs.length t) s') : wpAny (model X.prog X.w) A (call (.builtin "len") [.ref a]) Q E s := by
  obtain ⟨z,hd,vs,rel,dd⟩ := uX I.hok e
  refine call_len_dict hd dd (by rw [← rel.length]; rw [sizeLine_eq] at z; omega) ?_
  rw [← rel.length]
  exact h _ _ (I.tok _)
end
def NoSl (i : Expr) : Prop := ∀ ov iv,subscripted i false ov iv = operate [ov,iv] (getItem ov iv)
theorem DO {prog : Program} {w : World} {A : Around} {E : Value → Shared → Prop} {s : Shared} {env : Env} {value slice : Expr} {pos : Pos} {T id : String} {Q : Value → Shared → Prop}
    (hl : typeLookup (.type T) "__getitem__" = pure (some (.builtin id))) (hs : NoSl slice)
    (h : wpAny (model prog w) A (eval value env) (fun o s₁ => wpAny (model prog w) A (eval slice env) (fun i s₂ => s₂.TypeIs o T ∧ wpAny (model prog w) A (getItem o i) Q E s₂) E s₁) E s) :
    wpAny (model prog w) A (eval (.Subscript value slice pos) env) Q E s := by
  refine Subscript_ (wpAny_mono h (fun o s₁ h₁ => wpAny_mono h₁ (fun i s₂ h₂ => ?_) fun _ _ x => x) fun _ _ x => x)
  obtain ⟨hT,h₂⟩ := h₂
  unfold subscriptTail
  refine wpAny_bind ?_
  rw [getitemInPython_of_ne hT.not_modules]
  refine wpAny_bind (wpAny_specialOf hT hl ?_)
  have fin : wpAny (model prog w) A (subscripted slice false o i) (fun r s₃ => wpAny (model prog w) A (letTemporaryGo value o r >>= fun _ => pure r) Q E s₃) E s₂ := by
    rw [hs o i]
    exact wpAny_operating (wpAny_mono h₂ (fun r s₃ h₃ => wpAny_bind (wpAny_letTemporaryGo (wpAny_pure h₃))) fun _ _ x => x)
  first
    | exact wpAny_pure (wpAny_bind fin)
    | exact wpAny_bind (wpAny_pure (wpAny_bind fin))
    | exact wpAny_bind fin
theorem tF {X : Cx} {pins : List (Addr × Obj)} {σ : St} {H : Hp} {s : Shared} {a : Addr} {y : V} {o : Option V} (I : Inv X pins σ H s) (g : DGet H a y o) : s.TypeIs (.ref a) "dict" := by
  rcases g with ⟨kvs,k,e,_,_⟩ | ⟨kvs,k,b,e,_,_,_⟩
  · obtain ⟨_,_,vs,_,dd⟩ := uX I.hok e
    exact dd.typeIs
  · obtain ⟨_,_,xs,_,dd⟩ := Bf I.hok e
    exact dd.typeIs
def FF (td ty : TE) : TE := fun σ H Q => td σ H fun x H1 => ty σ H1 fun y H2 => ∃ a v,x = .ref a ∧ DGet H2 a y (some v) ∧ Q v H2
def BF (ty td : TE) : TE := fun σ H Q => ty σ H fun y H1 => td σ H1 fun x H2 => ∃ a o,x = .ref a ∧ DGet H2 a y o ∧ Q (.bl (!o.isSome)) H2
def FJ (td ty tv : TE) : TS := fun D σ H => tv σ H fun v H1 => td σ H1 fun x H2 => ty σ H2 fun y H3 => ∃ a H4,x = .ref a ∧ DPut H3 a y v H4 ∧ D.nx σ H4
section
variable {X : Cx} {o i e value : Expr} {pos pos' tpos : Pos} {td ty tv : TE}
theorem xT (hu : X.A.units + 1 < cLine) (ho : PE X o td) (hi : PE X i ty) (hs : NoSl i) : PE X (.Subscript o i pos) (FF td ty) := by
  intro pins s σ H Q I h
  refine DO PySem.F.slot_dict_getitem.lookup hs (thn (ho pins s σ H _ I h) fun u s1 ⟨x,H1,I1,rx,q1⟩ => thn (hi pins s1 σ H1 _ I1 q1) fun iv s2 ⟨y,H2,I2,ry,a,v,ex,g,q2⟩ => ?_)
  subst ex
  obtain rfl : u = Value.ref a := rx
  exact ⟨tF I2 g,Bt hu I2 g ry fun w' s3 I3 rw' => ⟨v,H2,I3,rw',q2⟩⟩
theorem v9 (hu : X.A.units + 1 < cLine) (hi : PE X i ty) (ho : PE X o td) : PC X .NotIn i o (BF ty td) := by
  intro pins s σ H Q I h
  refine thn (hi pins s σ H _ I h) fun iv s1 ⟨y,H1,I1,ry,q1⟩ => thn (ho pins s1 σ H1 _ I1 q1) fun u s2 ⟨x,H2,I2,rx,a,ov,ex,g,q2⟩ => ?_
  subst ex
  obtain rfl : u = Value.ref a := rx
  exact DW hu I2 g ry fun s3 I3 => ⟨.bl (!ov.isSome),H2,I3,rfl,q2⟩
theorem tE (hu : X.A.units + 1 < cLine) (ho : PE X o td) (hi : PE X i ty) (hv : PE X value tv) (hs : swapsWith value (some (.Subscript o i pos')) pos.line X.env = pure false) :
    PS X (.Assign [.Subscript o i pos'] value pos) (FJ td ty tv) := by
  intro pins s σ H D I h
  refine wpAny_Assign_Subscript (thn (hv pins s σ H _ I h) fun r s1 ⟨v,H1,I1,rv,q1⟩ => thn (ho pins s1 σ H1 _ I1 q1) fun u s2 ⟨x,H2,I2,rx,q2⟩ => thn (hi pins s2 σ H2 _ I2 q2) fun iv s3 ⟨y,H3,I3,ry,a,H4,ex,g,q3⟩ => ?_) hs
  subst ex
  obtain rfl : u = Value.ref a := rx
  exact A2 hu I3 g ry rv fun s4 I4 => ⟨σ,H4,I4,q3⟩
end
section
variable {X : Cx} {pos : Pos}
end
structure M1 (X : Cx) (o : Expr) (m : Str) (apos : Pos) (e : Expr) (cpos : Pos) : Prop where
  base : attributeBase o m X.env (eval o X.env) = eval o X.env
  few : ((backTo cpos (starEach [e] X.env)).all (fun x => !x.1) && (backToKw cpos (keywordEach [] X.env)).all (fun x => x.1.isSome)
    && decide (([e] : List Expr).length + ([] : List Keyword).length + (if ([] : List Keyword).isEmpty then 0 else 1) < 30)) = true
  line : (apos.endLine == cpos.line) = true
  trees : backTo cpos (starEach [e] X.env) = [(false,eval e X.env)]
def IsD (H : Hp) (a : Addr) : Prop := (∃ kvs,Rd H a (.dK kvs)) ∨ ∃ kvs,Rd H a (.dT kvs)
theorem Fl {X : Cx} {pins : List (Addr × Obj)} {σ : St} {H : Hp} {s : Shared} {a : Addr} (I : Inv X pins σ H s) (d : IsD H a) :
    s.TypeIs (.ref a) "dict" ∧ (∀ b,Value.ref a = .ref b → ∃ ob,s.heap.get? b = some ob ∧ ob.dict = none) ∧ (a == sysModules) = false := by
  rcases d with ⟨kvs,e⟩ | ⟨kvs,e⟩
  · obtain ⟨_,hd,vs,_,dd⟩ := uX I.hok e
    refine ⟨dd.typeIs,fun b q => ?_,hd⟩
    cases q
    obtain ⟨ob,_,_,h1,h2,_⟩ := dd
    exact ⟨ob,h1,h2.2.1⟩
  · obtain ⟨_,hd,xs,_,dd⟩ := Bf I.hok e
    refine ⟨dd.typeIs,fun b q => ?_,hd⟩
    cases q
    obtain ⟨ob,_,_,h1,h2,_⟩ := dd
    exact ⟨ob,h1,h2.2.1⟩
section
variable {X : Cx} {pins : List (Addr × Obj)} {σ : St} {H : Hp} {s : Shared} {a : Addr} {y d : V} {u r : Value} {o : Option V} {A : Around} {E : Value → Shared → Prop}
end
def Dl (td ty : TE) : TE := fun σ H Q => td σ H fun x H1 => ∃ a,x = .ref a ∧ IsD H1 a ∧ ty σ H1 fun y H2 => ∃ kvs k v,H2 a = some (.dK kvs) ∧ y = kV k ∧ valV kvs k = some v ∧ Q v (upd H2 a (.dK (wY kvs k)))
section
variable {X : Cx} {o e f : Expr} {apos cpos : Pos} {td ty tx : TE}
theorem tW (ho : PE X o td) (he : PE X e ty) (m : M1 X o "pop" apos e cpos) : PE X (.Call (.Attribute o "pop" apos) [e] [] cpos) (Dl td ty) := by
  intro pins s σ H Q I h
  refine wpAny_Call_method m.base m.few m.line PySem.F.plainAttrs_dict PySem.F.slot_dict_pop PySem.F.type_dict_pop (thn (ho pins s σ H _ I h) fun u s1 ⟨x,H1,I1,rx,a,ex,d,q1⟩ => ?_)
  subst ex
  obtain rfl : u = Value.ref a := rx
  obtain ⟨t1,t2,_⟩ := Fl I1 d
  refine ⟨t1,t2,?_⟩
  rw [m.trees]
  refine Calls.callWith_builtin rfl (Calls.evalArgs_plain (Calls.spliced_cons (thn (he pins s1 σ H1 _ I1 q1) fun iv s2 ⟨y,H2,I2,ry,kvs,k,v,ea,ey,l,q2⟩ => Calls.spliced_nil ?_)))
  subst ey
  exact GQ I2 ea ry l (.inl rfl) fun w' s3 I3 rw' => ⟨v,_,I3,rw',q2⟩
end
section
variable {X : Cx} {pins : List (Addr × Obj)} {σ : St} {H : Hp} {s : Shared} {a : Addr} {kvs : List (Key × V)} {A : Around} {E : Value → Shared → Prop}
theorem CD {Q : Value → Shared → Prop} (I : Inv X pins σ H s) (e : Rd H a (.dK kvs)) (h : ∀ p s',H p = none → Inv X pins σ (upd H p (.dK kvs)) s' → Q (.ref p) s') : wpAny (model X.prog X.w) A (call (.type "dict") [.ref a]) Q E s := by
  obtain ⟨z,hd,vs,rel,dd⟩ := uX I.hok e
  refine kt_call_dict hd dd (by rw [← rel.length]; exact z) fun h' dd' hs => ?_
  refine h _ _ (I.hok.fresh (Nat.le_refl _)) (I.laid (a := s.heap.objs.size) (o := .dK kvs) (t' := s.toks) (fun b q hq => ?_) (Nat.le_refl _) (tS z (beq_eq_false_iff_ne.mpr (Ne.symm (Nat.ne_of_lt I.big))) rel dd'))
  exact (hs.2 b (Nat.ne_of_lt (Heap.lt_size hq))).trans (Heap.get?_push_of_some _ hq)
end
section
variable {X : Cx} {pins : List (Addr × Obj)} {σ : St} {H : Hp} {s : Shared} {a : Addr} {y : V} {u : Value} {A : Around} {E : Value → Shared → Prop}
end
end L2
namespace Att
open PySem PySem.W PySem.Calls PyProof.Rows
end Att
namespace L2
open PySem PySem.Spec PyProof.Rows
end L2
namespace L2
open PySem PySem.Spec PyProof.Rows
end L2
namespace L2
open PySem PySem.Spec PyProof.Rows
section
variable {X : Cx}
theorem AQ : xa X (.builtin "len") (fun xs H Q => ∃ a kvs,xs = [V.ref a] ∧ H a = some (.dK kvs) ∧ Q (.int kvs.length) H) := by
  intro pins s σ H xs us Q I r h
  obtain ⟨a,kvs,rfl,ha,q⟩ := h
  obtain ⟨u,rfl,ru⟩ := Ap r
  cases ru
  exact Gp I (.inl ha) fun t s' I' => ⟨.int kvs.length,H,I',⟨t,rfl⟩,q⟩
end
section
variable {κ : Type} [DecidableEq κ]
end
end L2
namespace Bg
theorem Cr (a b : Int) : Int.gcd b (a.fmod b) = Int.gcd a b := by
  rw [Int.fmod_def,Int.mul_comm,Int.gcd_sub_mul_right_right,Int.gcd_comm]
theorem Cu (a b : Int) : Int.gcd b (a % b) = Int.gcd a b := by
  rw [Int.emod_def,Int.mul_comm,Int.gcd_sub_mul_right_right,Int.gcd_comm]
theorem Ei {a b : Int} (h : b ≠ 0) : (a.fmod b).natAbs < b.natAbs := by
  rw [Int.fmod_eq_emod]
  have h1 := Int.emod_nonneg a h
  have h2 := Int.emod_lt a h
  by_cases c : 0 ≤ b ∨ b ∣ a
  · rw [if_pos c]; omega
  · rw [if_neg c]
    have hb : b < 0 := by
      rcases Int.lt_or_le b 0 with z | z
      · exact z
      · exact absurd (Or.inl z) c
    have hd : ¬ b ∣ a := fun z => c (Or.inr z)
    have hn : a % b ≠ 0 := fun z => hd (Int.dvd_of_emod_eq_zero z)
    omega
def Bd (k : Nat) (x : Int) : Prop := x.natAbs < 2 ^ k
instance {k : Nat} {x : Int} : Decidable (Bd k x) := inferInstanceAs (Decidable (x.natAbs < 2 ^ k))
theorem Bd.mono {j k : Nat} {x : Int} (h : Bd j x) (l : j ≤ k) : Bd k x := Nat.lt_of_lt_of_le h (Nat.pow_le_pow_right (by decide) l)
theorem Bd.neg {k : Nat} {x : Int} (h : Bd k x) : Bd k (-x) := by unfold Bd at *; rw [Int.natAbs_neg]; exact h
theorem Bd.mul {j k : Nat} {x y : Int} (h : Bd j x) (g : Bd k y) : Bd (j + k) (x * y) := by
  unfold Bd at *
  rw [Int.natAbs_mul,Nat.pow_add]
  exact Nat.mul_lt_mul_of_lt_of_lt h g
theorem Bd.add {k : Nat} {x y : Int} (h : Bd k x) (g : Bd k y) : Bd (k + 1) (x + y) := by
  unfold Bd at *
  rw [Nat.pow_succ]
  omega
theorem Bd.sub {k : Nat} {x y : Int} (h : Bd k x) (g : Bd k y) : Bd (k + 1) (x - y) := by
  unfold Bd at *
  rw [Nat.pow_succ]
  omega
theorem Bd.of_le {k : Nat} {x y : Int} (h : Bd k y) (l : x.natAbs ≤ y.natAbs) : Bd k x := Nat.lt_of_le_of_lt l h
theorem va (a b : Int) : (a.fdiv b).natAbs ≤ a.natAbs := by
  by_cases hb : b = 0
  · subst hb; simp
  have key : ∀ a b : Int,0 < b → (a.fdiv b).natAbs ≤ a.natAbs := fun a b hb => by
    rw [Int.fdiv_eq_ediv_of_nonneg a (by omega)]
    have h1 : b * (a / b) + a % b = a := Int.mul_ediv_add_emod a b
    have h2 := Int.emod_nonneg a (show b ≠ 0 by omega)
    have h3 := Int.emod_lt_of_pos a hb
    rcases Int.lt_or_le (a / b) 0 with q | q
    · have e : a ≤ a / b := by
        have : b * (a / b) ≤ 1 * (a / b) - (b - 1) := by
          have z : (b - 1) * (a / b) ≤ (b - 1) * (-1) := Int.mul_le_mul_of_nonneg_left (by omega) (by omega)
          have z2 : b * (a / b) = (b - 1) * (a / b) + a / b := by rw [Int.sub_mul]; omega
          omega
        omega
      omega
    · have e : a / b ≤ a := by
        have z : 1 * (a / b) ≤ b * (a / b) := Int.mul_le_mul_of_nonneg_right (by omega) q
        omega
      omega
  rcases Int.lt_or_le b 0 with h | h
  · have e : a.fdiv b = (-a).fdiv (-b) := by rw [Int.neg_fdiv_neg]
    rw [e]
    have := key (-a) (-b) (by omega)
    omega
  · exact key a b (by omega)
theorem Bd.fdiv {k : Nat} {x : Int} (h : Bd k x) (y : Int) : Bd k (x.fdiv y) := h.of_le (va x y)
theorem Bd.emod {k : Nat} {y : Int} (h : Bd k y) (hy : y ≠ 0) (x : Int) : Bd k (x % y) := by
  refine h.of_le ?_
  have h1 := Int.emod_nonneg x hy
  have h2 := Int.emod_lt x hy
  omega
theorem Bd.log {k : Nat} {x : Int} (h : Bd k x) : x.natAbs.log2 ≤ k := by
  by_cases z : x.natAbs = 0
  · rw [z]; simp
  · exact Nat.le_of_lt ((Nat.log2_lt z).mpr h)
def g3 (a b n : Int) : Nat := Int.gcd (Int.gcd n a) b
def gd (a b n : Int) : Int := if n < 0 then -(g3 a b n : Int) else (g3 a b n : Int)
theorem g3_n (a b n : Int) : (g3 a b n : Int) ∣ n := Int.dvd_trans (Int.gcd_dvd_left ..) (Int.gcd_dvd_left ..)
theorem g3_a (a b n : Int) : (g3 a b n : Int) ∣ a := Int.dvd_trans (Int.gcd_dvd_left ..) (Int.gcd_dvd_right ..)
theorem g3_b (a b n : Int) : (g3 a b n : Int) ∣ b := Int.gcd_dvd_right ..
theorem B8 {a b n : Int} (h : n ≠ 0) : 0 < g3 a b n := by
  rcases Nat.eq_zero_or_pos (g3 a b n) with z | z
  · have := g3_n a b n
    rw [z] at this
    exact absurd (Int.zero_dvd.mp (by simpa using this)) h
  · exact z
theorem Fu (a b n : Int) : Int.gcd (Int.gcd a b) n = g3 a b n := by
  unfold g3
  rw [Int.gcd_comm,← Int.gcd_assoc]
theorem Fv {a b n : Int} (h : n ≠ 0) : gd a b n ≠ 0 := by
  have := B8 (a := a) (b := b) h
  unfold gd
  split <;> omega
theorem Dv (a b n : Int) : (gd a b n).natAbs = g3 a b n := by
  unfold gd
  split <;> simp
theorem AW {a b n x : Int} (h : (g3 a b n : Int) ∣ x) : gd a b n ∣ x := by
  unfold gd
  split
  · exact Int.neg_dvd.mpr h
  · exact h
theorem ES {k : Nat} {a b n : Int} (hn : n ≠ 0) (h : Bd k n) : Bd k (gd a b n) := by
  refine h.of_le ?_
  rw [Dv]
  exact Nat.le_of_dvd (by omega) (by
    have := Int.natAbs_dvd_natAbs.mpr (g3_n a b n)
    simpa using this)
def lA (a b n : Int) : Int := a.fdiv (gd a b n)
def lB (a b n : Int) : Int := b.fdiv (gd a b n)
def lN (a b n : Int) : Int := n.fdiv (gd a b n)
theorem DG {a b n : Int} : lA a b n * gd a b n = a := Int.fdiv_mul_cancel (AW (g3_a a b n))
theorem Dy {a b n : Int} : lB a b n * gd a b n = b := Int.fdiv_mul_cancel (AW (g3_b a b n))
theorem tN {a b n : Int} : lN a b n * gd a b n = n := Int.fdiv_mul_cancel (AW (g3_n a b n))
theorem l_a {a b n : Int} : lA a b n * n = a * lN a b n := by
  have h1 := DG (a := a) (b := b) (n := n)
  have h2 := tN (a := a) (b := b) (n := n)
  calc lA a b n * n = lA a b n * (lN a b n * gd a b n) := by rw [h2]
    _ = lA a b n * gd a b n * lN a b n := by rw [Int.mul_assoc,Int.mul_comm (gd a b n)]
    _ = a * lN a b n := by rw [h1]
theorem l_b {a b n : Int} : lB a b n * n = b * lN a b n := by
  have h1 := Dy (a := a) (b := b) (n := n)
  have h2 := tN (a := a) (b := b) (n := n)
  calc lB a b n * n = lB a b n * (lN a b n * gd a b n) := by rw [h2]
    _ = lB a b n * gd a b n * lN a b n := by rw [Int.mul_assoc,Int.mul_comm (gd a b n)]
    _ = b * lN a b n := by rw [h1]
theorem l_n {a b n : Int} (h : n ≠ 0) : 1 ≤ lN a b n := by
  have h2 := tN (a := a) (b := b) (n := n)
  have hp := B8 (a := a) (b := b) h
  have hs : 0 < lN a b n := by
    by_cases c : n < 0
    · have e : gd a b n = -(g3 a b n : Int) := if_pos c
      rw [e] at h2
      refine Int.lt_of_not_ge fun z => ?_
      have : 0 ≤ lN a b n * -(g3 a b n : Int) := Int.mul_nonneg_of_nonpos_of_nonpos z (by omega)
      omega
    · have e : gd a b n = (g3 a b n : Int) := if_neg c
      rw [e] at h2
      refine Int.lt_of_not_ge fun z => ?_
      have : lN a b n * (g3 a b n : Int) ≤ 0 := Int.mul_nonpos_of_nonpos_of_nonneg z (by omega)
      omega
  omega
theorem A9 {a b n : Int} (h : n ≠ 0) : g3 (lA a b n) (lB a b n) (lN a b n) = 1 := by
  have hp := B8 (a := a) (b := b) h
  have e : g3 a b n = g3 (lA a b n) (lB a b n) (lN a b n) * (gd a b n).natAbs := by
    have h1 := DG (a := a) (b := b) (n := n)
    have h2 := Dy (a := a) (b := b) (n := n)
    have h3 := tN (a := a) (b := b) (n := n)
    have : g3 (lA a b n * gd a b n) (lB a b n * gd a b n) (lN a b n * gd a b n) = g3 (lA a b n) (lB a b n) (lN a b n) * (gd a b n).natAbs := by
      unfold g3
      rw [Int.gcd_mul_right]
      have e1 : ((Int.gcd (lN a b n) (lA a b n) * (gd a b n).natAbs : Nat) : Int).gcd (lB a b n * gd a b n) = Int.gcd ((Int.gcd (lN a b n) (lA a b n) : Int) * gd a b n) (lB a b n * gd a b n) := by
        rw [Int.gcd_eq_natAbs_gcd_natAbs,Int.gcd_eq_natAbs_gcd_natAbs]
        congr 1
        rw [Int.natAbs_mul,Int.natAbs_natCast,Int.natAbs_natCast]
      rw [e1,Int.gcd_mul_right]
    rw [h1,h2,h3] at this
    exact this
  rw [Dv] at e
  have : 1 * g3 a b n = g3 (lA a b n) (lB a b n) (lN a b n) * g3 a b n := by omega
  exact (Nat.eq_of_mul_eq_mul_right hp this).symm
end Bg
namespace L2
open PySem PySem.Spec PyProof.Rows Bg
theorem BR {k : Nat} {x : Int} (h : Bd k x) : Builtin.Int.intBits x ≤ k := by
  unfold Builtin.Int.intBits
  split
  · exact Nat.zero_le _
  · rename_i z
    have z' : x ≠ 0 := by simpa using z
    exact (Nat.log2_lt (by omega)).mpr h
theorem Bd.ok {j k : Nat} {x y : Int} (h : Bd j x) (g : Bd k y) (l : j + k ≤ 134217728) : IntMulOk x y := by
  have h1 := BR h
  have h2 := BR g
  unfold IntMulOk
  have : Builtin.Int.intTooBig (Builtin.Int.intBits x + Builtin.Int.intBits y) = false := by
    unfold Builtin.Int.intTooBig bitsLine
    simp only [decide_eq_false_iff_not,Int.not_lt,gt_iff_lt]
    have : (2 ^ 27 : Nat) = 134217728 := by decide
    omega
  rw [this]
  simp
section
variable {X : Cx}
theorem zx : OpR X (binaryOp .Mult) (rI IntMulOk fun i j => .int (i * j)) := opI fun _ _ _ _ _ _ _ hc q => mul_int q hc
abbrev CFd (_ j : Int) : Prop := j ≠ 0 ∧ j.natAbs.log2 < 9000
abbrev CFp (_ j : Int) : Prop := 0 < j ∧ j.natAbs.log2 < 9000
abbrev CPw (i j : Int) : Prop := 0 ≤ j ∧ (Builtin.Int.intBits i : Int) * j ≤ 2 ^ 27
theorem yk : OpR X (binaryOp .FloorDiv) (rI CFd fun i j => .int (i.fdiv j)) := opI fun _ _ _ _ _ _ _ hc q => floordiv_int hc.1 q (.inl (PyProof.noPylong_of_log2 hc.2))
theorem xN : OpR X (binaryOp .FloorDiv) (rI CFp fun i j => .int (i / j)) := opI fun i j _ _ _ _ _ hc q => by
  have h1 : (0 : Int) < j := hc.1
  exact floordiv_int (by omega) (by rw [Int.fdiv_eq_ediv_of_nonneg i (by omega)]; exact q) (.inl (PyProof.noPylong_of_log2 hc.2))
theorem yY : OpR X (binaryOp .Pow) (rI CPw fun i j => .int (i ^ j.toNat)) := opI fun _ _ _ _ _ _ _ hc q => pow_int hc.1 hc.2 q
def rIs (K : PySem.W.Frag) : List V → Hp → VK → Prop := fun xs H Q => ∃ x T t b,xs = [x,.ty T] ∧ TyOf K H x t ∧ PySem.W.kitOne K t (.type T) = some b ∧ Q (.bl b) H
theorem zP : xa X (.builtin "isinstance") (rIs X.K) := by
  intro pins s σ H xs us Q I r h
  obtain ⟨x,T,t,b,rfl,ty,e,q⟩ := h
  obtain ⟨u,c,rfl,ru,rc⟩ := GM r
  cases (show c = Value.type T from rc)
  exact A4 I ru ty e fun tk => ⟨.bl b,H,I.tok tk,rfl,q⟩
end
theorem vV (K : PySem.W.Frag) (T : String) : PySem.W.kitOne K (.type T) (.type T) = some true := by
  unfold PySem.W.kitOne
  rw [if_pos]
  simp
theorem uO (K : PySem.W.Frag) : PySem.W.kitOne K (.type "int") (.type "bool") = some false := by
  unfold PySem.W.kitOne
  rw [if_neg (by decide)]
  show (if PySem.W.kitMeta "bool" = true then PySem.W.subIn K (.type "int") (.type "bool") else none) = some false
  rw [if_pos (by decide +kernel)]
  show (fastBuiltinMro "int").map (·.contains (Value.type "bool")) = some false
  decide +kernel
section
variable {K : PySem.W.Frag} {H : Hp} {Q : VK}
theorem CA {i : Int} (h : Q (.bl true) H) : rIs K [.int i,.ty "int"] H Q := ⟨_,_,_,_,rfl,.int i,vV K _,h⟩
theorem Cg {i : Int} (h : Q (.bl false) H) : rIs K [.int i,.ty "bool"] H Q := ⟨_,_,_,_,rfl,.int i,uO K,h⟩
theorem CG {a : Addr} {xs : List V} (e : H a = some (.tup xs)) (h : Q (.bl true) H) : rIs K [.ref a,.ty "tuple"] H Q := ⟨_,_,_,_,rfl,.tup e,vV K _,h⟩
end
def Own (P : Program) (w : World) (K : PySem.W.Frag) (mg : Str → Option Value) (base : Heap) (k : Nat) (x : Str) (ps : List Str) (dvs : List V) (sp : Sp) : Prop :=
  ∃ (f : Addr) (fd : FuncData) (ds : List Value),FnOk P w K mg base CX0 k f fd ps sp ∧ mg x = some (.ref f) ∧ PySem.W.keepIn K (.ref f) = true ∧ Binds K fd ps ds ∧ Vals dvs ds
theorem zk {X : Cx} {k j : Nat} {x : Str} {ps : List Str} {dvs : List V} {sp : Sp} {p pos : Pos} {e : Expr} {es : List Expr} {t : TA} (O : Own X.prog X.w X.K X.mg X.base k x ps dvs sp) (hr : Room j X.A) (hg : Gl X x)
    (ha : PA X (e :: es) t) (hk : k ≤ j := by decide) (hdb : (x == ("__debug__" : Str)) = false := by decide) (he : starEach (e :: es) X.env = (false,eval e X.env) :: starEach es X.env := by rfl) (hpl : (backTo pos (starEach es X.env)).any (·.1) = false := by rfl) :
    PE X (.Call (.Name x p) (e :: es) [] pos) (AU sp dvs E0 t) := by
  obtain ⟨f,fd,ds,F,hm,kp,hb,hd⟩ := O
  exact u7 F (hr.mono hk) hg hm kp hb hd EB ha hdb he hpl
structure FunD (K : PySem.W.Frag) (x qual : Str) (st : Stmt) (f : Addr) (fd : FuncData) (its : List Value) : Prop where
  ex : ∃ (oc : Value) (od : Option Addr) (T : Addr) (kV doc pm : Value) (an : Option Addr) (cdv ct : Value) (osl : Array (Option Value)) (to : Obj) (n : Nat),
    fd = PySem.W.fnOf x qual (defArgs st) (defBody st) (defScope st) (.ref T) kV doc pm an cdv ct ∧ K.lookup f = some ⟨oc,od,.func fd,osl⟩ ∧ PySem.W.codeIn K cdv qual = true ∧ K.lookup T = some to ∧ to.data = .seq its.toArray n
  kp : PySem.W.keepIn K (.ref f) = true
section
variable {P : Program} {w : World} {K : PySem.W.Frag} {mg : Str → Option Value} {base : Heap}
theorem FunD.ok {x qual : Str} {st : Stmt} {f : Addr} {fd : FuncData} {its : List Value} {N ps : List Str} {k : Nat} {sp : Sp} (F : FunD K x qual st f fd its) (S : FnScope N ps (defScope st)) (len : ∀ vs H Q E,sp vs H Q E → vs.length = ps.length)
    (hbody : ∀ (cdv : Value) (A : Around) (outer : List Env) (s : Shared) (H : Hp) (vs : List V) (Q : VK) (E : XK),Room k (A.deeper (envOfC qual (defScope st) s.heap.objs.size f cdv)) → sp vs H Q E →
      ∃ t,PSs (cxOf CX0 P w K mg base N qual (defScope st) f cdv A outer s H E).nox (defBody st) t ∧ t { nx := fun _ H' => Q .non H',rt := Q } (zI N vs) H) : FnOk P w K mg base CX0 (k + 1) f fd ps sp := by
  obtain ⟨oc,od,T,kV,doc,pm,an,cdv,ct,osl,to,n,rfl,lk,hcd,_⟩ := F.ex
  refine CY lk hcd S len fun A outer s H vs Q E hr hsp => ?_
  obtain ⟨t,h,q⟩ := hbody cdv A outer s H vs Q E hr hsp
  exact ⟨t,h.nox,q⟩
end
def Top (K : PySem.W.Frag) (mg : Str → Option Value) (x : Str) (st : Stmt) : Prop := ∃ (f : Addr) (fd : FuncData),Fun K x x st f fd ∧ mg x = some (.ref f)
def TopD (K : PySem.W.Frag) (mg : Str → Option Value) (x : Str) (st : Stmt) (its : List Value) : Prop := ∃ (f : Addr) (fd : FuncData),FunD K x x st f fd its ∧ mg x = some (.ref f)
theorem top_mk {K : PySem.W.Frag} {h : Heap} {mg : Str → Option Value} {x : Str} {st : Stmt} {f : Addr} {oc : Value} {od an : Option Addr} {osl : Array (Option Value)} {kV doc pm cdv ct : Value} (X : K.In h) (G : h.Ns mainGlobals mg)
    (a : PySem.W.nsIn K mainGlobals x = some (some (.ref f))) (l : K.lookup f = some ⟨oc,od,.func (PySem.W.fnOf x x (defArgs st) (defBody st) (defScope st) .none kV doc pm an cdv ct),osl⟩)
    (c : PySem.W.codeIn K cdv x = true) (k : PySem.W.keepIn K (.ref f) = true) : Top K mg x st := ⟨f,_,DA l c k,PySem.W.mg_of X G a⟩
theorem topD_mk {K : PySem.W.Frag} {h : Heap} {mg : Str → Option Value} {x : Str} {st : Stmt} {f T : Addr} {oc : Value} {od an : Option Addr} {osl : Array (Option Value)} {kV doc pm cdv ct : Value} {its : List Value} {n : Nat} {to : Obj} (X : K.In h) (G : h.Ns mainGlobals mg)
    (a : PySem.W.nsIn K mainGlobals x = some (some (.ref f))) (l : K.lookup f = some ⟨oc,od,.func (PySem.W.fnOf x x (defArgs st) (defBody st) (defScope st) (.ref T) kV doc pm an cdv ct),osl⟩)
    (c : PySem.W.codeIn K cdv x = true) (k : PySem.W.keepIn K (.ref f) = true) (t : K.lookup T = some to) (d : to.data = .seq its.toArray n) : TopD K mg x st its := ⟨f,_,⟨⟨oc,od,T,kV,doc,pm,an,cdv,ct,osl,_,n,rfl,l,c,t,d⟩,k⟩,PySem.W.mg_of X G a⟩
theorem Top.own {P : Program} {w : World} {K : PySem.W.Frag} {mg : Str → Option Value} {base : Heap} {k : Nat} {x : Str} {st : Stmt} {ps : List Str} {sp : Sp} (T : Top K mg x st)
    (hb : ∀ (kV doc pm : Value) (an : Option Addr) (cdv ct : Value) (us : List Value),us.length = ps.length → bindArgs (PySem.W.fnOf x x (defArgs st) (defBody st) (defScope st) .none kV doc pm an cdv ct) ⟨us,[]⟩ = pure (ps.zip us))
    (h : ∀ f fd,Fun K x x st f fd → FnOk P w K mg base CX0 k f fd ps sp) : Own P w K mg base k x ps [] sp := by
  obtain ⟨f,fd,F,m⟩ := T
  exact ⟨f,fd,[],h f fd F,m,F.kp,F.binds hb,.nil⟩
def NewL (xs : List V) (H : Hp) (Q : VK) : Prop := xs.length ≤ sizeLine ∧ ∀ p,H p = none → Q (.ref p) (upd H p (.lst xs))
def NewT (xs : List V) (H : Hp) (Q : VK) : Prop := xs.length ≤ sizeLine ∧ ∀ p,H p = none → Q (.ref p) (upd H p (.tup xs))
def rLen (K : PySem.W.Frag) : List V → Hp → VK → Prop := fun xs H Q => ∃ p ys,xs = [.ref p] ∧ (SqL K H p ys ∨ SqT K H p ys) ∧ Q (.int ys.length) H
def rAbs : List V → Hp → VK → Prop := fun xs H Q => ∃ i,xs = [.int i] ∧ Q (.int (if i < 0 then -i else i)) H
def rInt : List V → Hp → VK → Prop := fun xs H Q => (∃ i,xs = [.int i] ∧ Q (.int i) H) ∨ ∃ k,xs = [.bl k] ∧ Q (.int (if k then 1 else 0)) H
theorem zH {X : Cx} : xa X (.builtin "len") (rLen X.K) := uJ
theorem wQ {X : Cx} : xa X (.builtin "abs") rAbs := C6
theorem zO {X : Cx} : xa X (.type "int") rInt := Bj
section
variable {σ : St} {H : Hp} {Q : VK} {B : Bool → Hp → Prop} {D : Ends} {K : PySem.W.Frag}
theorem Ed {t u : TS} (h : t { D with nx := u D } σ H) : tSeq t u D σ H := h
theorem Fb (h : D.nx σ H) : Fo D σ H := h
theorem GO {te : TE} {g : TG} (h : te σ H fun x H1 => g x σ H1 D.nx) : tAsg te g D σ H := h
theorem Et {i : Nat} {v : V} {R : St → Hp → Prop} (h : R (σ.set i (some v)) H) : Db i v σ H R := h
theorem F7 {te : TE} (h : te σ H D.rt) : tRet te D σ H := h
theorem FO {te : TE} (h : te σ H fun _ H1 => D.nx σ H1) : EX te D σ H := h
theorem Gg {c : TT} {t u : TS} (h : c σ H fun b H1 => if b = true then t D σ H1 else u D σ H1) : tIfS c t u D σ H := h
theorem i_c {v : V} (h : Q v H) : tC v σ H Q := h
theorem i_op {r : R2} {ta tb : TE} (h : ta σ H fun x H1 => tb σ H1 fun y H2 => r x y H2 Q) : tOp r ta tb σ H Q := h
theorem i_un {r : V → Hp → VK → Prop} {ta : TE} (h : ta σ H fun x H1 => r x H1 Q) : tUn r ta σ H Q := h
theorem i_I0 {g : Int → Int → V} {i j : Int} (h : Q (g i j) H) : rI0 g (.int i) (.int j) H Q := ⟨i,j,rfl,rfl,h⟩
theorem i_I {C : Int → Int → Prop} {g : Int → Int → V} {i j : Int} (h : Q (g i j) H) (c : C i j) : rI C g (.int i) (.int j) H Q := ⟨i,j,rfl,rfl,c,h⟩
theorem i_U {g : Int → V} {i : Int} (h : Q (g i) H) : rU g (.int i) H Q := ⟨i,rfl,h⟩
theorem Gn {i j : Int} (h : Q (.bl (decide (i = j))) H) : rEq (.int i) (.int j) H Q := ⟨rfl,by
  have e : decide (V.int i = V.int j) = decide (i = j) := by rw [vA]; exact Bool.beq_eq_decide_eq i j
  rw [e]; exact h⟩
theorem GL {i j : Int} (h : Q (.bl (!decide (i = j))) H) : rNe (.int i) (.int j) H Q := ⟨rfl,by
  have e : decide (V.int i = V.int j) = decide (i = j) := by rw [vA]; exact Bool.beq_eq_decide_eq i j
  rw [e]; exact h⟩
theorem FI {t : TE} (h : t σ H fun x H' => ∃ k,x = .bl k ∧ B k H') : Fs t σ H B := h
theorem i_tB {t : TE} (h : t σ H fun x H' => ∃ k,x = .bl k ∧ B k H') : tB t σ H B := h
theorem i_bl {k : Bool} {R : Bool → Prop} (h : R k) : ∃ k',V.bl k = .bl k' ∧ R k' := ⟨k,rfl,h⟩
theorem GG {t u : TT} (h : t σ H fun c H1 => if c = true then u σ H1 B else B false H1) : tAnd t u σ H B := h
theorem i_or {t u : TT} (h : t σ H fun c H1 => if c = true then B true H1 else u σ H1 B) : tOr t u σ H B := h
theorem GN {t : TT} (h : t σ H fun c H1 => B (!c) H1) : tNot t σ H B := h
theorem FM {t u : TE} (h : t σ H fun x H1 => ∃ c,x = .bl c ∧ if c = true then u σ H1 Q else Q (.bl false) H1) : EW t u σ H Q := h
theorem GW {t u : TE} (h : t σ H fun x H1 => ∃ c,x = .bl c ∧ if c = true then Q (.bl true) H1 else u σ H1 Q) : tOrV t u σ H Q := h
theorem FQ {t : TE} (h : t σ H fun x H1 => ∃ c,x = .bl c ∧ Q (.bl (!c)) H1) : EN t σ H Q := h
theorem GX {c : TT} {ta tb : TE} (h : c σ H fun b H1 => if b = true then ta σ H1 Q else tb σ H1 Q) : tIf c ta tb σ H Q := h
theorem GV {R : List V → Hp → Prop} (h : R [] H) : tNil σ H R := h
theorem E8 {ta : TE} {tr : TA} {R : List V → Hp → Prop} (h : ta σ H fun x H1 => tr σ H1 fun xs H2 => R (x :: xs) H2) : Co ta tr σ H R := h
theorem FY {sp : Sp} {dvs : List V} {E : XK} {t : TA} (h : t σ H fun vs H1 => sp (vs ++ dvs) H1 Q E) : AU sp dvs E t σ H Q := h
theorem DK {sp : Sp} {gV : List V → List V → List V} {E : XK} {t tk : TA} (h : t σ H fun vs H1 => tk σ H1 fun zs H2 => sp (gV vs zs) H2 Q E) : B7 sp gV E t tk σ H Q := h
theorem i_cb {r : List V → Hp → VK → Prop} {t : TA} (h : t σ H fun vs H1 => r vs H1 Q) : tCB r t σ H Q := h
theorem GP {t : TA} (h : t σ H fun xs H1 => NewT xs H1 Q) : tTup t σ H Q := h
theorem GI {t : TA} (h : t σ H fun xs H1 => NewL xs H1 Q) : tLst t σ H Q := h
theorem xi {n : Nat} (h : n ≤ 1000) : n ≤ sizeLine := Nat.le_of_lt (Bs h)
theorem wU {p : Addr} {xs : List V} {i : Int} {v : V} (h : H p = some (.tup xs)) (e : atI xs i = some v) (q : Q v H) : rIxT K (.ref p) (.int i) H Q := ⟨p,xs,i,v,rfl,rfl,SqT.of h,e,q⟩
theorem zC {p : Addr} {xs : List V} {i : Int} {v : V} (h : H p = some (.lst xs)) (e : atI xs i = some v) (q : Q v H) : rIxL K (.ref p) (.int i) H Q := ⟨p,xs,i,v,rfl,rfl,SqL.of h,e,q⟩
theorem Fr {p : Addr} {xs : List V} (h : H p = some (.tup xs)) (q : Q (.int xs.length) H) : rLen K [.ref p] H Q := ⟨p,xs,rfl,.inr (SqT.of h),q⟩
theorem EQ {p : Addr} {xs : List V} (h : H p = some (.lst xs)) (q : Q (.int xs.length) H) : rLen K [.ref p] H Q := ⟨p,xs,rfl,.inl (SqL.of h),q⟩
theorem GH {i : Int} (q : Q (.int (if i < 0 then -i else i)) H) : rAbs [.int i] H Q := ⟨i,rfl,q⟩
theorem FU {k : Bool} (q : Q (.int (if k then 1 else 0)) H) : rInt [.bl k] H Q := .inr ⟨k,rfl,q⟩
theorem Gi {i j : Nat} {ta : TA} (h : ta σ H fun vs H1 => ∃ v w,vs = [v,w] ∧ D.nx ((σ.set i (some v)).set j (some w)) H1) : tPar i j ta D σ H := h
theorem Fe {v w : V} {R : V → V → Prop} (h : R v w) : ∃ v' w',[v,w] = [v',w'] ∧ R v' w' := ⟨v,w,rfl,h⟩
end
theorem if_d {p A B : Prop} [Decidable p] (h1 : p → A) (h2 : ¬ p → B) : if decide p = true then A else B := by
  by_cases h : p
  · rw [if_pos (decide_eq_true h)]; exact h1 h
  · rw [if_neg (by simp [h])]; exact h2 h
theorem AA {p A B : Prop} [Decidable p] (h1 : ¬ p → A) (h2 : p → B) : if (!decide p) = true then A else B := by
  by_cases h : p
  · rw [if_neg (by simp [h])]; exact h2 h
  · rw [if_pos (by simp [h])]; exact h1 h
theorem v6 {α : Type} {x y : α} {A B : Prop} [Decidable (x = y)] (e : x = y) (h : B) : if (!decide (x = y)) = true then A else B := AA (fun c => absurd e c) fun _ => h
theorem if_t {A B : Prop} (h : A) : if true = true then A else B := by rw [if_pos rfl]; exact h
theorem if_f {A B : Prop} (h : B) : if false = true then A else B := by rw [if_neg Bool.false_ne_true]; exact h
theorem F0 {A B : Prop} (h : B) : if (!true) = true then A else B := by rw [if_neg (by decide)]; exact h
theorem Gu {A B : Prop} (h : A) : if (!false) = true then A else B := by rw [if_pos (by decide)]; exact h
theorem zU {H : Hp} {p : Addr} (h : H p = none) (o : HO) : Same H (upd H p o) := fun b u q => by rw [zv (zf q h)]; exact q
theorem AO (x : Int) : Bd (x.natAbs.log2 + 1) x := by
  unfold Bd
  exact Nat.lt_log2_self
theorem D8 {j k : Nat} {x y : Int} (h : Bd j x) (g : Bd k y) : Bd (j + k + 1) (x + y) := (h.mono (Nat.le_add_right ..)).add (g.mono (Nat.le_add_left ..))
end L2
namespace L2
open PySem PySem.Spec PyProof.Rows Bg
section
variable {P : Program} {w : World} {K : PySem.W.Frag} {mg : Str → Option Value} {base : Heap}
theorem FunD.binds {x qual : Str} {st : Stmt} {f : Addr} {fd : FuncData} {its ds : List Value} {ps : List Str} (F : FunD K x qual st f fd its)
    (h : ∀ (T : Addr) (kV doc pm : Value) (an : Option Addr) (cdv ct : Value) (us : List Value),(us ++ ds).length = ps.length → ∃ k : Option (Array Value) → Sem (List (Str × Value)),
      bindArgs (PySem.W.fnOf x qual (defArgs st) (defBody st) (defScope st) (.ref T) kV doc pm an cdv ct) ⟨us,[]⟩ = seqItems? (.ref T) >>= k ∧ k (some its.toArray) = pure (ps.zip (us ++ ds))) : Binds K fd ps ds := by
  obtain ⟨oc,od,T,kV,doc,pm,an,cdv,ct,osl,to,n,rfl,lk,hcd,lT,hs⟩ := F.ex
  intro s us KX hl
  obtain ⟨k,h1,h2⟩ := h T kV doc pm an cdv ct us hl
  exact BindsTo.of_defaults rfl (KX _ _ lT) hs h1 h2
theorem FunD.kbinds {x qual : Str} {st : Stmt} {f : Addr} {fd : FuncData} {its : List Value} {ps ks : List Str} {g : List Value → List Value → List Value} {gV : List V → List V → List V} (F : FunD K x qual st f fd its)
    (h : ∀ (T : Addr) (kV doc pm : Value) (an : Option Addr) (cdv ct : Value) (us ws : List Value),(g us ws).length = ps.length → ∃ k : Option (Array Value) → Sem (List (Str × Value)),
      bindArgs (PySem.W.fnOf x qual (defArgs st) (defBody st) (defScope st) (.ref T) kV doc pm an cdv ct) ⟨us,ks.zip ws⟩ = seqItems? (.ref T) >>= k ∧ k (some its.toArray) = pure (ps.zip (g us ws)))
    (r : ∀ {vs : List V} {us : List Value} {zs : List V} {ws : List Value},Vals vs us → Vals zs ws → Vals (gV vs zs) (g us ws)) : KBinds K fd ps ks g gV := by
  obtain ⟨oc,od,T,kV,doc,pm,an,cdv,ct,osl,to,n,rfl,lk,hcd,lT,hs⟩ := F.ex
  refine ⟨fun s us ws KX hl => ?_,r⟩
  obtain ⟨k,h1,h2⟩ := h T kV doc pm an cdv ct us ws hl
  exact BindsTo.of_defaults rfl (KX _ _ lT) hs h1 h2
theorem TopD.own {k : Nat} {x : Str} {st : Stmt} {ps : List Str} {its ds : List Value} {dvs : List V} {sp : Sp} (T : TopD K mg x st its)
    (hb : ∀ (T : Addr) (kV doc pm : Value) (an : Option Addr) (cdv ct : Value) (us : List Value),(us ++ ds).length = ps.length → ∃ k : Option (Array Value) → Sem (List (Str × Value)),
      bindArgs (PySem.W.fnOf x x (defArgs st) (defBody st) (defScope st) (.ref T) kV doc pm an cdv ct) ⟨us,[]⟩ = seqItems? (.ref T) >>= k ∧ k (some its.toArray) = pure (ps.zip (us ++ ds)))
    (hd : Vals dvs ds) (h : ∀ f fd,FunD K x x st f fd its → FnOk P w K mg base CX0 k f fd ps sp) : Own P w K mg base k x ps dvs sp := by
  obtain ⟨f,fd,F,m⟩ := T
  exact ⟨f,fd,ds,h f fd F,m,F.kp,F.binds hb,hd⟩
end
end L2
namespace Att
open PySem PySem.W PySem.Calls PyProof.Rows Bg
theorem wO {x : WData} : ∀ {xs : List WData},x ∈ xs → WData.weight x ≤ WData.weightAll xs
  | [],h => absurd h (by simp)
  | y :: ys,h => by
    simp only [WData.weightAll]
    rcases List.mem_cons.mp h with e | e
    · subst e; omega
    · have := wO e
      omega
theorem CN {ns : List Int} (h : WData.layableAll [WData.list (ns.map WData.int)] = true) : ∀ x ∈ ns,Bd 1048576 x := fun x hx => by
  have h1 : WData.layable (WData.list (ns.map WData.int)) = true := by simpa [WData.layableAll] using h
  unfold WData.layable at h1
  rw [Bool.and_eq_true] at h1
  have h2 : WData.weight (WData.list (ns.map WData.int)) ≤ 2 ^ 20 := of_decide_eq_true h1.2
  simp only [WData.weight] at h2
  have h3 : WData.weight (WData.int x) ≤ WData.weightAll (ns.map WData.int) := wO (List.mem_map.mpr ⟨x,hx,rfl⟩)
  simp only [WData.weight] at h3
  unfold Bd
  by_cases z : x = 0
  · subst z
    exact Nat.pow_pos (by decide)
  · rw [if_neg (by simpa using z)] at h3
    have e : (2 : Nat) ^ 20 = 1048576 := by decide
    exact (Nat.log2_lt (by omega)).mp (by omega)
theorem attach_callB {l : OpenLaw} {n : Nat} {q : Program} {loose : List Str} {XP : (Str → Option Value) → Heap → Prop} {YP : World → Heap → Prop} {d : DefRec}
    (hn : l.most = some n) (hdf : d.params.defaults = [])
    (call : ∀ (w : World) (s₀ s₁ : Shared) (mg mb : Str → Option Value) (fa : Addr) (a : Addr) (vs : List Value) (ns : List Int),
      Ground q loose [] XP w s₀ mg mb s₁.heap → YP w s₁.heap → mg d.name = some (.ref fa) →
      s₁.heap.get? a = some { cls := .type "list",data := .seq vs.toArray } → IntsAre vs ns → ns.length ≤ n → (∀ x ∈ ns,Bd 1048576 x) → s₁.gens = #[] →
      codeAny (model l.prog w) callerA (.call (.ref fa) ⟨[.ref a],[]⟩) (fun r s' => r = .ok (.ret (.bool true)) ∧ OldK s₁.heap s'.heap ∧ s'.os = s₁.os ∧ AllBare s'.gens) s₁) :
    WalkO q loose XP YP l.row.toRowW d [] (fun f vs => PySem.call f vs) := by
  intro w s₀ s₁ mg mb G Y fa o pm cd doc dV kV ho hd hcd hD hmg hg args vals as hpre hlay hrd hwl hlo
  obtain ⟨a,vs,ns,rfl,rfl,hobj,hints,hlen⟩ := BH hn hpre hwl
  refine enter_call (codeAny_mono (call w s₀ s₁ mg mb fa a vs ns G Y hmg hobj hints hlen (CN hlay) hg) fun r s' hq => ?_)
  obtain ⟨rfl,h2,h3,h4⟩ := hq
  exact ⟨.inl ⟨.bool true,.bool true,[],rfl,fun _ => rfl,.bool true,AR l _,fun _ => ⟨List.Pairwise.nil,fun _ hm => (nomatch hm)⟩⟩,h2,h3,h4⟩
end Att
namespace L2
open PySem PySem.Spec PyProof.Rows Bg
def CU (K : PySem.W.Frag) : Sp := fun vs H Q _ => ∃ (a : Addr) (ns : List Int),vs = [.ref a] ∧ SqL K H a (ns.map V.int) ∧ ns.length ≤ 63 ∧ (∀ x ∈ ns,Bd 1048576 x) ∧ ∀ H',Q (.bl true) H'
theorem walk_B {l : PySem.W.OpenLaw} {k : Nat} {q : Program} {loose : List Str} {XP : (Str → Option Value) → Heap → Prop} {YP : World → Heap → Prop} {d : DefRec} {K : Params → PySem.W.Frag} {x : Str}
    (hn : l.most = some 63) (hdf : d.params.defaults = []) (hr : Room k callerA)
    (hY : ∀ (w : World) (h : Heap),YP w h → (K w.params).In h)
    (F : ∀ (w : World) (mg : Str → Option Value) (fa : Addr) (h : Heap),(K w.params).In h → h.Ns mainGlobals mg → mg d.name = some (.ref fa) →
      ∃ fd : FuncData,(∀ (s : Shared) (u : Value),BindsTo s fd ⟨[u],[]⟩ [(x,u)]) ∧
        ∀ base : Heap,(K w.params).In base → base.Ns mainGlobals mg → FnOk l.prog w (K w.params) mg base CX0 k fa fd [x] (CU (K w.params))) :
    PySem.W.WalkO q loose XP YP l.row.toRowW d [] (fun f vs => PySem.call f vs) := by
  refine Att.attach_callB hn hdf fun w s₀ s₁ mg mb fa a vs ns G Y hmg hobj hints hlen hbd hg => ?_
  have KX := hY w _ Y
  obtain ⟨fd,hb,hF⟩ := F w mg fa _ KX G.T.g hmg
  exact CP KX G.T.g G.T.b G.T.builtins G.T.nolimit hg hobj hints (Nat.le_trans hlen (by decide)) hr hF hb (fun H hO hS => ⟨a,ns,rfl,hS,hlen,hbd,fun _ => rfl⟩) fun H e s' z => z
theorem law_mk {P : Program} {w : World} {K : PySem.W.Frag} {mg : Str → Option Value} {fa : Addr} {k : Nat} {st : Stmt} {x : Str} (T : Top K mg "law" st) (hfa : mg "law" = some (.ref fa))
    (hb : ∀ (kV doc pm : Value) (an : Option Addr) (cdv ct : Value) (v : Value),bindArgs (PySem.W.fnOf "law" "law" (defArgs st) (defBody st) (defScope st) .none kV doc pm an cdv ct) ⟨[v],[]⟩ = pure [(x,v)])
    (h : ∀ base f fd,Fun K "law" "law" st f fd → FnOk P w K mg base CX0 k f fd [x] (CU K)) :
    ∃ fd : FuncData,(∀ (s : Shared) (u : Value),BindsTo s fd ⟨[u],[]⟩ [(x,u)]) ∧ ∀ base : Heap,K.In base → base.Ns mainGlobals mg → FnOk P w K mg base CX0 k fa fd [x] (CU K) := by
  obtain ⟨f,fd,F,m⟩ := T
  have e := hfa.symm.trans m
  cases e
  obtain ⟨oc,od,kV,doc,pm,an,cdv,ct,osl,e1,lk,hcd⟩ := id F.ex
  refine ⟨fd,fun s u => ?_,fun base _ _ => h base _ _ F⟩
  rw [e1]
  exact .of_eq (hb kV doc pm an cdv ct u)
end L2
namespace Bg
theorem Dq (c x y z : Int) : g3 (c * x) (c * y) (c * z) = c.natAbs * g3 x y z := by
  unfold g3
  rw [Int.gcd_mul_left]
  have e1 : ((c.natAbs * Int.gcd z x : Nat) : Int).gcd (c * y) = Int.gcd (c * (Int.gcd z x : Nat)) (c * y) := by
    rw [Int.gcd_eq_natAbs_gcd_natAbs,Int.gcd_eq_natAbs_gcd_natAbs]
    congr 1
    rw [Int.natAbs_mul,Int.natAbs_natCast,Int.natAbs_natCast]
  rw [e1,Int.gcd_mul_left]
theorem Ab {d x y z : Int} (hx : d ∣ x) (hy : d ∣ y) (hz : d ∣ z) : d ∣ (g3 x y z : Int) := Int.dvd_coe_gcd (Int.dvd_coe_gcd hz hx) hy
theorem BG {x y z x' y' z' : Int} (hg : g3 x y z = 1) (hx : x * z' = x' * z) (hy : y * z' = y' * z) : z ∣ z' := by
  have h1 : z ∣ z' * x := ⟨x',by rw [Int.mul_comm z',hx,Int.mul_comm]⟩
  have h2 : z ∣ z' * y := ⟨y',by rw [Int.mul_comm z',hy,Int.mul_comm]⟩
  have h3 : z ∣ z' * z := ⟨z',by rw [Int.mul_comm]⟩
  have h := Ab h1 h2 h3
  rw [Dq,hg,Nat.mul_one] at h
  exact Int.dvd_natAbs.mp h
theorem FP {x y z x' y' z' : Int} (h1 : 1 ≤ z) (h2 : 1 ≤ z') (g1 : g3 x y z = 1) (g2 : g3 x' y' z' = 1) (hx : x * z' = x' * z) (hy : y * z' = y' * z) : x = x' ∧ y = y' ∧ z = z' := by
  have d1 : z ∣ z' := BG g1 hx hy
  have d2 : z' ∣ z := BG g2 hx.symm hy.symm
  have e : z = z' := by
    have a1 := Int.le_of_dvd (by omega) d1
    have a2 := Int.le_of_dvd (by omega) d2
    omega
  subst e
  exact ⟨Int.eq_of_mul_eq_mul_right (by omega) hx,Int.eq_of_mul_eq_mul_right (by omega) hy,rfl⟩
theorem xR {x y z a b n : Int} (h1 : 1 ≤ z) (g1 : g3 x y z = 1) (hn : n ≠ 0) (hx : x * n = a * z) (hy : y * n = b * z) : x = lA a b n ∧ y = lB a b n ∧ z = lN a b n := by
  refine FP h1 (l_n hn) g1 (A9 hn) ?_ ?_
  · have e := l_a (a := a) (b := b) (n := n)
    refine Int.eq_of_mul_eq_mul_right hn ?_
    calc x * lN a b n * n = x * n * lN a b n := by rw [Int.mul_assoc,Int.mul_comm (lN a b n),Int.mul_assoc]
      _ = a * z * lN a b n := by rw [hx]
      _ = a * lN a b n * z := by rw [Int.mul_assoc,Int.mul_comm z,Int.mul_assoc]
      _ = lA a b n * n * z := by rw [e]
      _ = lA a b n * z * n := by rw [Int.mul_assoc,Int.mul_comm n,Int.mul_assoc]
  · have e := l_b (a := a) (b := b) (n := n)
    refine Int.eq_of_mul_eq_mul_right hn ?_
    calc y * lN a b n * n = y * n * lN a b n := by rw [Int.mul_assoc,Int.mul_comm (lN a b n),Int.mul_assoc]
      _ = b * z * lN a b n := by rw [hy]
      _ = b * lN a b n * z := by rw [Int.mul_assoc,Int.mul_comm z,Int.mul_assoc]
      _ = lB a b n * n * z := by rw [e]
      _ = lB a b n * z * n := by rw [Int.mul_assoc,Int.mul_comm n,Int.mul_assoc]
end Bg
namespace Bg
theorem Bd.pow {k : Nat} {x : Int} (h : Bd k x) : ∀ n : Nat,0 < k → Bd (k * n + 1) (x ^ n)
  | 0,_ => by
    unfold Bd
    rw [Int.pow_zero,Nat.mul_zero]
    decide
  | n + 1,hk => by
    have ih := Bd.pow h n hk
    rw [Int.pow_succ]
    have e : k * (n + 1) + 1 = (k * n + 1) + k := by rw [Nat.mul_succ]; omega
    rw [e]
    exact ih.mul h
theorem Eh {k n : Nat} {x : Int} (h : Bd k x) : Bd ((k + 1) * n + 1) (x ^ n) := Bd.pow (h.mono (Nat.le_succ k)) n (Nat.succ_pos k)
theorem tH {k : Nat} {x y : Int} (h : Bd k x) : Bd k (x / y) := h.of_le (Int.natAbs_ediv_le_natAbs x y)
theorem Ej {k : Nat} {x y : Int} (h : Bd k y) (hy : 0 < y) : Bd k (x % y) := h.emod (by omega) x
theorem zY {k : Nat} {x B : Int} (h0 : 0 ≤ x) (h1 : x ≤ B) (hB : B.natAbs < 2 ^ k) : Bd k x := by
  unfold Bd
  omega
theorem xl {x : Int} (k : Nat) (h0 : -1000000 ≤ x) (h1 : x ≤ 1000000) (hk : 20 ≤ k) : Bd k x := by
  have h : Bd 20 x := by
    unfold Bd
    have : (2 : Nat) ^ 20 = 1048576 := by decide
    omega
  exact h.mono hk
theorem CK (a b : Int) : Int.gcd (if a < 0 then -a else a) (if b < 0 then -b else b) = Int.gcd a b := by
  have e : ∀ x : Int,(if x < 0 then -x else x) = (x.natAbs : Int) := fun x => by split <;> omega
  rw [e,e,Int.gcd_eq_natAbs_gcd_natAbs,Int.gcd_eq_natAbs_gcd_natAbs,Int.natAbs_natCast,Int.natAbs_natCast]
end Bg
namespace L2
open PySem PySem.Spec PyProof.Rows Bg
section
variable {σ : St} {H : Hp} {Q : VK} {D : Ends} {K : PySem.W.Frag}
def tCut (t : TS) : TS := fun D σ H => ∃ T : St → Hp → Prop,(∀ σ' H',T σ' H' → D.nx σ' H') ∧ t { D with nx := T } σ H
theorem wl {X : Cx} {st : Stmt} {t : TS} (h : PS X st t) : PS X st (tCut t) := by
  intro pins s σ H D I hw
  obtain ⟨T,hT,hw⟩ := hw
  refine thn (h pins s σ H _ I hw) fun f s' q => ?_
  cases f with
  | next => obtain ⟨σ',H',I',q⟩ := q; exact ⟨σ',H',I',hT _ _ q⟩
  | brk => exact q
  | cont => exact q
  | ret v => exact q
theorem uj {t : TS} {T : St → Hp → Prop} (h : t { D with nx := T } σ H) (hT : ∀ σ' H',T σ' H' → D.nx σ' H') : tCut t D σ H := ⟨T,hT,h⟩
theorem yL {xs : List V} (hl : xs.length ≤ 1000) (h : ∀ p H2,Same H H2 → H2 p = some (.tup xs) → Q (.ref p) H2) : NewT xs H Q :=
  ⟨xi hl,fun p hp => h p _ (zU hp _) zq⟩
theorem Dk {xs : List V} (hl : xs.length ≤ 1000) (h : ∀ p H2,Same H H2 → H2 p = some (.lst xs) → Q (.ref p) H2) : NewL xs H Q :=
  ⟨xi hl,fun p hp => h p _ (zU hp _) zq⟩
theorem zw {xs : List V} (hl : xs.length ≤ 1000) (h : ∀ p H2,H p = none → Same H H2 → H2 p = some (.lst xs) → Q (.ref p) H2) : NewL xs H Q :=
  ⟨xi hl,fun p hp => h p _ hp (zU hp _) zq⟩
theorem DQ {l b : Addr} {xs zs : List V} (h1 : H l = some (.lst xs)) (h2 : H b = some (.lst zs)) (hz : xs.length + zs.length ≤ 1000) (h : ∀ p H2,Same H H2 → H2 p = some (.lst (xs ++ zs)) → Q (.ref p) H2) : rCat (.ref l) (.ref b) H Q :=
  ⟨l,b,xs,zs,rfl,rfl,h1,h2,xi hz,fun p hp => h p _ (zU hp _) zq⟩
theorem i_sl {r : V → Option Int → Option Int → Hp → VK → Prop} {te : TE} {tl th : TO} (h : te σ H fun x H1 => tl σ H1 fun l H2 => th σ H2 fun u H3 => r x l u H3 Q) : tSl r te tl th σ H Q := h
theorem Cw {R : Option Int → Hp → Prop} (h : R none H) : BD σ H R := h
theorem F1 {t : TE} {R : Option Int → Hp → Prop} (h : t σ H fun x H1 => ∃ i,x = .int i ∧ R (some i) H1) : EO t σ H R := h
theorem GK {k : Int} {R : Int → Prop} (h : R k) : ∃ k',V.int k = .int k' ∧ R k' := ⟨k,rfl,h⟩
theorem wf {tl : TE} {g : TG} {tb : TS} (h : tl σ H fun x H1 => ∃ a,x = .ref a ∧ (∃ xs,SqL K H1 a xs) ∧ ∃ W : Nat → Nat → St → Hp → Prop,(∃ m,W 0 m σ H1) ∧ ∀ i m σ H,W i m σ H →
  ((Itl K a).stop i H ∧ D.nx σ H) ∨ ((Itl K a).go i H ∧ ∃ N : St → Hp → Prop,(∀ σ' H',N σ' H' → ∃ m',m' < m ∧ W (i + 1) m' σ' H') ∧ ∀ x H',(Itl K a).yld i H x H' → g x σ H' fun σ2 H2 => tb { D with nx := N,ct := N,bk := D.nx } σ2 H2)) :
  tFor (DV K tl) g tb D σ H := h
theorem DR {ns : List Int} {i : Nat} {y : V} (h : (ns.map V.int)[i]? = some y) : ∃ z,y = V.int z ∧ z ∈ ns := by
  rw [List.getElem?_map] at h
  cases e : ns[i]? with
  | none => rw [e] at h; cases h
  | some z => rw [e] at h; exact ⟨z,(Option.some.inj h).symm,List.mem_of_getElem? e⟩
end
end L2
namespace L2
open PySem PySem.Spec PyProof.Rows Bg
def EqV (X : Cx) (n : Nat) (H : Hp) (x y : V) (b : Bool) : Prop :=
  ∀ (pins : List (Addr × Obj)) (σ : St) (s : Shared) (v u : Value) (A : Around),Inv X pins σ H s → RelV x v → RelV y u → A.units + 4 * n < cLine → SeqAt.EqAt A s v u b
theorem EqV.int {X : Cx} {n : Nat} {H : Hp} (i j : Int) : EqV X n H (.int i) (.int j) (i == j) := fun _ _ s v u A _ rv ru _ => by
  obtain ⟨t,rfl⟩ := rv
  obtain ⟨t',rfl⟩ := ru
  exact SeqAt.EqAt.int_int i t j t'
inductive EqVs (X : Cx) (n : Nat) (H : Hp) : List V → List V → List Bool → Prop
  | nil : EqVs X n H [] [] []
  | cons {x y : V} {b : Bool} {xs ys : List V} {bs : List Bool} : EqV X n H x y b → EqVs X n H xs ys bs → EqVs X n H (x :: xs) (y :: ys) (b :: bs)
theorem EqVs.at {X : Cx} {n : Nat} {H : Hp} : ∀ {xs ys : List V} {bs : List Bool},EqVs X n H xs ys bs → ∀ {j : Nat} {x y : V},xs[j]? = some x → ys[j]? = some y → EqV X n H x y (bs.getD j false)
  | _,_,_,.nil,j,x,y,h,_ => by simp at h
  | _,_,_,.cons e _,0,x,y,h1,h2 => by
    simp at h1 h2
    subst h1; subst h2
    exact e
  | _,_,_,.cons _ r,j + 1,x,y,h1,h2 => by
    have := EqVs.at r (j := j) (x := x) (y := y) (by simpa using h1) (by simpa using h2)
    simpa using this
theorem EqVs.len {X : Cx} {n : Nat} {H : Hp} : ∀ {xs ys : List V} {bs : List Bool},EqVs X n H xs ys bs → xs.length = bs.length ∧ ys.length = bs.length
  | _,_,_,.nil => ⟨rfl,rfl⟩
  | _,_,_,.cons _ r => by
    have := r.len
    simp only [List.length_cons]
    omega
theorem vx (bs : List Bool) : ((List.range bs.length).all fun j => bs.getD j false) = bs.all id := by
  rw [Bool.eq_iff_iff]
  simp only [List.all_eq_true,List.mem_range,id]
  constructor
  · intro h b hb
    obtain ⟨j,hj,e⟩ := List.mem_iff_getElem.mp hb
    have := h j hj
    rw [List.getD_eq_getElem?_getD,List.getElem?_eq_getElem hj] at this
    rw [← e]
    exact this
  · intro h j hj
    rw [List.getD_eq_getElem?_getD,List.getElem?_eq_getElem hj]
    exact h _ (List.getElem_mem hj)
theorem A6 {X : Cx} {n : Nat} {H : Hp} {a b : Addr} {xs ys : List V} {bs : List Bool} {pins : List (Addr × Obj)} {σ : St} {s : Shared} {A : Around} (ha : SqT X.K H a xs) (hb : SqT X.K H b ys) (he : EqVs X n H xs ys bs) (I : Inv X pins σ H s) (hu : A.units + 4 * (n + 1) < cLine) :
    ∃ (is js : Array Value),s.heap.IsTuple a is ∧ s.heap.IsTuple b js ∧ (∀ j (h1 : j < is.size) (h2 : j < js.size),SeqAt.EqAt A.in1 s is[j] js[j] (bs.getD j false)) ∧ ((List.range (min is.size js.size)).all (fun j => bs.getD j false) && is.size == js.size) = bs.all id := by
  obtain ⟨is,r1,p1,_⟩ := I.tuple ha
  obtain ⟨js,r2,p2,_⟩ := I.tuple hb
  obtain ⟨l1,l2⟩ := he.len
  have q1 := r1.length
  have q2 := r2.length
  refine ⟨is.toArray,js.toArray,(show s.heap.IsTuple a is.toArray from p1),(show s.heap.IsTuple b js.toArray from p2),fun j h1 h2 => ?_,?_⟩
  · have hj1 : j < xs.length := by rw [q1]; simpa using h1
    have hj2 : j < ys.length := by rw [q2]; simpa using h2
    obtain ⟨v,ev,rv⟩ := r1.get (List.getElem?_eq_getElem hj1)
    obtain ⟨u,eu,ru⟩ := r2.get (List.getElem?_eq_getElem hj2)
    have e1 : is.toArray[j] = v := by
      have : is[j]? = some v := ev
      rw [List.getElem?_eq_getElem (by simpa using h1)] at this
      simpa using Option.some.inj this
    have e2 : js.toArray[j] = u := by
      have : js[j]? = some u := eu
      rw [List.getElem?_eq_getElem (by simpa using h2)] at this
      simpa using Option.some.inj this
    rw [e1,e2]
    exact he.at (List.getElem?_eq_getElem hj1) (List.getElem?_eq_getElem hj2) pins σ s v u A.in1 I rv ru (by show A.units + 1 + 4 * n < cLine; omega)
  · have e1 : is.toArray.size = bs.length := by rw [List.size_toArray]; omega
    have e2 : js.toArray.size = bs.length := by rw [List.size_toArray]; omega
    rw [e1,e2,Nat.min_self,vx]
    simp
theorem EqV.tup {X : Cx} {n : Nat} {H : Hp} {a b : Addr} {xs ys : List V} {bs : List Bool} (ha : SqT X.K H a xs) (hb : SqT X.K H b ys) (he : EqVs X n H xs ys bs) (hs : a = b → bs.all id = true) : EqV X (n + 1) H (.ref a) (.ref b) (bs.all id) := fun pins σ s v u A I rv ru hu => by
  cases rv
  cases ru
  by_cases hab : a = b
  · subst hab
    rw [hs rfl]
    exact SeqAt.EqAt.same _
  · obtain ⟨is,js,p1,p2,hj,e⟩ := A6 ha hb he I hu
    have := SeqAt.RcAt.tuples (A := A) (e := fun j => bs.getD j false) p1 p2 (by omega) hj
    rw [e] at this
    exact SeqAt.EqAt.of_refs hab this
def rEqT (X : Cx) : R2 := fun x y H Q => ∃ a b xs ys bs n,x = .ref a ∧ y = .ref b ∧ n ≤ 9 ∧ SqT X.K H a xs ∧ SqT X.K H b ys ∧ EqVs X n H xs ys bs ∧ Q (.bl (bs.all id)) H
def rNeT (X : Cx) : R2 := fun x y H Q => ∃ a b xs ys bs n,x = .ref a ∧ y = .ref b ∧ n ≤ 9 ∧ SqT X.K H a xs ∧ SqT X.K H b ys ∧ EqVs X n H xs ys bs ∧ Q (.bl (!(bs.all id))) H
theorem Dp {X : Cx} (hu : X.A.units + 64 < cLine) : OpR X (compareOp .Eq) (rEqT X) := by
  intro pins s σ H x y v u Q I rx ry h
  obtain ⟨a,b,xs,ys,bs,n,rfl,rfl,hn,ha,hb,he,q⟩ := h
  cases rx
  cases ry
  obtain ⟨is,js,p1,p2,hj,e⟩ := A6 (A := X.A) ha hb he I (by omega)
  refine SeqAt.eq_tupleAt p1 p2 (by omega) hj ?_
  rw [e]
  exact ⟨.bl _,H,I,rfl,q⟩
theorem Dc {X : Cx} (hu : X.A.units + 64 < cLine) : OpR X (compareOp .NotEq) (rNeT X) := by
  intro pins s σ H x y v u Q I rx ry h
  obtain ⟨a,b,xs,ys,bs,n,rfl,rfl,hn,ha,hb,he,q⟩ := h
  cases rx
  cases ry
  obtain ⟨is,js,p1,p2,hj,e⟩ := A6 (A := X.A) ha hb he I (by omega)
  refine SeqAt.RcNeAt.tuples p1 p2 (by omega) hj X.prog X.w X.xe _ ?_
  rw [e]
  exact ⟨.bl _,H,I,rfl,q⟩
theorem Gw {X : Cx} {H : Hp} {Q : VK} {a b : Addr} {x y z x' y' z' : Int} (ha : H a = some (.tup [.int x,.int y,.int z])) (hb : H b = some (.tup [.int x',.int y',.int z'])) (q : Q (.bl (decide (x = x' ∧ y = y' ∧ z = z'))) H) : rEqT X (.ref a) (.ref b) H Q := by
  refine ⟨a,b,_,_,_,0,rfl,rfl,Nat.zero_le _,SqT.of ha,SqT.of hb,.cons (.int x x') (.cons (.int y y') (.cons (.int z z') .nil)),?_⟩
  have e : ([x == x',y == y',z == z'] : List Bool).all id = decide (x = x' ∧ y = y' ∧ z = z') := by
    rw [Bool.eq_iff_iff]
    simp
  rw [e]
  exact q
theorem Gr {X : Cx} {H : Hp} {Q : VK} {a b : Addr} {x y z x' y' z' : Int} (ha : H a = some (.tup [.int x,.int y,.int z])) (hb : H b = some (.tup [.int x',.int y',.int z'])) (q : Q (.bl (!decide (x = x' ∧ y = y' ∧ z = z'))) H) : rNeT X (.ref a) (.ref b) H Q := by
  refine ⟨a,b,_,_,_,0,rfl,rfl,Nat.zero_le _,SqT.of ha,SqT.of hb,.cons (.int x x') (.cons (.int y y') (.cons (.int z z') .nil)),?_⟩
  have e : ([x == x',y == y',z == z'] : List Bool).all id = decide (x = x' ∧ y = y' ∧ z = z') := by
    rw [Bool.eq_iff_iff]
    simp
  rw [e]
  exact q
end L2
namespace L2
open PySem PySem.Spec PyProof.Rows Bg
theorem Gq {X : Cx} {H : Hp} {Q : VK} {a b : Addr} {x z x' z' : Int} (ha : H a = some (.tup [.int x,.int z])) (hb : H b = some (.tup [.int x',.int z'])) (q : Q (.bl (!decide (x = x' ∧ z = z'))) H) : rNeT X (.ref a) (.ref b) H Q := by
  refine ⟨a,b,_,_,_,0,rfl,rfl,Nat.zero_le _,SqT.of ha,SqT.of hb,.cons (.int x x') (.cons (.int z z') .nil),?_⟩
  have e : ([x == x',z == z'] : List Bool).all id = decide (x = x' ∧ z = z') := by
    rw [Bool.eq_iff_iff]
    simp
  rw [e]
  exact q
theorem eqv3 {X : Cx} {H : Hp} {a b : Addr} {x y z : Int} (ha : H a = some (.tup [.int x,.int y,.int z])) (hb : H b = some (.tup [.int x,.int y,.int z])) : EqV X 1 H (.ref a) (.ref b) true := by
  have e : ([x == x,y == y,z == z] : List Bool).all id = true := by simp
  have := EqV.tup (X := X) (n := 0) (SqT.of ha) (SqT.of hb) (.cons (.int x x) (.cons (.int y y) (.cons (.int z z) .nil))) (fun _ => e)
  rw [e] at this
  exact this
def SameX (l : Addr) (H H' : Hp) : Prop := ∀ b o,H b = some o → b ≠ l → H' b = some o
theorem Same.sameX {H H' : Hp} (s : Same H H') (l : Addr) : SameX l H H' := fun b o e _ => s b o e
theorem SameX.trans {l : Addr} {H H1 H2 : Hp} (a : SameX l H H1) (b : SameX l H1 H2) : SameX l H H2 := fun c o e n => b c o (a c o e n) n
theorem SameX.tup {l p : Addr} {H H' : Hp} {xs ys : List V} (s : SameX l H H') (h : H p = some (.tup xs)) (hl : H l = some (.lst ys)) : H' p = some (.tup xs) := s _ _ h (yw h hl (fun z => nomatch z))
section
variable {σ : St} {H : Hp} {Q : VK} {D : Ends} {K : PySem.W.Frag}
theorem zG {l : Addr} {xs : List V} {y : V} (h : H l = some (.lst xs)) (hz : xs.length < 1000) (q : ∀ H2,SameX l H H2 → H2 l = some (.lst (xs ++ [y])) → Q .non H2) : zZ (.ref l) [y] H Q :=
  ⟨l,xs,y,rfl,rfl,h,Nat.lt_of_lt_of_le hz (xi (Nat.le_refl _)),q _ (fun b o e n => by rw [zv n]; exact e) zq⟩
theorem i_bm {T : String} {r : V → List V → Hp → VK → Prop} {to : TE} {t : TA} (h : to σ H fun x H1 => tyV K T x H1 ∧ t σ H1 fun xs H2 => r x xs H2 Q) : tBM K T r to t σ H Q := h
theorem GE {l : Addr} {xs : List V} {R : Prop} (h : H l = some (.lst xs)) (q : R) : tyV K "list" (.ref l) H ∧ R := ⟨.inl ⟨rfl,_,SqL.of h⟩,q⟩
theorem wW {ta : TA} {g : TG} {tb : TS} (h : ta σ H fun vs H1 => ∃ j : Int,vs = [.int j] ∧ -(2 ^ 62) ≤ j ∧ j < 2 ^ 62 ∧ ∃ W : Nat → Nat → St → Hp → Prop,(∃ m,W 0 m σ H1) ∧ ∀ i m σ H,W i m σ H →
  ((Itr 0 j.toNat).stop i H ∧ D.nx σ H) ∨ ((Itr 0 j.toNat).go i H ∧ ∃ N : St → Hp → Prop,(∀ σ' H',N σ' H' → ∃ m',m' < m ∧ W (i + 1) m' σ' H') ∧ ∀ x H',(Itr 0 j.toNat).yld i H x H' → g x σ H' fun σ2 H2 => tb { D with nx := N,ct := N,bk := D.nx } σ2 H2)) :
  tFor (Em ta) g tb D σ H := h
end
end L2
namespace Bg
structure Rt (d : Int) : Prop where
  lo : 2 ≤ d
  hi : d ≤ 99
  ns : ∀ k : Nat,((k * k : Nat) : Int) ≠ d
theorem Gj {d : Int} (h : 2 ≤ d ∧ d ≤ 99) (n : d ≠ 4 ∧ d ≠ 9 ∧ d ≠ 16 ∧ d ≠ 25 ∧ d ≠ 36 ∧ d ≠ 49 ∧ d ≠ 64 ∧ d ≠ 81) : Rt d := by
  refine ⟨h.1,h.2,fun k e => ?_⟩
  have hk : k < 10 := by
    refine Nat.lt_of_not_le fun z => ?_
    have : 10 * 10 ≤ k * k := Nat.mul_le_mul z z
    omega
  have : k = 0 ∨ k = 1 ∨ k = 2 ∨ k = 3 ∨ k = 4 ∨ k = 5 ∨ k = 6 ∨ k = 7 ∨ k = 8 ∨ k = 9 := by omega
  rcases this with q | q | q | q | q | q | q | q | q | q <;> subst q <;> omega
theorem irrN {D A B : Nat} (ns : ∀ k : Nat,k * k ≠ D) (e : A * A = D * B * B) : B = 0 := by
  rcases Nat.eq_zero_or_pos B with z | hB
  · exact z
  exfalso
  have hg : 0 < Nat.gcd A B := Nat.gcd_pos_of_pos_right A hB
  have hc := Nat.coprime_div_gcd_div_gcd hg
  obtain ⟨a,ha⟩ := Nat.gcd_dvd_left A B
  obtain ⟨b,hb⟩ := Nat.gcd_dvd_right A B
  have ea : A / Nat.gcd A B = a := by rw [Nat.div_eq_iff_eq_mul_right hg (Nat.gcd_dvd_left A B)]; exact ha
  have eb : B / Nat.gcd A B = b := by rw [Nat.div_eq_iff_eq_mul_right hg (Nat.gcd_dvd_right A B)]; exact hb
  rw [ea,eb] at hc
  generalize Nat.gcd A B = g at *
  have e2 : a * a = D * b * b := by
    have h1 : g * g * (a * a) = g * g * (D * b * b) := by
      rw [ha,hb] at e
      calc g * g * (a * a) = g * a * (g * a) := by simp only [Nat.mul_assoc,Nat.mul_left_comm]
        _ = D * (g * b) * (g * b) := e
        _ = g * g * (D * b * b) := by simp only [Nat.mul_assoc,Nat.mul_left_comm]
    exact Nat.eq_of_mul_eq_mul_left (Nat.mul_pos hg hg) h1
  have d1 : b ∣ a * a := ⟨D * b,by rw [e2,Nat.mul_comm b]⟩
  have d2 : b ∣ a := hc.symm.dvd_of_dvd_mul_left d1
  have d3 : b = 1 := by
    have : b ∣ Nat.gcd a b := Nat.dvd_gcd d2 (Nat.dvd_refl b)
    rw [show Nat.gcd a b = 1 from hc] at this
    exact Nat.dvd_one.mp this
  rw [d3,Nat.mul_one,Nat.mul_one] at e2
  exact ns a e2
theorem irr {d a b : Int} (h : Rt d) (e : a * a = d * b * b) : b = 0 := by
  have hd : (d.toNat : Int) = d := Int.toNat_of_nonneg (by have := h.lo; omega)
  have := irrN (D := d.toNat) (A := a.natAbs) (B := b.natAbs) (fun k q => h.ns k (by rw [q]; exact hd)) (by
    have h1 : ((a.natAbs * a.natAbs : Nat) : Int) = ((d.toNat * b.natAbs * b.natAbs : Nat) : Int) := by
      have ea : ((a.natAbs * a.natAbs : Nat) : Int) = a * a := Int.natAbs_mul_self
      have eb : ((b.natAbs * b.natAbs : Nat) : Int) = b * b := Int.natAbs_mul_self
      rw [ea,Nat.mul_assoc,Int.natCast_mul,eb,hd,← Int.mul_assoc]
      exact e
    exact Int.ofNat.inj h1)
  omega
def sgn (d a b : Int) : Int := if 0 ≤ a ∧ 0 ≤ b then (if 0 < a + b then 1 else 0) else if a ≤ 0 ∧ b ≤ 0 then -1 else if 0 < a then (if d * b * b < a * a then 1 else -1) else (if a * a < d * b * b then 1 else -1)
theorem BN {b : Int} (h : b ≠ 0) : 0 < b * b := by
  rcases Int.lt_or_gt_of_ne h with q | q
  · exact Int.mul_pos_of_neg_of_neg q q
  · exact Int.mul_pos q q
theorem DT {d b : Int} (h : 2 ≤ d) (hb : b ≠ 0) : 0 < d * b * b := by rw [Int.mul_assoc]; exact Int.mul_pos (by omega) (BN hb)
def nrm (d a b : Int) : Int := a * a - d * b * b
theorem tX {d a b : Int} (h : Rt d) (e : nrm d a b = 0) : a = 0 ∧ b = 0 := by
  unfold nrm at e
  have hb := irr (a := a) (b := b) h (by omega)
  subst hb
  rw [Int.mul_zero] at e
  refine ⟨?_,rfl⟩
  rcases Int.lt_trichotomy a 0 with q | q | q
  · have := Int.mul_pos_of_neg_of_neg q q; omega
  · exact q
  · have := Int.mul_pos q q; omega
def sg (x : Int) : Int := if 0 < x then 1 else if x < 0 then -1 else 0
theorem yO {d a b : Int} (h : Rt d) (n : 0 < nrm d a b) : sgn d a b = sg a := by
  unfold nrm at n
  have ha : a ≠ 0 := fun z => by
    subst z
    by_cases hb : b = 0
    · subst hb; simp at n
    · have := DT h.lo hb
      omega
  unfold sgn sg
  repeat' split
  all_goals omega
theorem yq {d a b : Int} (h : Rt d) (n : nrm d a b < 0) : sgn d a b = sg b := by
  unfold nrm at n
  have hb : b ≠ 0 := fun z => by
    subst z
    rw [Int.mul_zero] at n
    by_cases ha : a = 0
    · subst ha; simp at n
    · have := BN ha
      omega
  unfold sgn sg
  repeat' split
  all_goals omega
theorem yj (d : Int) : sgn d 0 0 = 0 := by simp [sgn]
theorem nrm_tri {d a b : Int} (h : Rt d) : (0 < nrm d a b) ∨ (nrm d a b < 0) ∨ (a = 0 ∧ b = 0) := by
  rcases Int.lt_trichotomy (nrm d a b) 0 with q | q | q
  · exact .inr (.inl q)
  · exact .inr (.inr (tX h q))
  · exact .inl q
theorem Dm (x : Int) : sg (-x) = - sg x := by unfold sg; repeat' split <;> omega
theorem Bz (d a b : Int) : nrm d (-a) (-b) = nrm d a b := by unfold nrm; rw [Int.neg_mul_neg,Int.mul_assoc,Int.neg_mul_neg,← Int.mul_assoc]
theorem wF {d : Int} (h : Rt d) (a b : Int) : sgn d (-a) (-b) = - sgn d a b := by
  rcases nrm_tri (a := a) (b := b) h with q | q | ⟨rfl,rfl⟩
  · rw [yO h q,yO h (by rw [Bz]; exact q),Dm]
  · rw [yq h q,yq h (by rw [Bz]; exact q),Dm]
  · rfl
theorem sg_cases (x : Int) : (0 < x ∧ sg x = 1) ∨ (x < 0 ∧ sg x = -1) ∨ (x = 0 ∧ sg x = 0) := by unfold sg; repeat' split <;> omega
theorem vo {k : Int} (hk : 0 < k) (x : Int) : sg (k * x) = sg x := by
  rcases sg_cases x with ⟨q,e⟩ | ⟨q,e⟩ | ⟨q,e⟩
  · have := Int.mul_pos hk q
    rw [e]; unfold sg; rw [if_pos this]
  · have := Int.mul_neg_of_pos_of_neg hk q
    rw [e]; unfold sg; rw [if_neg (by omega),if_pos this]
  · subst q; simp
theorem BK (d k a b : Int) : nrm d (k * a) (k * b) = k * k * nrm d a b := by
  unfold nrm
  rw [Int.mul_sub]
  congr 1
  · simp only [Int.mul_assoc,Int.mul_left_comm]
  · simp only [Int.mul_assoc,Int.mul_left_comm,Int.mul_comm d]
theorem xH {d k : Int} (h : Rt d) (hk : 0 < k) (a b : Int) : sgn d (k * a) (k * b) = sgn d a b := by
  have kk : 0 < k * k := Int.mul_pos hk hk
  rcases nrm_tri (a := a) (b := b) h with q | q | ⟨rfl,rfl⟩
  · rw [yO h q,yO h (by rw [BK]; exact Int.mul_pos kk q),vo hk]
  · rw [yq h q,yq h (by rw [BK]; exact Int.mul_neg_of_pos_of_neg kk q),vo hk]
  · simp
theorem xM {d k m a b a' b' : Int} (h : Rt d) (hk : 0 < k) (hm : 0 < m) (ea : k * a = m * a') (eb : k * b = m * b') : sgn d a b = sgn d a' b' := by
  rw [← xH h hk a b,← xH h hm a' b',ea,eb]
theorem Ct (d a b a' b' : Int) : nrm d (a * a' + d * b * b') (a * b' + b * a') = nrm d a b * nrm d a' b' := by
  unfold nrm
  simp only [Int.mul_add,Int.add_mul,Int.mul_sub,Int.sub_mul]
  have e1 : a * a' * (a * a') = a * a * (a' * a') := by simp only [Int.mul_assoc,Int.mul_left_comm]
  have e2 : d * b * b' * (d * b * b') = d * b * b * (d * b' * b') := by simp only [Int.mul_assoc,Int.mul_left_comm]
  have e3 : d * (a * b') * (a * b') = a * a * (d * b' * b') := by simp only [Int.mul_assoc,Int.mul_left_comm]
  have e4 : d * (b * a') * (b * a') = d * b * b * (a' * a') := by simp only [Int.mul_assoc,Int.mul_left_comm,Int.mul_comm]
  have e5 : d * b * b' * (a * a') = d * (b * a') * (a * b') := by simp only [Int.mul_assoc,Int.mul_left_comm,Int.mul_comm]
  have e6 : a * a' * (d * b * b') = d * (a * b') * (b * a') := by simp only [Int.mul_assoc,Int.mul_left_comm,Int.mul_comm]
  omega
theorem xL {x y : Int} (hx : 0 < x) (h : y * y < x * x) : -x < y ∧ y < x := by
  constructor
  · refine Int.lt_of_not_ge fun z => ?_
    have : x * x ≤ (-y) * (-y) := Int.mul_le_mul (by omega) (by omega) (by omega) (by omega)
    rw [Int.neg_mul_neg] at this
    omega
  · refine Int.lt_of_not_ge fun z => ?_
    have : x * x ≤ y * y := Int.mul_le_mul z z (by omega) (by omega)
    omega
theorem yU {p q r s : Int} (h1 : p < q) (h2 : r < s) (hp : 0 ≤ p) (hr : 0 ≤ r) : p * r < q * s := by
  have a1 : p * r ≤ p * s := Int.mul_le_mul_of_nonneg_left (by omega) hp
  have a2 : p * s < q * s := Int.mul_lt_mul_of_pos_right h1 (by omega)
  omega
theorem Av (x : Int) : 0 ≤ x * x := by
  by_cases h : x = 0
  · subst h; simp
  · exact Int.le_of_lt (BN h)
theorem uN {d : Int} (h : 2 ≤ d) (x : Int) : 0 ≤ d * x * x := by rw [Int.mul_assoc]; exact Int.mul_nonneg (by omega) (Av x)
theorem Al {d a b a' b' : Int} (h : Rt d) (h1 : sgn d a b = 1) (h2 : sgn d a' b' = 1) : sgn d (a * a' + d * b * b') (a * b' + b * a') = 1 := by
  have hd := h.lo
  have np := Ct d a b a' b'
  rcases nrm_tri (a := a) (b := b) h with q | q | ⟨rfl,rfl⟩
  · have sa : 0 < a := by rw [yO h q] at h1; unfold sg at h1; split at h1 <;> omega
    rcases nrm_tri (a := a') (b := b') h with q' | q' | ⟨rfl,rfl⟩
    · have sa' : 0 < a' := by rw [yO h q'] at h2; unfold sg at h2; split at h2 <;> omega
      have n : 0 < nrm d (a * a' + d * b * b') (a * b' + b * a') := by rw [np]; exact Int.mul_pos q q'
      rw [yO h n]
      unfold nrm at q q'
      have k := yU (p := d * b * b) (q := a * a) (r := d * b' * b') (s := a' * a') (by omega) (by omega) (uN hd b) (uN hd b')
      have e1 : d * b * b * (d * b' * b') = (d * b * b') * (d * b * b') := by simp only [Int.mul_assoc,Int.mul_left_comm]
      have e2 : a * a * (a' * a') = a * a' * (a * a') := by simp only [Int.mul_assoc,Int.mul_left_comm]
      rw [e1,e2] at k
      have := (xL (Int.mul_pos sa sa') k).1
      unfold sg
      rw [if_pos (by omega)]
    · have sb' : 0 < b' := by rw [yq h q'] at h2; unfold sg at h2; split at h2 <;> omega
      have n : nrm d (a * a' + d * b * b') (a * b' + b * a') < 0 := by rw [np]; exact Int.mul_neg_of_pos_of_neg q q'
      rw [yq h n]
      unfold nrm at q q'
      have k := yU (p := d * b * b) (q := a * a) (r := a' * a') (s := d * b' * b') (by omega) (by omega) (uN hd b) (Av a')
      have e1 : d * b * b * (a' * a') = d * (b * a' * (b * a')) := by simp only [Int.mul_assoc,Int.mul_left_comm]
      have e2 : a * a * (d * b' * b') = d * (a * b' * (a * b')) := by simp only [Int.mul_assoc,Int.mul_left_comm]
      rw [e1,e2] at k
      have k' := Int.lt_of_mul_lt_mul_left k (by omega)
      have := (xL (Int.mul_pos sa sb') k').1
      unfold sg
      rw [if_pos (by omega)]
    · rw [yj] at h2; omega
  · have sb : 0 < b := by rw [yq h q] at h1; unfold sg at h1; split at h1 <;> omega
    rcases nrm_tri (a := a') (b := b') h with q' | q' | ⟨rfl,rfl⟩
    · have sa' : 0 < a' := by rw [yO h q'] at h2; unfold sg at h2; split at h2 <;> omega
      have n : nrm d (a * a' + d * b * b') (a * b' + b * a') < 0 := by rw [np]; exact Int.mul_neg_of_neg_of_pos q q'
      rw [yq h n]
      unfold nrm at q q'
      have k := yU (p := a * a) (q := d * b * b) (r := d * b' * b') (s := a' * a') (by omega) (by omega) (Av a) (uN hd b')
      have e1 : a * a * (d * b' * b') = d * (a * b' * (a * b')) := by simp only [Int.mul_assoc,Int.mul_left_comm]
      have e2 : d * b * b * (a' * a') = d * (b * a' * (b * a')) := by simp only [Int.mul_assoc,Int.mul_left_comm]
      rw [e1,e2] at k
      have k' := Int.lt_of_mul_lt_mul_left k (by omega)
      have := (xL (Int.mul_pos sb sa') k').1
      unfold sg
      rw [if_pos (by omega)]
    · have sb' : 0 < b' := by rw [yq h q'] at h2; unfold sg at h2; split at h2 <;> omega
      have n : 0 < nrm d (a * a' + d * b * b') (a * b' + b * a') := by rw [np]; exact Int.mul_pos_of_neg_of_neg q q'
      rw [yO h n]
      unfold nrm at q q'
      have k := yU (p := a * a) (q := d * b * b) (r := a' * a') (s := d * b' * b') (by omega) (by omega) (Av a) (Av a')
      have e1 : a * a * (a' * a') = a * a' * (a * a') := by simp only [Int.mul_assoc,Int.mul_left_comm]
      have e2 : d * b * b * (d * b' * b') = (d * b * b') * (d * b * b') := by simp only [Int.mul_assoc,Int.mul_left_comm]
      rw [e1,e2] at k
      have := (xL (Int.mul_pos (Int.mul_pos (by omega) sb) sb') k).1
      unfold sg
      rw [if_pos (by omega)]
    · rw [yj] at h2; omega
  · rw [yj] at h1; omega
theorem sgn_tri {d : Int} (h : Rt d) (a b : Int) : sgn d a b = 1 ∨ sgn d a b = -1 ∨ (a = 0 ∧ b = 0) := by
  rcases nrm_tri (a := a) (b := b) h with q | q | q
  · have ha : a ≠ 0 := fun z => by
      subst z
      unfold nrm at q
      have := uN h.lo b
      omega
    rw [yO h q]
    rcases sg_cases a with ⟨_,e⟩ | ⟨_,e⟩ | ⟨e,_⟩
    · exact .inl e
    · exact .inr (.inl e)
    · exact absurd e ha
  · have hb : b ≠ 0 := fun z => by
      subst z
      unfold nrm at q
      rw [Int.mul_zero] at q
      have := Av a
      omega
    rw [yq h q]
    rcases sg_cases b with ⟨_,e⟩ | ⟨_,e⟩ | ⟨e,_⟩
    · exact .inl e
    · exact .inr (.inl e)
    · exact absurd e hb
  · exact .inr (.inr q)
theorem Aa {d a b a' b' : Int} (h : Rt d) : sgn d (a * a' + d * b * b') (a * b' + b * a') = sgn d a b * sgn d a' b' := by
  have neg1 : ∀ a b,sgn d a b = -1 → sgn d (-a) (-b) = 1 := fun a b e => by rw [wF h,e]; rfl
  rcases sgn_tri h a b with p | p | ⟨rfl,rfl⟩
  · rcases sgn_tri h a' b' with q | q | ⟨rfl,rfl⟩
    · rw [Al h p q,p,q]; rfl
    · have := Al h p (neg1 _ _ q)
      have e1 : a * -a' + d * b * -b' = -(a * a' + d * b * b') := by rw [Int.mul_neg,Int.mul_neg,Int.neg_add]
      have e2 : a * -b' + b * -a' = -(a * b' + b * a') := by rw [Int.mul_neg,Int.mul_neg,Int.neg_add]
      rw [e1,e2,wF h] at this
      rw [p,q]; omega
    · simp [yj]
  · rcases sgn_tri h a' b' with q | q | ⟨rfl,rfl⟩
    · have := Al h (neg1 _ _ p) q
      have e1 : -a * a' + d * -b * b' = -(a * a' + d * b * b') := by rw [Int.neg_mul,Int.mul_neg,Int.neg_mul,Int.neg_add]
      have e2 : -a * b' + -b * a' = -(a * b' + b * a') := by rw [Int.neg_mul,Int.neg_mul,Int.neg_add]
      rw [e1,e2,wF h] at this
      rw [p,q]; omega
    · have := Al h (neg1 _ _ p) (neg1 _ _ q)
      have e1 : -a * -a' + d * -b * -b' = a * a' + d * b * b' := by rw [Int.neg_mul_neg,Int.mul_assoc d,Int.neg_mul_neg,← Int.mul_assoc]
      have e2 : -a * -b' + -b * -a' = a * b' + b * a' := by rw [Int.neg_mul_neg,Int.neg_mul_neg]
      rw [e1,e2] at this
      rw [this,p,q]; rfl
    · simp [yj]
  · simp [yj]
end Bg
namespace Bg
theorem Aj {d a b : Int} (h : 0 ≤ a) (k : 0 ≤ b) : sgn d a b = if 0 < a + b then 1 else 0 := by unfold sgn; rw [if_pos ⟨h,k⟩]
theorem Dz {d a b : Int} (n : ¬ (0 ≤ a ∧ 0 ≤ b)) (h : a ≤ 0) (k : b ≤ 0) : sgn d a b = -1 := by unfold sgn; rw [if_neg n,if_pos ⟨h,k⟩]
theorem B6 {d a b : Int} (h : 0 < a) (k : b < 0) : sgn d a b = if d * b * b < a * a then 1 else -1 := by unfold sgn; rw [if_neg (by omega),if_neg (by omega),if_pos h]
theorem BE {d a b : Int} (h : a < 0) (k : 0 < b) : sgn d a b = if a * a < d * b * b then 1 else -1 := by unfold sgn; rw [if_neg (by omega),if_neg (by omega),if_neg (by omega)]
end Bg
namespace L2
open PySem PySem.Spec PyProof.Rows Bg
theorem xv (env : Env) : ∀ (names : List (Str × NameKind)) (acc : List (Str × Addr)),(∀ y ∈ names,y.2 = .free → ∃ c,env.cells.lookup y.1 = some c) → (∀ x c,acc.lookup x = some c → env.cells.lookup x = some c) →
    ∃ cl, (forIn names acc (fun (x : Str × NameKind) (r : List (Str × Addr)) => if (x.snd == NameKind.free) = true then do
                  let a ← cellOf env x.fst
                  pure (ForInStep.yield ((x.fst,a) :: r))
                else pure (ForInStep.yield r)) : Sem (List (Str × Addr))) = pure cl ∧ (∀ x c,cl.lookup x = some c → env.cells.lookup x = some c) ∧
      ∀ x,((∃ c,acc.lookup x = some c) ∨ ∃ y ∈ names,y.1 = x ∧ y.2 = .free) → ∃ c,cl.lookup x = some c
  | [],acc,_,ha => ⟨acc,rfl,ha,fun x h => by
      rcases h with h | ⟨y,hy,_⟩
      · exact h
      · simp at hy⟩
  | y :: r,acc,hn,ha => by
    by_cases hf : y.2 = .free
    · obtain ⟨c,hc⟩ := hn y List.mem_cons_self hf
      obtain ⟨cl,e,h1,h2⟩ := xv env r ((y.1,c) :: acc) (fun z hz => hn z (List.mem_cons_of_mem _ hz)) (fun x d hx => by
        rw [List.lookup_cons] at hx
        split at hx
        · rename_i q
          have q' : x = y.1 := by simpa using q
          rw [q',hc]; exact hx
        · exact ha x d hx)
      refine ⟨cl,?_,h1,fun x h => h2 x ?_⟩
      · rw [List.forIn_cons,if_pos (by rw [hf]; rfl)]
        unfold cellOf
        rw [hc]
        exact e
      · by_cases q : x = y.1
        · exact .inl ⟨c,by rw [List.lookup_cons,q]; simp⟩
        · rcases h with ⟨d,hd⟩ | ⟨z,hz,e1,e2⟩
          · exact .inl ⟨d,by
              rw [List.lookup_cons]
              have : (x == y.1) = false := by simpa using q
              rw [this]; exact hd⟩
          · rcases List.mem_cons.mp hz with e3 | e3
            · subst e3; exact absurd e1.symm q
            · exact .inr ⟨z,e3,e1,e2⟩
    · obtain ⟨cl,e,h1,h2⟩ := xv env r acc (fun z hz => hn z (List.mem_cons_of_mem _ hz)) ha
      refine ⟨cl,?_,h1,fun x h => h2 x ?_⟩
      · rw [List.forIn_cons,if_neg (by simpa using hf)]
        exact e
      · rcases h with h | ⟨z,hz,e1,e2⟩
        · exact .inl h
        · rcases List.mem_cons.mp hz with e3 | e3
          · subst e3; exact absurd e2 hf
          · exact .inr ⟨z,e3,e1,e2⟩
theorem AB {scope : Scope} {env : Env} (h : ∀ y ∈ scope.names,y.2 = .free → ∃ c,env.cells.lookup y.1 = some c) :
    ∃ cl,closureFor scope env = pure cl ∧ (∀ x c,cl.lookup x = some c → env.cells.lookup x = some c) ∧ ∀ y ∈ scope.names,y.2 = .free → ∃ c,cl.lookup y.1 = some c := by
  obtain ⟨cl,e,h1,h2⟩ := xv env scope.names [] h (fun x c q => by simp at q)
  refine ⟨cl,?_,h1,fun y hy hf => h2 y.1 (.inr ⟨y,hy,rfl,hf⟩)⟩
  exact congrArg (fun z : Sem (List (Str × Addr)) => z >>= fun cs => pure cs) e
section
variable {prog : Program} {w : World} {A : Around} {R : Result → Shared → Prop} {s : Shared}
abbrev NoX : Value → Shared → Prop := fun _ _ => False
theorem xw {elt target iter : Expr} {ifs : List Expr} {scope : Scope} {pos : Pos} {it acc : Value} {env : Env} (I : Nat → Shared → Prop)
    (turn : ∀ n s,I n s → wpAny (model prog w) A (pyNext it) (fun r s₁ => match r with
      | none => R (.ok .next) s₁
      | some v => wpAny (model prog w) A (letOwnedTupleGo target it v) (fun _ s₁' => wpAny (model prog w) A (assign target env v) (fun _ s₂ =>
          wpAny (model prog w) A (forIn ifs true fun c r => if r = true then do let ok ← isTrue c env (eval c env); pure (ForInStep.yield ok) else pure (ForInStep.yield r)) (fun ok s₃ =>
            if ok = true then wpAny (model prog w) A (eval elt env) (fun x s₄ =>
              wpAny (model prog w) A (call (.builtin "list.append") [acc,x]) (fun _ s₅ => ∃ m,m < n ∧ I m s₅) NoX s₄) NoX s₃
            else ∃ m,m < n ∧ I m s₃) NoX s₂) NoX s₁') NoX s₁) NoX s)
    (n : Nat) (h : I n s) :
    codeAny (model prog w) A (.compLoop (.ListComp elt [⟨target,iter,ifs,0⟩] scope pos) 0 it acc env) R s := by
  refine codeAny_loop rfl I (fun n s hI => ?_) n h
  show wpAny _ A ((compTurn (.ListComp elt [⟨target,iter,ifs,0⟩] scope pos) 0 it acc env).onRaise (fun x => do noteFrame x env; theTreesLotGoes x)) _ _ s
  refine wpAny_noted ?_
  rw [compTurn_list]
  refine wpAny_bind (wpAny_standAt (wpAny_bind (wpAny_mono (turn n s hI) (fun r s₁ h₁ => ?_) fun _ _ h' => h'.elim)))
  cases r with
  | none => exact wpAny_pure h₁
  | some v =>
    refine wpAny_bind (wpAny_mono h₁ (fun _ s₁' h₁' => ?_) fun _ _ h' => h'.elim)
    refine wpAny_bind (wpAny_mono h₁' (fun _ s₂ h₂ => wpAny_bind (wpAny_mono h₂ (fun ok s₃ h₃ => ?_) fun _ _ h' => h'.elim)) fun _ _ h' => h'.elim)
    cases ok with
    | false => exact wpAny_pure ⟨rfl,h₃⟩
    | true =>
      exact wpAny_bind (wpAny_bind (wpAny_mono h₃ (fun x s₄ h₄ => wpAny_bind (wpAny_mono h₄ (fun _ s₅ h₅ => wpAny_pure (wpAny_pure ⟨rfl,h₅⟩)) fun _ _ h' => h'.elim)) fun _ _ h' => h'.elim))
end
end L2
namespace L2
open PySem PySem.Spec PyProof.Rows Bg
theorem yB {env : Env} (hk : env.scope.kind = .function) : ∀ {names : List (Str × NameKind)} {x : Str},names.lookup x = some .free → env.kindOf x = some .cell →
    (names.map fun (n,k) => if (k == NameKind.free && env.scope.kind == .function && env.kindOf n == some .cell) then (n,NameKind.cell) else (n,k)).lookup x = some .cell
  | [],_,h,_ => by simp at h
  | (n,k) :: r,x,h,he => by
    have ih := @yB env hk r x
    show List.lookup x ((if (k == NameKind.free && env.scope.kind == .function && env.kindOf n == some .cell) = true then (n,NameKind.cell) else (n,k)) :: _) = _
    cases hx : x == n with
    | true =>
      simp only [List.lookup_cons,hx] at h
      cases h
      have hxn : x = n := by simpa using hx
      subst hxn
      have hc : (NameKind.free == NameKind.free && env.scope.kind == .function && env.kindOf x == some .cell) = true := by rw [hk,he]; rfl
      rw [if_pos hc]
      simp [List.lookup_cons]
    | false =>
      simp only [List.lookup_cons,hx] at h
      by_cases hc : (k == NameKind.free && env.scope.kind == .function && env.kindOf n == some .cell) = true
      · rw [if_pos hc]; simp only [List.lookup_cons,hx]; exact ih h he
      · rw [if_neg hc]; simp only [List.lookup_cons,hx]; exact ih h he
theorem vi {env : Env} : ∀ {names : List (Str × NameKind)} {x : Str} {k : NameKind},(∀ y ∈ names,y.2 ≠ .cell) → (k = .cell ∨ k = .free) →
    (names.map fun (n,k) => if (k == NameKind.free && env.scope.kind == .function && env.kindOf n == some .cell) then (n,NameKind.cell) else (n,k)).lookup x = some k → ∃ y ∈ names,y.1 = x ∧ y.2 = .free
  | [],_,_,_,_,h => by simp at h
  | (n,k) :: r,x,k',hn,hk,h => by
    have h' : List.lookup x ((if (k == NameKind.free && env.scope.kind == .function && env.kindOf n == some .cell) = true then (n,NameKind.cell) else (n,k)) :: _) = some k' := h
    have ih := @vi env r x k' (fun y hy => hn y (List.mem_cons_of_mem _ hy)) hk
    have kn : k ≠ .cell := hn (n,k) List.mem_cons_self
    by_cases hc : (k == NameKind.free && env.scope.kind == .function && env.kindOf n == some .cell) = true
    · rw [if_pos hc,List.lookup_cons] at h'
      have kf : k = .free := by
        rw [Bool.and_eq_true,Bool.and_eq_true] at hc
        simpa using hc.1.1
      cases hx : x == n with
      | true =>
        have hxn : x = n := by simpa using hx
        exact ⟨(n,k),List.mem_cons_self,hxn.symm,kf⟩
      | false =>
        rw [hx] at h'
        obtain ⟨y,hy,q⟩ := ih h'
        exact ⟨y,List.mem_cons_of_mem _ hy,q⟩
    · rw [if_neg hc,List.lookup_cons] at h'
      cases hx : x == n with
      | true =>
        have hxn : x = n := by simpa using hx
        rw [hx] at h'
        have e : k = k' := Option.some.inj h'
        refine ⟨(n,k),List.mem_cons_self,hxn.symm,?_⟩
        rcases hk with q | q
        · exact absurd (e.trans q) kn
        · exact e.trans q
      | false =>
        rw [hx] at h'
        obtain ⟨y,hy,q⟩ := ih h'
        exact ⟨y,List.mem_cons_of_mem _ hy,q⟩
theorem u3 {scope : Scope} {ns : List (Str × NameKind)} (h : (scope.names.all fun y => y.2 != .free || ns.lookup y.1 == some .cell) = true) : ∀ y ∈ scope.names,y.2 = .free → ns.lookup y.1 = some .cell := fun y hy hf => by
  have := List.all_eq_true.mp h y hy
  rw [hf] at this
  simpa using this
theorem DN {scope : Scope} {ns : List (Str × NameKind)} {N : List Str} {js : List Nat} (h : (js.all fun j => scope.names.lookup (N.getD j Str.empty) == some .free && ns.lookup (N.getD j Str.empty) == some .cell) = true) : ∀ j ∈ js,scope.names.lookup (N.getD j Str.empty) = some .free ∧ ns.lookup (N.getD j Str.empty) = some .cell := fun j hj => by
  have := List.all_eq_true.mp h j hj
  rw [Bool.and_eq_true] at this
  exact ⟨eq_of_beq this.1,eq_of_beq this.2⟩
theorem tG {scope : Scope} (h : (scope.names.all fun y => y.2 != .cell) = true) : ∀ y ∈ scope.names,y.2 ≠ .cell := fun y hy => by
  have := List.all_eq_true.mp h y hy
  simpa using this
theorem vC {scope : Scope} (h : (scope.names.all fun y => y.2 != .local || scope.names.lookup y.1 == some .local) = true) : ∀ y ∈ scope.names,y.2 = .local → scope.names.lookup y.1 = some .local := fun y hy hf => by
  have := List.all_eq_true.mp h y hy
  rw [hf] at this
  simpa using this
def w8 (n : Nat) (js : List Nat) (σ : St) : St := List.replicate n none ++ js.map fun j => (σ[j]?).join
def zX (X : Cx) (scope : Scope) (cl : List (Str × Addr)) (own : List Str) (js : List Nat) (fp : List Addr) (C : Addr) (s3 : Shared) (H3 : Hp) : Cx :=
  { X with N := own ++ js.map (fun j => X.N.getD j Str.empty),s₀ := s3,H₀ := H3,env := compEnvC scope cl C X.env,outer := X.stack,ex := fp,fn := fun _ => false,pn := [],xe := fun _ _ => False }
def PIfs (X : Cx) (ifs : List Expr) (t : TT) : Prop := ∀ (pins : List (Addr × Obj)) (s : Shared) (σ : St) (H : Hp) (Q : Bool → Hp → Prop),Inv X pins σ H s → t σ H Q →
  wpAny (model X.prog X.w) X.A (forIn ifs true fun c r => if r = true then do let ok ← isTrue c X.env (eval c X.env); pure (ForInStep.yield ok) else pure (ForInStep.yield r)) (TP X pins σ Q) X.xe s
def tAll : TT := fun _ H B => B true H
theorem yH {X : Cx} : PIfs X [] tAll := fun _ _ _ H _ I h => wpAny_tests_nil ⟨H,I,h⟩
theorem vH {X : Cx} {c : Expr} {t : TT} (h : PT X c t) : PIfs X [c] t := fun pins s σ H Q I q => wpAny_tests_one (h pins s σ H Q I q)
def uK (wi : TI) (g : TG) (tc : TT) (te : TE) (n : Nat) (js : List Nat) : TE := fun σ H Q => wi σ H fun J H1 => ∀ D,H1 D = none → ∃ W : Nat → Nat → St → Hp → Prop,(∃ m,W 0 m (w8 n js σ) (upd H1 D (.lst []))) ∧
  ∀ i m σ' H',W i m σ' H' → (J.stop i H' ∧ Q (.ref D) H') ∨ (J.go i H' ∧ ∀ x H2,J.yld i H' x H2 → g x σ' H2 fun σ3 H3 => tc σ3 H3 fun b H4 =>
    if b = true then te σ3 H4 fun v H5 => zZ (.ref D) [v] H5 fun _ H6 => ∃ m',m' < m ∧ W (i + 1) m' σ3 H6 else ∃ m',m' < m ∧ W (i + 1) m' σ3 H4)
section
variable {X : Cx} {pins : List (Addr × Obj)} {σ : St} {H : Hp} {s : Shared} {scope : Scope} {cl : List (Str × Addr)} {own : List Str} {js : List Nat} {fp : List Addr}
theorem B1 (I : Inv X pins σ H s) (hkind : scope.kind = .function) (hcell : ∀ y ∈ scope.names,y.2 ≠ .cell) (cl1 : ∀ x c,cl.lookup x = some c → X.env.cells.lookup x = some c) (cl2 : ∀ y ∈ scope.names,y.2 = .free → ∃ c,cl.lookup y.1 = some c)
    (hf : ∀ b ∈ fp,FpOk X pins H b) (hl : ∀ b ∈ fp,b < s.heap.objs.size) : (zX X scope cl own js fp s.heap.objs.size s H).Ok := by
  have hno : ∀ b o,X.base.get? b = some o → b ∉ fp := fun b o e hb => by
    rcases (hf b hb).2.2.2.1 with z | z
    · exact I.ok.noex b o e z
    · exact absurd (Nat.lt_of_lt_of_le (Heap.lt_size e) (Nat.le_trans I.ok.bsz z)) (Nat.lt_irrefl _)
  have hex : ∀ b ∈ fp,b ∉ frs X.stack := fun b hb z => by
    rcases List.mem_cons.mp (I.stkSub b z) with e | e
    · exact (hf b hb).2.1 e
    · exact (hf b hb).2.2.1 e
  exact ⟨I.ok.mod,hkind,I.ok.glob,I.ok.blt,Nat.le_refl _,fun x y c h1 h2 => I.ok.inj x y c (cl1 x c h1) (cl1 y c h2),
    fun x hx => by
      have hx' : (∃ k,(k = NameKind.cell ∨ k = .free) ∧ (relabel scope X.env).names.lookup x = some k) := by
        rcases hx with z | z
        · exact ⟨_,.inl rfl,z⟩
        · exact ⟨_,.inr rfl,z⟩
      obtain ⟨k,hk,z⟩ := hx'
      obtain ⟨y,hy,e1,e2⟩ := vi hcell hk z
      obtain ⟨c,hc⟩ := cl2 y hy e2
      exact ⟨c,by rw [← e1]; exact hc⟩,
    fun x c h _ => absurd h (by show ¬ (false = true); decide),I.ok.hd,I.ok.frames,.inl rfl,
    fun b hb => ⟨Nat.ne_of_lt (hl b hb),fun x c e => (hf b hb).2.2.2.2.1 x c (cl1 x c e)⟩,
    I.bs,Nat.le_trans I.ok.bsz I.sz,hno,hex,I.stack,I.stkFree⟩
theorem CQ {h₁ : Heap} {m : Str → Option Value} {t' : Nat} (I : Inv X pins σ H s) (hkind : scope.kind = .function) (hcell : ∀ y ∈ scope.names,y.2 ≠ .cell) (cl1 : ∀ x c,cl.lookup x = some c → X.env.cells.lookup x = some c) (cl2 : ∀ y ∈ scope.names,y.2 = .free → ∃ c,cl.lookup y.1 = some c)
    (hjs : ∀ j ∈ js,scope.names.lookup (X.N.getD j Str.empty) = some .free ∧ X.env.scope.names.lookup (X.N.getD j Str.empty) = some .cell)
    (hf : ∀ b ∈ fp,FpOk X pins H b) (hl : ∀ b ∈ fp,b < s.heap.objs.size) (hn : h₁.Ns s.heap.objs.size m) (k : ∀ b o,s.heap.get? b = some o → h₁.get? b = some o) :
    Inv (zX X scope cl own js fp s.heap.objs.size s H) [] (w8 own.length js σ) H { s with heap := h₁,toks := t' } := by
  refine ⟨B1 I hkind hcell cl1 cl2 hf hl,rfl,I.bare,Un.kept k,⟨m,hn,fun i x v h1 h2 h3 => ?_⟩,fun x c e => ?_,I.hok.fresh (Nat.le_refl _),fun x c e => I.freeC x c (cl1 x c e),fun p hp => absurd (show p ∈ ([] : List (Addr × Obj)) from hp) (by simp),I.hok.kept k,?_⟩
  · have hi : own.length ≤ i := by
      unfold w8 at h2
      by_cases z : i < own.length
      · rw [List.getElem?_append_left (by simpa using z),List.getElem?_replicate,if_pos z] at h2
        cases h2
      · omega
    unfold w8 at h2
    rw [List.getElem?_append_right (by simpa using hi),List.length_replicate,List.getElem?_map] at h2
    have h1' : (own ++ js.map (fun j => X.N.getD j Str.empty))[i]? = some x := h1
    rw [List.getElem?_append_right hi,List.getElem?_map] at h1'
    cases ej : js[i - own.length]? with
    | none => rw [ej] at h2; cases h2
    | some j =>
      rw [ej] at h2 h1'
      have ex : X.N.getD j Str.empty = x := Option.some.inj h1'
      have ev : (σ[j]?).join = some v := Option.some.inj h2
      have ev' : σ[j]? = some (some v) := by
        cases q : σ[j]? with
        | none => rw [q] at ev; cases ev
        | some z => rw [q] at ev; rw [show z = some v from ev]
      have hjl : j < X.N.length := by
        rw [← I.len]
        exact (List.getElem?_eq_some_iff.mp ev').1
      have eN : X.N[j]? = some x := by
        rw [← ex,List.getD_eq_getElem?_getD,List.getElem?_eq_getElem hjl]
        rfl
      obtain ⟨f1,f2⟩ := hjs j (List.mem_of_getElem? ej)
      rw [ex] at f1 f2
      obtain ⟨mm,hnn,hll⟩ := I.loc
      obtain ⟨u,r,lk⟩ := hll j x v eN ev' (.inr (.inl f2))
      refine ⟨u,r,?_⟩
      rcases lk with ⟨q,_⟩ | ⟨_,c,e,ic⟩
      · rw [show X.env.kindOf x = some .cell from f2] at q; cases q
      · obtain ⟨y,hy,e1,e2⟩ : ∃ y ∈ scope.names,y.1 = x ∧ y.2 = .free := ⟨_,PySem.mem_of_lookup f1,rfl,rfl⟩
        obtain ⟨c',hc'⟩ := cl2 y hy e2
        rw [e1] at hc'
        have : c' = c := by
          have := cl1 x c' hc'
          rw [e] at this
          exact (Option.some.inj this).symm
        subst this
        obtain ⟨o,ho,hd⟩ := ic
        exact .inr ⟨.inl (yB I.ok.kind f1 f2),c',hc',⟨o,k _ _ ho,hd⟩⟩
  · obtain ⟨v,o,ho,hd⟩ := I.cell x c (cl1 x c e)
    exact ⟨v,o,k _ _ ho,hd⟩
  · show _ = (own ++ js.map _).length
    unfold w8
    simp
theorem wI {H' : Hp} {σ' : St} {s' : Shared} {h' : Heap} (I : Inv X pins σ H s) (hf : ∀ b ∈ fp,FpOk X pins H b) (I' : Inv (zX X scope cl own js fp s.heap.objs.size s H) [] σ' H' s') (sb : Heap.SameBut s.heap.objs.size s'.heap h') : Inv X pins σ H' { s' with heap := h' } := by
  have u := I'.base
  have ne : ∀ b o,s.heap.get? b = some o → b ≠ s.heap.objs.size := fun b o e => Nat.ne_of_lt (Heap.lt_size e)
  refine I.call' (ch := fp) I'.os ⟨fun b o e n hb hx => ?_,fun b o e n hb hx => ?_,u.free,fun b o e hx => ?_,u.tups,u.frzs,u.tbls⟩ (fun b o e => ?_) I'.bare fun b hb => ⟨(hf b hb).2.2.2.1,(hf b hb).2.1,(hf b hb).2.2.2.2.1,(hf b hb).2.2.2.2.2⟩
  · exact (sb.2 b (ne b o e)).trans (u.keep b o e n hb hx)
  · obtain ⟨sl,z⟩ := u.slot b o e n hb hx
    exact ⟨sl,(sb.2 b (ne b o e)).trans z⟩
  · obtain ⟨o',z⟩ := u.there b o e hx
    exact ⟨o',(sb.2 b (ne b o e)).trans z⟩
  · have hfr : H' s.heap.objs.size = none := I'.free
    refine (I'.hok b o e).stay (fun c v hc q => (sb.2 c ?_).trans q) (fun _ q => q) fun _ _ q => q
    rintro rfl
    rcases hc with rfl | hc
    · rw [hfr] at e; cases e
    · rw [hfr] at hc; cases hc
end
theorem vI {X : Cx} {use : Option (Value → Sem Unit)} {R : Value → Shared → Prop} {pins : List (Addr × Obj)} {σ : St} {H : Hp} {s : Shared} {Q : VK} {elt iter tgt : Expr} {ifs : List Expr} {scope : Scope} {pos : Pos} {wi : TI} {g : TG} {tc : TT} {te : TE} (own : List Str) (js : List Nat)
    (hc : X.calm = true) (hi : PI X tgt iter wi)
    (hg : ∀ cl fp C s3 H3,PG (zX X scope cl own js fp C s3 H3) tgt g) (ht : ∀ cl fp C s3 H3,PIfs (zX X scope cl own js fp C s3 H3) ifs tc) (he : ∀ cl fp C s3 H3,PE (zX X scope cl own js fp C s3 H3) elt te)
    (hfree : ∀ y ∈ scope.names,y.2 = .free → X.env.scope.names.lookup y.1 = some .cell)
    (hjs : ∀ j ∈ js,scope.names.lookup (X.N.getD j Str.empty) = some .free ∧ X.env.scope.names.lookup (X.N.getD j Str.empty) = some .cell)
    (hcell : ∀ y ∈ scope.names,y.2 ≠ .cell) (hnames : ∀ y ∈ scope.names,y.2 = .local → scope.names.lookup y.1 = some .local)
    (hkind : scope.kind = .function) (hs : ∀ x,foldedSetIterable iter X.env x = pure x)
    (I : Inv X pins σ H s) (h : uK wi g tc te own.length js σ H Q)
    (hend : ∀ (D : Addr) (H3 H5 : Hp) (σ5 : St) (s3 s6 : Shared) (fp : List Addr) (cl : List (Str × Addr)),Inv X pins σ H3 s3 → (∀ b ∈ fp,FpOk X pins H3 b) → Inv (zX X scope cl own js fp s3.heap.objs.size s3 H3) [] σ5 H5 s6 → Q (.ref D) H5 →
      compPost (model X.prog X.w) X.A X.xe use R (.ref D) s3.heap.objs.size (.ok .next) s6) :
    wpAny (model X.prog X.w) X.A (comprehension (.ListComp elt [⟨tgt,iter,ifs,0⟩] scope pos) scope X.env (firstIterPos [⟨tgt,iter,ifs,0⟩] pos) (newList []) false (eval iter X.env) use) R X.xe s := by
  have hk := I.ok.kind
  obtain ⟨cl,hcl,cl1,cl2⟩ := AB (scope := scope) (env := X.env) fun y hy hf => I.ok.has y.1 (.inl (hfree y hy hf))
  refine wpAny_comprehension_free rfl hs hcl hkind hnames (thn (hi pins s σ H _ I h) fun v s1 h1 => thn h1 fun itv s2 h2 => ?_)
  obtain ⟨it,fp,tn,J,H2,e,I2,T,st2,f2,q2⟩ := h2
  subst e
  obtain ⟨W,⟨m0,w0⟩,turn⟩ := q2 s2.heap.objs.size I2.fresh
  have I3 := I2.lnew (ys := []) (its := []) (t' := s2.toks) .nil (Nat.zero_le _)
  refine wpAny_newObj_type (wpAny_newFunctionEnv hcell (by intro y hy; simp at hy) (fun h₁ hns₁ hsb₁ => ?_) hkind)
  have hl3 : ∀ b ∈ fp,b < (s2.heap.push ({ cls := .type "list",data := .seq ([] : List Value).toArray } : Obj)).objs.size := fun b hb => by
    obtain ⟨o,e,_⟩ := T.obj _ _ st2 b hb
    rw [Heap.size_push]
    exact Nat.lt_succ_of_lt (Heap.lt_size e)
  have f3 : ∀ b ∈ fp,FpOk X pins (upd H2 s2.heap.objs.size (.lst [])) b := fun b hb => by
    obtain ⟨o,e,_⟩ := T.obj _ _ st2 b hb
    refine ⟨?_,(f2 b hb).2⟩
    rw [zv (Nat.ne_of_lt (Heap.lt_size e))]
    exact (f2 b hb).1
  have I4 := CQ (own := own) (js := js) (h₁ := h₁) (t' := s2.toks + ([] : List (Str × Value)).length) I3 hkind hcell cl1 cl2 hjs f3 hl3 hns₁ (fun b o e => (hsb₁.2 b (Nat.ne_of_lt (Heap.lt_size e))).trans (Heap.get?_push_of_some _ e))
  have st4 : tn 0 h₁ := T.keep _ _ _ st2 fun b hb o e => (hsb₁.2 b (Nat.ne_of_lt (hl3 b hb))).trans (Heap.get?_push_of_some _ (Heap.get?_push_of_some _ e))
  have loop : codeAny (model X.prog X.w) X.A (.compLoop (.ListComp elt [⟨tgt,iter,ifs,0⟩] scope pos) 0 (.ref it) (.ref s2.heap.objs.size) (compEnvC scope cl (s2.heap.push ({ cls := .type "list",data := .seq ([] : List Value).toArray } : Obj)).objs.size X.env))
      (compPost (model X.prog X.w) X.A X.xe use R (.ref s2.heap.objs.size) (s2.heap.push ({ cls := .type "list",data := .seq ([] : List Value).toArray } : Obj)).objs.size) { s2 with heap := h₁,toks := s2.toks + ([] : List (Str × Value)).length } := by
    refine xw (fun n s' => ∃ i σ' H',Inv (zX X scope cl own js fp _ _ _) [] σ' H' s' ∧ tn i s'.heap ∧ (∀ b ∈ fp,H' b = none) ∧ W i n σ' H') ?_ m0 ⟨0,_,_,I4,st4,fun b hb => (f3 b hb).1,w0⟩
    rintro n s5 ⟨i,σ5,H5,I5,st5,fr5,w5⟩
    have stat : ∀ {H' : Hp},(∀ b ∈ fp,H' b = none) → ∀ b ∈ fp,FpOk (zX X scope cl own js fp _ _ _) [] H' b := fun hn b hb =>
      ⟨hn b hb,(I4.ok.exf b hb).1,I4.ok.exfs b hb,.inl hb,(I4.ok.exf b hb).2,fun p hp => absurd (show p ∈ ([] : List (Addr × Obj)) from hp) (by simp)⟩
    rcases turn i n σ5 H5 w5 with ⟨stop,qn⟩ | ⟨go,step⟩
    · refine thn (T.done (zX X scope cl own js fp _ _ _) rfl rfl rfl hc i [] s5 σ5 H5 NoX I5 (stat fr5) st5 stop) fun r s6 ⟨hr,I6⟩ => ?_
      subst hr
      exact hend _ _ _ _ _ _ _ _ I3 f3 I6 qn
    · refine thn (T.item (zX X scope cl own js fp _ _ _) rfl rfl rfl hc i [] s5 σ5 H5 NoX I5 (stat fr5) st5 go) fun r s6 ⟨u,hr,h6⟩ => ?_
      subst hr
      refine thn h6 fun _ s7 ⟨x,H7,I7,r7,y7,st7,fr7⟩ => ?_
      have I7' := I7.pinned (stat fr7) (T.obj _ _ st7)
      refine thn (hg cl fp _ _ _ _ s7 σ5 H7 x u _ I7' r7 (step x H7 y7)) fun _ s8 ⟨σ8,H8,I8,q8⟩ => ?_
      have again : ∀ {C3 : Addr} {s3 : Shared} {H3 : Hp} {σ9 : St} {H9 : Hp} {s9 : Shared} {m' : Nat},Inv (zX X scope cl own js fp C3 s3 H3) ([] ++ uw fp s7.heap) σ9 H9 s9 → m' < n → W (i + 1) m' σ9 H9 → ∃ m,m < n ∧ ∃ i σ' H',Inv (zX X scope cl own js fp C3 s3 H3) [] σ' H' s9 ∧ tn i s9.heap ∧ (∀ b ∈ fp,H' b = none) ∧ W i m σ' H' := fun {C3 s3 H3 σ9 H9 s9 m'} I9 hm w9 => by
        refine ⟨m',hm,i + 1,σ9,H9,I9.unpinned,T.keep _ _ _ st7 fun b hb o e => (I9.pin (b,o) (List.mem_append_right _ (List.mem_append_right _ (xm hb e)))).1,fun b hb => ?_,w9⟩
        obtain ⟨o,e,d⟩ := T.obj _ _ st7 b hb
        exact (I9.pin (b,o) (List.mem_append_right _ (List.mem_append_right _ (xm hb e)))).2.1
      refine thn (ht cl fp _ _ _ _ s8 σ8 H8 _ I8 q8) fun b s9 ⟨H9,I9,q9⟩ => ?_
      cases b with
      | false =>
        rw [if_neg Bool.false_ne_true] at q9 ⊢
        obtain ⟨m',hm,w9⟩ := q9
        exact again I9 hm w9
      | true =>
        rw [if_pos rfl] at q9 ⊢
        refine thn (he cl fp _ _ _ _ s9 σ8 H9 _ I9 q9) fun y s10 ⟨v,H10,I10,r10,q10⟩ => ?_
        exact thn (z6 (X := zX X scope cl own js fp _ _ _) _ s10 σ8 H10 (.ref s2.heap.objs.size) [v] (.ref s2.heap.objs.size) [y] _ I10 rfl (.cons r10 .nil) q10) fun _ s11 ⟨_,H11,I11,_,m',hm,w11⟩ => again I11 hm w11
  exact codeAny_compStart_list loop (T.self _ 0 _ _ _ st4 loop)
theorem xP {X : Cx} {elt iter tgt : Expr} {ifs : List Expr} {scope : Scope} {pos : Pos} {wi : TI} {g : TG} {tc : TT} {te : TE} (own : List Str) (js : List Nat)
    (hc : X.calm = true) (hi : PI X tgt iter wi)
    (hg : ∀ cl fp C s3 H3,PG (zX X scope cl own js fp C s3 H3) tgt g) (ht : ∀ cl fp C s3 H3,PIfs (zX X scope cl own js fp C s3 H3) ifs tc) (he : ∀ cl fp C s3 H3,PE (zX X scope cl own js fp C s3 H3) elt te)
    (hfree' : (scope.names.all fun y => y.2 != .free || X.env.scope.names.lookup y.1 == some .cell) = true := by rfl)
    (hjs' : (js.all fun j => scope.names.lookup (X.N.getD j Str.empty) == some .free && X.env.scope.names.lookup (X.N.getD j Str.empty) == some .cell) = true := by rfl)
    (hcell' : (scope.names.all fun y => y.2 != .cell) = true := by rfl) (hnames' : (scope.names.all fun y => y.2 != .local || scope.names.lookup y.1 == some .local) = true := by rfl)
    (hkind : scope.kind = .function := by rfl) (hs : ∀ x,foldedSetIterable iter X.env x = pure x := by intro _; rfl) :
    PE X (.ListComp elt [⟨tgt,iter,ifs,0⟩] scope pos) (uK wi g tc te own.length js) := by
  have hfree : ∀ y ∈ scope.names,y.2 = .free → X.env.scope.names.lookup y.1 = some .cell := u3 hfree'
  have hjs : ∀ j ∈ js,scope.names.lookup (X.N.getD j Str.empty) = some .free ∧ X.env.scope.names.lookup (X.N.getD j Str.empty) = some .cell := DN hjs'
  have hcell : ∀ y ∈ scope.names,y.2 ≠ .cell := tG hcell'
  have hnames : ∀ y ∈ scope.names,y.2 = .local → scope.names.lookup y.1 = some .local := vC hnames'
  intro pins s σ H Q I h
  rw [eval_ListComp]
  refine vI own js hc hi hg ht he hfree hjs hcell hnames hkind hs I h fun D H3 H5 σ5 s3 s6 fp cl I3 f3 I6 qn => ?_
  obtain ⟨m,hm,_⟩ := id I6.loc
  exact ⟨m,hm,fun h' sb => ⟨.ref D,H5,wI I3 f3 I6 sb,rfl,qn⟩⟩
theorem vZ {X : Cx} {i : Nat} {x : Str} {spos px : Pos} {elt iter tgt : Expr} {ifs : List Expr} {scope : Scope} {pos : Pos} {wi : TI} {g : TG} {tc : TT} {te : TE} (hN : X.N.Nodup) (hiN : X.N[i]? = some x) (hx : X.env.scope.names.lookup x = some .local) (own : List Str) (js : List Nat)
    (hc : X.calm = true) (hi : PI X tgt iter wi)
    (hg : ∀ cl fp C s3 H3,PG (zX X scope cl own js fp C s3 H3) tgt g) (ht : ∀ cl fp C s3 H3,PIfs (zX X scope cl own js fp C s3 H3) ifs tc) (he : ∀ cl fp C s3 H3,PE (zX X scope cl own js fp C s3 H3) elt te)
    (hfree' : (scope.names.all fun y => y.2 != .free || X.env.scope.names.lookup y.1 == some .cell) = true := by rfl)
    (hjs' : (js.all fun j => scope.names.lookup (X.N.getD j Str.empty) == some .free && X.env.scope.names.lookup (X.N.getD j Str.empty) == some .cell) = true := by rfl)
    (hcell' : (scope.names.all fun y => y.2 != .cell) = true := by rfl) (hnames' : (scope.names.all fun y => y.2 != .local || scope.names.lookup y.1 == some .local) = true := by rfl)
    (hkind : scope.kind = .function := by rfl) (hs : ∀ x,foldedSetIterable iter X.env x = pure x := by intro _; rfl)
    (hsw : swapsWith (.ListComp elt [⟨tgt,iter,ifs,0⟩] scope pos) (some (.Name x px)) spos.line X.env = pure true := by rfl) :
    PS X (.Assign [.Name x px] (.ListComp elt [⟨tgt,iter,ifs,0⟩] scope pos) spos) (tAsg (uK wi g tc te own.length js) (Db i)) := by
  have hfree : ∀ y ∈ scope.names,y.2 = .free → X.env.scope.names.lookup y.1 = some .cell := u3 hfree'
  have hjs : ∀ j ∈ js,scope.names.lookup (X.N.getD j Str.empty) = some .free ∧ X.env.scope.names.lookup (X.N.getD j Str.empty) = some .cell := DN hjs'
  have hcell : ∀ y ∈ scope.names,y.2 ≠ .cell := tG hcell'
  have hnames : ∀ y ∈ scope.names,y.2 = .local → scope.names.lookup y.1 = some .local := vC hnames'
  intro pins s σ H D I h
  rw [exec_Assign_Name_used _ _ _ _ hsw]
  refine wpAny_bind (wpAny_standAt (wpAny_bind ?_))
  show wpAny _ X.A (do let _ ← comprehension (.ListComp elt [⟨tgt,iter,ifs,0⟩] scope pos) scope X.env _ (newList []) false (eval iter X.env) (some (assign (.Name x px) X.env))) _ _ s
  refine wpAny_bind (thn (vI (use := some (assign (.Name x px) X.env)) (R := fun _ s' => SP X pins D .next s') own js hc hi hg ht he hfree hjs hcell hnames hkind hs I h fun D' H3 H5 σ5 s3 s6 fp cl I3 f3 I6 qn => ?_) fun _ s' hq => wpAny_pure (wpAny_pure hq))
  have I7 : Inv X pins σ H5 s6 := wI I3 f3 I6 (Heap.SameBut.refl ..)
  have hlt : X.env.locals < s3.heap.objs.size := I3.lt
  have hcl : ∀ y c,X.env.cells.lookup y = some c → c ≠ s3.heap.objs.size := fun y c e z => by
    obtain ⟨v,q⟩ := I3.cell y c e
    exact absurd q.lt (by rw [z]; exact Nat.lt_irrefl _)
  refine wpAny_assign_Name (uB I7 hN hiN (.inl hx) (v := .ref D') (u := .ref D') rfl (fun s7 I8 hch => ?_) (.inr hx))
  obtain ⟨m,hm,_⟩ := id I6.loc
  have hne : s3.heap.objs.size ≠ X.env.locals := Nat.ne_of_gt hlt
  have hm7 : s7.heap.Ns s3.heap.objs.size m := by
    obtain ⟨a,sb,ha⟩ := hch
    refine Heap.Ns.sameBut hm sb ?_
    rcases ha with ha | ha
    · rw [ha]; exact hne
    · exact fun z => hcl x a ha z.symm
  refine ⟨m,hm7,fun h' sb => ?_⟩
  refine ⟨_,H5,I8.turned (t' := s7.toks) (it := s3.heap.objs.size) (fun b o hb e => (sb.2 b hb).trans e) I6.free hne (.inr I3.sz) hcl (fun p hp z => ?_),qn⟩
  exact absurd (Heap.lt_size (I3.pin p hp).1) (by rw [z]; exact Nat.lt_irrefl _)
end L2
namespace L2
open PySem PySem.Spec PyProof.Rows Bg
def v8 (n : Nat) (Pv : Nat → List V → St → Hp → Prop) (i : Nat) (σ : St) (H : Hp) : Prop := ∃ m',m' < n - i ∧ m' = n - (i + 1) ∧ i + 1 ≤ n ∧ ∃ xs,Pv (i + 1) xs σ H
theorem yX {n : Nat} {Pv : Nat → List V → St → Hp → Prop} {i : Nat} {xs : List V} {σ : St} {H : Hp} (h : i < n) (p : Pv (i + 1) xs σ H) : v8 n Pv i σ H := ⟨n - (i + 1),by omega,rfl,h,xs,p⟩
section
variable {g : TG} {tc : TT} {te : TE} {D : Addr} {H1 : Hp} {σ0 : St} {Q : VK}
theorem xk {R : Hp → Prop} {lo : Int} {n : Nat} (Pv : Nat → List V → St → Hp → Prop) (h0 : Pv 0 [] σ0 (upd H1 D (.lst [])))
    (hs : ∀ i xs σ H,i < n → Pv i xs σ H → g (.int (lo + i)) σ H fun σ3 H3 => tc σ3 H3 fun b H4 => if b = true then te σ3 H4 fun v H5 => zZ (.ref D) [v] H5 fun _ H6 => v8 n Pv i σ3 H6 else v8 n Pv i σ3 H4)
    (hd : ∀ xs σ H,Pv n xs σ H → R H) :
    ∃ W : Nat → Nat → St → Hp → Prop,(∃ m,W 0 m σ0 (upd H1 D (.lst []))) ∧ ∀ i m σ' H',W i m σ' H' → ((Itr lo n).stop i H' ∧ R H') ∨ ((Itr lo n).go i H' ∧ ∀ x H2,(Itr lo n).yld i H' x H2 → g x σ' H2 fun σ3 H3 => tc σ3 H3 fun b H4 =>
      if b = true then te σ3 H4 fun v H5 => zZ (.ref D) [v] H5 fun _ H6 => ∃ m',m' < m ∧ W (i + 1) m' σ3 H6 else ∃ m',m' < m ∧ W (i + 1) m' σ3 H4) := by
  refine ⟨fun i m σ H => m = n - i ∧ i ≤ n ∧ ∃ xs,Pv i xs σ H,⟨n,by simp,Nat.zero_le _,[],h0⟩,?_⟩
  rintro i m σ H ⟨rfl,hi,xs,p⟩
  by_cases hlt : i < n
  · refine .inr ⟨hlt,fun x H' y => ?_⟩
    obtain ⟨e,y⟩ := y
    subst e y
    exact hs i xs σ _ hlt p
  · have e : i = n := by omega
    subst e
    exact .inl ⟨Nat.le_refl _,hd xs σ H p⟩
theorem yS {R : Hp → Prop} {K : PySem.W.Frag} {a : Addr} {ys : List V} (Pv : Nat → List V → St → Hp → Prop) (h0 : Pv 0 [] σ0 (upd H1 D (.lst [])))
    (hl : ∀ i xs σ H,i ≤ ys.length → Pv i xs σ H → SqL K H a ys)
    (hs : ∀ i x xs σ H,ys[i]? = some x → Pv i xs σ H → g x σ H fun σ3 H3 => tc σ3 H3 fun b H4 => if b = true then te σ3 H4 fun v H5 => zZ (.ref D) [v] H5 fun _ H6 => v8 ys.length Pv i σ3 H6 else v8 ys.length Pv i σ3 H4)
    (hd : ∀ xs σ H,Pv ys.length xs σ H → R H) :
    ∃ W : Nat → Nat → St → Hp → Prop,(∃ m,W 0 m σ0 (upd H1 D (.lst []))) ∧ ∀ i m σ' H',W i m σ' H' → ((Itl K a).stop i H' ∧ R H') ∨ ((Itl K a).go i H' ∧ ∀ x H2,(Itl K a).yld i H' x H2 → g x σ' H2 fun σ3 H3 => tc σ3 H3 fun b H4 =>
      if b = true then te σ3 H4 fun v H5 => zZ (.ref D) [v] H5 fun _ H6 => ∃ m',m' < m ∧ W (i + 1) m' σ3 H6 else ∃ m',m' < m ∧ W (i + 1) m' σ3 H4) := by
  refine ⟨fun i m σ H => m = ys.length - i ∧ i ≤ ys.length ∧ ∃ xs,Pv i xs σ H,⟨ys.length,by simp,Nat.zero_le _,[],h0⟩,?_⟩
  rintro i m σ H ⟨rfl,hi,xs,p⟩
  have q := hl i xs σ H hi p
  by_cases hlt : i < ys.length
  · refine .inr ⟨⟨ys,ys[i],q,by simp [hlt]⟩,fun x H' y => ?_⟩
    obtain ⟨e,y⟩ := y
    subst e
    exact hs i x xs σ _ (y ys q) p
  · have e : i = ys.length := by omega
    subst e
    exact .inl ⟨⟨ys,q,Nat.le_refl _⟩,hd xs σ H p⟩
theorem CM {R : Hp → Prop} {K : PySem.W.Frag} {a : Addr} {ys : List V} (Pv : Nat → List V → St → Hp → Prop) (h0 : Pv 0 [] σ0 (upd H1 D (.lst [])))
    (hl : ∀ i xs σ H,i ≤ ys.length → Pv i xs σ H → SqT K H a ys)
    (hs : ∀ i x xs σ H,ys[i]? = some x → Pv i xs σ H → g x σ H fun σ3 H3 => tc σ3 H3 fun b H4 => if b = true then te σ3 H4 fun v H5 => zZ (.ref D) [v] H5 fun _ H6 => v8 ys.length Pv i σ3 H6 else v8 ys.length Pv i σ3 H4)
    (hd : ∀ xs σ H,Pv ys.length xs σ H → R H) :
    ∃ W : Nat → Nat → St → Hp → Prop,(∃ m,W 0 m σ0 (upd H1 D (.lst []))) ∧ ∀ i m σ' H',W i m σ' H' → ((Itt K a).stop i H' ∧ R H') ∨ ((Itt K a).go i H' ∧ ∀ x H2,(Itt K a).yld i H' x H2 → g x σ' H2 fun σ3 H3 => tc σ3 H3 fun b H4 =>
      if b = true then te σ3 H4 fun v H5 => zZ (.ref D) [v] H5 fun _ H6 => ∃ m',m' < m ∧ W (i + 1) m' σ3 H6 else ∃ m',m' < m ∧ W (i + 1) m' σ3 H4) := by
  refine ⟨fun i m σ H => m = ys.length - i ∧ i ≤ ys.length ∧ ∃ xs,Pv i xs σ H,⟨ys.length,by simp,Nat.zero_le _,[],h0⟩,?_⟩
  rintro i m σ H ⟨rfl,hi,xs,p⟩
  have q := hl i xs σ H hi p
  by_cases hlt : i < ys.length
  · refine .inr ⟨⟨ys,ys[i],q,by simp [hlt]⟩,fun x H' y => ?_⟩
    obtain ⟨e,y⟩ := y
    subst e
    exact hs i x xs σ _ (y ys q) p
  · have e : i = ys.length := by omega
    subst e
    exact .inl ⟨⟨ys,q,Nat.le_refl _⟩,hd xs σ H p⟩
theorem Cv {ta : TA} {σ : St} {H : Hp} {n : Nat} {js : List Nat} (h : ta σ H fun vs H1 => ∃ i j : Int,vs = [.int i,.int j] ∧ (-(2 ^ 62) ≤ i ∧ i < 2 ^ 62 ∧ -(2 ^ 62) ≤ j ∧ j < 2 ^ 62) ∧ ∀ D,H1 D = none → ∃ W : Nat → Nat → St → Hp → Prop,(∃ m,W 0 m (w8 n js σ) (upd H1 D (.lst []))) ∧
  ∀ i_1 m σ' H',W i_1 m σ' H' → ((Itr i (j - i).toNat).stop i_1 H' ∧ Q (.ref D) H') ∨ ((Itr i (j - i).toNat).go i_1 H' ∧ ∀ x H2,(Itr i (j - i).toNat).yld i_1 H' x H2 → g x σ' H2 fun σ3 H3 => tc σ3 H3 fun b H4 =>
    if b = true then te σ3 H4 fun v H5 => zZ (.ref D) [v] H5 fun _ H6 => ∃ m',m' < m ∧ W (i_1 + 1) m' σ3 H6 else ∃ m',m' < m ∧ W (i_1 + 1) m' σ3 H4)) : uK (EY ta) g tc te n js σ H Q := h
theorem vU {ta : TA} {σ : St} {H : Hp} {n : Nat} {js : List Nat} (h : ta σ H fun vs H1 => ∃ j : Int,vs = [.int j] ∧ -(2 ^ 62) ≤ j ∧ j < 2 ^ 62 ∧ ∀ D,H1 D = none → ∃ W : Nat → Nat → St → Hp → Prop,(∃ m,W 0 m (w8 n js σ) (upd H1 D (.lst []))) ∧
  ∀ i m σ' H',W i m σ' H' → ((Itr 0 j.toNat).stop i H' ∧ Q (.ref D) H') ∨ ((Itr 0 j.toNat).go i H' ∧ ∀ x H2,(Itr 0 j.toNat).yld i H' x H2 → g x σ' H2 fun σ3 H3 => tc σ3 H3 fun b H4 =>
    if b = true then te σ3 H4 fun v H5 => zZ (.ref D) [v] H5 fun _ H6 => ∃ m',m' < m ∧ W (i + 1) m' σ3 H6 else ∃ m',m' < m ∧ W (i + 1) m' σ3 H4)) : uK (Em ta) g tc te n js σ H Q := h
theorem xQ {K : PySem.W.Frag} {tl : TE} {σ : St} {H : Hp} {n : Nat} {js : List Nat} (h : tl σ H fun x H1 => ∃ a,x = .ref a ∧ (∃ xs,SqL K H1 a xs) ∧ ∀ D,H1 D = none → ∃ W : Nat → Nat → St → Hp → Prop,(∃ m,W 0 m (w8 n js σ) (upd H1 D (.lst []))) ∧
  ∀ i m σ' H',W i m σ' H' → ((Itl K a).stop i H' ∧ Q (.ref D) H') ∨ ((Itl K a).go i H' ∧ ∀ x H2,(Itl K a).yld i H' x H2 → g x σ' H2 fun σ3 H3 => tc σ3 H3 fun b H4 =>
    if b = true then te σ3 H4 fun v H5 => zZ (.ref D) [v] H5 fun _ H6 => ∃ m',m' < m ∧ W (i + 1) m' σ3 H6 else ∃ m',m' < m ∧ W (i + 1) m' σ3 H4)) : uK (DV K tl) g tc te n js σ H Q := h
theorem D5 {K : PySem.W.Frag} {tl : TE} {σ : St} {H : Hp} {n : Nat} {js : List Nat} (h : tl σ H fun x H1 => ∃ a,x = .ref a ∧ (∃ xs,SqT K H1 a xs) ∧ ∀ D,H1 D = none → ∃ W : Nat → Nat → St → Hp → Prop,(∃ m,W 0 m (w8 n js σ) (upd H1 D (.lst []))) ∧
  ∀ i m σ' H',W i m σ' H' → ((Itt K a).stop i H' ∧ Q (.ref D) H') ∨ ((Itt K a).go i H' ∧ ∀ x H2,(Itt K a).yld i H' x H2 → g x σ' H2 fun σ3 H3 => tc σ3 H3 fun b H4 =>
    if b = true then te σ3 H4 fun v H5 => zZ (.ref D) [v] H5 fun _ H6 => ∃ m',m' < m ∧ W (i + 1) m' σ3 H6 else ∃ m',m' < m ∧ W (i + 1) m' σ3 H4)) : uK (iTup K tl) g tc te n js σ H Q := h
theorem Gh {B : Bool → Hp → Prop} {σ : St} {H : Hp} (h : B true H) : tAll σ H B := h
theorem CL {K : PySem.W.Frag} {H : Hp} {p : Addr} {ys : List V} {x : V} (h : H p = some (.tup ys)) (fx : xz x = true) (fs : ys.all xz = true) (q : Q (.bl (!inV x ys)) H) : rIn K true x (.ref p) H Q := ⟨p,ys,rfl,.inr (SqT.of h),fx,fs,q⟩
theorem GJ {K : PySem.W.Frag} {H : Hp} {p : Addr} {ys : List V} {x : V} (h : H p = some (.tup ys)) (fx : xz x = true) (fs : ys.all xz = true) (q : Q (.bl (inV x ys)) H) : rIn K false x (.ref p) H Q := ⟨p,ys,rfl,.inr (SqT.of h),fx,fs,q⟩
theorem Go {K : PySem.W.Frag} {H : Hp} {p : Addr} {xs : List V} {i : Int} {v : V} (h : SqT K H p xs) (e : atI xs i = some v) (q : Q v H) : rIxT K (.ref p) (.int i) H Q := ⟨p,xs,i,v,rfl,rfl,h,e,q⟩
theorem Fj {X : Cx} {H : Hp} {a b : Addr} {x y z x' y' z' : Int} (ha : SqT X.K H a [.int x,.int y,.int z]) (hb : SqT X.K H b [.int x',.int y',.int z']) (q : Q (.bl (decide (x = x' ∧ y = y' ∧ z = z'))) H) : rEqT X (.ref a) (.ref b) H Q := by
  refine ⟨a,b,_,_,_,0,rfl,rfl,Nat.zero_le _,ha,hb,.cons (.int x x') (.cons (.int y y') (.cons (.int z z') .nil)),?_⟩
  have e : ([x == x',y == y',z == z'] : List Bool).all id = decide (x = x' ∧ y = y' ∧ z = z') := by
    rw [Bool.eq_iff_iff]
    simp
  rw [e]
  exact q
end
section
variable {σ : St} {H : Hp} {K : PySem.W.Frag} {R : St → Hp → Prop}
theorem FR {n : Nat} {t : TGs} {a : Addr} {xs : List V} (h : H a = some (.tup xs)) (hn : xs.length = n) (q : t xs σ H R) : gTup K n t (.ref a) σ H R := ⟨a,xs,rfl,SqT.of h,hn,q⟩
theorem EC {t : TG} {u : TGs} {v : V} {r : List V} (q : t v σ H fun σ' H' => u r σ' H' R) : Fp t u (v :: r) σ H R := ⟨v,r,rfl,q⟩
theorem Fa (q : R σ H) : gNil [] σ H R := ⟨rfl,q⟩
end
def TopI (mg : Str → Option Value) (x : Str) (i : Int) : Prop := ∃ u,mg x = some u ∧ RelV (.int i) u
def TopT (K : PySem.W.Frag) (mg : Str → Option Value) (x : Str) (xs : List V) : Prop := ∃ a,mg x = some (.ref a) ∧ ∀ H : Hp,SqT K H a xs
theorem topT_mk {K : PySem.W.Frag} {h : Heap} {mg : Str → Option Value} {x : Str} {a : Addr} {o : Obj} {its : Array Value} {n : Nat} {xs : List V} (X : K.In h) (G : h.Ns mainGlobals mg) (e : PySem.W.nsIn K mainGlobals x = some (some (.ref a)))
    (l : K.lookup a = some o) (c : o.cls = .type "tuple") (d : o.data = .seq its n) (z : its.size ≤ sizeLine) (v : Vals xs its.toList) : TopT K mg x xs := ⟨a,PySem.W.mg_of X G e,fun _ => .inr ⟨o,its,n,l,c,d,z,v⟩⟩
theorem topI_mk {K : PySem.W.Frag} {h : Heap} {mg : Str → Option Value} {x : Str} {i : Int} {t : Tok} (X : K.In h) (G : h.Ns mainGlobals mg) (e : PySem.W.nsIn K mainGlobals x = some (some (.int i t))) : TopI mg x i := ⟨_,PySem.W.mg_of X G e,⟨t,rfl⟩⟩
end L2
namespace L2
open PySem PySem.Spec PyProof.Rows Bg
theorem bl_q {Q : VK} {H : Hp} {x y : Bool} (e : x = y) (q : Q (.bl y) H) : Q (.bl x) H := by rw [e]; exact q
theorem AZ {Q : VK} {H : Hp} {x y : Int} (e : x = y) (q : Q (.int y) H) : Q (.int x) H := by rw [e]; exact q
def rIsN : R2 := fun x y H Q => y = .non ∧ Q (.bl (decide (x = .non))) H
theorem EA {X : Cx} : OpR X (compareOp .Is) rIsN := Fg
theorem GU {H : Hp} {Q : VK} {x : V} (q : Q (.bl (decide (x = .non))) H) : rIsN x .non H Q := ⟨rfl,q⟩
def sqs : List Int := [4,9,16,25,36,49,64,81]
def yD (n : Nat) : List Int := ((List.range n).map fun (i : Nat) => (2 : Int) + i).filter fun d => !sqs.contains d
theorem wb (n : Nat) : yD (n + 1) = yD n ++ (if sqs.contains ((2 : Int) + n) then [] else [(2 : Int) + n]) := by
  unfold yD
  rw [List.range_succ,List.map_append,List.filter_append]
  congr 1
  simp only [List.map_cons,List.map_nil,List.filter_cons,List.filter_nil]
  cases sqs.contains ((2 : Int) + n) <;> rfl
theorem AK {n : Nat} (hn : n ≤ 98) {d : Int} (h : d ∈ yD n) : Rt d := by
  unfold yD at h
  rw [List.mem_filter,List.mem_map] at h
  obtain ⟨⟨i,hi,rfl⟩,hc⟩ := h
  rw [List.mem_range] at hi
  refine Gj ⟨by omega,by omega⟩ ?_
  simp only [sqs,List.contains_cons,List.contains_nil,Bool.or_false,Bool.not_eq_true',Bool.or_eq_false_iff,beq_eq_false_iff_ne,ne_eq] at hc
  exact hc
theorem uh : (yD 98).length = 90 := by decide +kernel
theorem D6 (d : Int) : inV (.int d) [.int 4,.int 9,.int 16,.int 25,.int 36,.int 49,.int 64,.int 81] = sqs.contains d := by
  simp only [inV,List.any_cons,List.any_nil,eqV,sqs,List.contains_cons,List.contains_nil,Bool.or_false]
  simp only [BEq.comm (b := d)]
theorem uq {xs : List Int} {i : Int} (h0 : 0 ≤ i) (h1 : i < xs.length) : ∃ d ∈ xs,atI (xs.map V.int) i = some (.int d) := by
  have hi : i.toNat < xs.length := by omega
  refine ⟨xs[i.toNat],List.getElem_mem hi,?_⟩
  have e := zL (xs := xs.map V.int) (j := i.toNat) (v := .int xs[i.toNat]) (by rw [List.getElem?_map,List.getElem?_eq_getElem hi]; rfl)
  rw [show ((i.toNat : Nat) : Int) = i by omega] at e
  exact e
end L2
namespace Bg
theorem FK {d a b : Int} (h : Rt d) (z : ¬ (a = 0 ∧ b = 0)) : a * a - d * b * b ≠ 0 := fun e => z (tX h e)
theorem ue {a b k : Int} (hk : k ≠ 0) (h : a * k = b * k) : a = b := Int.eq_of_mul_eq_mul_right hk h
theorem Cp {x y z : Int} (h1 : 1 ≤ z) (g : g3 x y z = 1) : lA x y z = x ∧ lB x y z = y ∧ lN x y z = z := by
  have := xR (x := x) (y := y) (z := z) (a := x) (b := y) (n := z) h1 g (by omega) rfl rfl
  exact ⟨this.1.symm,this.2.1.symm,this.2.2.symm⟩
end Bg
namespace Bg
end Bg
namespace Bg
end Bg
namespace Bg
def Br (j k : Nat) (q : Rat) : Prop := Bd j q.num ∧ Bd k (q.den : Int)
structure Tb where
  a : Rat
  b : Rat
  c : Rat
  e : Rat
def Tb.zero : Tb := ⟨0,0,0,0⟩
def Tb.add (s t : Tb) : Tb := ⟨s.a + t.a,s.b + t.b,s.c + t.c,s.e + t.e⟩
def Tb.sub (s t : Tb) : Tb := ⟨s.a - t.a,s.b - t.b,s.c - t.c,s.e - t.e⟩
def Tb.tr (s : Tb) : Tb := ⟨s.a,s.c,s.b,s.e⟩
structure Sd where
  x : Int
  y : Int
  z : Int
structure Sd.Ok (d : Int) (s : Sd) : Prop where
  z1 : 1 ≤ s.z
  g : g3 s.x s.y s.z = 1
  bx : Bd 120 s.x
  bY : Bd 120 s.y
  bz : Bd 30 s.z
  up : sgn d s.x s.y = 1
def Sd.p (s : Sd) : Rat := Rat.divInt s.x s.z
def Sd.q (s : Sd) : Rat := Rat.divInt s.y s.z
structure Bo where
  w : Sd
  h : Sd
def Bo.Ok (d : Int) (b : Bo) : Prop := b.w.Ok d ∧ b.h.Ok d
def Bo.tb (b : Bo) : Tb := ⟨b.w.p * b.h.p,b.w.p * b.h.q,b.w.q * b.h.p,b.w.q * b.h.q⟩
end Bg
namespace Bg
structure Ms where
  f : Rat
  g : Rat
def Ms.Ok (m : Ms) : Prop := Br 90 10 m.f ∧ Br 90 10 m.g
def Sd.ms (s : Sd) : Ms := ⟨s.p,s.q⟩
end Bg
namespace Bg
theorem C8 {d n p q : Int} (hR : Rt d) (hn : 0 < n) (h : sgn d p q = 1) : sgn d (n + p) q = 1 := by
  have d2 := hR.lo
  by_cases hp : 0 ≤ p
  · by_cases hq : 0 ≤ q
    · rw [Aj (by omega) hq,if_pos (by omega)]
    · have p0 : 0 < p := by
        rcases Int.lt_or_eq_of_le hp with z | z
        · exact z
        · subst z
          rw [Dz (by omega) (by omega) (by omega)] at h
          exact absurd h (by decide)
      rw [B6 p0 (by omega)] at h
      rw [B6 (by omega) (by omega)]
      have h1 : d * q * q < p * p := by
        by_cases z : d * q * q < p * p
        · exact z
        · rw [if_neg z] at h
          exact absurd h (by decide)
      have h2 : p * p ≤ (n + p) * (n + p) := Int.mul_le_mul (by omega) (by omega) (by omega) (by omega)
      rw [if_pos (by omega)]
  · by_cases hq : 0 < q
    · rw [BE (by omega) hq] at h
      have h1 : p * p < d * q * q := by
        by_cases z : p * p < d * q * q
        · exact z
        · rw [if_neg z] at h
          exact absurd h (by decide)
      by_cases hs : 0 ≤ n + p
      · rw [Aj hs (by omega),if_pos (by omega)]
      · rw [BE (by omega) hq]
        have h2 : (-(n + p)) * (-(n + p)) ≤ (-p) * (-p) := Int.mul_le_mul (by omega) (by omega) (by omega) (by omega)
        rw [Int.neg_mul_neg,Int.neg_mul_neg] at h2
        rw [if_pos (by omega)]
    · rw [Dz (by omega) (by omega) (by omega)] at h
      exact absurd h (by decide)
theorem DP {d a b a' b' : Int} (hR : Rt d) (h : sgn d a b = 1) (h' : sgn d a' b' = 1) : sgn d (a + a') (b + b') = 1 := by
  have hN : a * a - d * b * b ≠ 0 := by
    refine FK hR fun z => ?_
    rw [z.1,z.2,yj] at h
    exact absurd h (by decide)
  obtain ⟨k,w,v,hk,e1,e2,e3,e4⟩ : ∃ k w v : Int,0 < k ∧ k * a' = w * a + d * v * b ∧ k * b' = w * b + v * a ∧ k * (a + a') = (k + w) * a + d * v * b ∧ k * (b + b') = (k + w) * b + v * a := by
    rcases Int.lt_or_gt_of_ne hN with z | z
    · refine ⟨-(a * a - d * b * b),-(a' * a - d * b' * b),-(b' * a - a' * b),by omega,?_,?_,?_,?_⟩ <;> grind
    · refine ⟨a * a - d * b * b,a' * a - d * b' * b,b' * a - a' * b,z,?_,?_,?_,?_⟩ <;> grind
  have s1 := xH hR hk a' b'
  rw [e1,e2,Aa hR,h,Int.mul_one,h'] at s1
  have s2 := C8 hR hk s1
  have s3 := xH hR hk (a + a') (b + b')
  rw [e3,e4,Aa hR,h,s2] at s3
  rw [← s3]
  rfl
def Tb.A (d : Int) (t : Tb) : Rat := t.a + (d : Rat) * t.e
def Tb.B (t : Tb) : Rat := t.b + t.c
end Bg
namespace Bg
end Bg
namespace Bg
end Bg
namespace Bg
theorem z4 {e x v : Int} (h : e ∣ x * v) (g : Int.gcd e v = 1) : e ∣ x := by
  have h1 : e ∣ x * v := h
  have h2 : e ∣ x * e := ⟨x,Int.mul_comm ..⟩
  have h3 : e ∣ (Int.gcd (x * e) (x * v) : Nat) := Int.dvd_coe_gcd h2 h1
  rw [Int.gcd_mul_left,g,Nat.mul_one] at h3
  exact Int.dvd_natAbs.mp h3
theorem yR {a b : Int} (h : ∀ e : Int,e ∣ a → e ∣ b → e ∣ 1) : Int.gcd a b = 1 := by
  have := h (Int.gcd a b : Nat) (Int.gcd_dvd_left ..) (Int.gcd_dvd_right ..)
  have h2 := Int.natAbs_dvd_natAbs.mpr this
  simpa using h2
theorem xZ {a b e : Int} (h : Int.gcd a b = 1) (ha : e ∣ a) (hb : e ∣ b) : e ∣ 1 := by
  have := Int.dvd_coe_gcd ha hb
  rw [h] at this
  exact this
theorem xg {a b e : Int} (h : Int.gcd a b = 1) (ha : e ∣ a) : Int.gcd e b = 1 :=
  yR fun _ h1 h2 => xZ h (Int.dvd_trans h1 ha) h2
theorem wE {a b c : Int} (h1 : Int.gcd a b = 1) (h2 : Int.gcd a c = 1) : Int.gcd a (b * c) = 1 :=
  yR fun e ha hb => by
    have e1 : Int.gcd e c = 1 := xg h2 ha
    exact xZ h1 ha (z4 hb e1)
theorem EF {z z' : Int} (h1 : 1 ≤ z) (h2 : 1 ≤ z') : ∃ s u v : Int,s = (Int.gcd z z' : Nat) ∧ 1 ≤ s ∧ 1 ≤ u ∧ 1 ≤ v ∧ z = s * u ∧ z' = s * v ∧ z.fdiv s = u ∧ z'.fdiv s = v ∧ Int.gcd u v = 1 := by
  have d1 : ((Int.gcd z z' : Nat) : Int) ∣ z := Int.gcd_dvd_left ..
  have d2 : ((Int.gcd z z' : Nat) : Int) ∣ z' := Int.gcd_dvd_right ..
  have hp : 0 < Int.gcd z z' := Int.gcd_pos_of_ne_zero_left _ (by omega)
  obtain ⟨u,hu⟩ := d1
  obtain ⟨v,hv⟩ := d2
  have hs : (1 : Int) ≤ (Int.gcd z z' : Nat) := by omega
  have hg : Int.gcd u v = 1 := by
    have e : Int.gcd z z' = Int.gcd ((Int.gcd z z' : Nat) * u) ((Int.gcd z z' : Nat) * v) := by rw [← hu,← hv]
    rw [Int.gcd_mul_left,Int.natAbs_natCast] at e
    exact (Nat.eq_of_mul_eq_mul_left hp (by rw [Nat.mul_one]; exact e)).symm
  generalize ((Int.gcd z z' : Nat) : Int) = s at *
  subst hu; subst hv
  refine ⟨s,u,v,rfl,hs,?_,?_,rfl,rfl,Int.mul_fdiv_cancel_left _ (by omega),Int.mul_fdiv_cancel_left _ (by omega),hg⟩
  · refine Int.not_lt.mp fun q => ?_
    have := Int.mul_nonpos_of_nonneg_of_nonpos (show (0:Int) ≤ s by omega) (show u ≤ 0 by omega)
    omega
  · refine Int.not_lt.mp fun q => ?_
    have := Int.mul_nonpos_of_nonneg_of_nonpos (show (0:Int) ≤ s by omega) (show v ≤ 0 by omega)
    omega
def aS (z z' : Int) : Int := (Int.gcd z z' : Nat)
def aA (x z x' z' : Int) : Int := x * z'.fdiv (aS z z') + x' * z.fdiv (aS z z')
def aL (x y z x' y' z' : Int) : Int := (Int.gcd (Int.gcd (aS z z') (aA x z x' z') : Nat) (aA y z y' z') : Nat)
theorem DY {x y z x' y' z' : Int} (h1 : 1 ≤ z) (h2 : 1 ≤ z') (g1 : g3 x y z = 1) (g2 : g3 x' y' z' = 1) :
    1 ≤ aS z z' ∧ 1 ≤ aL x y z x' y' z' ∧ (aA x z x' z').fdiv (aL x y z x' y' z') = lA (x * z' + x' * z) (y * z' + y' * z) (z * z') ∧ (aA y z y' z').fdiv (aL x y z x' y' z') = lB (x * z' + x' * z) (y * z' + y' * z) (z * z') ∧
    z.fdiv (aS z z') * z'.fdiv (aL x y z x' y' z') = lN (x * z' + x' * z) (y * z' + y' * z) (z * z') := by
  obtain ⟨s,u,v,hs,s1,u1,v1,ez,ez',fu,fv,guv⟩ := EF h1 h2
  have eS : aS z z' = s := hs.symm
  have eA : ∀ p q,aA p z q z' = p * v + q * u := fun p q => by unfold aA; rw [eS,fu,fv]
  have eL : aL x y z x' y' z' = (Int.gcd (Int.gcd s (x * v + x' * u) : Nat) (y * v + y' * u) : Nat) := by unfold aL; rw [eS,eA,eA]
  rw [eS,eA,eA,fu]
  generalize hl : aL x y z x' y' z' = l at *
  generalize ha : x * v + x' * u = a at *
  generalize hb : y * v + y' * u = b at *
  have l1 : 1 ≤ l := by
    have : 0 < Int.gcd (Int.gcd s a : Nat) b := Int.gcd_pos_of_ne_zero_left _ (by
      have := Int.gcd_pos_of_ne_zero_left a (show s ≠ 0 by omega)
      omega)
    omega
  have dls : l ∣ s := by rw [eL]; exact Int.dvd_trans (Int.gcd_dvd_left ..) (Int.gcd_dvd_left ..)
  have dla : l ∣ a := by rw [eL]; exact Int.dvd_trans (Int.gcd_dvd_left ..) (Int.gcd_dvd_right ..)
  have dlb : l ∣ b := by rw [eL]; exact Int.gcd_dvd_right ..
  obtain ⟨m,hm⟩ := dls
  obtain ⟨X,hX⟩ := dla
  obtain ⟨Y,hY⟩ := dlb
  have l0 : l ≠ 0 := by omega
  have fX : a.fdiv l = X := by rw [hX]; exact Int.mul_fdiv_cancel_left _ l0
  have fY : b.fdiv l = Y := by rw [hY]; exact Int.mul_fdiv_cancel_left _ l0
  have fZ : z'.fdiv l = m * v := by rw [ez',hm,Int.mul_assoc]; exact Int.mul_fdiv_cancel_left _ l0
  rw [fX,fY,fZ]
  have m1 : 1 ≤ m := by
    refine Int.not_lt.mp fun q => ?_
    have := Int.mul_nonpos_of_nonneg_of_nonpos (show (0:Int) ≤ l by omega) (show m ≤ 0 by omega)
    omega
  refine ⟨s1,l1,?_⟩
  have gm : g3 X Y m = 1 := by
    have e : (g3 (l * X) (l * Y) (l * m) : Int) = l := by
      unfold g3
      rw [← hX,← hY,← hm,← eL]
    rw [Dq] at e
    have e2 : l.natAbs * g3 X Y m = l.natAbs * 1 := by omega
    exact Nat.eq_of_mul_eq_mul_left (by omega) e2
  have cop : ∀ e : Int,e ∣ X → e ∣ Y → Int.gcd e u = 1 ∧ Int.gcd e v = 1 ∧ Int.gcd e m = 1 := fun e eX eY => by
    have ea : e ∣ a := by rw [hX]; exact Int.dvd_trans eX (Int.dvd_mul_left ..)
    have eb : e ∣ b := by rw [hY]; exact Int.dvd_trans eY (Int.dvd_mul_left ..)
    refine ⟨yR fun f f1 f2 => ?_,yR fun f f1 f2 => ?_,yR fun f f1 f2 => ?_⟩
    · have fv1 : Int.gcd f v = 1 := xg guv f2
      have k1 : f ∣ x * v := by
        have := Int.dvd_sub (Int.dvd_trans f1 ea) (Int.dvd_trans f2 (Int.dvd_mul_left x' u))
        rw [← ha,Int.add_sub_cancel] at this
        exact this
      have k2 : f ∣ y * v := by
        have := Int.dvd_sub (Int.dvd_trans f1 eb) (Int.dvd_trans f2 (Int.dvd_mul_left y' u))
        rw [← hb,Int.add_sub_cancel] at this
        exact this
      have := Ab (z4 k1 fv1) (z4 k2 fv1) (Int.dvd_trans f2 (show u ∣ z by rw [ez]; exact Int.dvd_mul_left ..))
      rw [g1] at this
      exact this
    · have fu1 : Int.gcd f u = 1 := xg (Int.gcd_comm u v ▸ guv) f2
      have k1 : f ∣ x' * u := by
        have := Int.dvd_sub (Int.dvd_trans f1 ea) (Int.dvd_trans f2 (Int.dvd_mul_left x v))
        rw [← ha,Int.add_comm,Int.add_sub_cancel] at this
        exact this
      have k2 : f ∣ y' * u := by
        have := Int.dvd_sub (Int.dvd_trans f1 eb) (Int.dvd_trans f2 (Int.dvd_mul_left y v))
        rw [← hb,Int.add_comm,Int.add_sub_cancel] at this
        exact this
      have := Ab (z4 k1 fu1) (z4 k2 fu1) (Int.dvd_trans f2 (show v ∣ z' by rw [ez']; exact Int.dvd_mul_left ..))
      rw [g2] at this
      exact this
    · have := Ab (Int.dvd_trans f1 eX) (Int.dvd_trans f1 eY) f2
      rw [gm] at this
      exact this
  have gX : g3 X Y (u * (m * v)) = 1 := by
    have dX := g3_a X Y (u * (m * v))
    have dY := g3_b X Y (u * (m * v))
    have dZ := g3_n X Y (u * (m * v))
    obtain ⟨c1,c2,c3⟩ := cop _ dX dY
    have c4 := wE c1 (wE c3 c2)
    have := xZ c4 (Int.dvd_refl _) dZ
    have := Int.natAbs_dvd_natAbs.mpr this
    simpa using this
  refine xR ?_ gX (Int.mul_ne_zero (by omega) (by omega)) ?_ ?_
  · exact Int.mul_pos (by omega) (Int.mul_pos (by omega) (by omega))
  · subst ez ez'
    refine Int.eq_of_mul_eq_mul_left l0 ?_
    clear cop gX gm eL hl eA hs fu fv fX fY fZ guv g1 g2
    have e1 : l * (X * (s * u * (s * v))) = a * (s * u * (s * v)) := by rw [hX,Int.mul_assoc l X]
    have e2 : l * ((x * (s * v) + x' * (s * u)) * (u * (m * v))) = (x * v + x' * u) * s * (u * (l * m * v)) := by grind
    rw [e1,e2,← hm,ha]
    grind
  · subst ez ez'
    refine Int.eq_of_mul_eq_mul_left l0 ?_
    clear cop gX gm eL hl eA hs fu fv fX fY fZ guv g1 g2
    have e1 : l * (Y * (s * u * (s * v))) = b * (s * u * (s * v)) := by rw [hY,Int.mul_assoc l Y]
    have e2 : l * ((y * (s * v) + y' * (s * u)) * (u * (m * v))) = (y * v + y' * u) * s * (u * (l * m * v)) := by grind
    rw [e1,e2,← hm,hb]
    grind
theorem tz {k : Nat} {z a : Int} (h : z ≠ 0) (hb : Bd k z) : Bd k ((Int.gcd z a : Nat) : Int) := hb.of_le (by
  rw [Int.natAbs_natCast]
  exact Nat.le_of_dvd (by omega) (by simpa using Int.natAbs_dvd_natAbs.mpr (Int.gcd_dvd_left z a)))
theorem Fi (x y z : Int) : g3 (-x) (-y) z = g3 x y z := by
  unfold g3
  rw [Int.gcd_neg,Int.gcd_neg]
end Bg
namespace Bg
structure B4 where
  a : Int
  b : Int
  c : Int
  e : Int
def B4.nx (d : Int) (s : B4) : B4 := if 0 < sgn d (s.a - s.c) (s.b - s.e) then ⟨s.a - s.c,s.b - s.e,s.c,s.e⟩ else ⟨s.a,s.b,s.c - s.a,s.e - s.b⟩
def b4 : B4 := ⟨0,1,1,0⟩
theorem yp {d a b N : Int} (hR : Rt d) (hN : 1 ≤ N) : sgn d (lA a b N) (lB a b N) = sgn d a b := by
  have n0 : N ≠ 0 := by omega
  have h1 := l_n (a := a) (b := b) n0
  refine xM hR (k := N) (m := lN a b N) (by omega) (by omega) ?_ ?_
  · rw [Int.mul_comm,l_a,Int.mul_comm]
  · rw [Int.mul_comm,l_b,Int.mul_comm]
def B4.det (s : B4) : Int := s.a * s.e - s.b * s.c
def B4.i (s : B4) (x y : Int) : Int := s.det * (x * s.e - y * s.c)
def B4.j (s : B4) (x y : Int) : Int := s.det * (s.a * y - s.b * x)
end Bg
namespace Bg
def B4.srv (s : B4) (x y : Int) : Prop := 0 ≤ s.i x y ∧ 0 ≤ s.j x y
instance {s : B4} {x y : Int} : Decidable (s.srv x y) := inferInstanceAs (Decidable (0 ≤ s.i x y ∧ 0 ≤ s.j x y))
def st (d : Int) : Nat → B4
  | 0 => b4
  | k + 1 => (st d k).nx d
end Bg
namespace Bg
def BsE (s s' : B4) (N : Int) : Prop := (lA s.a s.b N = lA s'.a s'.b N ∧ lB s.a s.b N = lB s'.a s'.b N ∧ lN s.a s.b N = lN s'.a s'.b N) ∧ (lA s.c s.e N = lA s'.c s'.e N ∧ lB s.c s.e N = lB s'.c s'.e N ∧ lN s.c s.e N = lN s'.c s'.e N)
instance {s s' : B4} {N : Int} : Decidable (BsE s s' N) := inferInstanceAs (Decidable (_ ∧ _))
end Bg
namespace Bg
end Bg
namespace Bg
end Bg
namespace Bg
def tmS (m : Int) (s : Sd) : Sd := ⟨lA (m * s.x) (m * s.y) s.z,lB (m * s.x) (m * s.y) s.z,lN (m * s.x) (m * s.y) s.z⟩
def adS (s t : Sd) : Sd := ⟨lA (s.x * t.z + t.x * s.z) (s.y * t.z + t.y * s.z) (s.z * t.z),lB (s.x * t.z + t.x * s.z) (s.y * t.z + t.y * s.z) (s.z * t.z),lN (s.x * t.z + t.x * s.z) (s.y * t.z + t.y * s.z) (s.z * t.z)⟩
structure SK (k j : Nat) (s : Sd) : Prop where
  z1 : 1 ≤ s.z
  g : g3 s.x s.y s.z = 1
  bx : Bd k s.x
  by' : Bd k s.y
  bz : Bd j s.z
theorem SK.mono {k j k' j' : Nat} {s : Sd} (h : SK k j s) (l : k ≤ k') (l' : j ≤ j') : SK k' j' s := ⟨h.z1,h.g,h.bx.mono l,h.by'.mono l,h.bz.mono l'⟩
theorem SK.ne {k j : Nat} {s : Sd} (h : SK k j s) : s.z ≠ 0 := by have := h.z1; omega
def nul : Sd := ⟨0,0,1⟩
def mny (s : B4) (N : Int) (pl : Nat) (w : Sd) : Int := if pl = 0 then s.i (N / w.z * w.x) (N / w.z * w.y) else s.j (N / w.z * w.x) (N / w.z * w.y)
def hg (s : B4) (N : Int) (pl : Nat) : List Bo → Sd := fun L => L.foldl (fun a b => adS a (tmS (mny s N pl b.w) b.h)) nul
structure B5 (d N : Int) (b : Bo) : Prop where
  w : SK 20 12 b.w
  h : SK 20 12 b.h
  wu : sgn d b.w.x b.w.y = 1
  hu : sgn d b.h.x b.h.y = 1
  dv : b.w.z ∣ N
end Bg
namespace L2
open PySem PySem.Spec PyProof.Rows Bg
def EM (K : PySem.W.Frag) : List V → Hp → VK → Prop := fun xs H Q => ∃ (a : Addr) (bs : List Bool),xs = [.ref a] ∧ SqL K H a (bs.map V.bl) ∧ Q (.bl (bs.all id)) H
section
variable {X : Cx}
theorem Bw (hc : X.calm = true) : xa X (.builtin "all") (EM X.K) := by
  intro pins s σ H xs us Q I r h
  obtain ⟨a,bs,rfl,hq,q⟩ := h
  obtain ⟨u,rfl,ru⟩ := Vals.one r
  cases ru
  obtain ⟨its,rv,p,hz⟩ := I.list hq
  have hlt : a < s.heap.objs.size := by
    obtain ⟨o,_,e,_⟩ := p
    exact Heap.lt_size e
  refine call_all_walk (wpAny_pyIter_list p.isList ?_)
  refine ⟨_,_,_,_,_,_,(fun i => bs.getD i false),rfl,Walks.list (A := X.A.in1) (show X.A.in1.handled = none from I.ok.hd hc) _ a (Nat.ne_of_lt hlt) its.toArray,⟨⟨_,Heap.get?_push_size _ rfl,rfl,rfl⟩,p.isList.push _⟩,?_,fun h' tk hk => ?_⟩
  · intro i v s' Q' E' hP hQ
    have hP' : its[i]? = some v := by simpa using hP
    have hi : i < bs.length := by
      have := rv.length
      rw [List.length_map] at this
      have := (List.getElem?_eq_some_iff.mp hP').1
      omega
    obtain ⟨u,hu,ru⟩ := rv.get (i := i) (x := .bl bs[i]) (by rw [List.getElem?_map,List.getElem?_eq_getElem hi]; rfl)
    rw [hP'] at hu
    cases hu
    cases ru
    have e : bs.getD i false = bs[i] := by rw [List.getD_eq_getElem?_getD,List.getElem?_eq_getElem hi]; rfl
    have hQ' : Q' (bs.getD i false) s' := hQ
    rw [e] at hQ'
    exact wpAny_truthy_bool hQ'
  · have e : (List.range its.toArray.size).all (fun i => bs.getD i false) = bs.all id := by
      have := rv.length
      rw [List.length_map] at this
      rw [List.size_toArray,← this,vx]
    rw [e]
    refine ⟨.bl _,H,I.kept (t' := tk) fun b o e' => hk b o ?_ (Heap.get?_push_of_some _ e'),rfl,q⟩
    intro hb
    have e2 : b = s.heap.objs.size := by simpa using hb
    exact absurd (Heap.lt_size e') (by rw [e2]; exact Nat.lt_irrefl _)
end
end L2
namespace L2
open PySem PySem.Spec PyProof.Rows Bg
def E3 (t c : String) : Option Bool := if (Value.type t == Value.type c) = true then some true else if PySem.W.kitMeta c = true then (fastBuiltinMro t).map (·.contains (Value.type c)) else none
theorem E1 {K : PySem.W.Frag} {t c : String} {b : Bool} (h : E3 t c = some b) : PySem.W.kitOne K (.type t) (.type c) = some b := h
inductive Kd (H : Hp) : V → String → Prop where
  | non : Kd H .non "NoneType"
  | bl (x : Bool) : Kd H (.bl x) "bool"
  | int (i : Int) : Kd H (.int i) "int"
  | str (x : Str) : Kd H (.str x) "str"
  | lst {a : Addr} {xs : List V} (e : H a = some (.lst xs)) : Kd H (.ref a) "list"
  | tup {a : Addr} {xs : List V} (e : H a = some (.tup xs)) : Kd H (.ref a) "tuple"
  | dK {a : Addr} {xs : List (Key × V)} (e : H a = some (.dK xs)) : Kd H (.ref a) "dict"
theorem Kd.ty {K : PySem.W.Frag} {H : Hp} {x : V} {t : String} (k : Kd H x t) : TyOf K H x (.type t) := by
  cases k with
  | non => exact .non
  | bl b => exact .bl b
  | int i => exact .int i
  | str s => exact .str s
  | lst e => exact .lst e
  | tup e => exact .tup e
  | dK e => exact .dK e
theorem GT {K : PySem.W.Frag} {H : Hp} {Q : VK} {x : V} {t T : String} {b : Bool} (k : Kd H x t) (e : E3 t T = some b) (q : Q (.bl b) H) : rIs K [x,.ty T] H Q := ⟨_,_,_,_,rfl,k.ty,E1 e,q⟩
theorem FG {K : PySem.W.Frag} {H : Hp} {Q : VK} {a : Addr} {bs : List Bool} (h : SqL K H a (bs.map V.bl)) (q : Q (.bl (bs.all id)) H) : EM K [.ref a] H Q := ⟨a,bs,rfl,h,q⟩
inductive T0 where
  | flat (x : V)
  | tup (xs : List V)
  | lst (xs : List V)
end L2
namespace L2
open PySem PySem.Spec PyProof.Rows Bg
section
variable {H0 H : Hp} {Q : VK} {ls : List (Addr × HO)}
end
end L2
namespace L2
open PySem PySem.Spec PyProof.Rows
section
variable {X : Cx} {tg : Expr}
end
end L2
namespace L2
open PySem PySem.Spec PyProof.Rows Bg
end L2
namespace L2
open PySem PySem.Spec PyProof.Rows Bg
abbrev SdAt (H : Hp) (p : Addr) (s : Sd) : Prop := H p = some (.tup [.int s.x,.int s.y,.int s.z])
structure Cell where
  p : Addr
  pw : Addr
  ph : Addr
  b : Bo
def Cell.v (c : Cell) : V := .ref c.p
structure Cell.At (H : Hp) (c : Cell) : Prop where
  t : H c.p = some (.tup [.ref c.pw,.ref c.ph])
  w : SdAt H c.pw c.b.w
  h : SdAt H c.ph c.b.h
theorem Cell.At.same {H H' : Hp} {c : Cell} (h : c.At H) (s : Same H H') : c.At H' := ⟨s _ _ h.t,s _ _ h.w,s _ _ h.h⟩
theorem Cell.At.sameX {H H' : Hp} {c : Cell} {D : Addr} {xs : List V} (h : c.At H) (s : SameX D H H') (e : H D = some (.lst xs)) : c.At H' := ⟨s.tup h.t e,s.tup h.w e,s.tup h.h e⟩
theorem C9 {L : List Cell} {i : Nat} {y : V} (h : (L.map Cell.v)[i]? = some y) : ∃ c,y = .ref c.p ∧ c ∈ L ∧ L[i]? = some c := by
  rw [List.getElem?_map] at h
  cases e : L[i]? with
  | none => rw [e] at h; cases h
  | some c =>
    rw [e] at h
    exact ⟨c,(Option.some.inj h).symm,List.mem_of_getElem? e,rfl⟩
end L2
namespace L2
open PySem PySem.Spec PyProof.Rows Bg
section
variable {K : PySem.W.Frag} {H : Hp} {Q : VK} {σ : St} {D : Ends}
end
end L2
namespace L2
open PySem PySem.Spec PyProof.Rows Bg
def rLst (K : PySem.W.Frag) : List V → Hp → VK → Prop := fun xs H Q => ∃ p ys,xs = [.ref p] ∧ (SqL K H p ys ∨ SqT K H p ys) ∧ ∀ l,H l = none → Q (.ref l) (upd H l (.lst ys))
theorem wK {X : Cx} : xa X (.type "list") (rLst X.K) := ul
end L2
namespace L2
open PySem PySem.Spec PyProof.Rows Bg
end L2
namespace L2
open PySem PySem.Spec PyProof.Rows Bg
section
variable {prog : Program} {w : World} {A : Around} {E : Value → Shared → Prop}
end
end L2
namespace L2
open PySem PySem.Spec PyProof.Rows Bg
section
variable {X : Cx}
end
end L2
namespace L2
open PySem PySem.Spec PyProof.Rows Bg
end L2
namespace L2
open PySem PySem.Spec PyProof.Rows Bg
section
variable {X : Cx}
end
section
variable {K : PySem.W.Frag} {σ : St} {H : Hp} {Q : VK}
theorem En {n : Nat} (h : n ≤ 1000) : n ≤ sizeLine := xi h
theorem Gk {T : String} {r : V → List V → Hp → VK → Prop} {to : TE} (h : to σ H fun x H1 => tyV K T x H1 ∧ r x [] H1 Q) : tBM0 K T r to σ H Q := h
theorem GS {i j : Str} (h : Q (.bl (decide (i = j))) H) : rEq (.str i) (.str j) H Q := ⟨rfl,by
  have e : decide (V.str i = V.str j) = decide (i = j) := by rw [Bool.eq_iff_iff]; simp
  rw [e]; exact h⟩
theorem CF {z : Str} (h : Q (.bl true) H) : rIs K [.str z,.ty "str"] H Q := ⟨_,_,_,_,rfl,.str z,vV K _,h⟩
end
end L2
namespace L2
open PySem PySem.Spec PyProof.Rows Bg
section
variable {prog : Program} {w : World} {A : Around} {E : Value → Shared → Prop} {s : Shared} {R : Result → Shared → Prop}
variable {I : Addr} {fp wr : List Addr} {G : Array GenState → Array GenState → Prop} {n : Nat} {P : Nat → Value → Prop} {St : Nat → Shared → Prop}
end
end L2
namespace L2
open PySem PySem.Spec PyProof.Rows Bg
section
variable {X : Cx} {e : Expr} {te : TE} {p1 p2 pos pos2 : Pos}
end
end L2
namespace L2
open PySem PySem.Spec PyProof.Rows Bg
theorem D7 {X : Cx} {n : Nat} {H : Hp} {a b r1 r2 s1 s2 : Addr} (ha : H a = some (.tup [.ref r1,.ref r2])) (hb : H b = some (.tup [.ref s1,.ref s2])) (e1 : EqV X n H (.ref r1) (.ref s1) true) (e2 : EqV X n H (.ref r2) (.ref s2) true) : EqV X (n + 1) H (.ref a) (.ref b) true :=
  EqV.tup (X := X) (n := n) (bs := [true,true]) (SqT.of ha) (SqT.of hb) (.cons e1 (.cons e2 .nil)) (fun _ => rfl)
end L2
namespace Bg
end Bg
namespace Bg
end Bg
namespace L2
open PySem PySem.Spec PyProof.Rows Bg
end L2
namespace L2
open PySem PySem.Spec PyProof.Rows Bg
end L2
namespace L2
open PySem PySem.Spec PyProof.Rows Bg
section
variable {X : Cx}
end
section
variable {K : PySem.W.Frag} {H : Hp} {Q : VK} {σ : St} {D : Ends}
end
structure Ln where
  p : Addr
  s : Sd
def Ln.v (c : Ln) : V := .ref c.p
def Ln.u (c : Ln) : Int × Int := (c.s.x,c.s.y)
end L2
namespace L2
open PySem PySem.Spec PyProof.Rows Bg
section
variable {X : Cx} {tg : Expr}
end
section
variable {K : PySem.W.Frag} {H : Hp} {Q : VK}
theorem Fy {a : Addr} {ns : List Int} {i j : Nat} (hS : SqL K H a (ns.map V.int)) (q : ∀ (p : Addr) (H2 : Hp),Same H H2 → H2 p = some (.lst (((ns.drop i).take (j - i)).map V.int)) → Q (.ref p) H2) : rSlL K (.ref a) (some (i : Int)) (some (j : Int)) H Q := by
  refine ⟨a,_,rfl,hS,fun p hp => ?_⟩
  refine q p _ (zU hp _) ?_
  rw [zq]
  unfold cutV
  rw [HT.sIx_nat,HT.sIx_nat,List.map_take,List.map_drop]
  congr 2
  generalize ns.map V.int = xs
  rcases Nat.le_total i xs.length with z | z
  · rw [Nat.min_eq_left z]
    rcases Nat.le_total j xs.length with y | y
    · rw [Nat.min_eq_left y]
    · rw [Nat.min_eq_right y,List.take_of_length_le (by rw [List.length_drop]; omega),List.take_of_length_le (by rw [List.length_drop]; omega)]
  · rw [Nat.min_eq_right z,List.drop_of_length_le (Nat.le_refl _),List.drop_of_length_le z,List.take_nil,List.take_nil]
end
end L2
namespace L2
open PySem PySem.Spec PyProof.Rows Bg
section
variable {X : Cx}
end
end L2
namespace L2
open PySem PySem.Spec PyProof.Rows Bg
section
variable {X : Cx}
end
end L2
namespace L2
open PySem PySem.Spec PyProof.Rows Bg
section
variable {X : Cx}
def Fk : V → List V → Hp → VK → Prop := fun x vs H Q => ∃ i : Int,x = .int i ∧ vs = [] ∧ Q (.int ((Builtin.Int.intBits i : Nat) : Int)) H
theorem DU : MtR X "int.bit_length" Fk := by
  intro pins s σ H x xs v us Q I rx rv h
  obtain ⟨i,rfl,rfl,q⟩ := h
  obtain ⟨t,rfl⟩ := rx
  have hus := rv.zero
  subst hus
  exact call_int_bit_length ⟨.int _,H,I.tok _,⟨_,rfl⟩,q⟩
theorem F8 {i : Int} {H : Hp} {Q : VK} (q : Q (.int ((Builtin.Int.intBits i : Nat) : Int)) H) : Fk (.int i) [] H Q := ⟨i,rfl,rfl,q⟩
theorem GA {K : PySem.W.Frag} {H : Hp} {z : Int} {R : Prop} (q : R) : tyV K "int" (.int z) H ∧ R := ⟨rfl,q⟩
end
theorem Ep {k : Nat} {i : Int} (h : Bd k i) : ¬ ((k : Int) < ((Builtin.Int.intBits i : Nat) : Int)) := by
  unfold Builtin.Int.intBits
  by_cases c : i = 0
  · subst c
    rw [if_pos (by decide)]
    omega
  · rw [if_neg (by simpa using c)]
    have h1 : i.natAbs.log2 < k := (Nat.log2_lt (by omega)).mpr h
    omega
end L2
namespace L2
open PySem PySem.Spec PyProof.Rows Bg
section
variable {X : Cx}
end
end L2
namespace L2
open PySem PySem.Spec PyProof.Rows Bg
section
variable {X : Cx} {tg : Expr}
end
section
variable {g : TG} {tc : TT} {te : TE} {σ0 : St} {H1 : Hp} {D : Addr}
end
end L2
namespace L2
open PySem PySem.Spec PyProof.Rows Bg
section
variable {X : Cx}
end
end L2
namespace L2
open PySem PySem.Spec PyProof.Rows Bg
section
variable {X : Cx} {tg : Expr}
end
end L2
namespace L2
open PySem PySem.Spec PyProof.Rows Bg
end L2
namespace L2
open PySem PySem.Spec PyProof.Rows Bg
section
variable {X : Cx}
end
end L2
namespace L2
open PySem PySem.Spec PyProof.Rows Bg
section
variable {X : Cx}
end
def TopS (mg : Str → Option Value) (x : Str) (z : Str) : Prop := ∃ u,mg x = some u ∧ RelV (.str z) u
theorem topS_mk {K : PySem.W.Frag} {h : Heap} {mg : Str → Option Value} {x z : Str} {t : Tok} (X : K.In h) (G : h.Ns mainGlobals mg) (e : PySem.W.nsIn K mainGlobals x = some (some (.str z t))) : TopS mg x z := ⟨_,PySem.W.mg_of X G e,⟨t,rfl⟩⟩
section
variable {K : PySem.W.Frag} {σ : St} {H : Hp} {Q : VK}
end
end L2
namespace L2
open PySem PySem.Spec PyProof.Rows Bg Builtin Builtin.Str
section
variable {X : Cx}
end
section
variable {H : Hp} {Q : VK}
end
end L2
namespace L2
open PySem PySem.Spec PySem.W PySem.Calls PyProof.Rows Bg PySem.Builtin PySem.Builtin.ObjectAttr PySem.Builtin.Getset_descriptor
section
variable {prog : Program} {w : World} {A : Around} {E : Value → Shared → Prop} {K : Frag} {x C : Addr} {h : Heap} {g : Array GenState} {d : Drawn} {t : Nat} {os : OsState}
theorem vL {R : Result → Shared → Prop} {tp : Value} (L0 : Looks (model prog w) h (typeOf (.ref x)) (.ref C)) (L5 : Looks (model prog w) h (isSubtype (.ref C) (.type "object")) true)
    (hR : R (.ok (.ret (.ref C))) ⟨h,g,d,t,os⟩) : codeAny (model prog w) A (.call (.builtin "getset_descriptor.__get__") ⟨[.builtin "object.__class__",.ref x,tp],[]⟩) R ⟨h,g,d,t,os⟩ := by
  refine codeAny_call_builtin KF.slot_gs.plain KF.entry_gs (KF.slot_gs.check _ _ _ _ _ _ _ _ KF.type_class (KF.args_gs _ _ _) ?_)
  unfold Builtin.«getset_descriptor.__get__» descrGet
  rw [dga_obj]
  refine wpAny_bind (wpAny_pure ?_)
  unfold descrGetter descrCheckInstance descrNameAndClass isInstance
  simp only [KF.owner_class]
  repeat lk
  refine ⟨Code.quiet_builtin _ (by decide +kernel),codeAny_builtin KF.entry_class ?_⟩
  unfold Builtin.«object.__class__» shownTypeOf
  repeat lk
  exact hR
theorem wV {tk : Tok} {Q : Fin → Shared → Prop} (L0 : Looks (model prog w) h (typeOf (.ref x)) (.ref C)) (L4 : Looks (model prog w) h (typeLookup (.ref C) "__class__") (some (.builtin "object.__class__"))) (L5 : Looks (model prog w) h (isSubtype (.ref C) (.type "object")) true)
    (hq : Q (.done (.ret (.ref C))) ⟨h,g,d,t,os⟩) : wpAny (model prog w) A (Builtin.«object.__getattribute__» ⟨[.ref x,.str "__class__" tk],[]⟩) Q E ⟨h,g,d,t,os⟩ := by
  have f6 := F.slot_gs_get.lookup
  have f7 := F.slot_gs_set.lookup
  have f5 : typeOf (.builtin "object.__class__") = pure (.type "getset_descriptor") := by kernel_rfl
  repeat (any_goals (first | assumption | (with_reducible refine Looks.at (by assumption) ?_) | wp_step))
  refine vL L0 L5 ?_
  repeat (any_goals (first | assumption | wp_step))
theorem AN {nameV : Value} {M : Model} {Q : Unit → Shared → Prop} (L0 : Looks M h (typeOf (.ref x)) (.ref C)) (L3 : Looks M h (isSubtype (.ref C) (.type "BaseException")) true)
    (hq : Q () ⟨h,g,d,t,os⟩) : wpAny M A (checkBuiltinCall "BaseException.__getattribute__" ⟨[.ref x,nameV],[]⟩) Q E ⟨h,g,d,t,os⟩ := by
  have hk : builtinKind "BaseException.__getattribute__" = some .slot := by decide +kernel
  have hsplit : splitId "BaseException.__getattribute__" = some ("BaseException","__getattribute__") := by decide +kernel
  have ha := F.args_bexc_ga (.ref x) nameV
  simp only [checkBuiltinCall,hk,hsplit]
  refine wpAny_bind ?_
  unfold isInstance
  repeat (any_goals (first | assumption | (with_reducible refine Looks.at (by assumption) ?_) | wp_step))
theorem Bq {Q : Option Value → Shared → Prop} (L0 : Looks (model prog w) h (typeOf (.ref x)) (.ref C)) (L1 : Looks (model prog w) h (typeLookup (.ref C) "__getattribute__") (some (.builtin "BaseException.__getattribute__")))
    (L2 : Looks (model prog w) h (typeLookup (.ref C) "__getattr__") none) (L3 : Looks (model prog w) h (isSubtype (.ref C) (.type "BaseException")) true)
    (L4 : Looks (model prog w) h (typeLookup (.ref C) "__class__") (some (.builtin "object.__class__"))) (L5 : Looks (model prog w) h (isSubtype (.ref C) (.type "object")) true)
    (hq : Q (some (.ref C)) ⟨h,g,d,t + 1,os⟩) : wpAny (model prog w) A (getAttr? (.ref x) "__class__") Q E ⟨h,g,d,t,os⟩ := by
  have f3 := PySem.F.attrBase_ValueError.ga.bind (.ref x)
  have hx2 : (Value.builtin "BaseException.__getattribute__" == Value.builtin "object.__getattribute__") = false := by decide +kernel
  have hx1 : (onTheHeap (Value.ref C) && Value.builtin "BaseException.__getattribute__" == Value.builtin "object.__getattribute__") = false := by rw [hx2]; rfl
  unfold getAttr? getAttrBy?
  repeat (any_goals (first | assumption | (with_reducible refine Looks.at (by assumption) ?_) | wp_step))
  refine codeAny_call_builtin PySem.F.attrBase_ValueError.ga.plain F.entry_bexc_ga (AN L0 L3 (wV L0 L4 L5 ?_))
  exact wpAny_pure (wpAny_pure hq)
end
structure XOk (K : Frag) (C : Addr) : Prop where
  ex : excIn K C [.type "ValueError",.type "Exception",.type "BaseException",.type "object"] "ValueError.__new__" = true
  cl : (clsIn K C).isSome = true
  ga : findIn K (.ref C) "__getattribute__" = some (some (.builtin "BaseException.__getattribute__"))
  gr : findIn K (.ref C) "__getattr__" = some none
  be : mroIn K C (.type "BaseException") = some true
  ca : findIn K (.ref C) "__class__" = some (some (.builtin "object.__class__"))
  ob : mroIn K C (.type "object") = some true
def E2 (x C : Addr) (h : Heap) : Prop := ∃ o,h.get? x = some o ∧ o.cls = .ref C
theorem Cz {K : Frag} {x C : Addr} (k : XOk K C) : KitX K (.ref x) (.ref C) (E2 x C) where
  ty := fun M h _ p => by
    obtain ⟨o,ho,hc⟩ := p
    exact hc ▸ (Looks.ld ho).andThen .now
  it := fun _ _ X _ => by
    obtain ⟨cdD,hcD⟩ := Option.isSome_iff_exists.mp k.cl
    unfold clsIn at hcD
    split at hcD
    · rename_i c' d' cd' sl' ho
      intro A' Q' E' s' kk q
      unfold isType loadHead
      exact wpAny_bind (wpAny_loadPart (kk _ _ (X _ _ ho)) (wpAny_pure q))
    · cases hcD
  ne := fun h tp dd its n sl X htp => by
    obtain ⟨cdD,hcD⟩ := Option.isSome_iff_exists.mp k.cl
    refine Bool.eq_false_iff.mpr fun q => ?_
    have e : C = tp := Value.ref.inj (beq_iff_eq.mp q)
    subst e
    unfold clsIn at hcD
    split at hcD
    · rename_i c' d' cd' sl' ho
      have z := (X _ _ ho).symm.trans htp
      cases z
    · cases hcD
  ca := fun {prog w A E Q s} X p q => by
    obtain ⟨h,g,d,t,os⟩ := s
    obtain ⟨o,ho,hc⟩ := p
    exact Bq (hc ▸ (Looks.ld ho).andThen .now) (looks_findIn X k.ga) (looks_findIn X k.gr) (looks_mroIn X k.be) (looks_findIn X k.ca) (looks_mroIn X k.ob) q
end L2
namespace L2
open PySem PySem.Spec PyProof.Rows Bg
structure CXo (P : Program) (w : World) (outer : List Env) (H : Hp) (s : Shared) (a C t : Addr) (H' : Hp) (B : Heap) (s' : Shared) : Prop where
  os : s'.os = s.os
  bare : AllBare s'.gens
  un : Un (frs outer) [] H H' s.heap s'.heap
  keep : ∀ b o,s.heap.get? b = some o → H b = none → b ∉ frs outer → B.get? b = some o
  there : ∀ b o,s.heap.get? b = some o → b ∉ frs outer → ∃ o',B.get? b = some o'
  hok : HOk P w H' B
  fly : Heap.FlyingW B outer a (.ref C) (.ref t) s'.heap
def CXe (P : Program) (w : World) : CXT := fun outer H s E e s' => ∃ (a C t : Addr) (H' : Hp) (B : Heap),e = .ref a ∧ CXo P w outer H s a C t H' B s' ∧ E (.ref C) none H'
theorem CS {X : Cx} {pins : List (Addr × Obj)} {σ : St} {H : Hp} {s : Shared} (I : Inv X pins σ H s) : HOk X.prog X.w H (PySem.W.hideAll s.heap (frs X.stack)) := fun b u e =>
  (I.hok b u e).stay (fun c v hc q => PySem.W.hideAll_get _ q fun hm => by
    have hn := I.stkFree c hm
    rcases hc with z | z
    · rw [z,e] at hn; cases hn
    · rw [z] at hn; cases hn) (fun _ q => q) fun _ _ q => q
section
variable {X : Cx} {pins : List (Addr × Obj)} {σ : St} {H : Hp} {s : Shared}
theorem Inv.old (I : Inv X pins σ H s) {b : Addr} {o : Obj} (e : X.s₀.heap.get? b = some o) : b ≠ X.env.locals := Nat.ne_of_lt (Nat.lt_of_lt_of_le (Heap.lt_size e) I.ok.above)
theorem Inv.nostk (I : Inv X pins σ H s) {b : Addr} {o : Obj} (e : X.s₀.heap.get? b = some o) (hb : b ∉ X.fs) : b ∉ frs X.stack := fun z => by
  rcases List.mem_cons.mp (I.stkSub b z) with q | q
  · exact I.old e q
  · exact hb q
theorem Inv.instk (I : Inv X pins σ H s) (hst : X.stack = X.env :: X.outer) {b : Addr} (hb : b ∈ X.fs) : b ∈ frs X.stack := by
  rw [hst]
  unfold frs
  rw [List.filterMap_cons]
  split
  · exact hb
  · exact List.mem_cons_of_mem _ hb
theorem Inv.raised (I : Inv X pins σ H s) (hst : X.stack = X.env :: X.outer) (hf : X.env.frame = some X.env.locals) (hex : X.ex = []) {e C : Addr} {args : List Value} {h1 : Heap} (hm : Heap.MadeExcOf s.heap h1 e (.ref C) args)
    {M : Model} {E : Value → Shared → Prop} {Q : Unit → Shared → Prop} (hQ : ∀ h' t B,CXo X.prog X.w X.outer X.H₀ X.s₀ e C t H B { s with heap := h' } → Q () { s with heap := h' }) : wpAny M X.A (leaving X.env (.ref e)) Q E { s with heap := h1 } := by
  have hfr : X.A.frames = some (X.env :: X.outer) := by rw [← hst]; exact I.ok.frames
  have hff : s.heap.FunFrames (PySem.W.hideAll s.heap (frs X.stack)) (X.env :: X.outer) := by
    have z := I.stack
    rw [hst] at z
    exact PySem.W.funFrames_hide z fun env he a ha => by rw [hst]; exact List.mem_filterMap.mpr ⟨env,he,ha⟩
  have nx : ∀ b,b ∉ X.ex := fun b => by rw [hex]; simp
  refine wpAny_leaves_madeW (s := { s with heap := h1 }) (base := PySem.W.hideAll s.heap (frs X.stack)) (h := s.heap) hfr hf (fun b o q => PySem.W.of_hideAll _ q) hff hm fun h' t x1 x2 x3 x4 => hQ h' t (PySem.W.hideAll s.heap (frs X.stack)) ?_
  have inB : ∀ b o,X.s₀.heap.get? b = some o → X.H₀ b = none → b ∉ frs X.outer → (PySem.W.hideAll s.heap (frs X.stack)).get? b = some o := fun b o q n hb => PySem.W.hideAll_get _ (I.base.keep b o q n hb (nx b)) (I.nostk q hb)
  have thB : ∀ b o,X.s₀.heap.get? b = some o → b ∉ frs X.outer → ∃ o',(PySem.W.hideAll s.heap (frs X.stack)).get? b = some o' := fun b o q hb => by
    obtain ⟨o',k⟩ := I.base.there b o q (nx b)
    exact ⟨o',PySem.W.hideAll_get _ k (I.nostk q hb)⟩
  have sl : ∀ b o,s.heap.get? b = some o → b ∈ frs X.outer → ∃ sl,h'.get? b = some { o with slots := sl } := fun b o q hb => by
    obtain ⟨_,o',e',nd⟩ := I.funs.mem hb
    rw [q] at e'
    cases e'
    exact x4 b o (hm.keeps b o q) nd
  refine ⟨I.os,I.bare,⟨fun b o q n hb _ => x1.1 b o (inB b o q n hb),fun b o q n hb _ => ?_,fun b o q n _ => I.base.free b o q n (nx b),fun b o q _ => ?_,I.base.tups,I.base.frzs,I.base.tbls⟩,inB,thB,CS I,x1⟩
  · obtain ⟨s1,k⟩ := I.base.slot b o q n hb (nx b)
    obtain ⟨s2,k2⟩ := sl b _ k hb
    exact ⟨s2,k2⟩
  · by_cases hb : b ∈ frs X.outer
    · obtain ⟨o',k⟩ := I.base.there b o q (nx b)
      obtain ⟨s2,k2⟩ := sl b _ k hb
      exact ⟨_,k2⟩
    · obtain ⟨o',k⟩ := thB b o q hb
      exact ⟨o',x1.1 b o' k⟩
theorem Inv.passed (I : Inv X pins σ H s) (hst : X.stack = X.env :: X.outer) (hf : X.env.frame = some X.env.locals) (hex : X.ex = []) {a C t : Addr} {H' : Hp} {B : Heap} {s' : Shared} (c : CXo X.prog X.w X.stack H s a C t H' B s')
    {M : Model} {E : Value → Shared → Prop} {Q : Unit → Shared → Prop} (hQ : ∀ h',CXo X.prog X.w X.outer X.H₀ X.s₀ a C t H' B { s' with heap := h' } → Q () { s' with heap := h' }) : wpAny M X.A (leaving X.env (.ref a)) Q E s' := by
  have hfr : X.A.frames = some (X.env :: X.outer) := by rw [← hst]; exact I.ok.frames
  have fl := c.fly
  rw [hst] at fl
  have nx : ∀ b,b ∉ X.ex := fun b => by rw [hex]; simp
  refine wpAny_leaves_onW hfr hf fl fun h' x1 x4 => hQ h' ?_
  have inB : ∀ b o,X.s₀.heap.get? b = some o → X.H₀ b = none → b ∉ frs X.outer → B.get? b = some o := fun b o q n hb => c.keep b o (I.base.keep b o q n hb (nx b)) (I.base.free b o q n (nx b)) (I.nostk q hb)
  have thB : ∀ b o,X.s₀.heap.get? b = some o → b ∉ frs X.outer → ∃ o',B.get? b = some o' := fun b o q hb => by
    obtain ⟨o',k⟩ := I.base.there b o q (nx b)
    exact c.there b o' k (I.nostk q hb)
  have sl : ∀ b o,s.heap.get? b = some o → b ∈ frs X.outer → ∃ sl,h'.get? b = some { o with slots := sl } := fun b o q hb => by
    have hb' := I.instk hst hb
    obtain ⟨s1,k1⟩ := c.un.slot b o q (I.stkFree b hb') hb' (by simp)
    have hb2 : b ∈ (X.env :: X.outer).filterMap (·.frame) := by rw [← hst]; exact hb'
    obtain ⟨_,o',e',nd⟩ := fl.2.2.1.mem hb2
    rw [k1] at e'
    cases e'
    obtain ⟨s2,k2⟩ := x4 b _ k1 nd
    exact ⟨s2,k2⟩
  refine ⟨c.os.trans I.os,c.bare,⟨fun b o q n hb _ => x1.1 b o (inB b o q n hb),fun b o q n hb _ => ?_,fun b o q n _ => ?_,fun b o q _ => ?_,fun b xs q => c.un.tups b xs (I.base.tups b xs q),fun b o u q => c.un.frzs b o u (I.base.frzs b o u q),fun b ps q => ?_⟩,inB,thB,c.hok,x1⟩
  · obtain ⟨s1,k⟩ := I.base.slot b o q n hb (nx b)
    obtain ⟨s2,k2⟩ := sl b _ k hb
    exact ⟨s2,k2⟩
  · obtain ⟨o',k⟩ := I.base.there b o q (nx b)
    exact c.un.free b o' k (I.base.free b o q n (nx b)) (by simp)
  · by_cases hb : b ∈ frs X.outer
    · obtain ⟨o',k⟩ := I.base.there b o q (nx b)
      obtain ⟨s2,k2⟩ := sl b _ k hb
      exact ⟨_,k2⟩
    · obtain ⟨o',k⟩ := thB b o q hb
      exact ⟨o',x1.1 b o' k⟩
  · obtain ⟨m1,e1⟩ := I.base.tbls b ps q
    obtain ⟨m2,e2⟩ := c.un.tbls b _ e1
    exact ⟨m1 ++ m2,by rw [e2,Array.append_assoc]⟩
end
def Ds (X : Cx) (E : XK) : Prop := ∀ (pins : List (Addr × Obj)) (σ : St) (H : Hp) (s : Shared) (e C : Addr) (args : List Value) (h1 : Heap),Inv X pins σ H s → Heap.MadeExcOf s.heap h1 e (.ref C) args → E (.ref C) none H → X.xe (.ref e) { s with heap := h1 }
section
variable {P : Program} {w : World} {K : PySem.W.Frag} {mg : Str → Option Value} {base : Heap} {N : List Str} {qual : Str} {scope : Scope} {f : Addr} {cd : Value} {A : Around} {outer : List Env} {s0 : Shared} {H0 : Hp} {E : XK}
theorem yQ : Ds (cxOf (CXe P w) P w K mg base N qual scope f cd A outer s0 H0 E) E := fun pins σ H s e C args h1 I hm hE =>
  I.raised rfl rfl rfl hm fun h' t B c => ⟨e,C,t,H,B,rfl,c,hE⟩
theorem yr : yC (CXe P w) (cxOf (CXe P w) P w K mg base N qual scope f cd A outer s0 H0 E) E := fun pins σ H s e s' I h => by
  obtain ⟨a,C,t,H',B,rfl,c,hE⟩ := h
  exact I.passed rfl rfl rfl c fun h' c' => ⟨a,C,t,H',B,rfl,c',hE⟩
end
theorem De {P : Program} {w : World} {X : Cx} : yC (CXe P w) X E0 := fun _ _ _ _ _ _ _ h => by
  obtain ⟨_,_,_,_,_,_,_,z⟩ := h
  exact z.elim
def FE (C : Addr) (E : XK) : TS := fun _ _ H => E (.ref C) none H
theorem BB {K : PySem.W.Frag} {C : Addr} (k : XOk K C) {h : Heap} (X : K.In h) : ∃ bm N nm q bs hdct sn sub ab col dd k0 k1 k2 k3 k5 mN,h.get? C = some (excClassObj nm q C N bs bm hdct sn sub ab col dd k0 k1 k2 k3 k5 "ValueError.__new__") ∧ h.Ns N mN ∧ mN "__init__" = none ∧ OwnTail h [.type "ValueError",.type "Exception",.type "BaseException",.type "object"] bm := by
  have q := k.ex
  unfold PySem.W.excIn at q
  split at q
  · rename_i dd cd sl ho
    split at q
    · rename_i C' bm k0 k1 k2 k3 n k5 hm hs
      simp only [Bool.and_eq_true,beq_iff_eq,Bool.not_eq_true'] at q
      obtain ⟨⟨⟨⟨⟨rfl,rfl⟩,hdel⟩,ht⟩,hok⟩,hni⟩ := q
      obtain ⟨nm,bs,mro,ns,qn,hd,sn,sub,ab,col,del⟩ := cd
      dsimp only at hm hdel hok hni
      subst hm hdel
      have hsl : sl = #[k0,k1,k2,k3,some (.builtin "ValueError.__new__"),k5] := by
        obtain ⟨l⟩ := sl
        simp only at hs
        rw [hs]
      subst hsl
      exact ⟨bm,ns,nm,qn,bs,hd,sn,sub,ab,col,dd,k0,k1,k2,k3,k5,_,X _ _ ho,.of_isNs (PySem.W.isNs_of_in X hok),PySem.W.nsMap_none_of_in X hok hni,PySem.W.tail_of_in X ht⟩
    · cases q
  · cases q
theorem xj {X : Cx} {E : XK} {x z : Str} {C : Addr} {j : Nat} {np p1 cpos pos : Pos} (hx : Ds X E) (k : XOk X.K C) (hm : X.mg x = some (.ref C)) (hg : Gl X x) (hc : X.calm = true) (hd : (x == ("__debug__" : Str)) = false := by decide) :
    PS X (.Raise (some (.Call (.Name x np) [.Constant (.str z) j p1] [] cpos)) none pos) (FE C E) := by
  intro pins s σ H D I h
  obtain ⟨bm,N,nm,q,bs,hdct,sn,sub,ab,col,dd,k0,k1,k2,k3,k5,mN,hC,hN,hni,T⟩ := BB k I.kIn
  have FB := PySem.F.excBase_ValueError
  refine wpAny_Raise_call_subT (C := C) (nm := nm) (q := q) (N := N) (bs := bs) (bm := bm) (hdct := hdct) (sn := sn) (sub := sub) (ab := ab) (col := col) (dd := dd) (k0 := k0) (k1 := k1) (k2 := k2) (k3 := k3) (k5 := k5)
    FB (mN := mN) (T.hasType FB.hasBase) (I.ok.hd hc) rfl hni (xt I hg hm ⟨rfl,?_⟩ hd)
  refine Calls.evalArgs_plain (PyProof.Rows.spliced_more (Calls.Constant_str (PyProof.Rows.spliced_none ?_)))
  have I1 := I.tok (s.toks + 1)
  exact ⟨rfl,show 1 ≤ sizeLine by decide,hC,hN,T,fun h' e hm' => hx pins σ H _ e C _ h' I1 hm' h⟩
end L2
namespace L2
open PySem PySem.Spec PyProof.Rows Bg
def ExcO (a C : Addr) : HO := .ext (E2 a C)
theorem HOk.add {P : Program} {w : World} {H : Hp} {h : Heap} {a : Addr} {o : HO} (x : HOk P w H h) (hn : H a = none) (new : ObjOk P w (upd H a o) h a o) : HOk P w (upd H a o) h := fun b u e => by
  by_cases hb : b = a
  · subst hb; rw [zq] at e; cases e; exact new
  · rw [zv hb] at e
    exact (x b u e).stay (fun c v _ q => q) (fun c q => by rw [zv (zf q hn)]; exact q) fun c xs q => by rw [zv (zf q hn)]; exact q
theorem ObjOk.there {P : Program} {w : World} {H : Hp} {h : Heap} {a : Addr} {o : HO} (x : ObjOk P w H h a o) : ∃ u,h.get? a = some u := by
  cases o with
  | lst xs => obtain ⟨_,_,_,_,e⟩ := x; exact ⟨_,e⟩
  | tup xs => obtain ⟨_,_,_,u,e,_⟩ := x; exact ⟨_,e⟩
  | dK kvs => obtain ⟨_,_,_,_,o,_,_,e,_⟩ := x; exact ⟨_,e⟩
  | dT kvs => obtain ⟨_,_,_,_,o,_,_,e,_⟩ := x; exact ⟨_,e⟩
  | set S n => obtain ⟨o,_,_,_,e,_⟩ := x; exact ⟨_,e⟩
  | ins C dx fs => obtain ⟨_,_,_,e,_⟩ := x; exact ⟨_,e⟩
  | own y => exact x
  | xd fs => obtain ⟨_,⟨_,_,_,e,_⟩,_⟩ := x; exact ⟨_,e⟩
  | rng lo hi => obtain ⟨_,_,_,e⟩ := x; exact ⟨_,e⟩
  | frz ob u => obtain ⟨e,_⟩ := x; exact ⟨_,e⟩
  | tbl ps => exact ⟨_,(show h.get? a = some _ from x)⟩
  | met f y => exact ⟨_,(show h.get? a = some _ from x)⟩
  | ext φ => obtain ⟨_,e,_⟩ := x; exact e
theorem CXo.free {P : Program} {w : World} {outer : List Env} {H : Hp} {s : Shared} {a C t : Addr} {H' : Hp} {B : Heap} {s' : Shared} (c : CXo P w outer H s a C t H' B s') : H' a = none := by
  cases q : H' a with
  | none => rfl
  | some u =>
    obtain ⟨o,e⟩ := (c.hok a u q).there
    have := c.fly.2.1
    rw [e] at this
    cases this
def Cx.tryc (X : Cx) (pl : List (Addr × Obj)) (EE : St → XK) : Cx := { X with pn := X.pn ++ pl,xe := fun e s' => ∃ σ H s,Inv X pl σ H s ∧ CXe X.prog X.w X.stack H s (EE σ) e s' }
def Cx.inx (X : Cx) (a : Addr) : Cx := { X with A := X.A.mark (some (.ref a)),calm := false,xe := fun _ _ => False }
section
variable {X : Cx} {pl pins : List (Addr × Obj)} {σ : St} {H : Hp} {s : Shared} {EE : St → XK} {a : Addr}
theorem Cx.Ok.tryc (ok : X.Ok) : (X.tryc pl EE).Ok :=
  ⟨ok.mod,ok.kind,ok.glob,ok.blt,ok.above,ok.inj,ok.has,ok.cab,ok.hd,ok.frames,ok.stk,ok.exf,ok.bs,ok.bsz,ok.noex,ok.exfs,ok.funs,ok.frf⟩
theorem Cx.Ok.untry (ok : (X.tryc pl EE).Ok) : X.Ok :=
  ⟨ok.mod,ok.kind,ok.glob,ok.blt,ok.above,ok.inj,ok.has,ok.cab,ok.hd,ok.frames,ok.stk,ok.exf,ok.bs,ok.bsz,ok.noex,ok.exfs,ok.funs,ok.frf⟩
theorem Inv.tryc (I : Inv X pl σ H s) : Inv (X.tryc pl EE) [] σ H s := ⟨I.ok.tryc,I.os,I.bare,I.base,I.loc,I.cell,I.free,I.freeC,fun p hp => I.pin p (by
  have hp' : p ∈ (X.pn ++ pl) ++ [] := hp
  simpa using hp'),I.hok,I.len⟩
theorem Inv.untry (I : Inv (X.tryc pl EE) pins σ H s) : Inv X pl σ H s := ⟨I.ok.untry,I.os,I.bare,I.base,I.loc,I.cell,I.free,I.freeC,fun p hp => I.pin p (List.mem_append_left _ hp),I.hok,I.len⟩
theorem Cx.Ok.inx (ok : X.Ok) : (X.inx a).Ok :=
  ⟨ok.mod,ok.kind,ok.glob,ok.blt,ok.above,ok.inj,ok.has,ok.cab,fun z => absurd (show false = true from z) Bool.false_ne_true,ok.frames,ok.stk,ok.exf,ok.bs,ok.bsz,ok.noex,ok.exfs,ok.funs,ok.frf⟩
theorem Inv.inx (I : Inv X pins σ H s) : Inv (X.inx a) pins σ H s := ⟨I.ok.inx,I.os,I.bare,I.base,I.loc,I.cell,I.free,I.freeC,I.pin,I.hok,I.len⟩
theorem Inv.uninx (ok : X.Ok) (I : Inv (X.inx a) pins σ H s) : Inv X pins σ H s := ⟨ok,I.os,I.bare,I.base,I.loc,I.cell,I.free,I.freeC,I.pin,I.hok,I.len⟩
theorem Inv.landed (I : Inv X pl σ H s) {C t : Addr} {H' : Hp} {B h5 : Heap} {s' : Shared} (c : CXo X.prog X.w X.stack H s a C t H' B s') (hfl : Heap.FlyingW B X.stack a (.ref C) (.ref t) h5) (hsm : s'.heap.UpToSlots h5) :
    Inv X pl σ H' { s' with heap := h5 } ∧ Inv X pl σ (upd H' a (ExcO a C)) { s' with heap := h5 } := by
  have hn := c.free
  have sl : ∀ b o,s.heap.get? b = some o → H b = none → b ∈ frs X.stack → ∃ sl,h5.get? b = some { o with slots := sl } := fun b o q n hb => by
    obtain ⟨s1,k1⟩ := c.un.slot b o q n hb (by simp)
    obtain ⟨_,o',e',nd⟩ := c.fly.2.2.1.mem hb
    rw [k1] at e'
    cases e'
    obtain ⟨s2,k2⟩ := hsm b _ k1 nd
    exact ⟨s2,k2⟩
  have th : ∀ b o,s.heap.get? b = some o → ∃ o',h5.get? b = some o' := fun b o q => by
    by_cases hb : b ∈ frs X.stack
    · obtain ⟨s1,k1⟩ := sl b o q (I.stkFree b hb) hb
      exact ⟨_,k1⟩
    · obtain ⟨o',k⟩ := c.there b o q hb
      exact ⟨o',hfl.1 b o' k⟩
  have ne : ∀ b o,s.heap.get? b = some o → H b = none → b ≠ a := fun b o q n z => by
    by_cases hb : b ∈ frs X.stack
    · obtain ⟨_,o',e',nd⟩ := hfl.2.2.1.mem hb
      obtain ⟨_,_,_,oe,vs,T,oT,ts,he,hcl,hd,_⟩ := hfl
      rw [z,he] at e'
      cases e'
      exact nd vs hd
    · have k := c.keep b o q n hb
      rw [z,c.fly.2.1] at k
      cases k
  have ho5 : HOk X.prog X.w H' h5 := c.hok.kept hfl.1
  constructor
  · exact I.call' (s' := { s' with heap := h5 }) (ch := []) c.os ⟨fun b o q n hb _ => hfl.1 b o (c.keep b o q n hb),fun b o q n hb _ => sl b o q n hb,c.un.free,fun b o q _ => th b o q,c.un.tups,c.un.frzs,c.un.tbls⟩ ho5 c.bare (fun b z => absurd z (by simp))
  · refine I.call' (s' := { s' with heap := h5 }) (ch := []) c.os ⟨fun b o q n hb _ => hfl.1 b o (c.keep b o q n hb),fun b o q n hb _ => sl b o q n hb,fun b o q n _ => ?_,fun b o q _ => th b o q,fun b xs q => ?_,fun b o u q => ?_,fun b ps q => ?_⟩ (ho5.add hn ?_) c.bare (fun b z => absurd z (by simp))
    · rw [zv (ne b o q n)]
      exact c.un.free b o q n (by simp)
    · have k := c.un.tups b xs q
      rw [zv (zf k hn)]
      exact k
    · have k := c.un.frzs b o u q
      rw [zv (zf k hn)]
      exact k
    · obtain ⟨m,k⟩ := c.un.tbls b ps q
      exact ⟨m,by rw [zv (zf k hn)]; exact k⟩
    · obtain ⟨ob,ho,hc⟩ := hfl.there
      refine ⟨⟨ob,ho,hc⟩,⟨ob,ho⟩,fun h1 h2 p k => ?_⟩
      obtain ⟨o,e1,e2⟩ := p
      exact ⟨o,k o e1,e2⟩
theorem Inv.gone (I : Inv X pins σ H s) (hN : X.N.Nodup) {j : Nat} {n : Str} (hj : X.N[j]? = some n) (hn : X.env.scope.names.lookup n = some .local) {M : Model} {A : Around} {E : Value → Shared → Prop} {pos : Pos} {Q : Unit → Shared → Prop}
    (h : ∀ s',Inv X pins (σ.set j none) H s' → Q () s') : wpAny M A (do bindName X.env n .none; unbindBehindTheSuite X.env n pos) Q E s := by
  obtain ⟨m,hm,hl⟩ := id I.loc
  have hcls : (X.env.scope.kind == .class || (X.env.scope.kind == .module && X.env.locals != X.env.globals)) = false := by rw [I.ok.kind]; rfl
  refine wpAny_nameGoes_keeps hn hm hcls fun h' v hn' hs => ?_
  have cne := I.cne
  have hjσ : j < σ.length := by rw [I.len]; exact (List.getElem?_eq_some_iff.mp hj).1
  have old : ∀ b o,X.s₀.heap.get? b = some o → b ≠ X.env.locals := fun b o e => Nat.ne_of_lt (Nat.lt_of_lt_of_le (Heap.lt_size e) I.ok.above)
  refine h _ ⟨I.ok,I.os,I.bare,⟨fun b o e n hb hx => ?_,fun b o e n hb hx => ?_,I.base.free,fun b o e hx => ?_,I.base.tups,I.base.frzs,I.base.tbls⟩,⟨_,hn',fun k y v' e1 e2 e3 => ?_⟩,fun y c e => ?_,I.free,I.freeC,fun p hp => ?_,fun b ob e => ?_,by simpa using I.len⟩
  · exact (hs.2 b (old b o e)).trans (I.base.keep b o e n hb hx)
  · obtain ⟨sl,e1⟩ := I.base.slot b o e n hb hx
    exact ⟨sl,(hs.2 b (old b o e)).trans e1⟩
  · obtain ⟨o',e1⟩ := I.base.there b o e hx
    exact ⟨o',(hs.2 b (old b o e)).trans e1⟩
  · by_cases hk : k = j
    · subst hk
      rw [List.getElem?_set_self hjσ] at e2
      cases e2
    · rw [List.getElem?_set_ne (Ne.symm hk)] at e2
      obtain ⟨u',r',q⟩ := hl k y v' e1 e2 e3
      refine ⟨u',r',?_⟩
      rcases q with ⟨kk,e⟩ | ⟨kk,c,e,z⟩
      · refine .inl ⟨kk,?_⟩
        have : y ≠ n := fun e => hk (vE hN e1 (e ▸ hj))
        simp [this,e]
      · exact .inr ⟨kk,c,e,z.sameBut hs (cne y c e)⟩
  · obtain ⟨w',z⟩ := I.cell y c e
    exact ⟨w',z.sameBut hs (cne y c e)⟩
  · obtain ⟨e,n,ne,nf,d⟩ := I.pin p hp
    exact ⟨(hs.2 p.1 ne).trans e,n,ne,nf,d⟩
  · refine (I.hok b ob e).stay (fun c w' hc q => (hs.2 c ?_).trans q) (fun _ q => q) fun _ _ q => q
    rintro rfl
    rcases hc with rfl | hc
    · rw [I.free] at e; cases e
    · rw [I.free] at hc; cases hc
end
end L2
namespace L2
open PySem PySem.Spec PyProof.Rows Bg
theorem u5 {M : Model} {A : Around} {E : Value → Shared → Prop} {h : Heap} {g : Array GenState} {d : Drawn} {t : Nat} {os : OsState} {K : PySem.W.Frag} {a C D : Addr} {o : Obj} {b : Bool} {Q : Bool → Shared → Prop} (X : K.In h) (ho : h.get? a = some o) (hc : o.cls = .ref C) (kD : XOk K D)
    (hm : PySem.W.mroIn K C (.ref D) = some b) (hq : Q b ⟨h,g,d,t,os⟩) : wpAny M A (excMatches (.ref a) (.ref D)) Q E ⟨h,g,d,t,os⟩ := by
  have L0 : PySem.W.Looks M h (typeOf (.ref a)) (.ref C) := hc ▸ (PySem.W.Looks.ld ho).andThen .now
  have L1 := PySem.W.looks_mroIn (M := M) X hm
  have L2 := PySem.W.looks_mroIn (M := M) X kD.be
  obtain ⟨bm,N,nm,q,bs,hdct,sn,sub,ab,col,dd,k0,k1,k2,k3,k5,mN,hD,hN,hni,T⟩ := BB kD X
  have f := tc_notTuple
  unfold excMatches
  repeat (any_goals (first | assumption | (with_reducible refine PySem.W.Looks.at (by assumption) ?_) | with_reducible refine wpAny_loadPart_at hD ?_ | wp_step))
  cases b <;> (repeat (any_goals (first | assumption | wp_step)))
def tryD (j : Nat) (D : Ends) : Ends := { nx := fun σ2 H2 => D.nx (σ2.set j none) H2,rt := D.rt,bk := fun σ2 H2 => D.bk (σ2.set j none) H2,ct := fun σ2 H2 => D.ct (σ2.set j none) H2 }
def tryE (K : PySem.W.Frag) (Cy : Addr) (j : Nat) (ts : TS) (D : Ends) : St → XK := fun σ' cls _ H' => ∃ C,cls = .ref C ∧ PySem.W.mroIn K C (.ref Cy) = some true ∧ ∀ a,H' a = none → ts (tryD j D) (σ'.set j (some (.ref a))) (upd H' a (ExcO a C))
def tTry (K : PySem.W.Frag) (Cy : Addr) (j : Nat) (tb : (St → XK) → TS) (ts : TS) : TS := fun D σ H => tb (tryE K Cy j ts D) D σ H
theorem GD {K : PySem.W.Frag} {Cy : Addr} {j : Nat} {tb : (St → XK) → TS} {ts : TS} {D : Ends} {σ : St} {H : Hp} (h : tb (tryE K Cy j ts D) D σ H) : tTry K Cy j tb ts D σ H := h
theorem Dh {K : PySem.W.Frag} {Cy C : Addr} {j : Nat} {ts : TS} {D : Ends} {σ : St} {H : Hp} {d : Option Addr} (hs : PySem.W.mroIn K C (.ref Cy) = some true) (h : ∀ a,H a = none → ts (tryD j D) (σ.set j (some (.ref a))) (upd H a (ExcO a C))) : tryE K Cy j ts D σ (.ref C) d H := ⟨C,rfl,hs,h⟩
theorem E7 {X : Cx} {body suite : List Stmt} {b₀ : Stmt} {x n : Str} {np hpos pos : Pos} {j : Nat} {Cy : Addr} {tb : (St → XK) → TS} {ts : TS} (hst : X.stack = X.env :: X.outer) (hf : X.env.frame = some X.env.locals) (hN : X.N.Nodup) (hj : X.N[j]? = some n) (hn : X.env.scope.names.lookup n = some .local)
    (ky : XOk X.K Cy) (hm : X.mg x = some (.ref Cy)) (hg : Gl X x) (hb : ∀ pl EE,PSs (X.tryc pl EE) body (tb EE)) (hs : ∀ a,PSs (X.inx a) (b₀ :: suite) ts) (hd : (x == ("__debug__" : Str)) = false := by decide) :
    PS X (.Try body [.ExceptHandler (some (.Name x np)) (some n) (b₀ :: suite) hpos] [] [] pos) (tTry X.K Cy j tb ts) := by
  intro pins s σ H D I h
  refine wpAny_Try_except (wpAny_mono (hb pins _ [] s σ H D I.tryc h) (fun f s1 q => ?_) (fun e s1 hx => ?_))
  · cases f with
    | next =>
      obtain ⟨σ',H',I',q⟩ := q
      exact wpAny_execs_nil ⟨σ',H',I'.untry,q⟩
    | brk => obtain ⟨σ',H',I',q⟩ := q; exact ⟨σ',H',I'.untry,q⟩
    | cont => obtain ⟨σ',H',I',q⟩ := q; exact ⟨σ',H',I'.untry,q⟩
    | ret u => obtain ⟨v,σ',H',I',r,q⟩ := q; exact ⟨v,σ',H',I'.untry,r,q⟩
  · obtain ⟨σ1,H1,s0,I0,a,C,t,H',B,rfl,c,C',hC',hsub,hh⟩ := hx
    have hCC : C' = C := (Value.ref.inj hC').symm
    subst hCC
    have hfr : X.A.frames = some (X.env :: X.outer) := by rw [← hst]; exact I0.ok.frames
    have fl := c.fly
    rw [hst] at fl
    refine wpAny_looks_onW hfr hf fl fun h4 held4 sm4 => ?_
    refine wpAny_landsW (s := { s1 with heap := h4 }) held4 fun h5 fl5 sm5 => ?_
    have fl5' : Heap.FlyingW B X.stack a (.ref C') (.ref t) h5 := by rw [hst]; exact fl5
    obtain ⟨I5,_⟩ := I0.landed c fl5' (sm4.trans sm5)
    have I5x : Inv (X.inx a) pins σ1 H' { s1 with heap := h5 } := I5.inx
    refine wpAny_handleBy_cons (codeAny_handlers_test (xt (X := X.inx a) I5x hg hm ?_ hd)) (by intro q; cases q)
    obtain ⟨ob,ho,hc⟩ := fl5.there
    refine u5 (g := s1.gens) (d := s1.drawn) (t := s1.toks) (os := s1.os) I5.kIn ho hc ky hsub ?_
    refine codeAny_handlers_suite_as (lands_againW (s := { s1 with heap := h5 }) fl5 fun h6 fl6 sm6 => ?_)
    have fl6' : Heap.FlyingW B X.stack a (.ref C') (.ref t) h6 := by rw [hst]; exact fl6
    obtain ⟨_,I6⟩ := I0.landed c fl6' ((sm4.trans sm5).trans sm6)
    refine xB I6 hN hj (.inl hn) (v := .ref a) (u := .ref a) rfl (fun s7 I7 => ?_) (.inr hn)
    refine wpAny_mono (hs a pins s7 _ _ _ I7.inx (hh a c.free)) (fun f s8 q => ?_) fun _ _ z => False.elim z
    cases f with
    | next =>
      obtain ⟨σ',H8,I8,q⟩ := q
      exact (I8.uninx I7.ok).gone hN hj hn fun s9 I9 => ⟨_,H8,I9,q⟩
    | brk =>
      obtain ⟨σ',H8,I8,q⟩ := q
      exact (I8.uninx I7.ok).gone hN hj hn fun s9 I9 => ⟨_,H8,I9,q⟩
    | cont =>
      obtain ⟨σ',H8,I8,q⟩ := q
      exact (I8.uninx I7.ok).gone hN hj hn fun s9 I9 => ⟨_,H8,I9,q⟩
    | ret u =>
      obtain ⟨v,σ',H8,I8,r,q⟩ := q
      exact (I8.uninx I7.ok).gone hN hj hn fun s9 I9 => ⟨v,_,H8,I9,r,q⟩
def OwnX (P : Program) (w : World) (K : PySem.W.Frag) (mg : Str → Option Value) (base : Heap) (k : Nat) (x : Str) (ps : List Str) (dvs : List V) (sp : Sp) : Prop :=
  ∃ (f : Addr) (fd : FuncData) (ds : List Value),FnOk P w K mg base (CXe P w) k f fd ps sp ∧ mg x = some (.ref f) ∧ PySem.W.keepIn K (.ref f) = true ∧ Binds K fd ps ds ∧ Vals dvs ds
def Du (sp : Sp) (dvs : List V) (EE : St → XK) (t : TA) : TE := fun σ H Q => t σ H fun vs H1 => sp (vs ++ dvs) H1 Q (EE σ)
theorem BA {sp : Sp} {dvs : List V} {EE : St → XK} {t : TA} {σ : St} {H : Hp} {Q : VK} (h : t σ H fun vs H1 => sp (vs ++ dvs) H1 Q (EE σ)) : Du sp dvs EE t σ H Q := h
section
variable {X : Cx} {k j : Nat} {x : Str} {ps : List Str} {dvs : List V} {sp : Sp} {p pos : Pos} {e : Expr} {es : List Expr} {t : TA} {E : XK}
theorem vw (O : OwnX X.prog X.w X.K X.mg X.base k x ps dvs sp) (hr : Room j X.A) (hg : Gl X x)
    (ha : PA X (e :: es) t) (hk : k ≤ j := by decide) (hdb : (x == ("__debug__" : Str)) = false := by decide) (he : starEach (e :: es) X.env = (false,eval e X.env) :: starEach es X.env := by rfl) (hpl : (backTo pos (starEach es X.env)).any (·.1) = false := by rfl) :
    PE X (.Call (.Name x p) (e :: es) [] pos) (AU sp dvs E0 t) := by
  obtain ⟨f,fd,ds,F,hm,kp,hb,hd⟩ := O
  exact u7 F (hr.mono hk) hg hm kp hb hd De ha hdb he hpl
theorem wR (hp : yC (CXe X.prog X.w) X E) (O : OwnX X.prog X.w X.K X.mg X.base k x ps dvs sp) (hr : Room j X.A) (hg : Gl X x)
    (ha : PA X (e :: es) t) (hk : k ≤ j := by decide) (hdb : (x == ("__debug__" : Str)) = false := by decide) (he : starEach (e :: es) X.env = (false,eval e X.env) :: starEach es X.env := by rfl) (hpl : (backTo pos (starEach es X.env)).any (·.1) = false := by rfl) :
    PE X (.Call (.Name x p) (e :: es) [] pos) (AU sp dvs E t) := by
  obtain ⟨f,fd,ds,F,hm,kp,hb,hd⟩ := O
  exact u7 F (hr.mono hk) hg hm kp hb hd hp ha hdb he hpl
theorem BS {pl : List (Addr × Obj)} {EE : St → XK} (O : OwnX X.prog X.w X.K X.mg X.base k x ps dvs sp) (hr : Room j X.A) (hg : Gl (X.tryc pl EE) x)
    (ha : PA (X.tryc pl EE) (e :: es) t) (hk : k ≤ j := by decide) (hdb : (x == ("__debug__" : Str)) = false := by decide) (he : starEach (e :: es) X.env = (false,eval e X.env) :: starEach es X.env := by rfl) (hpl : (backTo pos (starEach es X.env)).any (·.1) = false := by rfl) :
    PE (X.tryc pl EE) (.Call (.Name x p) (e :: es) [] pos) (Du sp dvs EE t) := by
  obtain ⟨f,fd,ds,F,hm,kp,hb,hd⟩ := O
  intro pins s σ H Q I h
  refine wpAny_Call_Name_kw (xt I hg hm ?_ hdb)
  refine PySem.W.callWith_K (h₀ := X.base) I.ok.mod.kin kp (thn (ha pos pins s σ H _ I h) fun us s1 ⟨vs,H1,I1,r,q⟩ => ⟨I1.kIn,?_⟩) he hpl
  have r2 : Vals (vs ++ dvs) (us ++ ds) := r.append hd
  have hl : (us ++ ds).length = ps.length := by rw [← r2.length]; exact F.len _ _ _ _ q
  refine wpAny_call (codeAny_mono (F.run X.A X.stack s1 H1 ⟨us,[]⟩ (us ++ ds) (vs ++ dvs) Q (EE σ) (hr.mono hk) I1.env0 (hb s1 us I1.kIn hl) r2 q) fun r' s' hq => ?_)
  cases r' with
  | error e' => exact ⟨σ,H1,s1,I1.untry,hq⟩
  | ok fl =>
    cases fl with
    | ret u => exact I1.after hq
    | next => exact False.elim hq
    | brk => exact False.elim hq
    | cont => exact False.elim hq
end
def rIsX (K : PySem.W.Frag) : List V → Hp → VK → Prop := fun xs H Q => ∃ (a C : Addr) (c : V) (c' : Value) (b : Bool),xs = [.ref a,c] ∧ RelV c c' ∧ H a = some (ExcO a C) ∧ XOk K C ∧ PySem.W.kitOne K (.ref C) c' = some b ∧ Q (.bl b) H
theorem zB {X : Cx} : xa X (.builtin "isinstance") (rIsX X.K) := by
  intro pins s σ H xs us Q I r h
  obtain ⟨a,C,c,c',b,rfl,rc,ea,k,e,q⟩ := h
  obtain ⟨u,v,rfl,ru,rv⟩ := Vals.two r
  cases ru
  have hv : v = c' := by
    cases c with
    | non => exact (show v = _ from rv).trans (show c' = _ from rc).symm
    | bl z => exact (show v = _ from rv).trans (show c' = _ from rc).symm
    | ref z => exact (show v = _ from rv).trans (show c' = _ from rc).symm
    | ty z => exact (show v = _ from rv).trans (show c' = _ from rc).symm
    | int z => obtain ⟨tk,rfl⟩ := rc; unfold PySem.W.kitOne PySem.W.kitCls at e; rw [if_neg (by intro z; cases beq_iff_eq.mp z)] at e; cases e
    | str z => obtain ⟨tk,rfl⟩ := rc; unfold PySem.W.kitOne PySem.W.kitCls at e; rw [if_neg (by intro z; cases beq_iff_eq.mp z)] at e; cases e
    | byt z => obtain ⟨tk,rfl⟩ := rc; unfold PySem.W.kitOne PySem.W.kitCls at e; rw [if_neg (by intro z; cases beq_iff_eq.mp z)] at e; cases e
    | flt z => obtain ⟨tk,rfl⟩ := rc; unfold PySem.W.kitOne PySem.W.kitCls at e; rw [if_neg (by intro z; cases beq_iff_eq.mp z)] at e; cases e
  subst hv
  obtain ⟨p,_,_⟩ := (show ObjOk X.prog X.w H s.heap a (ExcO a C) from I.hok a _ ea)
  exact PySem.W.kia_one (Cz k) I.kIn p e (fun z => nomatch z) fun tk => ⟨.bl b,H,I.tok tk,rfl,q⟩
theorem zA {K : PySem.W.Frag} {H : Hp} {Q : VK} {a C : Addr} {c : V} {c' : Value} {b : Bool} (ea : H a = some (ExcO a C)) (k : XOk K C) (rc : RelV c c') (e : PySem.W.kitOne K (.ref C) c' = some b) (q : Q (.bl b) H) : rIsX K [.ref a,c] H Q := ⟨a,C,c,c',b,rfl,rc,ea,k,e,q⟩
section
variable {P : Program} {w : World} {K : PySem.W.Frag} {mg : Str → Option Value} {base : Heap}
theorem Fun.okX {x qual : Str} {st : Stmt} {f : Addr} {fd : FuncData} {N ps : List Str} {k : Nat} {sp : Sp} (F : Fun K x qual st f fd) (S : FnScope N ps (defScope st)) (len : ∀ vs H Q E,sp vs H Q E → vs.length = ps.length)
    (hbody : ∀ (cdv : Value) (A : Around) (outer : List Env) (s : Shared) (H : Hp) (vs : List V) (Q : VK) (E : XK),Room k (A.deeper (envOfC qual (defScope st) s.heap.objs.size f cdv)) → sp vs H Q E →
      ∃ t,PSs (cxOf (CXe P w) P w K mg base N qual (defScope st) f cdv A outer s H E) (defBody st) t ∧ t { nx := fun _ H' => Q .non H',rt := Q } (zI N vs) H) : FnOk P w K mg base (CXe P w) (k + 1) f fd ps sp := by
  obtain ⟨oc,od,kV,doc,pm,an,cdv,ct,osl,rfl,lk,hcd⟩ := F.ex
  exact CY lk hcd S len fun A outer s H vs Q E hr hsp => hbody cdv A outer s H vs Q E hr hsp
theorem FunD.okX {x qual : Str} {st : Stmt} {f : Addr} {fd : FuncData} {its : List Value} {N ps : List Str} {k : Nat} {sp : Sp} (F : FunD K x qual st f fd its) (S : FnScope N ps (defScope st)) (len : ∀ vs H Q E,sp vs H Q E → vs.length = ps.length)
    (hbody : ∀ (cdv : Value) (A : Around) (outer : List Env) (s : Shared) (H : Hp) (vs : List V) (Q : VK) (E : XK),Room k (A.deeper (envOfC qual (defScope st) s.heap.objs.size f cdv)) → sp vs H Q E →
      ∃ t,PSs (cxOf (CXe P w) P w K mg base N qual (defScope st) f cdv A outer s H E) (defBody st) t ∧ t { nx := fun _ H' => Q .non H',rt := Q } (zI N vs) H) : FnOk P w K mg base (CXe P w) (k + 1) f fd ps sp := by
  obtain ⟨oc,od,T,kV,doc,pm,an,cdv,ct,osl,to,n,rfl,lk,hcd,_⟩ := F.ex
  exact CY lk hcd S len fun A outer s H vs Q E hr hsp => hbody cdv A outer s H vs Q E hr hsp
theorem Top.ownX {k : Nat} {x : Str} {st : Stmt} {ps : List Str} {sp : Sp} (T : Top K mg x st)
    (hb : ∀ (kV doc pm : Value) (an : Option Addr) (cdv ct : Value) (us : List Value),us.length = ps.length → bindArgs (PySem.W.fnOf x x (defArgs st) (defBody st) (defScope st) .none kV doc pm an cdv ct) ⟨us,[]⟩ = pure (ps.zip us))
    (h : ∀ f fd,Fun K x x st f fd → FnOk P w K mg base (CXe P w) k f fd ps sp) : OwnX P w K mg base k x ps [] sp := by
  obtain ⟨f,fd,F,m⟩ := T
  exact ⟨f,fd,[],h f fd F,m,F.kp,F.binds hb,.nil⟩
theorem TopD.ownX {k : Nat} {x : Str} {st : Stmt} {ps : List Str} {its ds : List Value} {dvs : List V} {sp : Sp} (T : TopD K mg x st its)
    (hb : ∀ (T : Addr) (kV doc pm : Value) (an : Option Addr) (cdv ct : Value) (us : List Value),(us ++ ds).length = ps.length → ∃ k : Option (Array Value) → Sem (List (Str × Value)),
      bindArgs (PySem.W.fnOf x x (defArgs st) (defBody st) (defScope st) (.ref T) kV doc pm an cdv ct) ⟨us,[]⟩ = seqItems? (.ref T) >>= k ∧ k (some its.toArray) = pure (ps.zip (us ++ ds)))
    (hd : Vals dvs ds) (h : ∀ f fd,FunD K x x st f fd its → FnOk P w K mg base (CXe P w) k f fd ps sp) : OwnX P w K mg base k x ps dvs sp := by
  obtain ⟨f,fd,F,m⟩ := T
  exact ⟨f,fd,ds,h f fd F,m,F.kp,F.binds hb,hd⟩
end
end L2
namespace L2
open PySem PySem.Spec PyProof.Rows Bg
section
variable {X : Cx} {pins : List (Addr × Obj)} {σ : St} {H : Hp} {s : Shared} {pos : Pos}
theorem Fd (I : Inv X pins σ H s) : sysModules < s.heap.objs.size := Nat.lt_trans (by decide) (show mainGlobals < s.heap.objs.size from (I.mod.glob.keeps I.bk).lt)
theorem dnew {P : Program} {w : World} {H : Hp} (h : Heap) (hb : sysModules < h.objs.size) : ObjOk P w H (h.push { cls := .type "dict",data := .dict #[] }) h.objs.size (.dK []) :=
  ⟨Nat.zero_le _,beq_eq_false_iff_ne.mpr (Ne.symm (Nat.ne_of_lt hb)),[],.nil,Heap.DictOf.new h⟩
def Do : TE := fun _ H Q => ∀ p H',H p = none → Same H H' → H' p = some (.dK []) → Q (.ref p) H'
theorem CO : PE X (.Dict [] [] pos) Do := fun pins s σ H Q I h =>
  wpAny_Dict_empty ⟨.ref s.heap.objs.size,_,I.laid (a := s.heap.objs.size) (o := .dK []) (t' := s.toks) (fun _ _ q => Heap.get?_push_of_some _ q) (Nat.le_refl _) (dnew s.heap (Fd I)),rfl,
    h _ _ (I.hok.fresh (Nat.le_refl _)) (zU (I.hok.fresh (Nat.le_refl _)) _) zq⟩
theorem D4 {σ : St} {H : Hp} {Q : VK} (q : ∀ p H',H p = none → Same H H' → H' p = some (.dK []) → Q (.ref p) H') : Do σ H Q := q
end
end L2
namespace L2
open PySem PySem.Spec PyProof.Rows Bg
section
variable {X : Cx}
structure WE (X : Cx) (e : Expr) (t : TE) : Prop where
  w : PE X e t
structure WA (X : Cx) (es : List Expr) (t : TA) : Prop where
  w : PA X es t
def Dj : Expr → Bool
  | .Starred _ _ => true
  | _ => false
theorem Es {e : Expr} {es : List Expr} {env : Env} (h : Dj e = false) : starEach (e :: es) env = (false,eval e env) :: starEach es env := by
  cases e <;> first | rfl | exact absurd (show true = false from h) (by decide)
theorem yn {e : Expr} {t : TE} (h : PE X e t) : WE X e t := ⟨h⟩
theorem z5 : WA X [] tNil := ⟨zc⟩
theorem zy {e : Expr} {es : List Expr} {te : TE} {t : TA} (ha : WE X e te) (hr : WA X es t) (h : Dj e = false := by rfl) : WA X (e :: es) (Co te t) := ⟨za ha.w hr.w (Es h)⟩
theorem yP {es : List Expr} {t : TA} {x1 : Nat} {pos : Pos} (h : WA X es t) : WE X (.Tuple es x1 pos) (tTup t) := ⟨zR h.w⟩
theorem wj {es : List Expr} {t : TA} {pos : Pos} (h : WA X es t) : WE X (.List es pos) (tLst t) := ⟨zQ h.w⟩
end
end L2
namespace L2
open PySem PySem.Spec PyProof.Rows Bg
end L2
namespace L2
open PySem PySem.Spec PyProof.Rows Bg
end L2
namespace L2
open PySem PySem.Spec PyProof.Rows Bg
end L2
namespace L2
open PySem PySem.Spec PyProof.Rows Bg
end L2
namespace L2
open PySem PySem.Spec PyProof.Rows Bg
section
variable {X : Cx}
end
end L2
namespace L2
open PySem PySem.Spec PyProof.Rows Bg
theorem Dx {X : Cx} {n : Nat} {H : Hp} {a b : Addr} {xs ys : List V} {bs : List Bool} {pins : List (Addr × Obj)} {σ : St} {s : Shared} {A : Around} (ha : SqL X.K H a xs) (hb : SqL X.K H b ys) (he : EqVs X n H xs ys bs) (I : Inv X pins σ H s) (hu : A.units + 4 * (n + 1) < cLine) :
    ∃ (is js : Array Value),s.heap.IsList a is ∧ s.heap.IsList b js ∧ is.size = js.size ∧ (∀ j (h1 : j < is.size) (h2 : j < js.size),SeqAt.EqAt A.in1 s is[j] js[j] (bs.getD j false)) ∧ ((List.range is.size).all (fun j => bs.getD j false)) = bs.all id := by
  obtain ⟨is,r1,p1,_⟩ := I.list ha
  obtain ⟨js,r2,p2,_⟩ := I.list hb
  obtain ⟨l1,l2⟩ := he.len
  have q1 := r1.length
  have q2 := r2.length
  refine ⟨is.toArray,js.toArray,p1.isList,p2.isList,by rw [List.size_toArray,List.size_toArray]; omega,fun j h1 h2 => ?_,?_⟩
  · have hj1 : j < xs.length := by rw [q1]; simpa using h1
    have hj2 : j < ys.length := by rw [q2]; simpa using h2
    obtain ⟨v,ev,rv⟩ := r1.get (List.getElem?_eq_getElem hj1)
    obtain ⟨u,eu,ru⟩ := r2.get (List.getElem?_eq_getElem hj2)
    have e1 : is.toArray[j] = v := by
      have : is[j]? = some v := ev
      rw [List.getElem?_eq_getElem (by simpa using h1)] at this
      simpa using Option.some.inj this
    have e2 : js.toArray[j] = u := by
      have : js[j]? = some u := eu
      rw [List.getElem?_eq_getElem (by simpa using h2)] at this
      simpa using Option.some.inj this
    rw [e1,e2]
    exact he.at (List.getElem?_eq_getElem hj1) (List.getElem?_eq_getElem hj2) pins σ s v u A.in1 I rv ru (by show A.units + 1 + 4 * n < cLine; omega)
  · have e1 : is.toArray.size = bs.length := by rw [List.size_toArray]; omega
    rw [e1,vx]
def rEqL (X : Cx) : R2 := fun x y H Q => ∃ a b xs ys bs n,x = .ref a ∧ y = .ref b ∧ n ≤ 9 ∧ SqL X.K H a xs ∧ SqL X.K H b ys ∧ EqVs X n H xs ys bs ∧ Q (.bl (bs.all id)) H
theorem FW {X : Cx} {H : Hp} {Q : VK} {a b : Addr} {C D : List Cell} (ha : H a = some (.lst (C.map Cell.v))) (hb : H b = some (.lst (D.map Cell.v))) (hC : ∀ c ∈ C,c.At H) (hD : ∀ c ∈ D,c.At H) (e : C.map Cell.b = D.map Cell.b) (q : Q (.bl true) H) : rEqL X (.ref a) (.ref b) H Q := by
  have key : ∀ (C D : List Cell),(∀ c ∈ C,c.At H) → (∀ c ∈ D,c.At H) → C.map Cell.b = D.map Cell.b → EqVs X 2 H (C.map Cell.v) (D.map Cell.v) (C.map fun _ => true) := by
    intro C
    induction C with
    | nil =>
      intro D _ _ e
      have : D = [] := by
        cases D with
        | nil => rfl
        | cons d D => simp at e
      subst this
      exact .nil
    | cons c C ih =>
      intro D hC hD e
      cases D with
      | nil => simp at e
      | cons d D =>
        simp only [List.map_cons,List.cons.injEq] at e
        have ac := hC c List.mem_cons_self
        have ad := hD d List.mem_cons_self
        have w1 := ac.w
        have w2 := ad.w
        have h1 := ac.h
        have h2 := ad.h
        rw [← e.1] at w2 h2
        have e2 : EqV X 2 H (.ref c.p) (.ref d.p) true := D7 ac.t ad.t (eqv3 w1 w2) (eqv3 h1 h2)
        exact .cons e2 (ih D (fun x hx => hC x (List.mem_cons_of_mem _ hx)) (fun x hx => hD x (List.mem_cons_of_mem _ hx)) e.2)
  refine ⟨a,b,_,_,_,2,rfl,rfl,by decide,SqL.of ha,SqL.of hb,key C D hC hD e,?_⟩
  have e' : (C.map fun _ => true).all id = true := by simp
  rw [e']
  exact q
structure H5 (d N : Int) (H : Hp) (p : Addr) (C : List Cell) : Prop where
  l : H p = some (.lst (C.map Cell.v))
  at' : ∀ c ∈ C,c.At H
  ok : ∀ c ∈ C,B5 d N c.b
end L2
namespace L2
open PySem PySem.Spec PyProof.Rows Bg
section
variable {M : Model} {A : Around} {E : Value → Shared → Prop} {s : Shared}
end
section
variable {X : Cx} {pins : List (Addr × Obj)} {σ : St} {H : Hp} {s : Shared}
end
section
variable {X : Cx} {pins : List (Addr × Obj)} {σ : St} {H : Hp} {s : Shared} {scope : Scope} {cl : List (Str × Addr)} {own : List Str} {js : List Nat} {fp : List Addr} {C : Addr} {s3 : Shared} {H3 : Hp} {E : XK}
end
end L2
namespace L2
open PySem PySem.Spec PyProof.Rows Bg
section
variable {X : Cx} {pins : List (Addr × Obj)} {σ : St} {H : Hp} {s : Shared} {scope : Scope} {cl : List (Str × Addr)} {own : List Str} {js : List Nat} {fp : List Addr} {E : XK}
end
end L2
namespace L2
open PySem PySem.Spec PyProof.Rows Bg
end L2
namespace L2
open PySem PySem.Spec PyProof.Rows Bg
theorem Inv.retrack {X : Cx} {pins : List (Addr × Obj)} {σ : St} {H : Hp} {s : Shared} {d : Addr} {u u' : HO} (I : Inv X pins σ H s) (e : H d = some u) (nf : ∀ o v,X.H₀ d ≠ some (.frz o v)) (nt : ∀ xs,u ≠ .tup xs) (nb : ∀ ps,u ≠ .tbl ps) (no : ∀ y,u ≠ .own y)
    (new : ObjOk X.prog X.w H s.heap d u') (no' : ∀ y,u' ≠ .own y) : Inv X pins σ (upd H d u') s := by
  have ne : ∀ {b},H b = none → b ≠ d := fun {b} q z => by rw [z,e] at q; cases q
  have st : ∀ b v,ObjOk X.prog X.w H s.heap b v → ObjOk X.prog X.w (upd H d u') s.heap b v := fun b v x => x.stay (fun c w' _ q => q)
    (fun c q => by rw [zv (fun z => no _ (by rw [z,e] at q; exact Option.some.inj q))]; exact q)
    (fun c xs q => by rw [zv (fun z => nt _ (by rw [z,e] at q; exact Option.some.inj q))]; exact q)
  refine ⟨I.ok,I.os,I.bare,⟨I.base.keep,I.base.slot,fun b o q n hx => ?_,I.base.there,fun b xs q => ?_,fun b o v q => ?_,fun b ps q => ?_⟩,I.loc,I.cell,?_,fun x c q => ?_,fun p hp => ?_,fun b v q => ?_,I.len⟩
  · have k := I.base.free b o q n hx
    rw [zv (ne k)]
    exact k
  · have k := I.base.tups b xs q
    rw [zv (fun z => nt xs (by rw [z,e] at k; exact Option.some.inj k))]
    exact k
  · have k := I.base.frzs b o v q
    rw [zv (fun z => nf o v (by rw [← z]; exact q))]
    exact k
  · obtain ⟨more,k⟩ := I.base.tbls b ps q
    exact ⟨more,by rw [zv (fun z => nb _ (by rw [z,e] at k; exact Option.some.inj k))]; exact k⟩
  · rw [zv (ne I.free)]; exact I.free
  · rw [zv (ne (I.freeC x c q))]; exact I.freeC x c q
  · obtain ⟨k1,k2,k3⟩ := I.pin p hp
    exact ⟨k1,by rw [zv (ne k2)]; exact k2,k3⟩
  · by_cases z : b = d
    · subst z
      rw [zq] at q
      cases q
      exact st _ _ new
    · rw [zv z] at q
      exact st _ _ (I.hok b v q)
def Itd (d : Addr) (ob : Obj) (kvs : List (Key × V)) : It :=
  ⟨fun i H => H d = some (.frz ob (.dK kvs)) ∧ i < kvs.length,fun i H x H' => H' = H ∧ ∃ kv,kvs[i]? = some kv ∧ x = kV kv.1,fun i H => H d = some (.frz ob (.dK kvs)) ∧ kvs.length ≤ i⟩
theorem BQ {P : Program} {w : World} {k : Key} {u : Value} (h : (zS P w).is k u = true) : RelV (kV k) u := by
  cases k with
  | inl i =>
    have h : Value.isInt i u = true := h
    unfold Value.isInt at h
    split at h
    · exact ⟨_,by rw [show i = _ from (beq_iff_eq.mp h).symm]⟩
    · cases h
  | inr x =>
    have h : Value.isStrOf x u = true := h
    unfold Value.isStrOf at h
    split at h
    · exact ⟨_,by rw [show x = _ from (beq_iff_eq.mp h).symm]⟩
    · cases h
theorem tM {P : Program} {w : World} {H : Hp} {h : Heap} {d : Addr} {ob : Obj} {es : Array DictEntry} {ep : Nat} {kvs : List (Key × V)} (hdat : ob.data = .dict es ep) (ok : HOk P w H h) (e : H d = some (.frz ob (.dK kvs))) : ∃ vs,KV kvs vs ∧ h.DictAt (zS P w) d vs ep := by
  obtain ⟨g,_,_,vs,r,o,es',ep',g',c,dd,r2⟩ := ok d _ e
  have : o = ob := by rw [g] at g'; exact (Option.some.inj g').symm
  subst this
  rw [hdat] at dd
  cases dd
  exact ⟨vs,r,o,es,g,c,hdat,r2⟩
theorem BL {P : Program} {w : World} {K : PySem.W.Frag} {tg : Expr} (d it : Addr) {ob : Obj} {es : Array DictEntry} {ep : Nat} {kvs : List (Key × V)} (hdat : ob.data = .dict es ep) : Turn P w K tg (Itd d ob kvs) [it] it (fun i h => h.IsKeyIter it d i kvs.length ep) where
  mem := by simp
  obj := fun i h st b hb => by
    have e : b = it := by simpa using hb
    subst e
    obtain ⟨o,e,c,dd⟩ := st
    exact ⟨o,e,fun v z => by rw [dd] at z; cases z⟩
  keep := fun i h h' st k => st.at fun o e => k it (by simp) o e
  item := by
    intro X hP hw hK hc i pins s σ H E I hf st hg
    subst hP hw hK
    obtain ⟨hfz,hi⟩ := hg
    obtain ⟨vs,r,da⟩ := tM hdat I.hok hfz
    have hl := r.length
    obtain ⟨f0,f1,f2,f3,f4,f5⟩ := hf it (by simp)
    obtain ⟨⟨k,v⟩,hk⟩ : ∃ p,vs[i]? = some p := ⟨vs[i]'(by omega),by simp⟩
    have hkk : kvs[i]?.map (·.1) = some k := by
      have := congrArg (·[i]?) r.keys
      simp only [List.getElem?_map,hk] at this
      exact this
    obtain ⟨kv,hkv,ekv⟩ : ∃ kv,kvs[i]? = some kv ∧ kv.1 = k := by
      cases q : kvs[i]? with
      | none => rw [q] at hkk; cases hkk
      | some kv => rw [q] at hkk; exact ⟨kv,rfl,Option.some.inj hkk⟩
    rw [hl] at st ⊢
    refine wpAny_pyNext_dict_item st da hk fun key h' hkey st' sb => ?_
    have I1 : Inv X pins σ H { s with heap := h' } := I.turned (t' := s.toks) (fun b o hb e => (sb.2 b hb).trans e) f0 f1 f3 f4 f5
    obtain ⟨o,e,c,dd⟩ := id st'
    exact ⟨key,rfl,CH (s := { s with heap := h' }) e c dd (by decide) ⟨kV k,H,I1,BQ hkey,⟨rfl,kv,hkv,by rw [ekv]⟩,st',fun b hb => (hf b hb).1⟩⟩
  done := by
    intro X hP hw hK hc i pins s σ H E I hf st hg
    subst hP hw hK
    obtain ⟨hfz,hi⟩ := hg
    obtain ⟨vs,r,da⟩ := tM hdat I.hok hfz
    have hl := r.length
    obtain ⟨f0,f1,f2,f3,f4,f5⟩ := hf it (by simp)
    rw [hl] at st
    exact wpAny_pyNext_dict_end (I.ok.hd hc) st da (List.getElem?_eq_none (by omega)) fun h' eb => ⟨rfl,I.turned (t' := s.toks) (fun b o hb e => eb b o hb e) f0 f1 f3 f4 f5⟩
  self := fun _ _ _ _ _ st h => wpAny_pyIter_keyiter st h
def NoFz (H₀ : Hp) (d : Addr) : Prop := ∀ o v,H₀ d ≠ some (.frz o v)
def DS (H₀ : Hp) (td : TE) : TI := fun σ H R => td σ H fun x H1 => ∃ d kvs,x = .ref d ∧ H1 d = some (.dK kvs) ∧ ∀ ob,NoFz H₀ d → R (Itd d ob kvs) (upd H1 d (.frz ob (.dK kvs)))
theorem Inv.nofrz {X : Cx} {pins : List (Addr × Obj)} {σ : St} {H : Hp} {s : Shared} {d : Addr} {kvs : List (Key × V)} (I : Inv X pins σ H s) (e : H d = some (.dK kvs)) : ∀ o v,X.H₀ d ≠ some (.frz o v) := fun o v q => by
  have k := I.base.frzs d o v q
  rw [e] at k
  cases k
theorem Inv.freeze {X : Cx} {pins : List (Addr × Obj)} {σ : St} {H : Hp} {s : Shared} {d : Addr} {kvs : List (Key × V)} {ob : Obj} (I : Inv X pins σ H s) (e : H d = some (.dK kvs)) (g : s.heap.get? d = some ob) : Inv X pins σ (upd H d (.frz ob (.dK kvs))) s :=
  I.retrack e (I.nofrz e) (fun _ z => by cases z) (fun _ z => by cases z) (fun _ z => by cases z) ⟨g,I.hok d _ e⟩ (fun _ z => by cases z)
theorem Inv.thaw {X : Cx} {pins : List (Addr × Obj)} {σ : St} {H : Hp} {s : Shared} {d : Addr} {kvs : List (Key × V)} {ob : Obj} (I : Inv X pins σ H s) (nf : ∀ o v,X.H₀ d ≠ some (.frz o v)) (e : H d = some (.frz ob (.dK kvs))) : Inv X pins σ (upd H d (.dK kvs)) s :=
  I.retrack e nf (fun _ z => by cases z) (fun _ z => by cases z) (fun _ z => by cases z) (I.hok d _ e).2 (fun _ z => by cases z)
theorem DZ {X : Cx} {tg e : Expr} {td : TE} (hd : PE X e td) : PI X tg e (DS X.H₀ td) := by
  intro pins s σ H R I h
  refine thn (hd pins s σ H _ I h) fun v s1 ⟨x,H1,I1,r1,q1⟩ => ?_
  obtain ⟨d,kvs,ex,hq,q⟩ := q1
  subst ex
  cases r1
  obtain ⟨z,y,vs,r,dof⟩ := id (I1.hok d _ hq)
  obtain ⟨ep,o,es,ho,r2⟩ := dof.dictAt
  obtain ⟨c,hdat,r3⟩ := id r2
  refine wpAny_pyIter_dict y ⟨o,es,ho,r2⟩ ?_
  have I2 := (I1.kept (h' := s1.heap.push { cls := .type "dict_keyiterator",data := .fields #[.ref d,.int 0 0,.int vs.length 0,.int ep 0] }) (t' := s1.toks) fun b o e => Heap.get?_push_of_some _ e).freeze hq (Heap.get?_push_of_some _ ho)
  refine ⟨s1.heap.objs.size,[s1.heap.objs.size],_,_,_,rfl,I2,BL d _ hdat,?_,fun b hb => ?_,q o (I1.nofrz hq)⟩
  · rw [r.length]
    exact ⟨_,Heap.get?_push_size _ rfl,rfl,rfl⟩
  · have e : b = s1.heap.objs.size := by simpa using hb
    subst e
    have hn := I1.hok.fresh (Nat.le_refl s1.heap.objs.size)
    exact I1.fpOk (Nat.le_refl _) (by rw [zv (fun z => by rw [z,hq] at hn; cases hn)]; exact hn)
def Dr (H₀ : Hp) (td : TE) (g : TG) (tc : TT) (te : TE) (n : Nat) (js : List Nat) : TE := fun σ H Q => uK (DS H₀ td) g tc te n js σ H fun v H2 => ∃ d ob kvs,NoFz H₀ d ∧ H2 d = some (.frz ob (.dK kvs)) ∧ Q v (upd H2 d (.dK kvs))
theorem C1 {X : Cx} {elt iter tgt : Expr} {ifs : List Expr} {scope : Scope} {pos : Pos} {td : TE} {g : TG} {tc : TT} {te : TE} (own : List Str) (js : List Nat)
    (hc : X.calm = true) (hi : PI X tgt iter (DS X.H₀ td))
    (hg : ∀ cl fp C s3 H3,PG (zX X scope cl own js fp C s3 H3) tgt g) (ht : ∀ cl fp C s3 H3,PIfs (zX X scope cl own js fp C s3 H3) ifs tc) (he : ∀ cl fp C s3 H3,PE (zX X scope cl own js fp C s3 H3) elt te)
    (hfree' : (scope.names.all fun y => y.2 != .free || X.env.scope.names.lookup y.1 == some .cell) = true := by rfl)
    (hjs' : (js.all fun j => scope.names.lookup (X.N.getD j Str.empty) == some .free && X.env.scope.names.lookup (X.N.getD j Str.empty) == some .cell) = true := by rfl)
    (hcell' : (scope.names.all fun y => y.2 != .cell) = true := by rfl) (hnames' : (scope.names.all fun y => y.2 != .local || scope.names.lookup y.1 == some .local) = true := by rfl)
    (hkind : scope.kind = .function := by rfl) (hs : ∀ x,foldedSetIterable iter X.env x = pure x := by intro _; rfl) :
    PE X (.ListComp elt [⟨tgt,iter,ifs,0⟩] scope pos) (Dr X.H₀ td g tc te own.length js) := by
  intro pins s σ H Q I h
  rw [eval_ListComp]
  refine vI own js hc hi hg ht he (u3 hfree') (DN hjs') (tG hcell') (vC hnames') hkind hs I h fun D H3 H5 σ5 s3 s6 fp cl I3 f3 I6 qn => ?_
  obtain ⟨d,ob,kvs,nf,e,qn⟩ := qn
  obtain ⟨m,hm,_⟩ := id I6.loc
  exact ⟨m,hm,fun h' sb => ⟨.ref D,_,(wI I3 f3 I6 sb).thaw nf e,rfl,qn⟩⟩
section
variable {g : TG} {tc : TT} {te : TE} {D : Addr} {H1 : Hp} {σ0 : St} {Q : VK}
theorem BM {R : Hp → Prop} {d : Addr} {ob : Obj} {kvs : List (Key × V)} (Pv : Nat → List V → St → Hp → Prop) (h0 : Pv 0 [] σ0 (upd H1 D (.lst [])))
    (hl : ∀ i xs σ H,i ≤ kvs.length → Pv i xs σ H → H d = some (.frz ob (.dK kvs)))
    (hs : ∀ i kv xs σ H,kvs[i]? = some kv → Pv i xs σ H → g (kV kv.1) σ H fun σ3 H3 => tc σ3 H3 fun b H4 => if b = true then te σ3 H4 fun v H5 => zZ (.ref D) [v] H5 fun _ H6 => v8 kvs.length Pv i σ3 H6 else v8 kvs.length Pv i σ3 H4)
    (hd : ∀ xs σ H,Pv kvs.length xs σ H → R H) :
    ∃ W : Nat → Nat → St → Hp → Prop,(∃ m,W 0 m σ0 (upd H1 D (.lst []))) ∧ ∀ i m σ' H',W i m σ' H' → ((Itd d ob kvs).stop i H' ∧ R H') ∨ ((Itd d ob kvs).go i H' ∧ ∀ x H2,(Itd d ob kvs).yld i H' x H2 → g x σ' H2 fun σ3 H3 => tc σ3 H3 fun b H4 =>
      if b = true then te σ3 H4 fun v H5 => zZ (.ref D) [v] H5 fun _ H6 => ∃ m',m' < m ∧ W (i + 1) m' σ3 H6 else ∃ m',m' < m ∧ W (i + 1) m' σ3 H4) := by
  refine ⟨fun i m σ H => m = kvs.length - i ∧ i ≤ kvs.length ∧ ∃ xs,Pv i xs σ H,⟨kvs.length,by simp,Nat.zero_le _,[],h0⟩,?_⟩
  rintro i m σ H ⟨rfl,hi,xs,p⟩
  have q := hl i xs σ H hi p
  by_cases hlt : i < kvs.length
  · refine .inr ⟨⟨q,hlt⟩,fun x H' y => ?_⟩
    obtain ⟨e,kv,hkv,ex⟩ := y
    subst e ex
    exact hs i kv xs σ _ hkv p
  · have e : i = kvs.length := by omega
    subst e
    exact .inl ⟨⟨q,Nat.le_refl _⟩,hd xs σ H p⟩
theorem Ea {H₀ : Hp} {td : TE} {σ : St} {H : Hp} {n : Nat} {js : List Nat} (h : td σ H fun x H1 => ∃ d kvs,x = .ref d ∧ H1 d = some (.dK kvs) ∧ ∀ ob,NoFz H₀ d → ∀ D,(upd H1 d (.frz ob (.dK kvs))) D = none → ∃ W : Nat → Nat → St → Hp → Prop,(∃ m,W 0 m (w8 n js σ) (upd (upd H1 d (.frz ob (.dK kvs))) D (.lst []))) ∧
  ∀ i m σ' H',W i m σ' H' → ((Itd d ob kvs).stop i H' ∧ ∃ d' ob' kvs',NoFz H₀ d' ∧ H' d' = some (.frz ob' (.dK kvs')) ∧ Q (.ref D) (upd H' d' (.dK kvs'))) ∨ ((Itd d ob kvs).go i H' ∧ ∀ x H2,(Itd d ob kvs).yld i H' x H2 → g x σ' H2 fun σ3 H3 => tc σ3 H3 fun b H4 =>
    if b = true then te σ3 H4 fun v H5 => zZ (.ref D) [v] H5 fun _ H6 => ∃ m',m' < m ∧ W (i + 1) m' σ3 H6 else ∃ m',m' < m ∧ W (i + 1) m' σ3 H4)) : Dr H₀ td g tc te n js σ H Q := h
end
def OwnM (P : Program) (w : World) (K : PySem.W.Frag) (mg : Str → Option Value) (base : Heap) (CX : CXT) (C : Addr) (k : Nat) (m : Str) (ps : List Str) (dvs : List V) (sp : Sp) : Prop :=
  ∃ (f : Addr) (fd : FuncData) (ds : List Value),FnOk P w K mg base CX k f fd ps sp ∧ Cls K C ∧ Meth K C m f ∧ Binds K fd ps ds ∧ Vals dvs ds
def OwnI (P : Program) (w : World) (K : PySem.W.Frag) (mg : Str → Option Value) (base : Heap) (CX : CXT) (C : Addr) (k : Nat) (x : Str) (ps : List Str) (dvs : List V) (sp : Sp) : Prop :=
  ∃ (f : Addr) (fd : FuncData) (ds : List Value),FnOk P w K mg base CX k f fd ps sp ∧ Mk K C f ∧ mg x = some (.ref C) ∧ Binds K fd ps ds ∧ Vals dvs ds
section
variable {X : Cx} {CX : CXT} {k j : Nat} {C : Addr} {x m : Str} {ps ks : List Str} {dvs : List V} {sp : Sp} {E : XK} {p pos apos : Pos} {e o : Expr} {es : List Expr} {ta : TE} {t tk : TA} {pl : Sem Bool} {kws : List Keyword} {gV : List V → List V → List V}
theorem uW (O : OwnM X.prog X.w X.K X.mg X.base CX C k m ps dvs sp) (hx : yC CX X E) (hr : Room j X.A) (he : PE X o ta) (ha : PA X (e :: es) t) (hk : k ≤ j := by decide)
    (hst : starEach (e :: es) X.env = (false,eval e X.env) :: starEach es X.env := by rfl) (hpl : (backTo pos (starEach es X.env)).any (·.1) = false := by rfl)
    (ht : eval (.Call (.Attribute o m apos) (e :: es) [] pos) X.env = (do
      let ov ← eval o X.env
      standAt apos.atName
      let (f,first) ← holding [ov] (getMethod ov m pl)
      callWith pos f first (backTo pos (starEach (e :: es) X.env)) (backToKw pos (keywordEach [] X.env))) := by rfl) : PE X (.Call (.Attribute o m apos) (e :: es) [] pos) (BJ C m sp dvs E ta t) := by
  obtain ⟨f,fd,ds,F,c,hm,hb,hd⟩ := O
  exact Ew he c hm F (hr.mono hk) hb hd hx ha hst hpl ht
theorem CV (O : OwnM X.prog X.w X.K X.mg X.base CX C k m ps dvs sp) (hx : yC CX X E) (hr : Room j X.A) (he : PE X o ta) (hk : k ≤ j := by decide)
    (ht : eval (.Call (.Attribute o m apos) [] [] pos) X.env = (do
      let ov ← eval o X.env
      standAt apos.atName
      let (f,first) ← holding [ov] (getMethod ov m pl)
      callWith pos f first (backTo pos (starEach [] X.env)) (backToKw pos (keywordEach [] X.env))) := by rfl) : PE X (.Call (.Attribute o m apos) [] [] pos) (BJ C m sp dvs E ta tNil) := by
  obtain ⟨f,fd,ds,F,c,hm,hb,hd⟩ := O
  exact C2 he c hm F (hr.mono hk) hb hd hx ht
theorem Eg (O : OwnI X.prog X.w X.K X.mg X.base CX C k x ps dvs sp) (hx : yC CX X E) (hr : Room j X.A) (hg : Gl X x) (ha : PA X (e :: es) t) (hk : k + 1 ≤ j := by decide)
    (hdb : (x == ("__debug__" : Str)) = false := by decide) (he : starEach (e :: es) X.env = (false,eval e X.env) :: starEach es X.env := by rfl) (hpl : (backTo pos (starEach es X.env)).any (·.1) = false := by rfl) : PE X (.Call (.Name x p) (e :: es) [] pos) (D3 C sp dvs E t) := by
  obtain ⟨f,fd,ds,F,M,hm,hb,hd⟩ := O
  exact Ev M F (hr.mono hk) hg hm hb hd hx ha hdb he hpl
def Fh (C : Addr) (m : Str) (sp : Sp) (dvs : List V) (EE : St → XK) (ta : TE) (t : TA) : TE := fun σ H Q => ta σ H fun x H1 => ∃ a dx fs,x = .ref a ∧ H1 a = some (.ins C dx fs) ∧ fs.lookup m = none ∧ t σ H1 fun vs H2 => sp (.ref a :: (vs ++ dvs)) H2 Q (EE σ)
end
def TopM (K : PySem.W.Frag) (C : Addr) (m qual : Str) (st : Stmt) : Prop := ∃ (f : Addr) (fd : FuncData),Fun K m qual st f fd ∧ Meth K C m f
def TopIn (K : PySem.W.Frag) (mg : Str → Option Value) (C : Addr) (x qual : Str) (st : Stmt) (its : List Value) : Prop := ∃ (f : Addr) (fd : FuncData),FunD K "__init__" qual st f fd its ∧ Mk K C f ∧ mg x = some (.ref C)
section
variable {P : Program} {w : World} {K : PySem.W.Frag} {mg : Str → Option Value} {base : Heap} {CX : CXT} {C : Addr} {k : Nat} {x m qual : Str} {st : Stmt} {ps ks : List Str} {dvs : List V} {its ds : List Value} {sp : Sp}
theorem TopM.own (T : TopM K C m qual st) (c : Cls K C)
    (hb : ∀ (kV doc pm : Value) (an : Option Addr) (cdv ct : Value) (us : List Value),us.length = ps.length → bindArgs (PySem.W.fnOf m qual (defArgs st) (defBody st) (defScope st) .none kV doc pm an cdv ct) ⟨us,[]⟩ = pure (ps.zip us))
    (h : ∀ f fd,Fun K m qual st f fd → FnOk P w K mg base CX k f fd ps sp) : OwnM P w K mg base CX C k m ps [] sp := by
  obtain ⟨f,fd,F,hm⟩ := T
  exact ⟨f,fd,[],h f fd F,c,hm,F.binds hb,.nil⟩
theorem TopIn.own (T : TopIn K mg C x qual st its)
    (hb : ∀ (T : Addr) (kV doc pm : Value) (an : Option Addr) (cdv ct : Value) (us : List Value),(us ++ ds).length = ps.length → ∃ k : Option (Array Value) → Sem (List (Str × Value)),
      bindArgs (PySem.W.fnOf "__init__" qual (defArgs st) (defBody st) (defScope st) (.ref T) kV doc pm an cdv ct) ⟨us,[]⟩ = seqItems? (.ref T) >>= k ∧ k (some its.toArray) = pure (ps.zip (us ++ ds)))
    (hd : Vals dvs ds) (h : ∀ f fd,FunD K "__init__" qual st f fd its → FnOk P w K mg base CX k f fd ps sp) : OwnI P w K mg base CX C k x ps dvs sp := by
  obtain ⟨f,fd,F,M,hm⟩ := T
  exact ⟨f,fd,ds,h f fd F,M,hm,F.binds hb,hd⟩
end
theorem topM_mk {K : PySem.W.Frag} {C : Addr} {m qual : Str} {st : Stmt} {f : Addr} {oc : Value} {od an : Option Addr} {osl : Array (Option Value)} {kV doc pm cdv ct : Value}
    (l : K.lookup f = some ⟨oc,od,.func (PySem.W.fnOf m qual (defArgs st) (defBody st) (defScope st) .none kV doc pm an cdv ct),osl⟩)
    (c : PySem.W.codeIn K cdv qual = true) (k : PySem.W.keepIn K (.ref f) = true) (a : PySem.W.findIn K (.ref C) m = some (some (.ref f))) (n : PySem.W.isFn K (.ref f) = true) : TopM K C m qual st := ⟨f,_,DA l c k,⟨a,n,k⟩⟩
theorem topIn_mk {K : PySem.W.Frag} {h : Heap} {mg : Str → Option Value} {C : Addr} {x qual : Str} {st : Stmt} {f T : Addr} {oc : Value} {od an : Option Addr} {osl : Array (Option Value)} {kV doc pm cdv ct : Value} {its : List Value} {n : Nat} {to : Obj} (X : K.In h) (G : h.Ns mainGlobals mg)
    (l : K.lookup f = some ⟨oc,od,.func (PySem.W.fnOf "__init__" qual (defArgs st) (defBody st) (defScope st) (.ref T) kV doc pm an cdv ct),osl⟩)
    (c : PySem.W.codeIn K cdv qual = true) (k : PySem.W.keepIn K (.ref f) = true) (t : K.lookup T = some to) (d : to.data = .seq its.toArray n)
    (m : PySem.W.makesIn K C = true) (i : PySem.W.findIn K (.ref C) "__init__" = some (some (.ref f))) (nf : PySem.W.isFn K (.ref f) = true) (kc : PySem.W.keepIn K (.ref C) = true) (a : PySem.W.nsIn K mainGlobals x = some (some (.ref C))) : TopIn K mg C x qual st its :=
  ⟨f,_,⟨⟨oc,od,T,kV,doc,pm,an,cdv,ct,osl,_,n,rfl,l,c,t,d⟩,k⟩,⟨m,i,nf,kc⟩,PySem.W.mg_of X G a⟩
end L2
namespace L2
open PySem PySem.Spec PyProof.Rows Bg
section
variable {prog : Program} {w : World} {κ : Type} [DecidableEq κ] {knd : KeyKind prog w κ} {A : Around} {E : Value → Shared → Prop}
theorem xf : entryFor table "dict.update.loop" = some Builtin.«dict.update.loop» := entryFor_of_tree (by kernel_rfl)
theorem ve : typeLookup (.type "list") "keys" = pure none := by rw [typeLookup_type,builtinLookup_eq_fast]; kernel_rfl
theorem uI {s : Shared} {a : Addr} {o : Obj} {xs : Array Value} {k : Nat} {Q : Option Value → Shared → Prop} (hx : s.heap.get? a = some o) (hc : o.cls = .type "list") (hdat : o.data = .seq xs k) (hd : o.dict = none) (hA : A.handled = none)
    (q : ∀ h' tk e,Heap.NewExcOf s.heap h' e "AttributeError" → Q none { s with heap := h',toks := tk }) : wpAny (model prog w) A (getAttr? (.ref a) "keys") Q E s := by
  obtain ⟨c,dct,dat,sl⟩ := o
  simp only at hc hdat hd
  subst hc hdat hd
  obtain ⟨hp,g,d,tk,os⟩ := s
  have tT : ∀ tk',(⟨hp,g,d,tk',os⟩ : Shared).TypeIs (.ref a) "list" := fun _ => ⟨_,hx,rfl⟩
  have k1 := sub_AttributeError
  have k3 := F.slot_list_getattribute.lookup
  have k4 := F.slot_list_getattribute.bind (.ref a)
  have k5 := am_list_getattr_none
  unfold getAttr? getAttrBy? getAttrBy
  repeat (any_goals (first | assumption | exact tT _ | ((with_reducible show wpAny _ _ (call (Value.builtin "list.__getattribute__") _ _) _ _ _); refine call_meets F.slot_list_getattribute (tT _) am_entry_list_getattribute (F.args_list_getattribute_2 _ _) (meets_getattribute_miss_list a xs k sl "keys" _ ve (by decide +kernel)) ⟨hx,hA,fun h' tk' e hx' => ?_⟩) | wp_step))
  obtain ⟨t',u',he⟩ := hx'.there
  show wpAny _ _ (getattributeRaised _ _ _ _ _ _ _) _ _ _
  unfold getattributeRaised
  repeat (any_goals (first | assumption | wp_step))
  exact q _ _ _ hx'.of
theorem um (hh : A.handled = none) {R : Result → Shared → Prop} {d it l : Addr} (hdi : d ≠ it) (hdl : l ≠ d) (hli : l ≠ it) {items : List Value} {rs : List (κ × Value)} {s0 : Shared}
    (hit0 : ∀ (i : Nat) (x : Value),items[i]? = some x → ∃ (p : Addr) (k : κ) (v key : Value),x = .ref p ∧ p ≠ d ∧ p ≠ it ∧ s0.heap.IsTuple p #[key,v] ∧ rs[i]? = some (k,v) ∧ knd.is k key = true)
    (hlen : rs.length = items.length) (hnd : (rs.map (·.1)).Nodup) (hsz : rs.length ≤ sizeLine) (hl0 : s0.heap.IsList l items.toArray)
    (hR : ∀ h' tk,h'.DictOf knd d rs → (∀ b o,b ≠ it → b ≠ d → s0.heap.get? b = some o → h'.get? b = some o) → R (.ok (.ret .none)) { s0 with heap := h',toks := tk }) :
    ∀ (n i : Nat) (h : Heap) (tk : Nat),items.length = i + n → h.IsListIter it l i → h.DictOf knd d (rs.take i) → (∀ b o,b ≠ it → b ≠ d → s0.heap.get? b = some o → h.get? b = some o) →
      codeAny (model prog w) A (.builtin "dict.update.loop" ⟨[.ref d,.ref it,rawInt i,.none],[]⟩) R { s0 with heap := h,toks := tk }
  | 0,i,h,tk,e,hi,hd,hk => by
    have hl : h.IsList l items.toArray := by
      obtain ⟨o,g,c⟩ := hl0
      exact ⟨o,hk l o hli hdl g,c⟩
    refine codeAny_builtin xf ?_
    unfold Builtin.«dict.update.loop»
    refine wpAny_bind (wpAny_pyNext_list_end (A := A.under _) hh hi hl (by simp; omega) fun h' eb => ?_)
    have hd' : h'.DictOf knd d rs := by
      have := hd.extBut eb hdi
      rwa [List.take_of_length_le (by omega)] at this
    exact wpAny_bind (wpAny_pure (wpAny_pure (hR h' tk hd' fun b o n1 n2 g => eb b o n1 (hk b o n1 n2 g))))
  | n + 1,i,h,tk,e,hi,hd,hk => by
    have hl : h.IsList l items.toArray := by
      obtain ⟨o,g,c⟩ := hl0
      exact ⟨o,hk l o hli hdl g,c⟩
    obtain ⟨x,hx⟩ : ∃ x,items[i]? = some x := ⟨items[i]'(by omega),by simp⟩
    obtain ⟨p,k,v,key,rfl,np,npi,⟨o,go,oc,m,od⟩,hr,hkey⟩ := hit0 i x hx
    refine codeAny_builtin xf ?_
    unfold Builtin.«dict.update.loop»
    refine wpAny_bind (wpAny_pyNext_list_item hi hl (by simpa using hx) fun h' hi' sb => ?_)
    have gp : h'.get? p = some o := (sb.2 p npi).trans (hk p o npi np go)
    refine wpAny_bind (wpAny_holding ?_)
    refine wpAny_bind (wpAny_tryCatch ?_)
    unfold Builtin.Dict.pairItems
    refine wpAny_bind (wpAny_typeOf (s := { s0 with heap := h',toks := tk }) (T := "tuple") ⟨o,gp,oc⟩ ?_)
    rw [if_pos (by decide)]
    refine wpAny_bind (wpAny_seqItems (s := { s0 with heap := h',toks := tk }) gp od (wpAny_pure ?_))
    show wpAny _ _ (holding [key,v] (dictSet d key v)) _ _ _
    refine wpAny_holding (wpAny_dictSet_pairs (s := { s0 with heap := h',toks := tk }) (hsz := by rw [List.length_take]; omega) hkey (hd.sameBut sb hdi) fun h2 hd2 sb2 => ?_)
    refine wpAny_pure ⟨Code.quiet_builtin _ (by decide +kernel),?_⟩
    have est : stored (rs.take i) k v = rs.take (i + 1) := by
      rw [List.take_add_one,hr]
      unfold stored
      rw [if_neg]
      · rfl
      · intro z
        obtain ⟨y,hy,ey⟩ := List.any_eq_true.mp z
        have ey : y.1 = k := of_decide_eq_true ey
        obtain ⟨j,hj,rfl⟩ := List.getElem_of_mem hy
        rw [List.length_take] at hj
        have hi2 := (List.getElem?_eq_some_iff.mp hr)
        obtain ⟨hi3,hi4⟩ := hi2
        refine List.pairwise_iff_getElem.mp hnd j i (by rw [List.length_map]; omega) (by rw [List.length_map]; omega) (by omega) ?_
        simp only [List.getElem_map]
        rw [hi4]
        simpa using ey
    rw [est] at hd2
    have := um hh hdi hdl hli hit0 hlen hnd hsz hl0 hR n (i + 1) h2 (tk + 1) (by omega) (hi'.at fun o g => (sb2.2 it (Ne.symm hdi)).trans g) hd2 fun b o n1 n2 g => (sb2.2 b n2).trans ((sb.2 b n1).trans (hk b o n1 n2 g))
    exact this
theorem wN {s : Shared} {Q : Value → Shared → Prop} {l : Addr} {ol : Obj} {n : Nat} {items : List Value} {rs : List (κ × Value)} (hh : A.handled = none) (hl : s.heap.get? l = some ol) (hc : ol.cls = .type "list") (hdat : ol.data = .seq items.toArray n) (hdd : ol.dict = none)
    (hit0 : ∀ (i : Nat) (x : Value),items[i]? = some x → ∃ (p : Addr) (k : κ) (v key : Value),x = .ref p ∧ s.heap.IsTuple p #[key,v] ∧ rs[i]? = some (k,v) ∧ knd.is k key = true)
    (hlen : rs.length = items.length) (hnd : (rs.map (·.1)).Nodup) (hsz : rs.length ≤ sizeLine)
    (q : ∀ h' tk,h'.DictOf knd s.heap.objs.size rs → (∀ b o,s.heap.get? b = some o → h'.get? b = some o) → Q (.ref s.heap.objs.size) { s with heap := h',toks := tk }) :
    wpAny (model prog w) A (call (.type "dict") [.ref l]) Q E s := by
  refine callType_codes (Q₁ := fun obj s₁ => obj = .ref s.heap.objs.size ∧ s₁ = { s with heap := s.heap.push { cls := .type "dict",data := .dict #[] } }) F.kt_called_dict (F.kt_typeCall_dict_1 _) F.entry_dict_init (kt_code_dict_new _ ⟨rfl,rfl⟩) ?_
  rintro obj s₁ ⟨rfl,rfl⟩
  have hnew : (s.heap.push { cls := .type "dict",data := .dict #[] }).DictOf knd s.heap.objs.size [] := Heap.DictOf.new s.heap
  have hl1 := Heap.get?_push_of_some { cls := .type "dict",data := .dict #[] } hl
  refine ⟨hnew.typeIs,F.args_dict_init_2 _ _,?_⟩
  unfold Builtin.«dict.__init__»
  refine wpAny_bind ?_
  unfold Builtin.Dict.selfAndRest
  refine wpAny_bind (wpAny_notOrdered_dict hnew.typeIs ?_)
  show wpAny _ _ (pure (s.heap.objs.size,[Value.ref l])) _ _ _
  refine wpAny_pure ?_
  show wpAny _ _ (Builtin.Dict.updateFrom "dict.__init__" s.heap.objs.size (.ref l) [] .none) _ _ _
  unfold Builtin.Dict.updateFrom
  refine wpAny_bind (wpAny_typeOf (s := { s with heap := s.heap.push { cls := .type "dict",data := .dict #[] } }) (T := "list") ⟨ol,hl1,hc⟩ ?_)
  rw [if_pos (by decide)]
  refine wpAny_bind (uI (s := { s with heap := s.heap.push { cls := .type "dict",data := .dict #[] } }) hl1 hc hdat hdd (show A.in1.in1.handled = none from hh) fun h1 tk1 e1 new => ?_)
  simp only [Option.isNone_none,if_true]
  have kp : ∀ b o,(s.heap.push { cls := .type "dict",data := .dict #[] }).get? b = some o → h1.get? b = some o := new.keeps
  have hl2 := kp _ _ hl1
  refine wpAny_bind (wpAny_rule ?_)
  refine wpAny_bind (wpAny_pyIter_list (s := { s with heap := h1,toks := tk1 }) ⟨ol,hl2,hc,n,hdat⟩ ?_)
  refine wpAny_pure ⟨Code.quiet_builtin _ (by decide +kernel),?_⟩
  have lt : ∀ {b o},s.heap.get? b = some o → b < s.heap.objs.size := fun g => Heap.lt_size g
  obtain ⟨od,_,_,god,_⟩ := id hnew
  have ltd : s.heap.objs.size < h1.objs.size := Heap.lt_size (kp _ _ god)
  have up : ∀ b o,s.heap.get? b = some o → (h1.push { cls := .type "list_iterator",data := .fields #[.ref l,.int 0 0] }).get? b = some o := fun b o g => Heap.get?_push_of_some _ (kp b o (Heap.get?_push_of_some _ g))
  have hd0 : (h1.push { cls := .type "list_iterator",data := .fields #[.ref l,.int 0 0] }).DictOf knd s.heap.objs.size (rs.take 0) := by
    obtain ⟨o,es,ep,g,r⟩ := hnew
    exact ⟨o,es,ep,Heap.get?_push_of_some _ (kp _ _ g),r⟩
  refine um (s0 := { s with heap := h1.push { cls := .type "list_iterator",data := .fields #[.ref l,.int 0 0] },toks := tk1 }) (A := A.in1) (show A.in1.handled = none from hh) (d := s.heap.objs.size) (it := h1.objs.size) (l := l) (Nat.ne_of_lt ltd) (Nat.ne_of_lt (lt hl)) (Nat.ne_of_lt (Nat.lt_trans (lt hl) ltd)) (items := items) (rs := rs) (fun i x hx => ?_) hlen hnd hsz ⟨ol,up _ _ hl,hc,n,hdat⟩ (fun h' tk dd kk => ⟨rfl,?_⟩) items.length 0 _ tk1 (by simp) ⟨_,Heap.get?_push_size _ rfl,rfl,rfl⟩ hd0 fun b o _ _ g => g
  · obtain ⟨p,k,v,key,e,⟨o,g,c⟩,r,hk⟩ := hit0 i x hx
    exact ⟨p,k,v,key,e,Nat.ne_of_lt (lt g),Nat.ne_of_lt (Nat.lt_trans (lt g) ltd),⟨o,up _ _ g,c⟩,r,hk⟩
  · exact q h' tk dd fun b o g => kk b o (Nat.ne_of_lt (Nat.lt_trans (lt g) ltd)) (Nat.ne_of_lt (lt g)) (up b o g)
end
def DE : List V → Hp → VK → Prop := fun xs H Q => ∃ (l : Addr) (ps : List Addr) (kvs : List (Key × V)),xs = [.ref l] ∧ H l = some (.lst (ps.map V.ref)) ∧ ps.length = kvs.length ∧ (∀ (i : Nat) (p : Addr) (kv : Key × V),ps[i]? = some p → kvs[i]? = some kv → H p = some (.tup [kV kv.1,kv.2])) ∧ (kvs.map (·.1)).Nodup ∧ kvs.length ≤ sizeLine ∧ ∀ p,H p = none → Q (.ref p) (upd H p (.dK kvs))
def Dn : List V → Hp → VK → Prop := fun xs H Q => ∃ (a : Addr) (kvs : List (Key × V)),xs = [.ref a] ∧ H a = some (.dK kvs) ∧ ∀ p,H p = none → Q (.ref p) (upd H p (.dK kvs))
theorem xX {X : Cx} : xa X (.type "dict") Dn := by
  intro pins s σ H xs us Q I r h
  obtain ⟨a,kvs,rfl,e,q⟩ := h
  obtain ⟨u,rfl,ru⟩ := Vals.one r
  cases ru
  exact CD I (.inl e) fun p s' hp I' => ⟨.ref p,_,I',rfl,q p hp⟩
theorem Ak {P : Program} {w : World} {H : Hp} {h : Heap} (ok : HOk P w H h) : ∀ {ps : List Addr} {kvs : List (Key × V)},ps.length = kvs.length → (∀ (i : Nat) (p : Addr) (kv : Key × V),ps[i]? = some p → kvs[i]? = some kv → H p = some (.tup [kV kv.1,kv.2])) →
    ∃ rs : List (Key × Value),KV kvs rs ∧ ∀ (i : Nat) (x : Value),(ps.map Value.ref)[i]? = some x → ∃ (p : Addr) (k : Key) (v key : Value),x = .ref p ∧ h.IsTuple p #[key,v] ∧ rs[i]? = some (k,v) ∧ (zS P w).is k key = true
  | [],[],_,_ => ⟨[],.nil,fun i x e => by simp at e⟩
  | [],_ :: _,e,_ => by cases e
  | _ :: _,[],e,_ => by cases e
  | p :: ps,kv :: kvs,e,hp => by
    obtain ⟨rs,r,hr⟩ := Ak ok (ps := ps) (kvs := kvs) (by simpa using e) fun i p' kv' h1 h2 => hp (i + 1) p' kv' h1 h2
    obtain ⟨_,its,rv,tp⟩ := ok p _ (hp 0 p kv rfl rfl)
    obtain ⟨key,v,rfl,rk,rv⟩ := Vals.two rv
    refine ⟨(kv.1,v) :: rs,.cons ⟨rfl,rv⟩ r,fun i x hx => ?_⟩
    cases i with
    | zero =>
      have : x = .ref p := (Option.some.inj hx).symm
      subst this
      exact ⟨p,kv.1,v,key,rfl,tp,rfl,Aq rk⟩
    | succ i => exact hr i x hx
theorem A7 : ∀ {ps : List Addr} {its : List Value},Vals (ps.map V.ref) its → its = ps.map Value.ref
  | [],_,r => by cases r; rfl
  | p :: ps,_,r => by
    cases r with
    | cons r1 r2 =>
      cases r1
      rw [A7 r2]
      rfl
theorem AH {X : Cx} (hc : X.calm = true) : xa X (.type "dict") DE := by
  intro pins s σ H xs us Q I r h
  obtain ⟨l,ps,kvs,rfl,el,hlen,hps,hnd,hsz,q⟩ := h
  obtain ⟨u,rfl,ru⟩ := Vals.one r
  cases ru
  obtain ⟨_,its,n,rv,gl⟩ := id (I.hok l _ el)
  have := A7 rv
  subst this
  obtain ⟨rs,rr,hr⟩ := Ak I.hok hlen hps
  have hl := rr.length
  refine wN (I.ok.hd hc) gl rfl rfl rfl hr (by rw [List.length_map]; omega) (by rw [← rr.keys]; exact hnd) (by omega) fun h' tk dd kk => ?_
  refine ⟨.ref s.heap.objs.size,_,I.laid (a := s.heap.objs.size) (o := .dK kvs) (t' := tk) kk (Nat.le_refl _) (tS hsz (beq_eq_false_iff_ne.mpr (Ne.symm (Nat.ne_of_lt I.big))) rr dd),rfl,q _ (I.hok.fresh (Nat.le_refl _))⟩
end L2
namespace L2
open PySem PySem.Spec PyProof.Rows Bg
section
variable {prog : Program} {w : World} {κ : Type} [DecidableEq κ] {knd : KeyKind prog w κ} {A : Around} {E : Value → Shared → Prop}
theorem vT : typeLookup (.type "dict") "__len__" = pure (some (.builtin "dict.__len__")) := by rw [typeLookup_type,builtinLookup_eq_fast]; kernel_rfl
theorem Be {s : Shared} {S I d : Addr} {kvs : List (κ × Value)} {ep : Nat} {R : Result → Shared → Prop} (hh : A.handled = none) (hn : kvs.length ≤ sizeLine) (g1 : s.heap.get? S = some { cls := .type "list",data := .seq ([] : List Value).toArray }) (hI : s.heap.IsKeyIter I d 0 kvs.length ep) (hm : s.heap.DictAt knd d kvs ep) (nSI : S ≠ I) (nSd : S ≠ d) (ndI : d ≠ I)
    (hR : ∀ (s' : Shared) (acc : Array Value) (c : Nat),(∀ b o,b ≠ S → b ≠ I → s.heap.get? b = some o → s'.heap.get? b = some o) → s'.gens = s.gens → s'.drawn = s.drawn → s'.os = s.os → s'.heap.get? S = some { cls := .type "list",dict := none,data := .seq acc c,slots := #[] } → ItemsOf (fun i v => ∃ k x,kvs[i]? = some (k,x) ∧ knd.is k v = true) acc kvs.length → R (.ok (.ret (.ref S))) s') :
    wpAny (model prog w) A.in1 (rule "list.extend.makes-room" >>= fun _ => Builtin.List.listTouch (.ref S) >>= fun _ => again (.builtin "list.extend.loop" ⟨[.ref S,.ref I,.ref S],[]⟩))
      (fun fin s' => match fin with | .done f => R (.ok f) s' | .again c' => c'.quiet = true ∧ codeAny (model prog w) A c' R s') (fun e s' => R (.error e) s') s := by
  refine wpAny_bind (wpAny_rule ?_)
  refine wpAny_bind ?_
  show wpAny _ A.in1 (updateSeq S (·.push .none) >>= fun _ => updateSeq S (·.pop)) _ _ _
  refine wpAny_bind (wpAny_updateSeq g1 rfl ?_)
  have g2 := Heap.get?_update_self (Obj.mapSeq (·.push Value.none)) g1 rfl
  refine wpAny_updateSeq g2 rfl ?_
  have g3 := Heap.get?_update_self (Obj.mapSeq (·.pop)) g2 rfl
  have oth : ∀ (b : Addr) (o : Obj),b ≠ S → s.heap.get? b = some o → ((s.heap.update S (Obj.mapSeq (·.push Value.none))).update S (Obj.mapSeq (·.pop))).get? b = some o :=
    fun b o nb g => (Heap.get?_update_other _ _ nb.symm).trans ((Heap.get?_update_other _ _ nb.symm).trans g)
  have W := (Walks.dictKeys (knd := knd) (A := A.in1) (show A.in1.handled = none from hh) I d ndI kvs ep).toS
  refine wpAny_pure ⟨plainId_quiet F.plain_extend_loop _,codeAny_extend_loopS W hn S ?_ _ kvs.length 0 _ _ _ rfl (Nat.zero_le _) ⟨hI.at fun o g => oth I o nSI.symm g,hm.at' fun o g => oth d o nSd.symm g⟩ g3 (ItemsOf.nil _) fun s' acc' c' hmv hS' hacc => ?_⟩
  · intro z
    rcases List.mem_cons.mp z with z | z
    · exact nSI z
    · exact nSd (by simpa using z)
  · refine hR s' acc' c' (fun b o n1 n2 g => hmv.heap b o (fun z => ?_) (oth b o n1 g)) hmv.gens hmv.drawn hmv.os hS' hacc
    rcases List.mem_cons.mp z with z | z
    · exact n1 z
    · exact n2 (by simpa using z)
theorem uv {s : Shared} {d : Addr} {kvs : List (κ × Value)} {ep : Nat} {Q : List Value → Shared → Prop} (hh : A.handled = none) (hds : (d == sysModules) = false) (hm : s.heap.DictAt knd d kvs ep) (hn : kvs.length ≤ sizeLine)
    (hQ : ∀ (s' : Shared) (acc : Array Value),(∀ b o,s.heap.get? b = some o → s'.heap.get? b = some o) → s'.gens = s.gens → s'.drawn = s.drawn → s'.os = s.os → s.heap.objs.size < s'.heap.objs.size → ItemsOf (fun i v => ∃ k x,kvs[i]? = some (k,x) ∧ knd.is k v = true) acc kvs.length → Q acc.toList s') :
    wpAny (model prog w) A (collect (.ref d)) Q E s := by
  have ltd := hm.lt_size
  unfold collect
  refine wpAny_bind (wpAny_runValue (codeAny_builtin F.entry_proto_collect ?_))
  rw [Around.under_plainId F.plain_proto_collect _]
  show wpAny _ A.in1 (newList [] >>= fun l => again (.builtin "list.__iadd__" ⟨[l,.ref d],[]⟩)) _ _ s
  refine wpAny_bind (wpAny_newObj_type ?_)
  refine wpAny_pure ⟨plainId_quiet F.plain_list_iadd _,codeAny_builtin F.entry_list_iadd ?_⟩
  rw [Around.under_plainId F.plain_list_iadd _]
  show wpAny _ A.in1 (Builtin.List.listExtendWith (.ref s.heap.objs.size) (.ref d) (.ref s.heap.objs.size)) _ _ _
  have h1 : Builtin.List.listSameRef (.ref s.heap.objs.size) (.ref d) = false := by simp [Builtin.List.listSameRef,Ne.symm (Nat.ne_of_lt ltd)]
  have hm1 := hm.keep (h' := s.heap.push { cls := .type "list",data := .seq ([] : List Value).toArray }) fun b o e => Heap.get?_push_of_some _ e
  unfold Builtin.List.listExtendWith
  refine wpAny_bind (wpAny_typeOf hm1.dictOf.typeIs ?_)
  rw [if_neg (by rw [h1]; decide)]
  refine wpAny_bind (wpAny_pyIter_dict hds hm1 ?_)
  have hm2 := hm1.keep (h' := (s.heap.push { cls := .type "list",data := .seq ([] : List Value).toArray }).push { cls := .type "dict_keyiterator",data := .fields #[.ref d,.int 0 0,.int kvs.length 0,.int ep 0] }) fun b o e => Heap.get?_push_of_some _ e
  refine wpAny_bind (wpAny_holding ?_)
  unfold Builtin.List.listLengthHint
  refine wpAny_bind (wpAny_specialOf hm2.dictOf.typeIs vT ?_)
  (generalize hid : ("dict.__len__" : String) = id0; (fail_if_success (clear hid id0)); wp_delta; rw [show splitId id0 = some ("dict","__len__") from by subst hid; decide +kernel]; subst hid)
  refine wpAny_bind (wpAny_isInstance (b := true) hm2.dictOf.typeIs (by rw [isSubtype_type]; kernel_rfl) ?_)
  rw [if_neg (by decide)]
  refine wpAny_ite ?_
  rw [if_pos (by decide)]
  refine wpAny_bind (wpAny_typeOf hm2.dictOf.typeIs ?_)
  refine wpAny_pure ?_
  rw [if_pos (by decide)]
  have szI : (s.heap.push { cls := .type "list",data := .seq ([] : List Value).toArray }).objs.size = s.heap.objs.size + 1 := Heap.size_push _ _
  refine Be (s := { s with heap := (s.heap.push { cls := .type "list",data := .seq ([] : List Value).toArray }).push { cls := .type "dict_keyiterator",data := .fields #[.ref d,.int 0 0,.int kvs.length 0,.int ep 0] } }) (R := fun r s' => match r with | .ok (.ret v) => wpAny (model prog w) A (match v with | .ref a => (do let o ← load a; match o.data with | .seq xs _ => pure xs.toList | _ => unsupported "internal:collect" : Sem (List Value)) | _ => unsupported "internal:collect") Q E s' | .ok _ => False | .error e => E e s') hh hn (S := s.heap.objs.size) (I := (s.heap.push { cls := .type "list",data := .seq ([] : List Value).toArray }).objs.size) (Heap.get?_push_of_some _ (Heap.get?_push_size _ rfl)) ⟨_,Heap.get?_push_size _ rfl,rfl,rfl⟩ hm2 (by rw [szI]; exact Nat.ne_of_lt (Nat.lt_succ_self _)) (Nat.ne_of_gt ltd) (by rw [szI]; exact Nat.ne_of_lt (Nat.lt_succ_of_lt ltd)) fun s' acc c kk e1 e2 e3 hS' hacc => ?_
  show wpAny _ A (load s.heap.objs.size >>= _) _ _ s'
  refine wpAny_bind (wpAny_load hS' (wpAny_pure (hQ s' acc (fun b o g => ?_) e1 e2 e3 (Heap.lt_size hS') hacc)))
  have lt := Heap.lt_size g
  exact kk b o (Nat.ne_of_lt lt) (by rw [szI]; exact Nat.ne_of_lt (Nat.lt_succ_of_lt lt)) (Heap.get?_push_of_some _ (Heap.get?_push_of_some _ g))
theorem vt : ∀ {l : List Value} {ns : List Int},l.length = ns.length → (∀ (j : Nat) (v : Value) (n : Int),l[j]? = some v → ns[j]? = some n → ∃ t,v = .int n t) → IntsAre l ns
  | [],[],_,_ => .nil
  | [],_ :: _,e,_ => by cases e
  | _ :: _,[],e,_ => by cases e
  | v :: l,n :: ns,e,h => by
    obtain ⟨t,rfl⟩ := h 0 v n rfl rfl
    exact .cons n t (vt (by simpa using e) fun j v' n' h1 h2 => h (j + 1) v' n' h1 h2)
theorem vD {kvs : List (Key × Value)} {ns : List Int} {acc : Array Value} (hk : kvs.map (·.1) = ns.map Sum.inl) (h : ItemsOf (fun i v => ∃ k x,kvs[i]? = some (k,x) ∧ (zS prog w).is k v = true) acc kvs.length) : IntsAre acc.toList ns := by
  have hl : kvs.length = ns.length := by
    have := congrArg List.length hk
    rwa [List.length_map,List.length_map] at this
  refine vt (by rw [Array.length_toList,h.1,hl]) fun j v n h1 h2 => ?_
  obtain ⟨k,x,e1,e2⟩ := h.2 j v (by rw [← Array.getElem?_toList]; exact h1)
  have : k = .inl n := by
    have z := congrArg (·[j]?) hk
    simp only [List.getElem?_map,e1,h2,Option.map_some,Option.some.injEq] at z
    exact z
  subst this
  exact BQ e2
theorem uY {s : Shared} {d : Addr} {kvs : List (Key × Value)} {ns : List Int} {ep : Nat} {Q : Value → Shared → Prop} (hh : A.handled = none) (hds : (d == sysModules) = false) (hm : s.heap.DictAt (zS prog w) d kvs ep) (hk : kvs.map (·.1) = ns.map Sum.inl) (h64 : kvs.length < 64)
    (q : ∀ (h' : Heap) (tk p e : Nat) (vs' : List Value) (ns' : List Int),(∀ b o,s.heap.get? b = some o → h'.get? b = some o) → s.heap.objs.size ≤ p → h'.get? p = some (seqObj "list" vs'.toArray e) → IntsAre vs' ns' → ns'.Perm ns → ns'.Pairwise (· ≤ ·) → Q (.ref p) { s with heap := h',toks := tk }) :
    wpAny (model prog w) A (call (.builtin "sorted") [.ref d]) Q E s := by
  have hz : kvs.length ≤ sizeLine := Nat.le_trans (Nat.le_of_lt h64) (by rw [sizeLine_eq]; decide)
  refine Calls.call_function_entry kind_sorted plain_sorted entry_sorted (args_sorted1 _) ?_
  unfold Builtin.«sorted»
  refine wpAny_bind (m := checkCount "sorted" 1 1 _) (wpAny_pure ?_)
  refine wpAny_bind (uv (show A.in1.handled = none from hh) hds hm hz fun s' acc kk e1 e2 e3 lts hacc => ?_)
  obtain ⟨h0,g0,d0,t0,o0⟩ := s
  obtain ⟨h1,g1,d1,t1,o1⟩ := s'
  simp only at e1 e2 e3 kk hm lts
  subst e1 e2 e3
  have hI := vD hk hacc
  refine wpAny_bind (wpAny_newList (hsz := by rw [Array.length_toList,hacc.1]; exact hz) ?_)
  have gl : (h1.push (seqObj "list" acc.toList.toArray 0)).get? h1.objs.size = some (seqObj "list" acc.toList.toArray 0) := Heap.get?_push_size _ rfl
  refine wpAny_bind (wpAny_holding (wpAny_call_entry slot_list_sort ⟨_,gl,rfl⟩ entry_list_sort (list_sort_tree gl hI (by rw [Array.length_toList,hacc.1]; exact h64) fun out ns' a1 a2 a3 => ⟨_,rfl,?_⟩) (args_list_sort _)))
  obtain ⟨e,he⟩ := sortedHeap_at (out := out) gl
  refine wpAny_pure ⟨_,rfl,q _ t1 h1.objs.size e out.toList ns' (fun b o g => ?_) (Nat.le_of_lt lts) he a1 a2 a3⟩
  have lt := Heap.lt_size (kk b o g)
  rw [sortedHeap_old (Nat.ne_of_lt lt) (by rw [Heap.size_push]; exact Nat.lt_succ_of_lt lt)]
  exact Heap.get?_push_of_some _ (kk b o g)
end
theorem tj {ns ns' : List Int} (hp : ns'.Perm ns) (h1 : ns'.Pairwise (· ≤ ·)) (h2 : ns.Pairwise (· < ·)) : ns' = ns :=
  List.Perm.eq_of_pairwise (fun a b _ _ h k => Int.le_antisymm h k) h1 (h2.imp fun h => Int.le_of_lt h) hp
def DH : List V → Hp → VK → Prop := fun xs H Q => ∃ (d : Addr) (kvs : List (Key × V)) (ns : List Int),xs = [.ref d] ∧ H d = some (.dK kvs) ∧ kvs.map (·.1) = ns.map Sum.inl ∧ ns.Pairwise (· < ·) ∧ kvs.length < 64 ∧ ∀ p,H p = none → Q (.ref p) (upd H p (.lst (ns.map V.int)))
theorem wk : ∀ {vs : List Value} {ns : List Int},IntsAre vs ns → Vals (ns.map V.int) vs
  | _,_,.nil => .nil
  | _,_,.cons n t r => .cons ⟨t,rfl⟩ (wk r)
theorem xS {X : Cx} (hc : X.calm = true) : xa X (.builtin "sorted") DH := by
  intro pins s σ H xs us Q I r h
  obtain ⟨d,kvs,ns,rfl,e,hk,hr,h64,q⟩ := h
  obtain ⟨u,rfl,ru⟩ := Vals.one r
  cases ru
  obtain ⟨z,y,vs,rel,dof⟩ := id (I.hok d _ e)
  obtain ⟨ep,da⟩ := dof.dictAt
  have hl := rel.length
  refine uY (I.ok.hd hc) y da (by rw [← rel.keys]; exact hk) (by omega) fun h' tk p ep' vs' ns' kk hp hg hI hpm hpw => ?_
  have := tj hpm hpw hr
  subst this
  have hl2 : (ns'.map V.int).length ≤ sizeLine := by
    have : kvs.length = ns'.length := by
      have := congrArg List.length hk
      rwa [List.length_map,List.length_map] at this
    rw [List.length_map]
    omega
  exact ⟨.ref p,_,I.laid (a := p) (o := .lst (ns'.map V.int)) (t' := tk) kk hp ⟨hl2,vs',ep',wk hI,hg⟩,rfl,q p (I.hok.fresh hp)⟩
end L2
open PySem PySem.Spec PyProof.Rows L2 Bg
local macro_rules | `(tactic| walk_at "bd") => `(tactic| first | assumption | ((with_reducible show Bd _ (-_)); exact Bd.neg (by walk_at "bd")) | ((with_reducible show Bd _ (_ * _)); exact Bd.mul (by walk_at "bd") (by walk_at "bd")) | ((with_reducible show Bd _ (_ + _)); exact D8 (by walk_at "bd") (by walk_at "bd")) | ((with_reducible show Bd _ (_ - _)); exact bd_subx (by walk_at "bd") (by walk_at "bd")) | ((with_reducible show Bd _ (_ ^ _)); exact Eh (by walk_at "bd")) | ((with_reducible show Bd _ (_ / _)); exact tH (by walk_at "bd")) | ((with_reducible show Bd _ (_ % _)); exact Ej (by walk_at "bd") (by decide +kernel)) | ((with_reducible show Bd _ (Int.fdiv _ _)); exact Bd.fdiv (by walk_at "bd") _) | exact Bd.abs (by walk_at "bd") | exact AO _)
local macro_rules | `(tactic| walk_at "cd") => `(tactic| first | assumption | decide | omega | exact ⟨by decide,by decide +kernel⟩ | exact Bd.ok (by walk_at "bd") (by walk_at "bd") (by decide +kernel) | exact cpw_of (by walk_at "bd") (by decide) (by decide +kernel) | decide +kernel)
local macro_rules | `(tactic| walk_at "rd") => `(tactic| first | with_reducible refine Ed ?_ | with_reducible refine GO ?_ | ((with_reducible refine Et ?_); try dsimp only [List.set_cons_zero,List.set_cons_succ]) | with_reducible refine F7 ?_ | with_reducible refine FO ?_ | with_reducible refine Gg ?_ | with_reducible refine Fb ?_ | ((with_reducible show tVar _ _ _ _); refine ⟨_,rfl,?_⟩) | with_reducible refine i_c ?_ | with_reducible refine i_op ?_ | with_reducible refine i_un ?_ | with_reducible refine i_I0 ?_ | ((with_reducible show rI _ _ (V.int _) (V.int _) _ _); first | refine i_I ?_ (by walk_at "cd") | refine i_I ?_ ?c) | with_reducible refine i_U ?_ | with_reducible refine Gn ?_ | with_reducible refine GL ?_ | with_reducible refine i_eqB ?_ | with_reducible refine i_neB ?_ | with_reducible refine FI ?_ | with_reducible refine i_tB ?_ | with_reducible refine i_bl ?_ | with_reducible refine GG ?_ | with_reducible refine i_or ?_ | with_reducible refine GN ?_ | with_reducible refine FM ?_ | with_reducible refine GW ?_ | with_reducible refine FQ ?_ | with_reducible refine GX ?_ | with_reducible refine GV ?_ | with_reducible refine E8 ?_ | with_reducible refine FY ?_ | with_reducible refine DK ?_ | with_reducible refine i_cb ?_ | with_reducible refine GP ?_ | with_reducible refine GI ?_ | with_reducible refine if_t ?_ | with_reducible refine if_f ?_ | with_reducible refine F0 ?_ | with_reducible refine Gu ?_ | with_reducible refine Gi ?_ | with_reducible refine Fe ?_ | with_reducible refine GH ?_ | with_reducible refine FU ?_ | with_reducible refine CA ?_ | with_reducible refine Cg ?_ | with_reducible refine i_is_bool ?_ | with_reducible refine CG (by assumption) ?_ | with_reducible refine Fr (by assumption) ?_ | with_reducible refine EQ (by assumption) ?_ | ((with_reducible show rIxT _ (V.ref _) (V.int _) _ _); first | refine wU (by assumption) (by rfl) ?_ | refine Go (by assumption) (by rfl) ?_) | ((with_reducible show rIxL _ (V.ref _) (V.int _) _ _); refine zC (by assumption) (by rfl) ?_) | with_reducible refine i_bm ?_ | with_reducible refine GE (by assumption) ?_ | with_reducible refine i_sl ?_ | with_reducible refine Cw ?_ | with_reducible refine F1 ?_ | with_reducible refine GK ?_ | with_reducible refine GU ?_ | with_reducible refine i_notN ?_ | ((with_reducible show gTup _ _ _ (V.ref _) _ _ _); refine FR (by assumption) (by rfl) ?_) | with_reducible refine EC ?_ | with_reducible refine Fa ?_ | with_reducible refine Gh ?_)
local macro_rules | `(tactic| walk_at "mm") => `(tactic| repeat first | exact List.mem_cons_self | refine List.mem_cons_of_mem _ ?_)
local macro_rules | `(tactic| walk_at "rd") => `(tactic| first | with_reducible refine i_min ?_ | with_reducible refine GS ?_ | with_reducible refine i_neS ?_ | with_reducible refine CF ?_ | with_reducible refine Gk ?_ | with_reducible refine i_fF ?_ | with_reducible refine i_fVal0 ?_ | with_reducible refine i_fInt0 ?_ | with_reducible refine i_tyS ?_ | with_reducible refine GA ?_ | with_reducible refine F8 ?_)
local macro_rules | `(tactic| walk_at "b8") => `(tactic| first | assumption | decide +kernel | exact Bd.mono (by walk_at "bd") (by decide +kernel))
local macro_rules | `(tactic| walk_at "r") => `(tactic| repeat walk_at "rd")
set_option maxHeartbeats 4000000
namespace Bk
open PySem PySem.Spec PyProof.Rows L2 Bg
def top (i : Nat) : Stmt := PySem.Challenge.pw_boardglue_k34_plans_walked.main.body.getD i (.Pass ⟨0,0,0,0⟩)
abbrev s_is_whole : Stmt := top 17
abbrev s_common_divisor : Stmt := top 18
abbrev s_with_sign_of : Stmt := top 21
abbrev s_length : Stmt := top 22
abbrev s_added : Stmt := top 23
abbrev s_taken : Stmt := top 24
abbrev s_is_above_nought : Stmt := top 25
abbrev s_under : Stmt := top 26
abbrev s_is_length : Stmt := top 28
abbrev s_is_deed : Stmt := top 34
abbrev s_names_taken : Stmt := top 35
abbrev s_turned : Stmt := top 36
abbrev s_cut_across : Stmt := top 37
abbrev s_glued_beside : Stmt := top 38
abbrev s_stacked : Stmt := top 39
abbrev s_yard_behind : Stmt := top 42
abbrev s_walked : Stmt := top 43
abbrev s__law_cell : Stmt := top 45
abbrev s__law_whole : Stmt := top 46
abbrev s__law_great : Stmt := top 47
abbrev s__law_digits : Stmt := top 48
abbrev s__law_divisor : Stmt := top 49
abbrev s__law_lowest : Stmt := top 50
abbrev s__law_sign : Stmt := top 51
abbrev s__law_plus : Stmt := top 52
abbrev s__law_share : Stmt := top 53
abbrev s__law_below : Stmt := top 54
abbrev s__law_root : Stmt := top 55
abbrev s__law_side : Stmt := top 56
abbrev s__law_heap : Stmt := top 57
abbrev s__law_new : Stmt := top 58
abbrev s__law_at : Stmt := top 59
abbrev s__law_deed : Stmt := top 60
abbrev s__law_done : Stmt := top 61
abbrev s__law_begin : Stmt := top 62
abbrev s__law_is_length : Stmt := top 63
abbrev s__law_is_heap : Stmt := top 64
abbrev s__law_alone : Stmt := top 65
abbrev s__law_plan : Stmt := top 66
abbrev s__law_refused : Stmt := top 67
abbrev s__law_spoilt : Stmt := top 68
abbrev s_law : Stmt := top 69
abbrev s_Yard___init__ : Stmt := wL (top 40) 0
abbrev s_Yard_do : Stmt := wL (top 40) 1
abbrev s_Yard_check_names : Stmt := wL (top 40) 2
abbrev s_Yard_put_by : Stmt := wL (top 40) 3
abbrev s_Yard_heap : Stmt := wL (top 40) 6
structure Bl (mg : Str → Option Value) : Prop where
  ValueError : mg "ValueError" = none
  abs : mg "abs" = none
  all : mg "all" = none
  bool : mg "bool" = none
  dict : mg "dict" = none
  int : mg "int" = none
  isinstance : mg "isinstance" = none
  len : mg "len" = none
  list : mg "list" = none
  range : mg "range" = none
  sorted : mg "sorted" = none
  str : mg "str" = none
  tuple : mg "tuple" = none
theorem vN : bootBuiltins "ValueError" = some (.type "ValueError") := by decide +kernel
theorem BP : bootBuiltins "abs" = some (.builtin "abs") := by decide +kernel
theorem Fm : bootBuiltins "all" = some (.builtin "all") := by decide +kernel
theorem Cf : bootBuiltins "bool" = some (.type "bool") := by decide +kernel
theorem vK : bootBuiltins "dict" = some (.type "dict") := by decide +kernel
theorem yy : bootBuiltins "int" = some (.type "int") := by decide +kernel
theorem zj : bootBuiltins "isinstance" = some (.builtin "isinstance") := by decide +kernel
theorem vO : bootBuiltins "list" = some (.type "list") := by decide +kernel
theorem wM : bootBuiltins "sorted" = some (.builtin "sorted") := by decide +kernel
theorem FC : bootBuiltins "str" = some (.type "str") := by decide +kernel
theorem wq : bootBuiltins "tuple" = some (.type "tuple") := by decide +kernel
structure Cs where
  YardError : Addr
  NoLength : Addr
  NoBoard : Addr
  NoText : Addr
  NoDeed : Addr
  NoName : Addr
  Grain : Addr
  Unfit : Addr
  TooMany : Addr
  NoRow : Addr
  Apart : Addr
  Yard : Addr
structure Xs (K : PySem.W.Frag) (mg : Str → Option Value) (cs : Cs) : Prop where
  m_YardError : mg "YardError" = some (.ref cs.YardError)
  m_NoLength : mg "NoLength" = some (.ref cs.NoLength)
  m_NoBoard : mg "NoBoard" = some (.ref cs.NoBoard)
  m_NoText : mg "NoText" = some (.ref cs.NoText)
  m_NoDeed : mg "NoDeed" = some (.ref cs.NoDeed)
  m_NoName : mg "NoName" = some (.ref cs.NoName)
  m_Grain : mg "Grain" = some (.ref cs.Grain)
  m_Unfit : mg "Unfit" = some (.ref cs.Unfit)
  m_TooMany : mg "TooMany" = some (.ref cs.TooMany)
  m_NoRow : mg "NoRow" = some (.ref cs.NoRow)
  m_Apart : mg "Apart" = some (.ref cs.Apart)
  m_Yard : mg "Yard" = some (.ref cs.Yard)
  o_YardError : XOk K cs.YardError
  o_Unfit : XOk K cs.Unfit
  o_NoDeed : XOk K cs.NoDeed
  o_Grain : XOk K cs.Grain
  o_NoName : XOk K cs.NoName
  s_Unfit : PySem.W.mroIn K cs.Unfit (.ref cs.YardError) = some true
  s_NoDeed : PySem.W.mroIn K cs.NoDeed (.ref cs.YardError) = some true
  s_Grain : PySem.W.mroIn K cs.Grain (.ref cs.YardError) = some true
  s_NoName : PySem.W.mroIn K cs.NoName (.ref cs.YardError) = some true
  k_Unfit_YardError : PySem.W.kitOne K (.ref cs.Unfit) (.ref cs.YardError) = some true
  k_Unfit_NoLength : PySem.W.kitOne K (.ref cs.Unfit) (.ref cs.NoLength) = some false
  k_Unfit_NoBoard : PySem.W.kitOne K (.ref cs.Unfit) (.ref cs.NoBoard) = some false
  k_Unfit_NoText : PySem.W.kitOne K (.ref cs.Unfit) (.ref cs.NoText) = some false
  k_Unfit_NoDeed : PySem.W.kitOne K (.ref cs.Unfit) (.ref cs.NoDeed) = some false
  k_Unfit_NoName : PySem.W.kitOne K (.ref cs.Unfit) (.ref cs.NoName) = some false
  k_Unfit_Grain : PySem.W.kitOne K (.ref cs.Unfit) (.ref cs.Grain) = some false
  k_Unfit_Unfit : PySem.W.kitOne K (.ref cs.Unfit) (.ref cs.Unfit) = some true
  k_Unfit_TooMany : PySem.W.kitOne K (.ref cs.Unfit) (.ref cs.TooMany) = some false
  k_Unfit_NoRow : PySem.W.kitOne K (.ref cs.Unfit) (.ref cs.NoRow) = some false
  k_Unfit_Apart : PySem.W.kitOne K (.ref cs.Unfit) (.ref cs.Apart) = some false
  k_Unfit_Yard : PySem.W.kitOne K (.ref cs.Unfit) (.ref cs.Yard) = some false
  k_Unfit_ValueError : PySem.W.kitOne K (.ref cs.Unfit) (.type "ValueError") = some true
  k_NoDeed_YardError : PySem.W.kitOne K (.ref cs.NoDeed) (.ref cs.YardError) = some true
  k_NoDeed_NoLength : PySem.W.kitOne K (.ref cs.NoDeed) (.ref cs.NoLength) = some false
  k_NoDeed_NoBoard : PySem.W.kitOne K (.ref cs.NoDeed) (.ref cs.NoBoard) = some false
  k_NoDeed_NoText : PySem.W.kitOne K (.ref cs.NoDeed) (.ref cs.NoText) = some false
  k_NoDeed_NoDeed : PySem.W.kitOne K (.ref cs.NoDeed) (.ref cs.NoDeed) = some true
  k_NoDeed_NoName : PySem.W.kitOne K (.ref cs.NoDeed) (.ref cs.NoName) = some false
  k_NoDeed_Grain : PySem.W.kitOne K (.ref cs.NoDeed) (.ref cs.Grain) = some false
  k_NoDeed_Unfit : PySem.W.kitOne K (.ref cs.NoDeed) (.ref cs.Unfit) = some false
  k_NoDeed_TooMany : PySem.W.kitOne K (.ref cs.NoDeed) (.ref cs.TooMany) = some false
  k_NoDeed_NoRow : PySem.W.kitOne K (.ref cs.NoDeed) (.ref cs.NoRow) = some false
  k_NoDeed_Apart : PySem.W.kitOne K (.ref cs.NoDeed) (.ref cs.Apart) = some false
  k_NoDeed_Yard : PySem.W.kitOne K (.ref cs.NoDeed) (.ref cs.Yard) = some false
  k_NoDeed_ValueError : PySem.W.kitOne K (.ref cs.NoDeed) (.type "ValueError") = some true
  k_Grain_YardError : PySem.W.kitOne K (.ref cs.Grain) (.ref cs.YardError) = some true
  k_Grain_NoLength : PySem.W.kitOne K (.ref cs.Grain) (.ref cs.NoLength) = some false
  k_Grain_NoBoard : PySem.W.kitOne K (.ref cs.Grain) (.ref cs.NoBoard) = some false
  k_Grain_NoText : PySem.W.kitOne K (.ref cs.Grain) (.ref cs.NoText) = some false
  k_Grain_NoDeed : PySem.W.kitOne K (.ref cs.Grain) (.ref cs.NoDeed) = some false
  k_Grain_NoName : PySem.W.kitOne K (.ref cs.Grain) (.ref cs.NoName) = some false
  k_Grain_Grain : PySem.W.kitOne K (.ref cs.Grain) (.ref cs.Grain) = some true
  k_Grain_Unfit : PySem.W.kitOne K (.ref cs.Grain) (.ref cs.Unfit) = some false
  k_Grain_TooMany : PySem.W.kitOne K (.ref cs.Grain) (.ref cs.TooMany) = some false
  k_Grain_NoRow : PySem.W.kitOne K (.ref cs.Grain) (.ref cs.NoRow) = some false
  k_Grain_Apart : PySem.W.kitOne K (.ref cs.Grain) (.ref cs.Apart) = some false
  k_Grain_Yard : PySem.W.kitOne K (.ref cs.Grain) (.ref cs.Yard) = some false
  k_Grain_ValueError : PySem.W.kitOne K (.ref cs.Grain) (.type "ValueError") = some true
  k_NoName_YardError : PySem.W.kitOne K (.ref cs.NoName) (.ref cs.YardError) = some true
  k_NoName_NoLength : PySem.W.kitOne K (.ref cs.NoName) (.ref cs.NoLength) = some false
  k_NoName_NoBoard : PySem.W.kitOne K (.ref cs.NoName) (.ref cs.NoBoard) = some false
  k_NoName_NoText : PySem.W.kitOne K (.ref cs.NoName) (.ref cs.NoText) = some false
  k_NoName_NoDeed : PySem.W.kitOne K (.ref cs.NoName) (.ref cs.NoDeed) = some false
  k_NoName_NoName : PySem.W.kitOne K (.ref cs.NoName) (.ref cs.NoName) = some true
  k_NoName_Grain : PySem.W.kitOne K (.ref cs.NoName) (.ref cs.Grain) = some false
  k_NoName_Unfit : PySem.W.kitOne K (.ref cs.NoName) (.ref cs.Unfit) = some false
  k_NoName_TooMany : PySem.W.kitOne K (.ref cs.NoName) (.ref cs.TooMany) = some false
  k_NoName_NoRow : PySem.W.kitOne K (.ref cs.NoName) (.ref cs.NoRow) = some false
  k_NoName_Apart : PySem.W.kitOne K (.ref cs.NoName) (.ref cs.Apart) = some false
  k_NoName_Yard : PySem.W.kitOne K (.ref cs.NoName) (.ref cs.Yard) = some false
  k_NoName_ValueError : PySem.W.kitOne K (.ref cs.NoName) (.type "ValueError") = some true
  c_Yard : Cls K cs.Yard
  n_Yard_root : NoAttr K cs.Yard "root"
  n_Yard_turning : NoAttr K cs.Yard "turning"
  n_Yard_known : NoAttr K cs.Yard "known"
  n_Yard_lying : NoAttr K cs.Yard "lying"
  n_Yard_done : NoAttr K cs.Yard "done"
def gV_walked_3_k_turning : List V → List V → List V := fun us ws => match us,ws with | [x0,x1,x2],[z0] => [x0,x1,x2,z0] | _,_ => []
def g_walked_3_k_turning (d0 : Value) : List Value → List Value → List Value := fun us ws => match us,ws with | [x0,x1,x2],[z0] => [x0,x1,x2,z0] | _,_ => []
def Rep (D : Int) (M : Nat) (s : Sd) : Prop := ∃ X Y : Int,Bd M X ∧ Bd M Y ∧ s.x * D = X * s.z ∧ s.y * D = Y * s.z
structure So (d D : Int) (M : Nat) (s : Sd) : Prop where
  z1 : 1 ≤ s.z
  g : g3 s.x s.y s.z = 1
  up : sgn d s.x s.y = 1
  r : Rep D M s
theorem So.sk {d D : Int} {M K : Nat} {s : Sd} (h : So d D M s) (hD : 1 ≤ D) (bD : Bd K D) : SK M K s := by
  obtain ⟨X,Y,bX,bY,hx,hy⟩ := h.r
  obtain ⟨e1,e2,e3⟩ := xR h.z1 h.g (show D ≠ 0 by omega) hx hy
  refine ⟨h.z1,h.g,?_,?_,?_⟩
  · rw [e1]
    exact bX.fdiv _
  · rw [e2]
    exact bY.fdiv _
  · rw [e3]
    exact bD.fdiv _
theorem So.ne {d D : Int} {M : Nat} {s : Sd} (h : So d D M s) : s.z ≠ 0 := by have := h.z1; omega
theorem So.scale {d D k : Int} {M j : Nat} {s : Sd} (h : So d D M s) (bk : Bd j k) : So d (D * k) (M + j) s := by
  obtain ⟨X,Y,bX,bY,hx,hy⟩ := h.r
  exact ⟨h.z1,h.g,h.up,X * k,Y * k,bX.mul bk,bY.mul bk,by rw [← Int.mul_assoc,hx]; grind,by rw [← Int.mul_assoc,hy]; grind⟩
theorem So.mono {d D : Int} {M M' : Nat} {s : Sd} (h : So d D M s) (l : M ≤ M') : So d D M' s := by
  obtain ⟨X,Y,bX,bY,hx,hy⟩ := h.r
  exact ⟨h.z1,h.g,h.up,X,Y,bX.mono l,bY.mono l,hx,hy⟩
def BoD (d D : Int) (M : Nat) (b : Bo) : Prop := So d D M b.w ∧ So d D M b.h
def tkS (s t : Sd) : Sd := ⟨lA (s.x * t.z + -t.x * s.z) (s.y * t.z + -t.y * s.z) (s.z * t.z),lB (s.x * t.z + -t.x * s.z) (s.y * t.z + -t.y * s.z) (s.z * t.z),lN (s.x * t.z + -t.x * s.z) (s.y * t.z + -t.y * s.z) (s.z * t.z)⟩
def shS (s : Sd) (m k : Int) : Sd := ⟨lA (s.x * m) (s.y * m) (s.z * k),lB (s.x * m) (s.y * m) (s.z * k),lN (s.x * m) (s.y * m) (s.z * k)⟩
theorem tI {a b n D X Y : Int} (hn : n ≠ 0) (h1 : a * D = X * n) (h2 : b * D = Y * n) : lA a b n * D = X * lN a b n ∧ lB a b n * D = Y * lN a b n := by
  have e1 := l_a (a := a) (b := b) (n := n)
  have e2 := l_b (a := a) (b := b) (n := n)
  constructor
  · refine ue hn ?_
    have : lA a b n * D * n = (lA a b n * n) * D := by grind
    rw [this,e1]
    have : a * lN a b n * D = (a * D) * lN a b n := by grind
    rw [this,h1]
    grind
  · refine ue hn ?_
    have : lB a b n * D * n = (lB a b n * n) * D := by grind
    rw [this,e2]
    have : b * lN a b n * D = (b * D) * lN a b n := by grind
    rw [this,h2]
    grind
theorem GB {d D : Int} {M : Nat} {s t : Sd} (hR : Rt d) (h : So d D M s) (h' : So d D M t) (up : sgn d (tkS s t).x (tkS s t).y = 1) : So d D (M + 1) (tkS s t) := by
  obtain ⟨X,Y,bX,bY,hx,hy⟩ := h.r
  obtain ⟨X',Y',bX',bY',hx',hy'⟩ := h'.r
  have hn : s.z * t.z ≠ 0 := Int.mul_ne_zero h.ne h'.ne
  obtain ⟨r1,r2⟩ := tI (a := s.x * t.z + -t.x * s.z) (b := s.y * t.z + -t.y * s.z) (n := s.z * t.z) (D := D) (X := X - X') (Y := Y - Y') hn (by grind) (by grind)
  exact ⟨l_n hn,A9 hn,up,X - X',Y - Y',bX.sub bX',bY.sub bY',r1,r2⟩
theorem F2 {d D : Int} {M : Nat} {s t : Sd} (hR : Rt d) (h : So d D M s) (h' : So d D M t) : So d D (M + 1) (adS s t) := by
  obtain ⟨X,Y,bX,bY,hx,hy⟩ := h.r
  obtain ⟨X',Y',bX',bY',hx',hy'⟩ := h'.r
  have hn : s.z * t.z ≠ 0 := Int.mul_ne_zero h.ne h'.ne
  have hn1 : 1 ≤ s.z * t.z := Int.mul_pos (by have := h.z1; omega) (by have := h'.z1; omega)
  obtain ⟨r1,r2⟩ := tI (a := s.x * t.z + t.x * s.z) (b := s.y * t.z + t.y * s.z) (n := s.z * t.z) (D := D) (X := X + X') (Y := Y + Y') hn (by grind) (by grind)
  refine ⟨l_n hn,A9 hn,?_,X + X',Y + Y',bX.add bX',bY.add bY',r1,r2⟩
  refine (yp hR hn1).trans (DP hR ?_ ?_)
  · exact (xM hR (k := 1) (m := t.z) (by decide) (by have := h'.z1; omega) (by grind) (by grind)).trans h.up
  · exact (xM hR (k := 1) (m := s.z) (by decide) (by have := h.z1; omega) (by grind) (by grind)).trans h'.up
theorem D2 {d D m k : Int} {M j : Nat} {s : Sd} (hR : Rt d) (h : So d D M s) (m1 : 1 ≤ m) (k1 : 1 ≤ k) (bm : Bd j m) : So d (D * k) (M + j) (shS s m k) := by
  obtain ⟨X,Y,bX,bY,hx,hy⟩ := h.r
  have hn : s.z * k ≠ 0 := Int.mul_ne_zero h.ne (by omega)
  have hn1 : 1 ≤ s.z * k := Int.mul_pos (by have := h.z1; omega) (by omega)
  obtain ⟨r1,r2⟩ := tI (a := s.x * m) (b := s.y * m) (n := s.z * k) (D := D * k) (X := X * m) (Y := Y * m) hn (by grind) (by grind)
  refine ⟨l_n hn,A9 hn,?_,X * m,Y * m,bX.mul bm,bY.mul bm,r1,r2⟩
  exact (yp hR hn1).trans ((xM hR (k := 1) (m := m) (by decide) (by omega) (by grind) (by grind)).trans h.up)
theorem Gm {d m k : Int} {s : Sd} (hR : Rt d) (z1 : 1 ≤ s.z) (up : sgn d s.x s.y = 1) (m1 : 1 ≤ m) (hk : m < k) : sgn d (tkS s (shS s m k)).x (tkS s (shS s m k)).y = 1 := by
  have hn : s.z * k ≠ 0 := Int.mul_ne_zero (by omega) (by omega)
  have e1 : (shS s m k).x * (s.z * k) = s.x * m * (shS s m k).z := l_a
  have e2 : (shS s m k).y * (s.z * k) = s.y * m * (shS s m k).z := l_b
  have f1 : 1 ≤ (shS s m k).z := l_n hn
  generalize hx : (shS s m k).x = fx at *
  generalize hy : (shS s m k).y = fy at *
  generalize hz : (shS s m k).z = fz at *
  have hn1 : 1 ≤ s.z * fz := Int.mul_pos (by omega) (by omega)
  have t1 : (tkS s (shS s m k)).x = lA (s.x * fz + -fx * s.z) (s.y * fz + -fy * s.z) (s.z * fz) := by
    unfold tkS
    rw [hx,hy,hz]
  have t2 : (tkS s (shS s m k)).y = lB (s.x * fz + -fx * s.z) (s.y * fz + -fy * s.z) (s.z * fz) := by
    unfold tkS
    rw [hx,hy,hz]
  rw [t1,t2,yp hR hn1]
  refine (xM hR (k := k) (m := fz * (k - m)) (by omega) (Int.mul_pos (by omega) (by omega)) ?_ ?_).trans up
  · clear t1 t2 hn1 hn up
    grind
  · clear t1 t2 hn1 hn up
    grind
theorem F9 {d : Int} {s t : Sd} (hR : Rt d) (z1 : 1 ≤ s.z) (z2 : 1 ≤ t.z) (h : 0 < sgn d (s.x * t.z - t.x * s.z) (s.y * t.z - t.y * s.z)) : sgn d (tkS s t).x (tkS s t).y = 1 := by
  have hn1 : 1 ≤ s.z * t.z := Int.mul_pos (by omega) (by omega)
  have e : sgn d (tkS s t).x (tkS s t).y = sgn d (s.x * t.z - t.x * s.z) (s.y * t.z - t.y * s.z) := by
    refine (yp hR hn1).trans ?_
    rw [show s.x * t.z + -t.x * s.z = s.x * t.z - t.x * s.z by grind,show s.y * t.z + -t.y * s.z = s.y * t.z - t.y * s.z by grind]
  rw [e]
  rcases sgn_tri hR (s.x * t.z - t.x * s.z) (s.y * t.z - t.y * s.z) with z | z | z
  · exact z
  · omega
  · rw [z.1,z.2,yj] at h
    omega
inductive Dd where
  | cut (al : Bool) (n : Int) (s : Sd)
  | glue (al : Bool) (n m : Int)
  | shift (al : Bool) (n k : Int)
  | turn (n : Int)
abbrev SY (s : Sd) : Prop := SK 2400 2100 s
def Dd.wd : Dd → Str
  | .cut al _ _ => if al then "along" else "across"
  | .glue al _ _ => if al then "atop" else "beside"
  | .shift al _ _ => if al then "spread" else "stack"
  | .turn _ => "turn"
def Dd.n : Dd → Int
  | .cut _ n _ => n
  | .glue _ n _ => n
  | .shift _ n _ => n
  | .turn n => n
def Dd.names : Dd → List Int
  | .glue _ n m => [n,m]
  | d => [d.n]
def DdAt (H : Hp) (p : Addr) : Dd → Prop
  | .cut al n s => ∃ q,H p = some (.tup [.str (Dd.cut al n s).wd,.int n,.ref q]) ∧ SdAt H q s
  | .glue al n m => H p = some (.tup [.str (Dd.glue al n m).wd,.int n,.int m])
  | .shift al n k => H p = some (.tup [.str (Dd.shift al n k).wd,.int n,.int k])
  | .turn n => H p = some (.tup [.str "turn",.int n])
def Dd.Ok : Dd → Prop
  | .cut _ _ s => SY s
  | .shift _ _ k => 1 ≤ k ∧ Bd 64 k
  | _ => True
theorem DdAt.same {H H' : Hp} {p : Addr} {e : Dd} (h : DdAt H p e) (s : Same H H') : DdAt H' p e := by
  cases e with
  | cut al n t => obtain ⟨q,h1,h2⟩ := h; exact ⟨q,s _ _ h1,s _ _ h2⟩
  | glue al n m => exact s _ _ h
  | shift al n k => exact s _ _ h
  | turn n => exact s _ _ h
def Dd.two : Dd → Bool
  | .glue _ _ _ => true
  | _ => false
def Dd.new (b c : Bo) : Dd → List Bo
  | .cut false _ s => [⟨s,b.h⟩,⟨tkS b.w s,b.h⟩]
  | .cut true _ s => [⟨b.w,s⟩,⟨b.w,tkS b.h s⟩]
  | .glue false _ _ => [⟨adS b.w c.w,b.h⟩]
  | .glue true _ _ => [⟨b.w,adS b.h c.h⟩]
  | .shift false _ k => [⟨shS b.w 1 k,shS b.h k 1⟩]
  | .shift true _ k => [⟨shS b.w k 1,shS b.h 1 k⟩]
  | .turn _ => [⟨b.h,b.w⟩]
def Eu (d : Int) (w s : Sd) : Prop := SY w ∧ SY s ∧ 0 < sgn d s.x s.y ∧ 0 < sgn d (w.x * s.z - s.x * w.z) (w.y * s.z - s.y * w.z)
def Dd.Fit (d : Int) (b c : Bo) : Dd → Prop
  | .cut false _ s => Eu d b.w s
  | .cut true _ s => Eu d b.h s
  | .glue false _ _ => b.h = c.h ∧ SY b.w ∧ SY c.w
  | .glue true _ _ => b.w = c.w ∧ SY b.h ∧ SY c.h
  | .shift _ _ k => 1 ≤ k ∧ Bd 64 k ∧ SY b.w ∧ SY b.h
  | .turn _ => True
def Dd.isT : Dd → Bool
  | .turn _ => true
  | _ => false
def yA (ns : List Nat) : List Int → List Nat
  | [] => ns
  | m :: ms => yA (ns.filter fun n : Nat => decide ((n : Int) ≠ m)) ms
def CellsOf (cl : List Cell) (e : Dd) (c c' : Cell) : Prop := match e with
  | .glue _ n m => (∃ i : Nat,n = (i : Int) ∧ cl[i]? = some c) ∧ ∃ i : Nat,m = (i : Int) ∧ cl[i]? = some c'
  | e => (∃ i : Nat,e.n = (i : Int) ∧ cl[i]? = some c) ∧ c' = c
structure Yd where
  p : Addr
  dx : Addr
  k : Addr
  l : Addr
  t : Addr
def Yd.fs (y : Yd) (d : Int) (tn : Bool) : List (Str × V) := [("root",.int d),("turning",.bl tn),("known",.ref y.k),("lying",.ref y.l),("done",.ref y.t)]
def nmK (ns : List Nat) : List (Key × V) := ns.map fun n : Nat => ((.inl (n : Int) : Key),V.bl true)
structure YdAt (C : Addr) (H : Hp) (y : Yd) (d : Int) (tn : Bool) (cl : List Cell) (ns : List Nat) (lg : List V) : Prop where
  o : H y.p = some (.ins C y.dx (y.fs d tn))
  k : H y.k = some (.lst (cl.map Cell.v))
  l : H y.l = some (.dK (nmK ns))
  t : H y.t = some (.lst lg)
  kt : y.k ≠ y.t
  at' : ∀ c ∈ cl,c.At H
  up : ns.Pairwise (· < ·)
  lt : ∀ n ∈ ns,n < cl.length
  lc : cl.length ≤ 200
  ll : lg.length ≤ 100
theorem YdAt.same {C : Addr} {H H' : Hp} {y : Yd} {d : Int} {tn : Bool} {cl : List Cell} {ns : List Nat} {lg : List V} (h : YdAt C H y d tn cl ns lg) (s : Same H H') : YdAt C H' y d tn cl ns lg :=
  ⟨s _ _ h.o,s _ _ h.k,s _ _ h.l,s _ _ h.t,h.kt,fun c hc => (h.at' c hc).same s,h.up,h.lt,h.lc,h.ll⟩
theorem yx {X : Cx} {e : Expr} {ta : TE} {f : Str} {pos : Pos} {K : PySem.W.Frag} (hK : X.K = K) (he : PE X e ta) (hb : attributeBase e f X.env (eval e X.env) = eval e X.env) : PE X (.Attribute e f pos) (tFld K ta f) := by
  subst hK
  exact Ff he hb
theorem Gy {K : PySem.W.Frag} {ta : TE} {f : Str} {σ : L2.St} {H : Hp} {Q : VK} (h : ta σ H fun x H1 => ∃ a C dx fs v,x = .ref a ∧ H1 a = some (.ins C dx fs) ∧ Cls K C ∧ NoAttr K C f ∧ fs.lookup f = some v ∧ Q v H1) : tFld K ta f σ H Q := h
theorem EG {K : PySem.W.Frag} {ta tv : TE} {f : Str} {D : Ends} {σ : L2.St} {H : Hp} (h : tv σ H fun y H1 => ta σ H1 fun x H2 => ∃ a C dx fs,x = .ref a ∧ H2 a = some (.ins C dx fs) ∧ Cls K C ∧ NoAttr K C f ∧ fs.length < 1000 ∧ D.nx σ (upd H2 a (.ins C dx (putF f y fs)))) : sFld K ta tv f D σ H := h
local macro_rules | `(tactic| walk_at "rd") => `(tactic| first | with_reducible refine Gy ?_ | with_reducible refine EG ?_)
theorem uF {K : PySem.W.Frag} {f : Str} {D : Ends} {σ : L2.St} {H : Hp} {y : V} {a C dx : Addr} {fs : List (Str × V)} (e : H a = some (.ins C dx fs)) (c : Cls K C) (n : NoAttr K C f) (hl : fs.length < 1000) (q : ∀ H1,SameX a H H1 → H1 a = some (.ins C dx (putF f y fs)) → D.nx σ H1) : ∃ a' C dx fs,V.ref a = .ref a' ∧ H a' = some (.ins C dx fs) ∧ Cls K C ∧ NoAttr K C f ∧ fs.length < 1000 ∧ D.nx σ (upd H a' (.ins C dx (putF f y fs))) :=
  ⟨a,C,dx,fs,rfl,e,c,n,hl,q _ (fun b u q n => by rw [zv n]; exact q) zq⟩
theorem u4 {K : PySem.W.Frag} {H : Hp} {Q : VK} {p : Addr} {ys : List V} (h : H p = some (.lst ys)) (q : ∀ l H2,H l = none → Same H H2 → H2 l = some (.lst ys) → Q (.ref l) H2) : rLst K [.ref p] H Q := ⟨p,ys,rfl,.inl (SqL.of h),fun l hl => q l _ hl (zU hl _) zq⟩
theorem Eo {H : Hp} {Q : VK} {l : Addr} {ps : List Addr} {kvs : List (Key × V)} (e : H l = some (.lst (ps.map V.ref))) (hl : ps.length = kvs.length) (hp : ∀ (i : Nat) (p : Addr) (kv : Key × V),ps[i]? = some p → kvs[i]? = some kv → H p = some (.tup [kV kv.1,kv.2])) (hn : (kvs.map (·.1)).Nodup) (hz : kvs.length ≤ 1000) (q : ∀ p H2,H p = none → Same H H2 → H2 p = some (.dK kvs) → Q (.ref p) H2) : DE [.ref l] H Q :=
  ⟨l,ps,kvs,rfl,e,hl,hp,hn,Nat.le_trans hz (by decide +kernel),fun p h => q p _ h (zU h _) zq⟩
theorem Bp {ns : List Nat} (h : ns.Pairwise (· < ·)) : ((nmK ns).map (·.1)).Nodup := by
  rw [nmK,List.map_map]
  refine List.pairwise_map.mpr (h.imp fun {a b} hab e => ?_)
  have e : (a : Int) = b := Sum.inl.inj e
  omega
theorem SameX.of {l : Addr} {H H' : Hp} (s : Same H H') : SameX l H H' := fun b o e _ => s b o e
theorem yM {f : Str} {v : V} {fs : List (Str × V)} {n : Nat} (h : fs.length < n) : (putF f v fs).length < n + 1 := Nat.lt_of_le_of_lt (xq f v fs) (Nat.succ_lt_succ h)
theorem Ft {ty td : TE} {σ : L2.St} {H : Hp} {Q : VK} (h : ty σ H fun y H1 => td σ H1 fun x H2 => ∃ a o,x = .ref a ∧ DGet H2 a y o ∧ Q (.bl (!o.isSome)) H2) : BF ty td σ H Q := h
theorem FL {ty td : TE} {σ : L2.St} {H : Hp} {Q : VK} (h : td σ H fun x H1 => ty σ H1 fun y H2 => ∃ a v,x = .ref a ∧ DGet H2 a y (some v) ∧ Q v H2) : FF td ty σ H Q := h
theorem F6 {ty td tv : TE} {σ : L2.St} {H : Hp} {D : Ends} (h : tv σ H fun v H1 => td σ H1 fun x H2 => ty σ H2 fun y H3 => ∃ a H4,x = .ref a ∧ DPut H3 a y v H4 ∧ D.nx σ H4) : FJ td ty tv D σ H := h
local macro_rules | `(tactic| walk_at "rd") => `(tactic| first | with_reducible refine Ft ?_ | with_reducible refine FL ?_ | with_reducible refine F6 ?_)
theorem vY {n : Nat} : ∀ {ns : List Nat},n ∈ ns → valV (nmK ns) (.inl (n : Int)) = some (.bl true)
  | m :: ns,h => by
    by_cases e : m = n
    · subst e; exact xJ rfl
    · rw [nmK,List.map_cons,yz (fun c => e (Int.ofNat.inj (Sum.inl.inj c)))]
      exact vY (by simpa [Ne.symm e] using h)
def pick (cl : List Cell) (ns : List Nat) : List Cell := ns.filterMap fun n => cl[n]?
theorem AS {cl : List Cell} {ns : List Nat} {i n : Nat} {c : Cell} (hi : ns[i]? = some n) (hc : cl[n]? = some c) : pick cl (ns.take (i + 1)) = pick cl (ns.take i) ++ [c] := by
  rw [pick,List.take_succ,hi,List.filterMap_append]
  simp [pick,hc]
theorem tU {cl : List Cell} : ∀ {ns : List Nat},(pick cl ns).length ≤ ns.length
  | [] => Nat.le_refl _
  | n :: ns => by
    have := tU (cl := cl) (ns := ns)
    cases e : cl[n]? with
    | none => simp only [pick,List.filterMap_cons,e,List.length_cons]; exact Nat.le_succ_of_le this
    | some c => simp only [pick,List.filterMap_cons,e,List.length_cons]; exact Nat.succ_le_succ this
theorem DB {ns : List Nat} {k : Nat} (h : ns.Pairwise (· < ·)) (hk : ∀ n ∈ ns,n < k) : ns.length ≤ k := by
  have hn : ns.Nodup := h.imp fun hab => Nat.ne_of_lt hab
  have := (List.nodup_range (n := k))
  exact (List.length_range (n := k)) ▸ (List.Nodup.length_le_of_subset hn fun n h => List.mem_range.mpr (hk n h))
theorem E6 {C : Addr} {m : Str} {sp : Sp} {dvs : List V} {E : XK} {ta : TE} {t : TA} {σ : L2.St} {H : Hp} {Q : VK} (h : ta σ H fun x H1 => ∃ a dx fs,x = .ref a ∧ H1 a = some (.ins C dx fs) ∧ fs.lookup m = none ∧ t σ H1 fun vs H2 => sp (x :: (vs ++ dvs)) H2 Q E) : BJ C m sp dvs E ta t σ H Q := h
theorem EL {td ty : TE} {σ : L2.St} {H : Hp} {Q : VK} (h : td σ H fun x H1 => ∃ a,x = .ref a ∧ IsD H1 a ∧ ty σ H1 fun y H2 => ∃ kvs k v,H2 a = some (.dK kvs) ∧ y = kV k ∧ valV kvs k = some v ∧ Q v (upd H2 a (.dK (wY kvs k)))) : Dl td ty σ H Q := h
local macro_rules | `(tactic| walk_at "rd") => `(tactic| first | with_reducible refine E6 ?_ | with_reducible refine EL ?_)
theorem DdAt.tup {H : Hp} {p : Addr} {e : Dd} (h : DdAt H p e) : ∃ r,H p = some (.tup (.str e.wd :: .int e.n :: r)) := by
  cases e with
  | cut al n t => obtain ⟨q,h1,h2⟩ := h; exact ⟨_,h1⟩
  | glue al n m => exact ⟨_,h⟩
  | shift al n k => exact ⟨_,h⟩
  | turn n => exact ⟨_,h⟩
theorem Ek {e : Dd} (h : e.wd = Str.ofString "turn") : e.isT = true := by
  cases e with
  | cut al n t => cases al <;> exact absurd (show Str.ofString _ = Str.ofString "turn" from h) (by decide +kernel)
  | glue al n m => cases al <;> exact absurd (show Str.ofString _ = Str.ofString "turn" from h) (by decide +kernel)
  | shift al n k => cases al <;> exact absurd (show Str.ofString _ = Str.ofString "turn" from h) (by decide +kernel)
  | turn n => rfl
theorem Gz {p A B F : Prop} [Decidable p] (h : B) (k : p → B → A) : if decide p = true then A else if false = true then F else B := if_d (fun c => k c h) fun _ => if_f h
theorem Dd.names_len (e : Dd) : e.names.length ≤ 2 := by cases e <;> simp [Dd.names]
def Dd.cells (e : Dd) (c c' : Cell) : List Cell := if e.two then [c,c'] else [c]
theorem uV {cl : List Cell} {e : Dd} {c c' : Cell} (h : CellsOf cl e c c') {i : Nat} {m : Int} (hi : e.names[i]? = some m) : ∃ (n : Nat) (x : Cell),m = (n : Int) ∧ cl[n]? = some x ∧ (e.cells c c')[i]? = some x := by
  cases e with
  | glue al n k =>
    obtain ⟨⟨j,h1,h2⟩,j',h3,h4⟩ := h
    match i,hi with
    | 0,hi => injection hi with hi; exact ⟨j,c,hi ▸ h1,h2,rfl⟩
    | 1,hi => injection hi with hi; exact ⟨j',c',hi ▸ h3,h4,rfl⟩
    | i + 2,hi => exact nomatch hi
  | cut al n t =>
    obtain ⟨⟨j,h1,h2⟩,_⟩ := h
    match i,hi with
    | 0,hi => injection hi with hi; exact ⟨j,c,hi ▸ h1,h2,rfl⟩
    | i + 1,hi => exact nomatch hi
  | shift al n k =>
    obtain ⟨⟨j,h1,h2⟩,_⟩ := h
    match i,hi with
    | 0,hi => injection hi with hi; exact ⟨j,c,hi ▸ h1,h2,rfl⟩
    | i + 1,hi => exact nomatch hi
  | turn n =>
    obtain ⟨⟨j,h1,h2⟩,_⟩ := h
    match i,hi with
    | 0,hi => injection hi with hi; exact ⟨j,c,hi ▸ h1,h2,rfl⟩
    | i + 1,hi => exact nomatch hi
theorem CellsOf.mem {cl : List Cell} {e : Dd} {c c' : Cell} (h : CellsOf cl e c c') : c ∈ cl ∧ c' ∈ cl := by
  cases e with
  | glue al n k => obtain ⟨⟨j,h1,h2⟩,j',h3,h4⟩ := h; exact ⟨List.mem_of_getElem? h2,List.mem_of_getElem? h4⟩
  | cut al n t => obtain ⟨⟨j,h1,h2⟩,rfl⟩ := h; exact ⟨List.mem_of_getElem? h2,List.mem_of_getElem? h2⟩
  | shift al n k => obtain ⟨⟨j,h1,h2⟩,rfl⟩ := h; exact ⟨List.mem_of_getElem? h2,List.mem_of_getElem? h2⟩
  | turn n => obtain ⟨⟨j,h1,h2⟩,rfl⟩ := h; exact ⟨List.mem_of_getElem? h2,List.mem_of_getElem? h2⟩
theorem Dd.cells_len (e : Dd) (c c' : Cell) : (e.cells c c').length = e.names.length := by cases e <;> rfl
theorem xU {m : Int} : ∀ (ms : List Int) (ns : List Nat),yA ns (ms ++ [m]) = (yA ns ms).filter fun n : Nat => decide ((n : Int) ≠ m)
  | [],_ => rfl
  | _ :: ms,_ => xU ms _
theorem mem_ndrop {n : Nat} : ∀ {ms : List Int} {ns : List Nat},n ∈ yA ns ms ↔ n ∈ ns ∧ (n : Int) ∉ ms
  | [],ns => by simp [yA]
  | m :: ms,ns => by
    rw [yA,mem_ndrop,List.mem_filter]
    simp only [List.mem_cons,decide_eq_true_eq,not_or]
    constructor
    · rintro ⟨⟨a,b⟩,c⟩; exact ⟨a,b,c⟩
    · rintro ⟨a,b,c⟩; exact ⟨⟨a,b⟩,c⟩
theorem xD : ∀ {ms : List Int} {ns : List Nat},ns.Pairwise (· < ·) → (yA ns ms).Pairwise (· < ·)
  | [],_,h => h
  | m :: ms,ns,h => show (yA (ns.filter fun n : Nat => decide ((n : Int) ≠ m)) ms).Pairwise (· < ·) from xD (h.filter _)
theorem uA {n : Nat} : ∀ ns : List Nat,wY (nmK ns) (.inl (n : Int)) = nmK (ns.filter fun k : Nat => decide ((k : Int) ≠ (n : Int)))
  | [] => rfl
  | k :: ns => by
    have ih := uA (n := n) ns
    simp only [wY,nmK] at ih ⊢
    by_cases c : (k : Int) = n
    · simp only [List.map_cons,List.filter_cons,c,ne_eq,not_true_eq_false,decide_false,ih]
      rfl
    · simp only [List.map_cons,List.filter_cons,ne_eq,Sum.inl.injEq,c,not_false_eq_true,decide_true,ih]
      rfl
theorem vn {k : Nat} : ∀ {ns : List Nat},(∀ n ∈ ns,n < k) → valV (nmK ns) (.inl (k : Int)) = none
  | [],_ => rfl
  | m :: ns,h => by
    rw [nmK,List.map_cons,yz (fun c => absurd (Int.ofNat.inj (Sum.inl.inj c)) (Nat.ne_of_lt (h m List.mem_cons_self)))]
    exact vn fun n hn => h n (List.mem_cons_of_mem _ hn)
theorem vv (e : Dd) (b c : Bo) : (e.new b c).length ≤ 2 := by
  cases e with
  | cut al n t => cases al <;> exact Nat.le_refl _
  | glue al n m => cases al <;> exact Nat.le_succ _
  | shift al n k => cases al <;> exact Nat.le_succ _
  | turn n => exact Nat.le_succ _
theorem Same.nn {H H' : Hp} (s : Same H H') {a : Addr} (h : H' a = none) : H a = none := by
  cases e : H a with
  | none => rfl
  | some o => rw [s _ _ e] at h; cases h
theorem zE {H : Hp} {Q : VK} {xs : List V} (hl : xs.length ≤ 1000) (h : ∀ p H2,H p = none → Same H H2 → H2 p = some (.tup xs) → Q (.ref p) H2) : NewT xs H Q :=
  ⟨En hl,fun p hp => h p _ hp (zU hp _) zq⟩
def plS (s t : Sd) (g : Int) : Sd := ⟨lA (s.x * t.z + g * t.x * s.z) (s.y * t.z + g * t.y * s.z) (s.z * t.z),lB (s.x * t.z + g * t.x * s.z) (s.y * t.z + g * t.y * s.z) (s.z * t.z),lN (s.x * t.z + g * t.x * s.z) (s.y * t.z + g * t.y * s.z) (s.z * t.z)⟩
theorem tu (s t : Sd) : plS s t (-1) = tkS s t := by unfold plS tkS; rw [show (-1 : Int) * t.x = -t.x by omega,show (-1 : Int) * t.y = -t.y by omega]
theorem A3 (s t : Sd) : plS s t 1 = adS s t := by unfold plS adS; rw [Int.one_mul,Int.one_mul]
structure Dw (d : Int) (s : Sd) : Prop where
  z1 : 1 ≤ s.z
  g : g3 s.x s.y s.z = 1
  up : sgn d s.x s.y = 1
  bx : Bd 40 s.x
  by' : Bd 40 s.y
  bz : Bd 20 s.z
theorem Dw.low {d a b n : Int} (hR : Rt d) (ba : Bd 40 a) (bb : Bd 40 b) (h1 : 1 ≤ n) (h2 : n ≤ 1000000) (up : sgn d a b = 1) : Dw d ⟨lA a b n,lB a b n,lN a b n⟩ :=
  ⟨l_n (by omega),A9 (by omega),(yp hR h1).trans up,ba.fdiv _,bb.fdiv _,(zY (k := 20) (by omega) h2 (by decide)).fdiv _⟩
def pz : List Sd → Int
  | [] => 1
  | s :: l => s.z * pz l
theorem Dt {d : Int} : ∀ {l : List Sd},(∀ s ∈ l,Dw d s) → 1 ≤ pz l
  | [],_ => Int.le_refl _
  | s :: l,h => Int.mul_pos (by have := (h s List.mem_cons_self).z1; omega) (by have := Dt (l := l) fun t ht => h t (List.mem_cons_of_mem _ ht); omega)
theorem Er {d : Int} : ∀ {l : List Sd},(∀ s ∈ l,Dw d s) → Bd (20 * l.length + 1) (pz l)
  | [],_ => by decide
  | s :: l,h => Bd.mono ((h s List.mem_cons_self).bz.mul (Er (l := l) fun t ht => h t (List.mem_cons_of_mem _ ht))) (by simp only [List.length_cons]; omega)
theorem FX {d : Int} : ∀ {l : List Sd},(∀ s ∈ l,Dw d s) → ∀ s ∈ l,So d (pz l) (20 * l.length + 41) s
  | [],_,s,hs => absurd hs (by simp)
  | t :: l,h,s,hs => by
    have hl : ∀ s ∈ l,Dw d s := fun t ht => h t (List.mem_cons_of_mem _ ht)
    rcases List.mem_cons.mp hs with rfl | hs
    · have o := h s List.mem_cons_self
      have : So d s.z 40 s := ⟨o.z1,o.g,o.up,s.x,s.y,o.bx,o.by',rfl,rfl⟩
      exact (this.scale (Er hl)).mono (by simp only [List.length_cons]; omega)
    · have := (FX hl s hs).scale (h t List.mem_cons_self).bz
      rw [Int.mul_comm] at this
      exact this.mono (by simp only [List.length_cons]; omega)
abbrev PL := List (Addr × Sd)
structure Pl (H : Hp) (q : Addr) (P : List (Addr × Sd)) : Prop where
  l : H q = some (.lst (P.map fun x => V.ref x.1))
  at' : ∀ x ∈ P,SdAt H x.1 x.2
  n : P.length = 3
theorem Pl.same {H H' : Hp} {q : Addr} {P : List (Addr × Sd)} (h : Pl H q P) (s : Same H H') : Pl H' q P := ⟨s _ _ h.l,fun x hx => s _ _ (h.at' x hx),h.n⟩
theorem Pl.get {H : Hp} {q : Addr} {P : List (Addr × Sd)} (h : Pl H q P) {i : Int} (h0 : 0 ≤ i) (h1 : i < 3) : ∃ x ∈ P,atI (P.map fun x => V.ref x.1) i = some (.ref x.1) ∧ SdAt H x.1 x.2 := by
  have hn := h.n
  obtain ⟨j,rfl⟩ : ∃ j : Nat,i = (j : Int) := ⟨i.toNat,by omega⟩
  have hj : j < P.length := by omega
  refine ⟨P[j],List.getElem_mem hj,zL (by rw [List.getElem?_map,List.getElem?_eq_getElem hj]; rfl),h.at' _ (List.getElem_mem hj)⟩
def cdK (ns : List Nat) (f : Nat → Cell) : List (Key × V) := ns.map fun n : Nat => ((.inl (n : Int) : Key),(f n).v)
structure Ly (H : Hp) (a : Addr) (ns : List Nat) (f : Nat → Cell) : Prop where
  l : H a = some (.dK (cdK ns f))
  at' : ∀ n ∈ ns,(f n).At H
theorem Ly.same {H H' : Hp} {a : Addr} {ns : List Nat} {f : Nat → Cell} (h : Ly H a ns f) (s : Same H H') : Ly H' a ns f := ⟨s _ _ h.l,fun n hn => (h.at' n hn).same s⟩
theorem z7 {n : Nat} {f : Nat → Cell} : ∀ {ns : List Nat},n ∈ ns → valV (cdK ns f) (.inl (n : Int)) = some (f n).v
  | m :: ns,h => by
    by_cases e : m = n
    · subst e; exact xJ rfl
    · rw [cdK,List.map_cons,yz (fun c => e (Int.ofNat.inj (Sum.inl.inj c)))]
      exact z7 (by simpa [Ne.symm e] using h)
theorem xu {k : Nat} {f : Nat → Cell} : ∀ {ns : List Nat},(∀ n ∈ ns,n < k) → valV (cdK ns f) (.inl (k : Int)) = none
  | [],_ => rfl
  | m :: ns,h => by
    rw [cdK,List.map_cons,yz (fun c => absurd (Int.ofNat.inj (Sum.inl.inj c)) (Nat.ne_of_lt (h m List.mem_cons_self)))]
    exact xu fun n hn => h n (List.mem_cons_of_mem _ hn)
theorem uf {n : Nat} {f : Nat → Cell} : ∀ ns : List Nat,wY (cdK ns f) (.inl (n : Int)) = cdK (ns.filter fun k : Nat => decide ((k : Int) ≠ (n : Int))) f
  | [] => rfl
  | k :: ns => by
    have ih := uf (n := n) (f := f) ns
    simp only [wY,cdK] at ih ⊢
    by_cases c : (k : Int) = n
    · simp only [List.map_cons,List.filter_cons,c,ne_eq,not_true_eq_false,decide_false,ih]
      rfl
    · simp only [List.map_cons,List.filter_cons,ne_eq,Sum.inl.injEq,c,not_false_eq_true,decide_true,ih]
      rfl
theorem Cl {ns : List Nat} {f : Nat → Cell} : (cdK ns f).map (·.1) = (ns.map fun n : Nat => (n : Int)).map Sum.inl := by
  simp only [cdK,List.map_map]
  rfl
theorem wC {ns : List Nat} {f : Nat → Cell} : (cdK ns f).length = ns.length := by simp [cdK]
theorem ER {ns : List Nat} (h : ns.Pairwise (· < ·)) : (ns.map fun n : Nat => (n : Int)).Pairwise (· < ·) :=
  List.pairwise_map.mpr (h.imp fun {a b} hab => Int.ofNat_lt.mpr hab)
theorem u9 {H : Hp} {Q : VK} {a : Addr} {ns : List Nat} {f : Nat → Cell} (h : H a = some (.dK (cdK ns f))) (up : ns.Pairwise (· < ·)) (hl : ns.length < 64) (q : ∀ p H2,H p = none → Same H H2 → H2 p = some (.lst ((ns.map fun n : Nat => (n : Int)).map V.int)) → Q (.ref p) H2) : DH [.ref a] H Q :=
  ⟨a,_,_,rfl,h,Cl,ER up,by rw [wC]; exact hl,fun p hp => q p _ hp (zU hp _) zq⟩
theorem vy {H : Hp} {Q : VK} {a : Addr} {kvs : List (Key × V)} (h : H a = some (.dK kvs)) (q : ∀ p H2,H p = none → Same H H2 → H2 p = some (.dK kvs) → Q (.ref p) H2) : Dn [.ref a] H Q :=
  ⟨a,_,rfl,h,fun p hp => q p _ hp (zU hp _) zq⟩
def rNeL (X : Cx) : R2 := fun x y H Q => ∃ a b xs ys bs n,x = .ref a ∧ y = .ref b ∧ n ≤ 9 ∧ SqL X.K H a xs ∧ SqL X.K H b ys ∧ EqVs X n H xs ys bs ∧ Q (.bl (!(bs.all id))) H
theorem vp {X : Cx} (hu : X.A.units + 64 < cLine) : OpR X (compareOp .NotEq) (rNeL X) := by
  intro pins s σ H x y v u Q I rx ry h
  obtain ⟨a,b,xs,ys,bs,n,rfl,rfl,hn,ha,hb,he,q⟩ := h
  cases rx
  cases ry
  obtain ⟨is,js,p1,p2,hz,hj,e⟩ := Dx (A := X.A) ha hb he I (by omega)
  refine SeqAt.RcNeAt.lists p1 p2 hz (by omega) hj X.prog X.w X.xe _ ?_
  rw [e]
  exact ⟨.bl _,H,I,rfl,q⟩
theorem ut {X : Cx} {H : Hp} {Q : VK} {a b : Addr} {C D : List Cell} (ha : H a = some (.lst (C.map Cell.v))) (hb : H b = some (.lst (D.map Cell.v))) (hC : ∀ c ∈ C,c.At H) (hD : ∀ c ∈ D,c.At H) (e : C.map Cell.b = D.map Cell.b) (q : Q (.bl false) H) : rNeL X (.ref a) (.ref b) H Q := by
  obtain ⟨a',b',xs,ys,bs,n,e1,e2,hn,h1,h2,h3,h4⟩ := FW (X := X) (Q := fun v H' => v = .bl true ∧ H' = H) ha hb hC hD e ⟨rfl,rfl⟩
  refine ⟨a',b',xs,ys,bs,n,e1,e2,hn,h1,h2,h3,?_⟩
  have h5 : bs.all id = true := by
    have := h4.1
    injection this
  rw [h5]
  exact q
def rNeE (K : PySem.W.Frag) : R2 := fun x y H Q => ∃ a b xs,x = .ref a ∧ y = .ref b ∧ SqL K H a xs ∧ SqL K H b [] ∧ Q (.bl (!xs.isEmpty)) H
theorem EV {X : Cx} (hu : X.A.units + 64 < cLine) : OpR X (compareOp .NotEq) (rNeE X.K) := by
  intro pins s σ H x y v u Q I rx ry h
  obtain ⟨a,b,xs,rfl,rfl,ha,hb,q⟩ := h
  cases rx
  cases ry
  obtain ⟨is,r1,p1,_⟩ := I.list ha
  obtain ⟨js,r2,p2,_⟩ := I.list hb
  have l1 := r1.length
  have l2 := r2.length
  have j0 : js = [] := List.length_eq_zero_iff.mp l2.symm
  subst j0
  cases xs with
  | nil =>
    have i0 : is = [] := List.length_eq_zero_iff.mp l1.symm
    subst i0
    exact SeqAt.RcNeAt.lists (e := fun _ => true) p1.isList p2.isList rfl (by omega) (fun j h1 h2 => absurd h1 (by simp)) X.prog X.w X.xe _ ⟨.bl false,H,I,rfl,q⟩
  | cons z zs =>
    refine SeqAt.RcNeAt.lists_lengths p1.isList p2.isList ?_ (by omega) X.prog X.w X.xe _ ⟨.bl true,H,I,rfl,q⟩
    cases is with
    | nil => simp at l1
    | cons i is => simp
def rEq3 (K : PySem.W.Frag) : R2 := fun u v H Q => ∃ (a b : Addr) (x y z x' y' z' : Int),u = .ref a ∧ v = .ref b ∧ SqT K H a [.int x,.int y,.int z] ∧ SqT K H b [.int x',.int y',.int z'] ∧ Q (.bl (decide (x = x' ∧ y = y' ∧ z = z'))) H
theorem F3 {X : Cx} {K : PySem.W.Frag} (hu : X.A.units + 64 < cLine) (hK : X.K = K) : OpR X (compareOp .Eq) (rEq3 K) := by
  subst hK
  intro pins s σ H x y v u Q I rx ry h
  obtain ⟨a,b,x1,y1,z1,x2,y2,z2,rfl,rfl,ha,hb,q⟩ := h
  exact Dp hu pins s σ H _ _ v u Q I rx ry (Fj ha hb q)
theorem GC {d : Int} {s t : Sd} (hR : Rt d) (z1 : 1 ≤ s.z) (z2 : 1 ≤ t.z) (h : sgn d (tkS t s).x (tkS t s).y < 0) : sgn d (tkS s t).x (tkS s t).y = 1 := by
  refine F9 hR z1 z2 ?_
  have hn1 : 1 ≤ t.z * s.z := Int.mul_pos (by omega) (by omega)
  have e : sgn d (tkS t s).x (tkS t s).y = sgn d (-(s.x * t.z - t.x * s.z)) (-(s.y * t.z - t.y * s.z)) := by
    refine (yp hR hn1).trans ?_
    rw [show t.x * s.z + -s.x * t.z = -(s.x * t.z - t.x * s.z) by grind,show t.y * s.z + -s.y * t.z = -(s.y * t.z - t.y * s.z) by grind]
  rw [e,wF hR] at h
  omega
structure Dd.Good (d D : Int) (M : Nat) (ns : List Nat) (f : Nat → Cell) (e : Dd) (n m : Nat) : Prop where
  nm : e.names = if e.two then [(n : Int),(m : Int)] else [(n : Int)]
  hn : n ∈ ns
  hm : m ∈ ns
  ne : e.two = true → n ≠ m
  eq : e.two = false → m = n
  ok : e.Ok
  fit : e.Fit d (f n).b (f m).b
  new : ∃ k,1 ≤ k ∧ Bd 30 k ∧ ∀ x ∈ e.new (f n).b (f m).b,BoD d (D * k) (M + 32) x
theorem Dd.Good.en {d D : Int} {M : Nat} {ns : List Nat} {f : Nat → Cell} {e : Dd} {n m : Nat} (h : e.Good d D M ns f n m) : e.n = (n : Int) := by
  have := h.nm
  cases e <;> simp [Dd.names,Dd.two,Dd.n] at this ⊢
  · exact this
  · exact this.1
  · exact this
  · exact this
theorem BoD.up {d D k : Int} {M j : Nat} {b : Bo} (h : BoD d D M b) (bk : Bd j k) : BoD d (D * k) (M + j) b := ⟨h.1.scale bk,h.2.scale bk⟩
theorem BoD.mono {d D : Int} {M M' : Nat} {b : Bo} (h : BoD d D M b) (l : M ≤ M') : BoD d D M' b := ⟨h.1.mono l,h.2.mono l⟩
structure Sz (D : Int) (K' M : Nat) : Prop where
  d1 : 1 ≤ D
  bd : Bd K' D
  k : K' ≤ 2050
  m : M ≤ 2300
theorem Sz.sy {d D : Int} {K' M : Nat} {s : Sd} (z : Sz D K' M) (h : So d D M s) : SY s := (h.sk z.d1 z.bd).mono (by have := z.m; omega) (by have := z.k; omega)
theorem Ai {d D k : Int} {K' M : Nat} {ns : List Nat} {f : Nat → Cell} {n : Nat} {al : Bool} {s : Sd} (hR : Rt d) (z : Sz D K' M) (hn : n ∈ ns) (hb : BoD d D M (f n).b) (k1 : 1 ≤ k) (bk : Bd 10 k) (hs : So d (D * k) (M + 10) s)
    (up : sgn d (tkS (if al then (f n).b.h else (f n).b.w) s).x (tkS (if al then (f n).b.h else (f n).b.w) s).y = 1) : (Dd.cut al n s).Good d D M ns f n n := by
  have kD : 1 ≤ D * k := Int.mul_pos (by have := z.d1; omega) (by omega)
  have bD : Bd (K' + 10) (D * k) := z.bd.mul bk
  have ss : SY s := (hs.sk kD bD).mono (by have := z.m; omega) (by have := z.k; omega)
  have hb' := hb.up bk
  have key : ∀ w : Sd,So d D M w → sgn d (tkS w s).x (tkS w s).y = 1 → Eu d w s ∧ So d (D * k) (M + 32) (tkS w s) := fun w hw u => by
    have hn1 : 1 ≤ w.z * s.z := Int.mul_pos (by have := hw.z1; omega) (by have := hs.z1; omega)
    refine ⟨⟨z.sy hw,ss,by rw [hs.up]; decide,?_⟩,(GB hR (hw.scale bk) hs u).mono (by omega)⟩
    have e : sgn d (tkS w s).x (tkS w s).y = sgn d (w.x * s.z - s.x * w.z) (w.y * s.z - s.y * w.z) := by
      refine (yp hR hn1).trans ?_
      rw [show w.x * s.z + -s.x * w.z = w.x * s.z - s.x * w.z by grind,show w.y * s.z + -s.y * w.z = w.y * s.z - s.y * w.z by grind]
    rw [← e,u]
    decide
  have hs' := hs.mono (M' := M + 32) (by omega)
  have ow := hb'.1.mono (M' := M + 32) (by omega)
  have oh := hb'.2.mono (M' := M + 32) (by omega)
  cases al with
  | false =>
    obtain ⟨c1,c2⟩ := key (f n).b.w hb.1 up
    refine ⟨rfl,hn,hn,(fun h => nomatch h),fun _ => rfl,ss,c1,k,k1,bk.mono (by decide),fun x hx => ?_⟩
    rcases List.mem_cons.mp hx with rfl | hx
    · exact ⟨hs',oh⟩
    · rw [List.mem_singleton.mp hx]; exact ⟨c2,oh⟩
  | true =>
    obtain ⟨c1,c2⟩ := key (f n).b.h hb.2 up
    refine ⟨rfl,hn,hn,(fun h => nomatch h),fun _ => rfl,ss,c1,k,k1,bk.mono (by decide),fun x hx => ?_⟩
    rcases List.mem_cons.mp hx with rfl | hx
    · exact ⟨ow,hs'⟩
    · rw [List.mem_singleton.mp hx]; exact ⟨ow,c2⟩
theorem uk {d D : Int} {K' M : Nat} {ns : List Nat} {f : Nat → Cell} {n m : Nat} {al : Bool} (hR : Rt d) (z : Sz D K' M) (hn : n ∈ ns) (hm : m ∈ ns) (nm : n ≠ m) (hb : BoD d D M (f n).b) (hb' : BoD d D M (f m).b)
    (e : (if al then (f n).b.w else (f n).b.h) = (if al then (f m).b.w else (f m).b.h)) : (Dd.glue al n m).Good d D M ns f n m := by
  cases al with
  | false =>
    refine ⟨rfl,hn,hm,fun _ => nm,(fun h => nomatch h),trivial,⟨e,z.sy hb.1,z.sy hb'.1⟩,1,by decide,by decide,fun x hx => ?_⟩
    rw [List.mem_singleton.mp hx,Int.mul_one]
    exact ⟨(F2 hR hb.1 hb'.1).mono (by omega),hb.2.mono (by omega)⟩
  | true =>
    refine ⟨rfl,hn,hm,fun _ => nm,(fun h => nomatch h),trivial,⟨e,z.sy hb.2,z.sy hb'.2⟩,1,by decide,by decide,fun x hx => ?_⟩
    rw [List.mem_singleton.mp hx,Int.mul_one]
    exact ⟨hb.1.mono (by omega),(F2 hR hb.2 hb'.2).mono (by omega)⟩
theorem AF {d D k : Int} {K' M : Nat} {ns : List Nat} {f : Nat → Cell} {n : Nat} {al : Bool} (hR : Rt d) (z : Sz D K' M) (hn : n ∈ ns) (hb : BoD d D M (f n).b) (k1 : 1 ≤ k) (bk : Bd 14 k) : (Dd.shift al n k).Good d D M ns f n n := by
  have o1 : ∀ s : Sd,So d D M s → So d (D * k) (M + 32) (shS s 1 k) := fun s hs => (D2 (j := 1) hR hs (by decide) k1 (by decide)).mono (by omega)
  have o2 : ∀ s : Sd,So d D M s → So d (D * k) (M + 32) (shS s k 1) := fun s hs => by
    have := D2 (j := 14) hR hs k1 (show (1 : Int) ≤ 1 by decide) bk
    rw [Int.mul_one] at this
    exact (this.scale bk).mono (by omega)
  have b64 : Bd 64 k := bk.mono (by decide)
  cases al with
  | false =>
    refine ⟨rfl,hn,hn,(fun h => nomatch h),fun _ => rfl,⟨k1,b64⟩,⟨k1,b64,z.sy hb.1,z.sy hb.2⟩,k,k1,bk.mono (by decide),fun x hx => ?_⟩
    rw [List.mem_singleton.mp hx]
    exact ⟨o1 _ hb.1,o2 _ hb.2⟩
  | true =>
    refine ⟨rfl,hn,hn,(fun h => nomatch h),fun _ => rfl,⟨k1,b64⟩,⟨k1,b64,z.sy hb.1,z.sy hb.2⟩,k,k1,bk.mono (by decide),fun x hx => ?_⟩
    rw [List.mem_singleton.mp hx]
    exact ⟨o2 _ hb.1,o1 _ hb.2⟩
theorem BY {d D : Int} {M : Nat} {ns : List Nat} {f : Nat → Cell} {n : Nat} (hn : n ∈ ns) (hb : BoD d D M (f n).b) : (Dd.turn n).Good d D M ns f n n := by
  refine ⟨rfl,hn,hn,(fun h => nomatch h),fun _ => rfl,trivial,trivial,1,by decide,by decide,fun x hx => ?_⟩
  rw [List.mem_singleton.mp hx,Int.mul_one]
  exact ⟨hb.2.mono (by omega),hb.1.mono (by omega)⟩
def fL (L : List Cell) (n : Nat) : Cell := L[n]?.getD ⟨0,0,0,⟨⟨0,0,1⟩,⟨0,0,1⟩⟩⟩
theorem xA {L : List Cell} {n : Nat} {c : Cell} (h : L[n]? = some c) : fL L n = c := by unfold fL; rw [h]; rfl
theorem Dd.Good.nodup {d D : Int} {M : Nat} {ns : List Nat} {f : Nat → Cell} {e : Dd} {n m : Nat} (h : e.Good d D M ns f n m) : e.names.Nodup := by
  rw [h.nm]
  cases ht : e.two with
  | true =>
    rw [if_pos rfl]
    have := h.ne ht
    simp
    omega
  | false =>
    rw [if_neg (by decide)]
    simp
theorem B9 {d D : Int} {M : Nat} {ns : List Nat} {f : Nat → Cell} {e : Dd} {n m : Nat} (h : e.Good d D M ns f n m) {i : Nat} {z : Int} (hi : e.names[i]? = some z) : ∃ j ∈ ns,z = (j : Int) ∧ (e.cells (f n) (f m))[i]? = some (f j) := by
  rw [h.nm] at hi
  unfold Dd.cells
  cases ht : e.two with
  | true =>
    rw [ht,if_pos rfl] at hi
    rw [if_pos rfl]
    match i,hi with
    | 0,hi => injection hi with hi; exact ⟨n,h.hn,hi.symm,rfl⟩
    | 1,hi => injection hi with hi; exact ⟨m,h.hm,hi.symm,rfl⟩
    | i + 2,hi => exact nomatch hi
  | false =>
    rw [ht,if_neg (by decide)] at hi
    rw [if_neg (by decide)]
    match i,hi with
    | 0,hi => injection hi with hi; exact ⟨n,h.hn,hi.symm,rfl⟩
    | i + 1,hi => exact nomatch hi
theorem CI {cl : List Cell} {ns : List Nat} {c : Cell} (h : c ∈ pick cl ns) : c ∈ cl := by
  obtain ⟨n,_,hn⟩ := List.mem_filterMap.mp h
  exact List.mem_of_getElem? hn
def fN (f : Nat → Cell) (k : Nat) (N : List Cell) (j : Nat) : Cell := if j < k then f j else fL N (j - k)
theorem CZ {f : Nat → Cell} {k : Nat} {N : List Cell} {j : Nat} (h : j < k) : fN f k N j = f j := if_pos h
theorem Cm {f : Nat → Cell} {k : Nat} {N : List Cell} {i : Nat} : fN f k N (k + i) = fL N i := by unfold fN; rw [if_neg (by omega),Nat.add_sub_cancel_left]
theorem A5 {ns : List Nat} {f g : Nat → Cell} (h : ∀ n ∈ ns,f n = g n) : cdK ns f = cdK ns g := List.map_congr_left fun n hn => by rw [h n hn]
theorem tP {ns : List Nat} {f : Nat → Cell} {j : Nat} : cdK (ns ++ [j]) f = cdK ns f ++ [(.inl (j : Int),(f j).v)] := by simp [cdK]
theorem wJ {K : PySem.W.Frag} {H : Hp} {Q : VK} {p : Addr} {x : V} {ys : List V} {b : Bool} (e : H p = some (.tup ys)) (hx : xz x = true) (hy : ys.all xz = true) (hb : inV x ys = b) (q : Q (.bl b) H) : rIn K false x (.ref p) H Q := by
  subst hb
  exact GJ e hx hy q
theorem Fn {C : Addr} {sp : Sp} {dvs : List V} {E : XK} {t : TA} {σ : L2.St} {H : Hp} {Q : VK} (h : t σ H fun vs H1 => ∀ x dx,H1 x = none → H1 dx = none → dx ≠ x → sp (.ref x :: (vs ++ dvs)) (upd (upd H1 dx (.own x)) x (.ins C dx [])) (fun v H2 => v = .non ∧ Q (.ref x) H2) E) : D3 C sp dvs E t σ H Q := h
structure Apart (y0 y : Yd) (lo : Addr) : Prop where
  kk : y0.k ≠ y.k
  kt : y0.k ≠ y.t
  ll : y0.l ≠ y.l
  tk : y0.t ≠ y.k
  tt : y0.t ≠ y.t
  ko : y0.k ≠ lo
  to : y0.t ≠ lo
theorem Ef {K : PySem.W.Frag} {H : Hp} {Q : VK} {a : Addr} {ns : List Int} {i j : Nat} (hS : SqL K H a (ns.map V.int)) (q : ∀ (p : Addr) (H2 : Hp),H p = none → Same H H2 → H2 p = some (.lst (((ns.drop i).take (j - i)).map V.int)) → Q (.ref p) H2) : rSlL K (.ref a) (some (i : Int)) (some (j : Int)) H Q := by
  obtain ⟨a',xs,e1,h1,h2⟩ := Fy (i := i) (j := j) (Q := fun v H2 => ∃ p,v = .ref p ∧ Same H H2 ∧ H2 p = some (.lst (((ns.drop i).take (j - i)).map V.int))) hS (fun p H2 s e => ⟨p,rfl,s,e⟩)
  refine ⟨a',xs,e1,h1,fun p hp => ?_⟩
  obtain ⟨p',e,s,z⟩ := h2 p hp
  injection e with e
  subst e
  exact q _ _ hp s z
theorem Fw (e : Dd) (b c : Bo) : 1 ≤ (e.new b c).length := by
  cases e with
  | cut al n t => cases al <;> exact Nat.le_succ _
  | glue al n m => cases al <;> exact Nat.le_refl _
  | shift al n k => cases al <;> exact Nat.le_refl _
  | turn n => exact Nat.le_refl _
theorem CJ {ns : List Nat} {ms : List Int} {n : Nat} (up : ns.Pairwise (· < ·)) (hn : n ∈ ns) (hm : (n : Int) ∈ ms) : (yA ns ms).length + 1 ≤ ns.length := by
  have nd : (n :: yA ns ms).Nodup := List.nodup_cons.mpr ⟨fun h => (mem_ndrop.mp h).2 hm,(xD up).imp fun hab => Nat.ne_of_lt hab⟩
  exact List.Nodup.length_le_of_subset nd fun k hk => by
    rcases List.mem_cons.mp hk with rfl | hk
    · exact hn
    · exact (mem_ndrop.mp hk).1
def CutC (d : Int) (w s : Sd) : Prop := 0 < sgn d s.x s.y ∧ 0 < sgn d (w.x * s.z - s.x * w.z) (w.y * s.z - s.y * w.z)
def Dd.Bnd (b c : Bo) : Dd → Prop
  | .cut false _ s => SY b.w ∧ SY s
  | .cut true _ s => SY b.h ∧ SY s
  | .glue false _ _ => SY b.w ∧ SY c.w
  | .glue true _ _ => SY b.h ∧ SY c.h
  | .shift _ _ k => 1 ≤ k ∧ Bd 64 k ∧ SY b.w ∧ SY b.h
  | .turn _ => True
def Dd.Cond (d : Int) (b c : Bo) : Dd → Prop
  | .cut false _ s => CutC d b.w s
  | .cut true _ s => CutC d b.h s
  | .glue false _ _ => b.h = c.h
  | .glue true _ _ => b.w = c.w
  | _ => True
theorem EH {d : Int} {b c : Bo} {e : Dd} (h : e.Fit d b c) : e.Bnd b c ∧ e.Cond d b c := by
  cases e with
  | cut al n s => cases al <;> exact ⟨⟨h.1,h.2.1⟩,h.2.2⟩
  | glue al n m => cases al <;> exact ⟨⟨h.2.1,h.2.2⟩,h.1⟩
  | shift al n k => exact ⟨h,trivial⟩
  | turn n => exact ⟨trivial,trivial⟩
theorem Fx {e : Dd} (h : e.isT = true) : e.wd = Str.ofString "turn" := by
  cases e with
  | turn n => rfl
  | _ => exact nomatch h
theorem DJ {C : Addr} {m : Str} {sp : Sp} {dvs : List V} {EE : L2.St → XK} {ta : TE} {t : TA} {σ : L2.St} {H : Hp} {Q : VK} (h : ta σ H fun x H1 => ∃ a dx fs,x = .ref a ∧ H1 a = some (.ins C dx fs) ∧ fs.lookup m = none ∧ t σ H1 fun vs H2 => sp (.ref a :: (vs ++ dvs)) H2 Q (EE σ)) : Fh C m sp dvs EE ta t σ H Q := h
local macro_rules | `(tactic| walk_at "rd") => `(tactic| with_reducible refine DJ ?_)
theorem EqV.same {X : Cx} {n : Nat} {H : Hp} {p : Addr} : EqV X n H (.ref p) (.ref p) true := fun _ _ _ _ _ _ _ rv ru _ => by
  cases rv
  cases ru
  exact SeqAt.EqAt.same _
theorem DdAt.sameX {H H' : Hp} {p l : Addr} {e : Dd} {xs : List V} (h : DdAt H p e) (s : SameX l H H') (e0 : H l = some (.lst xs)) : DdAt H' p e := by
  cases e with
  | cut al n t => obtain ⟨q,h1,h2⟩ := h; exact ⟨q,s.tup h1 e0,s.tup h2 e0⟩
  | glue al n m => exact s.tup h e0
  | shift al n k => exact s.tup h e0
  | turn n => exact s.tup h e0
theorem Ae {ns : List Nat} {i : Int} (h : ns ≠ []) : ∃ n ∈ ns,atI ((ns.map fun n : Nat => (n : Int)).map V.int) (i % ((((ns.map fun n : Nat => (n : Int)).map V.int).length : Nat) : Int)) = some (.int (n : Int)) := by
  have hp : 0 < ns.length := List.length_pos_iff.mpr h
  have e : ((((ns.map fun n : Nat => (n : Int)).map V.int).length : Nat) : Int) = (ns.length : Int) := by simp
  rw [e]
  have h0 := Int.emod_nonneg i (show (ns.length : Int) ≠ 0 by omega)
  have h1 := Int.emod_lt_of_pos i (show (0 : Int) < ns.length by omega)
  obtain ⟨x,hx,g⟩ := uq (xs := ns.map fun n : Nat => (n : Int)) (i := i % (ns.length : Int)) h0 (by rw [List.length_map]; exact h1)
  obtain ⟨n,hn,rfl⟩ := List.mem_map.mp hx
  exact ⟨n,hn,g⟩
theorem Ac {K : PySem.W.Frag} {H : Hp} {Q : VK} {a : Addr} {xs : List V} {i : Nat} (h : H a = some (.lst xs)) (q : ∀ (p : Addr) (H2 : Hp),Same H H2 → H2 p = some (.lst (xs.drop i)) → Q (.ref p) H2) : rSlL K (.ref a) (some (i : Int)) none H Q := by
  refine ⟨a,_,rfl,SqL.of h,fun p hp => ?_⟩
  refine q p _ (zU hp _) ?_
  rw [zq]
  unfold cutV
  rw [HT.sIx_nat,HT.sIx_none]
  congr 2
  rcases Nat.le_total i xs.length with z | z
  · rw [Nat.min_eq_left z,List.take_of_length_le (by rw [List.length_drop]; omega)]
  · rw [Nat.min_eq_right z,List.drop_of_length_le (Nat.le_refl _),List.drop_of_length_le z,List.take_nil]
theorem ub {z : Int} : ∀ {ns : List Nat},(∀ n ∈ ns,(n : Int) ≠ z) → valV (nmK ns) (.inl z) = none
  | [],_ => rfl
  | m :: ns,h => by
    rw [nmK,List.map_cons,yz (fun c => h m List.mem_cons_self (Sum.inl.inj c))]
    exact ub fun n hn => h n (List.mem_cons_of_mem _ hn)
structure As where
  k : Nat
  ns : List Nat
  g : Nat → Bo
def gN (g : Nat → Bo) (k : Nat) (N : List Bo) (j : Nat) : Bo := if j < k then g j else N[j - k]?.getD ⟨⟨0,0,1⟩,⟨0,0,1⟩⟩
def As.next (s : As) (x : Dd × Nat × Nat) : As := ⟨s.k + (x.1.new (s.g x.2.1) (s.g x.2.2)).length,yA s.ns x.1.names ++ List.range' s.k (x.1.new (s.g x.2.1) (s.g x.2.2)).length,gN s.g s.k (x.1.new (s.g x.2.1) (s.g x.2.2))⟩
def ends (s : As) (es : List (Dd × Nat × Nat)) : As := es.foldl As.next s
def As.st (L : List Cell) : As := ⟨L.length,List.range L.length,fun n => (fL L n).b⟩
structure Nms (s : As) (e : Dd) (n m : Nat) : Prop where
  nm : e.names = if e.two then [(n : Int),(m : Int)] else [(n : Int)]
  hn : n ∈ s.ns
  hm : m ∈ s.ns
  ne : e.two = true → n ≠ m
  eq : e.two = false → m = n
structure Stp (d : Int) (tn : Bool) (s : As) (x : Dd × Nat × Nat) : Prop where
  nms : Nms s x.1 x.2.1 x.2.2
  ok : x.1.Ok
  fit : x.1.Fit d (s.g x.2.1) (s.g x.2.2)
  tn : x.1.isT = true → tn = true
def Walk (d : Int) (tn : Bool) (s : As) (es : List (Dd × Nat × Nat)) : Prop := ∀ (i : Nat) (x : Dd × Nat × Nat),es[i]? = some x → Stp d tn (ends s (es.take i)) x
theorem Bn {s : As} {es : List (Dd × Nat × Nat)} {i : Nat} {x : Dd × Nat × Nat} (h : es[i]? = some x) : ends s (es.take (i + 1)) = (ends s (es.take i)).next x := by
  rw [List.take_succ,h]
  show ends s (es.take i ++ [x]) = _
  unfold ends
  rw [List.foldl_append]
  rfl
def Runs (H : Hp) (ps : List Addr) (es : List (Dd × Nat × Nat)) : Prop := ps.length = es.length ∧ ∀ (i : Nat) (p : Addr) (x : Dd × Nat × Nat),ps[i]? = some p → es[i]? = some x → DdAt H p x.1
theorem Runs.same {H H' : Hp} {ps : List Addr} {es : List (Dd × Nat × Nat)} (h : Runs H ps es) (s : Same H H') : Runs H' ps es := ⟨h.1,fun i p x h1 h2 => (h.2 i p x h1 h2).same s⟩
def YdS (C : Addr) (H : Hp) (y : Yd) (d : Int) (tn : Bool) (s : As) (lg : List V) : Prop := ∃ cl,YdAt C H y d tn cl s.ns lg ∧ cl.length = s.k ∧ ∀ n ∈ s.ns,∃ c,cl[n]? = some c ∧ c.b = s.g n
theorem Nms.names_in {s : As} {e : Dd} {n m : Nat} (h : Nms s e n m) : ∀ k ∈ e.names,∃ i ∈ s.ns,k = (i : Int) := fun k hk => by
  rw [h.nm] at hk
  cases ht : e.two with
  | true =>
    rw [ht,if_pos rfl] at hk
    rcases List.mem_cons.mp hk with rfl | hk
    · exact ⟨n,h.hn,rfl⟩
    · rw [List.mem_singleton.mp hk]; exact ⟨m,h.hm,rfl⟩
  | false =>
    rw [ht,if_neg (by decide)] at hk
    rw [List.mem_singleton.mp hk]; exact ⟨n,h.hn,rfl⟩
theorem Nms.nodup {s : As} {e : Dd} {n m : Nat} (h : Nms s e n m) : e.names.Nodup := by
  rw [h.nm]
  cases ht : e.two with
  | true =>
    rw [if_pos rfl]
    have := h.ne ht
    simp
    omega
  | false =>
    rw [if_neg (by decide)]
    simp
theorem Nms.en {s : As} {e : Dd} {n m : Nat} (h : Nms s e n m) : e.n = (n : Int) := by
  have := h.nm
  cases e <;> simp [Dd.names,Dd.two,Dd.n] at this ⊢
  · exact this
  · exact this.1
  · exact this
  · exact this
theorem Nms.cells {cl : List Cell} {s : As} {e : Dd} {n m : Nat} {c c' : Cell} (h : Nms s e n m) (h1 : cl[n]? = some c) (h2 : cl[m]? = some c') : CellsOf cl e c c' := by
  have hnm := h.nm
  have heq := h.eq
  cases e with
  | glue al a b =>
    simp [Dd.names,Dd.two] at hnm
    exact ⟨⟨n,hnm.1,h1⟩,m,hnm.2,h2⟩
  | cut al a t =>
    have : m = n := heq rfl
    subst this
    refine ⟨⟨m,h.en,h1⟩,Option.some.inj (h2.symm.trans h1)⟩
  | shift al a t =>
    have : m = n := heq rfl
    subst this
    refine ⟨⟨m,h.en,h1⟩,Option.some.inj (h2.symm.trans h1)⟩
  | turn a =>
    have : m = n := heq rfl
    subst this
    refine ⟨⟨m,h.en,h1⟩,Option.some.inj (h2.symm.trans h1)⟩
theorem YdS.next {C : Addr} {H' : Hp} {y : Yd} {d : Int} {tn : Bool} {s : As} {x : Dd × Nat × Nat} {cl N : List Cell} {lg : List V} (h2 : cl.length = s.k) (h3 : ∀ n ∈ s.ns,∃ c,cl[n]? = some c ∧ c.b = s.g n) (hlt : ∀ n ∈ s.ns,n < cl.length)
    (hy : YdAt C H' y d tn (cl ++ N) (yA s.ns x.1.names ++ List.range' cl.length N.length) lg) (hN : N.map Cell.b = x.1.new (s.g x.2.1) (s.g x.2.2)) : YdS C H' y d tn (s.next x) lg := by
  have hl : N.length = (x.1.new (s.g x.2.1) (s.g x.2.2)).length := by rw [← hN,List.length_map]
  rw [h2,hl] at hy
  refine ⟨cl ++ N,hy,by rw [List.length_append,h2,hl]; rfl,fun j hj => ?_⟩
  show ∃ c,(cl ++ N)[j]? = some c ∧ c.b = gN s.g s.k _ j
  rcases List.mem_append.mp hj with hj | hj
  · have hj := (mem_ndrop.mp hj).1
    obtain ⟨c,h4,h5⟩ := h3 j hj
    have hjl := hlt j hj
    exact ⟨c,by rw [List.getElem?_append_left hjl]; exact h4,by unfold gN; rw [if_pos (by omega)]; exact h5⟩
  · have hj := List.mem_range'_1.mp hj
    obtain ⟨t,rfl⟩ : ∃ t,j = s.k + t := ⟨j - s.k,by omega⟩
    have ht : t < N.length := by omega
    refine ⟨N[t],by rw [List.getElem?_append_right (by omega),h2,Nat.add_sub_cancel_left]; exact List.getElem?_eq_getElem ht,?_⟩
    unfold gN
    rw [if_neg (by omega),Nat.add_sub_cancel_left,← hN,List.getElem?_map,List.getElem?_eq_getElem ht]
    rfl
def Bad (cs : Cs) (d : Int) (tn : Bool) (s : As) (H : Hp) (p C : Addr) : Prop :=
  (C = cs.NoDeed ∧ H p = some (.tup [.str (Str.ofString "turn")])) ∨ (C = cs.NoName ∧ ∃ al z k,DdAt H p (.shift al z k) ∧ 1 ≤ k ∧ Bd 64 k ∧ ∀ n ∈ s.ns,(n : Int) ≠ z) ∨
  (C = cs.Unfit ∧ ∃ e n m,DdAt H p e ∧ Nms s e n m ∧ e.Ok ∧ e.Bnd (s.g n) (s.g m) ∧ e.isT = false ∧ ¬ e.Cond d (s.g n) (s.g m)) ∨ (C = cs.Grain ∧ tn = false ∧ ∃ n ∈ s.ns,DdAt H p (.turn n))
theorem Bad.same {cs : Cs} {d : Int} {tn : Bool} {s : As} {H H' : Hp} {p C : Addr} (h : Bad cs d tn s H p C) (z : Same H H') : Bad cs d tn s H' p C := by
  rcases h with ⟨h1,h2⟩ | ⟨h1,al,w,k,h2,h3⟩ | ⟨h1,e,n,m,h2,h3⟩ | ⟨h1,h2,n,hn,h3⟩
  · exact .inl ⟨h1,z _ _ h2⟩
  · exact .inr (.inl ⟨h1,al,w,k,h2.same z,h3⟩)
  · exact .inr (.inr (.inl ⟨h1,e,n,m,h2.same z,h3⟩))
  · exact .inr (.inr (.inr ⟨h1,h2,n,hn,h3.same z⟩))
theorem F4 {s : As} {es : List (Dd × Nat × Nat)} : (ends s es).k ≤ s.k + 2 * es.length := by
  induction es generalizing s with
  | nil => exact Nat.le_refl _
  | cons x es ih =>
    have h1 : (s.next x).k ≤ s.k + 2 := Nat.add_le_add_left (vv x.1 _ _) _
    have h2 := ih (s := s.next x)
    show (ends (s.next x) es).k ≤ _
    rw [List.length_cons]
    omega
abbrev DL := List (Dd × Nat × Nat)
def OwnKX (P : Program) (w : World) (K : PySem.W.Frag) (mg : Str → Option Value) (base : Heap) (k : Nat) (x : Str) (ps ks : List Str) (gV : List V → List V → List V) (sp : Sp) : Prop :=
  ∃ (f : Addr) (fd : FuncData) (g : List Value → List Value → List Value),FnOk P w K mg base (CXe P w) k f fd ps sp ∧ mg x = some (.ref f) ∧ PySem.W.keepIn K (.ref f) = true ∧ KBinds K fd ps ks g gV
theorem Ag {X : Cx} {k j : Nat} {x : Str} {ps ks : List Str} {gV : List V → List V → List V} {sp : Sp} {p pos : Pos} {e : Expr} {es : List Expr} {kws : List Keyword} {t tk : TA} (O : OwnKX X.prog X.w X.K X.mg X.base k x ps ks gV sp) (hr : Room j X.A) (hg : Gl X x)
    (ha : PA X (e :: es) t) (hkw : PK X kws tk) (hk : k ≤ j := by decide) (hall : (backToKw pos (keywordEach kws X.env)).all (·.1.isSome) = true := by rfl) (hks : (backToKw pos (keywordEach kws X.env)).filterMap (·.1) = ks := by rfl)
    (hdb : (x == ("__debug__" : Str)) = false := by decide) (he : starEach (e :: es) X.env = (false,eval e X.env) :: starEach es X.env := by rfl)
    (hpl : ((backTo pos (starEach (e :: es) X.env)).any (·.1) || (backToKw pos (keywordEach kws X.env)).any (·.1.isNone)) = false := by rfl) :
    PE X (.Call (.Name x p) (e :: es) kws pos) (B7 sp gV E0 t tk) := by
  obtain ⟨f,fd,g,F,hm,kp,hb⟩ := O
  exact CC F (hr.mono hk) hg hm kp hb De ha hkw hall hks hdb he hpl
theorem topD_ownKX {P : Program} {w : World} {K : PySem.W.Frag} {mg : Str → Option Value} {base : Heap} {k : Nat} {x : Str} {st : Stmt} {ps ks : List Str} {its : List Value} {g : List Value → List Value → List Value} {gV : List V → List V → List V} {sp : Sp} (T : TopD K mg x st its)
    (hb : ∀ (T : Addr) (kV doc pm : Value) (an : Option Addr) (cdv ct : Value) (us ws : List Value),(g us ws).length = ps.length → ∃ k : Option (Array Value) → Sem (List (Str × Value)),
      bindArgs (PySem.W.fnOf x x (defArgs st) (defBody st) (defScope st) (.ref T) kV doc pm an cdv ct) ⟨us,ks.zip ws⟩ = seqItems? (.ref T) >>= k ∧ k (some its.toArray) = pure (ps.zip (g us ws)))
    (r : ∀ {vs : List V} {us : List Value} {zs : List V} {ws : List Value},Vals vs us → Vals zs ws → Vals (gV vs zs) (g us ws))
    (h : ∀ f fd,FunD K x x st f fd its → FnOk P w K mg base (CXe P w) k f fd ps sp) : OwnKX P w K mg base k x ps ks gV sp := by
  obtain ⟨f,fd,F,m⟩ := T
  exact ⟨f,fd,g,h f fd F,m,F.kp,F.kbinds hb r⟩
structure As.Ok (s : As) (i : Nat) : Prop where
  up : s.ns.Pairwise (· < ·)
  lt : ∀ n ∈ s.ns,n < s.k
  ne : s.ns ≠ []
  nl : s.ns.length ≤ 6 + i
  kl : s.k ≤ 6 + 2 * i
theorem As.Ok.next {s : As} {i : Nat} {x : Dd × Nat × Nat} (h : s.Ok i) (n : Nms s x.1 x.2.1 x.2.2) : (s.next x).Ok (i + 1) := by
  have l2 := vv x.1 (s.g x.2.1) (s.g x.2.2)
  have l1 := Fw x.1 (s.g x.2.1) (s.g x.2.2)
  have hk := h.kl
  have hnl := h.nl
  have dl := CJ h.up n.hn (show (x.2.1 : Int) ∈ x.1.names by rw [n.nm]; cases x.1.two <;> simp)
  generalize hN : x.1.new (s.g x.2.1) (s.g x.2.2) = N at l1 l2
  have e1 : (s.next x).ns = yA s.ns x.1.names ++ List.range' s.k N.length := by rw [← hN]; rfl
  have e2 : (s.next x).k = s.k + N.length := by rw [← hN]; rfl
  refine ⟨?_,?_,?_,?_,?_⟩
  · rw [e1]
    refine List.pairwise_append.mpr ⟨xD h.up,List.pairwise_lt_range' ..,fun n1 h1 n2 h2 => ?_⟩
    have := h.lt n1 (mem_ndrop.mp h1).1
    have := List.mem_range'_1.mp h2
    omega
  · rw [e1,e2]
    intro j hj
    rcases List.mem_append.mp hj with hj | hj
    · have := h.lt j (mem_ndrop.mp hj).1
      omega
    · have := List.mem_range'_1.mp hj
      omega
  · rw [e1]
    intro hh
    have := congrArg List.length hh
    rw [List.length_append,List.length_range',List.length_nil] at this
    omega
  · rw [e1,List.length_append,List.length_range']
    omega
  · rw [e2]
    omega
def StAt (H : Hp) (t : Addr) (s : As) : Prop := ∃ A f i,H t = some (.tup [.ref A,.int (s.k : Int)]) ∧ Ly H A s.ns f ∧ (∀ n ∈ s.ns,(f n).b = s.g n) ∧ s.Ok i ∧ i ≤ 30 ∧ ∀ n ∈ s.ns,SY (s.g n).w ∧ SY (s.g n).h
theorem StAt.same {H H' : Hp} {t : Addr} {s : As} (h : StAt H t s) (z : Same H H') : StAt H' t s := by
  obtain ⟨A,f,i,h1,h2,h3⟩ := h
  exact ⟨A,f,i,z _ _ h1,h2.same z,h3⟩
theorem Ly.sameX {H H' : Hp} {a l : Addr} {ns : List Nat} {f : Nat → Cell} {xs : List V} (h : Ly H a ns f) (s : SameX l H H') (e : H l = some (.lst xs)) : Ly H' a ns f := ⟨s _ _ h.l (yw h.l e (fun z => nomatch z)),fun n hn => (h.at' n hn).sameX s e⟩
theorem StAt.sameX {H H' : Hp} {t l : Addr} {s : As} {xs : List V} (h : StAt H t s) (z : SameX l H H') (e : H l = some (.lst xs)) : StAt H' t s := by
  obtain ⟨A,f,i,h1,h2,h3⟩ := h
  exact ⟨A,f,i,z.tup h1 e,h2.sameX z e,h3⟩
theorem Runs.sameX {H H' : Hp} {l : Addr} {ps : List Addr} {es : DL} {xs : List V} (h : Runs H ps es) (z : SameX l H H') (e : H l = some (.lst xs)) : Runs H' ps es := ⟨h.1,fun i p x h1 h2 => (h.2 i p x h1 h2).sameX z e⟩
theorem C7 {s : As} {es : DL} {x : Dd × Nat × Nat} : ends s (es ++ [x]) = (ends s es).next x := by
  unfold ends
  rw [List.foldl_append]
  rfl
theorem B2 {d : Int} {tn : Bool} {s : As} {es : DL} {x : Dd × Nat × Nat} (h : Walk d tn s es) (g : Stp d tn (ends s es) x) : Walk d tn s (es ++ [x]) := fun i y hy => by
  by_cases c : i < es.length
  · rw [List.getElem?_append_left c] at hy
    rw [List.take_append_of_le_length (by omega)]
    exact h i y hy
  · have hl := (List.getElem?_eq_some_iff.mp hy).1
    rw [List.length_append] at hl
    have : i = es.length := by simp only [List.length_cons,List.length_nil] at hl; omega
    subst this
    rw [List.getElem?_append_right (Nat.le_refl _),Nat.sub_self] at hy
    have : x = y := Option.some.inj hy
    subst this
    rw [List.take_left]
    exact g
theorem BC {H : Hp} {ps : List Addr} {es : DL} {p : Addr} {x : Dd × Nat × Nat} (h : Runs H ps es) (g : DdAt H p x.1) : Runs H (ps ++ [p]) (es ++ [x]) := ⟨by rw [List.length_append,List.length_append,h.1]; rfl,fun i q y h1 h2 => by
  by_cases c : i < ps.length
  · rw [List.getElem?_append_left c] at h1
    rw [List.getElem?_append_left (by rw [← h.1]; exact c)] at h2
    exact h.2 i q y h1 h2
  · have hl := (List.getElem?_eq_some_iff.mp h1).1
    rw [List.length_append] at hl
    have : i = ps.length := by simp only [List.length_cons,List.length_nil] at hl; omega
    subst this
    rw [List.getElem?_append_right (Nat.le_refl _),Nat.sub_self] at h1
    rw [h.1,List.getElem?_append_right (Nat.le_refl _),Nat.sub_self] at h2
    have e1 : p = q := Option.some.inj h1
    have e2 : x = y := Option.some.inj h2
    subst e1
    subst e2
    exact g⟩
theorem tZ {d D : Int} {M : Nat} {s : As} {f : Nat → Cell} {e : Dd} {n m : Nat} (h : e.Good d D M s.ns f n m) : Nms s e n m := ⟨h.nm,h.hn,h.hm,h.ne,h.eq⟩
theorem GR {s : As} {f : Nat → Cell} {N : List Cell} {x : Dd × Nat × Nat} (hb : ∀ n ∈ s.ns,(f n).b = s.g n) (lt : ∀ n ∈ s.ns,n < s.k) (hN : N.map Cell.b = x.1.new (s.g x.2.1) (s.g x.2.2)) : ∀ j ∈ (s.next x).ns,(fN f s.k N j).b = (s.next x).g j := fun j hj => by
  have hl : N.length = (x.1.new (s.g x.2.1) (s.g x.2.2)).length := by rw [← hN,List.length_map]
  show _ = gN s.g s.k _ j
  rcases List.mem_append.mp hj with hj | hj
  · have hj := (mem_ndrop.mp hj).1
    have hjl := lt j hj
    rw [CZ hjl]
    unfold gN
    rw [if_pos hjl]
    exact hb j hj
  · have hj := List.mem_range'_1.mp hj
    obtain ⟨t,rfl⟩ : ∃ t,j = s.k + t := ⟨j - s.k,by omega⟩
    have ht : t < N.length := by omega
    rw [Cm,xA (List.getElem?_eq_getElem ht)]
    unfold gN
    rw [if_neg (by omega),Nat.add_sub_cancel_left,← hN,List.getElem?_map,List.getElem?_eq_getElem ht]
    rfl
theorem EqV.lst {X : Cx} {n : Nat} {H : Hp} {a b : Addr} {xs ys : List V} {bs : List Bool} (ha : SqL X.K H a xs) (hb : SqL X.K H b ys) (he : EqVs X n H xs ys bs) (hs : bs.all id = true) : EqV X (n + 1) H (.ref a) (.ref b) true := fun pins σ s v u A I rv ru hu => by
  cases rv
  cases ru
  by_cases hab : a = b
  · subst hab
    exact SeqAt.EqAt.same _
  · obtain ⟨is,js,p1,p2,hz,hj,e⟩ := Dx ha hb he I hu
    have := SeqAt.RcAt.lists (A := A) (e := fun j => bs.getD j false) p1 p2 hz (by omega) hj
    rw [e,hs] at this
    exact SeqAt.EqAt.of_refs hab this
theorem vP {X : Cx} {n : Nat} {H : Hp} : ∀ (xs : List V),(∀ v ∈ xs,∃ p,v = .ref p) → EqVs X n H xs xs (xs.map fun _ => true)
  | [],_ => .nil
  | x :: xs,h => by
    obtain ⟨p,rfl⟩ := h x List.mem_cons_self
    exact .cons EqV.same (vP xs fun v hv => h v (List.mem_cons_of_mem _ hv))
theorem FS {X : Cx} {H : Hp} {Q : VK} {a b p q r s : Addr} {xs ys : List V} (ha : H a = some (.lst [.ref p,.ref q])) (hb : H b = some (.lst [.ref r,.ref s])) (h1 : H p = some (.lst xs)) (h2 : H r = some (.lst xs)) (h3 : H q = some (.lst ys)) (h4 : H s = some (.lst ys)) (hx : ∀ v ∈ xs,∃ p,v = .ref p) (hy : ∀ v ∈ ys,∃ p,v = .ref p) (k : Q (.bl false) H) : rNeL X (.ref a) (.ref b) H Q := by
  have t : ∀ l : List V,(l.map fun _ => true).all id = true := fun l => by simp
  exact ⟨a,b,_,_,_,1,rfl,rfl,by decide,SqL.of ha,SqL.of hb,.cons (EqV.lst (n := 0) (SqL.of h1) (SqL.of h2) (vP xs hx) (t xs)) (.cons (EqV.lst (n := 0) (SqL.of h3) (SqL.of h4) (vP ys hy) (t ys)) .nil),k⟩
theorem Ba {d : Int} {tn : Bool} {s : As} {es : DL} (h : Walk d tn s es) : Walk d true s es := fun i x hx => ⟨(h i x hx).nms,(h i x hx).ok,(h i x hx).fit,fun _ => rfl⟩
theorem A1 {d : Int} {tn : Bool} {s : As} {es : DL} (h : Walk d tn s es) (k : Nat) : Walk d tn s (es.take k) := fun i x hx => by
  have hi := (List.getElem?_eq_some_iff.mp hx).1
  rw [List.length_take] at hi
  rw [List.getElem?_take_of_lt (by omega)] at hx
  rw [List.take_take,Nat.min_eq_left (by omega)]
  exact h i x hx
theorem BZ {H : Hp} {ps : List Addr} {es : DL} (h : Runs H ps es) (k : Nat) : Runs H (ps.take k) (es.take k) := ⟨by rw [List.length_take,List.length_take,h.1],fun i p x h1 h2 => by
  have hi := (List.getElem?_eq_some_iff.mp h1).1
  rw [List.length_take] at hi
  rw [List.getElem?_take_of_lt (by omega)] at h1 h2
  exact h.2 i p x h1 h2⟩
theorem Gx {ns : List Nat} {f : Nat → Cell} {g : Nat → Bo} (h : ∀ n ∈ ns,(f n).b = g n) : (ns.map f).map Cell.b = ns.map g := by
  rw [List.map_map]
  exact List.map_congr_left h
theorem st_b {L : List Cell} : (As.st L).ns.map (As.st L).g = L.map Cell.b := by
  show (List.range L.length).map (fun n => (fL L n).b) = _
  refine List.ext_getElem? fun j => ?_
  rw [List.getElem?_map,List.getElem?_map]
  by_cases hj : j < L.length
  · rw [List.getElem?_range hj,List.getElem?_eq_getElem hj]
    show some (fL L j).b = _
    rw [xA (List.getElem?_eq_getElem hj)]
    rfl
  · rw [List.getElem?_eq_none (by rw [List.length_range]; omega),List.getElem?_eq_none (by omega)]
    rfl
theorem Gs {p q : Prop} [Decidable p] {A B : Prop} (hB : ¬ (p ∧ q) → B) (hA : p → (¬ (p ∧ q) → B) → A) : if decide p = true then A else B := by
  by_cases h : p
  · rw [if_pos (decide_eq_true h)]; exact hA h hB
  · rw [if_neg (by rw [decide_eq_false h]; decide)]; exact hB (fun z => h z.1)
def sp_is_whole : Sp := fun vs H Q _ => ∃ i : Int,vs = [.int i] ∧ Q (.bl true) H
theorem Ao {i : Int} {H : Hp} {Q : VK} {E : XK} (q : Q (.bl true) H) : sp_is_whole ([.int i] ++ []) H Q E := ⟨i,rfl,q⟩
local macro_rules | `(tactic| walk_at "rd") => `(tactic| with_reducible refine Ao ?_)
def sp_common_divisor : Sp := fun vs H Q _ => ∃ a b : Int,vs = [.int a,.int b] ∧ Bd 8192 b ∧ Q (.int (Int.gcd a b : Nat)) H
theorem wo {a b : Int} {H : Hp} {Q : VK} {E : XK} (hb : Bd 8192 b) (q : Q (.int (Int.gcd a b : Nat)) H) : sp_common_divisor ([.int a,.int b] ++ []) H Q E := ⟨a,b,rfl,hb,q⟩
local macro_rules | `(tactic| walk_at "rd") => `(tactic| ((with_reducible refine wo ?_ ?_); focus (walk_at "b8")))
def sp_with_sign_of : Sp := fun vs H Q _ => ∃ g n : Int,vs = [.int g,.int n] ∧ Q (.int (if n < 0 then -g else g)) H
theorem vf {g n : Int} {H : Hp} {Q : VK} {E : XK} (q : Q (.int (if n < 0 then -g else g)) H) : sp_with_sign_of ([.int g,.int n] ++ []) H Q E := ⟨g,n,rfl,q⟩
local macro_rules | `(tactic| walk_at "rd") => `(tactic| with_reducible refine vf ?_)
def sp_is_above_nought : Sp := fun vs H Q _ => ∃ d a b : Int,vs = [.int d,.int a,.int b] ∧ Bd 64 d ∧ Bd 8000 a ∧ Bd 8000 b ∧ Q (.bl (decide (0 < sgn d a b))) H
theorem wa {d a b : Int} {H : Hp} {Q : VK} {E : XK} (hd : Bd 64 d) (ha : Bd 8000 a) (hb : Bd 8000 b) (q : Q (.bl (decide (0 < sgn d a b))) H) : sp_is_above_nought ([.int d,.int a,.int b] ++ []) H Q E := ⟨d,a,b,rfl,hd,ha,hb,q⟩
def sp_names_taken : Sp := fun vs H Q _ => ∃ (p : Addr) (e : Dd),vs = [.ref p] ∧ DdAt H p e ∧ ∀ (r : Addr) (H' : Hp),Same H H' → H r = none → H' r = some (.lst (e.names.map V.int)) → Q (.ref r) H'
theorem xC {p : Addr} {e : Dd} {H : Hp} {Q : VK} {E : XK} (he : DdAt H p e) (q : ∀ (r : Addr) (H' : Hp),Same H H' → H r = none → H' r = some (.lst (e.names.map V.int)) → Q (.ref r) H') : sp_names_taken ([.ref p] ++ []) H Q E := ⟨p,e,rfl,he,q⟩
def sp_turned : Sp := fun vs H Q _ => ∃ c : Cell,vs = [.ref c.p] ∧ c.At H ∧ ∀ (r : Addr) (H' : Hp),Same H H' → H r = none → Cell.At H' ⟨r,c.ph,c.pw,⟨c.b.h,c.b.w⟩⟩ → Q (.ref r) H'
theorem yG {c : Cell} {H : Hp} {Q : VK} {E : XK} (hc : c.At H) (q : ∀ (r : Addr) (H' : Hp),Same H H' → H r = none → Cell.At H' ⟨r,c.ph,c.pw,⟨c.b.h,c.b.w⟩⟩ → Q (.ref r) H') : sp_turned ([.ref c.p] ++ []) H Q E := ⟨c,rfl,hc,q⟩
def sp__law_cell (K : PySem.W.Frag) : Sp := fun vs H Q _ => ∃ (p : Addr) (ns : List Int) (k : Int),vs = [.ref p,.int k] ∧ SqL K H p (ns.map V.int) ∧ 0 ≤ k ∧ (∀ x ∈ ns,Bd 1048576 x) ∧ ∀ c : Int,Bd 1048576 c → Q (.int c) H
theorem yo {K : PySem.W.Frag} {p : Addr} {ns : List Int} {k : Int} {H : Hp} {Q : VK} {E : XK} (hS : SqL K H p (ns.map V.int)) (hk : 0 ≤ k) (hb : ∀ x ∈ ns,Bd 1048576 x) (q : ∀ c : Int,Bd 1048576 c → Q (.int c) H) : sp__law_cell K ([.ref p,.int k] ++ []) H Q E := ⟨p,ns,k,rfl,hS,hk,hb,q⟩
def sp__law_whole : Sp := fun vs H Q _ => ∃ i : Int,vs = [.int i] ∧ Q (.bl true) H
theorem ua {i : Int} {H : Hp} {Q : VK} {E : XK} (q : Q (.bl true) H) : sp__law_whole ([.int i] ++ []) H Q E := ⟨i,rfl,q⟩
local macro_rules | `(tactic| walk_at "rd") => `(tactic| with_reducible refine ua ?_)
def sp__law_great : Sp := fun vs H Q _ => ∃ c k : Int,vs = [.int c,.int k] ∧ Bd 1048576 c ∧ Bd 64 k ∧ ∀ r : Int,0 ≤ r → r < 170141183460469231731687303715884105727 → Q (.int r) H
theorem zW {c k : Int} {H : Hp} {Q : VK} {E : XK} (hc : Bd 1048576 c) (hk : Bd 64 k) (q : ∀ r : Int,0 ≤ r → r < 170141183460469231731687303715884105727 → Q (.int r) H) : sp__law_great ([.int c,.int k] ++ []) H Q E := ⟨c,k,rfl,hc,hk,q⟩
def sp__law_divisor : Sp := fun vs H Q _ => ∃ a b : Int,vs = [.int a,.int b] ∧ Q (.int (Int.gcd a b : Nat)) H
theorem vb {a b : Int} {H : Hp} {Q : VK} {E : XK} (q : Q (.int (Int.gcd a b : Nat)) H) : sp__law_divisor ([.int a,.int b] ++ []) H Q E := ⟨a,b,rfl,q⟩
local macro_rules | `(tactic| walk_at "rd") => `(tactic| with_reducible refine vb ?_)
def sp__law_sign : Sp := fun vs H Q _ => ∃ d a b : Int,vs = [.int d,.int a,.int b] ∧ Bd 64 d ∧ Bd 8000 a ∧ Bd 8000 b ∧ ∀ H',Same H H' → Q (.int (sgn d a b)) H'
theorem wP {d a b : Int} {H : Hp} {Q : VK} {E : XK} (hd : Bd 64 d) (ha : Bd 8000 a) (hb : Bd 8000 b) (q : ∀ H',Same H H' → Q (.int (sgn d a b)) H') : sp__law_sign ([.int d,.int a,.int b] ++ []) H Q E := ⟨d,a,b,rfl,hd,ha,hb,q⟩
def sp__law_begin : Sp := fun vs H Q _ => ∃ (l : Addr) (L : List Cell),vs = [.ref l] ∧ H l = some (.lst (L.map Cell.v)) ∧ (∀ c ∈ L,c.At H) ∧ L.length ≤ 60 ∧ (∀ (r a : Addr) (H' : Hp),Same H H' → H a = none → H' r = some (.tup [.ref a,.int (L.length : Int)]) → Ly H' a (List.range L.length) (fL L) → Q (.ref r) H')
theorem uQ {l : Addr} {L : List Cell} {H : Hp} {Q : VK} {E : XK} (hl : H l = some (.lst (L.map Cell.v))) (hA : (∀ c ∈ L,c.At H)) (h6 : L.length ≤ 60) (q : (∀ (r a : Addr) (H' : Hp),Same H H' → H a = none → H' r = some (.tup [.ref a,.int (L.length : Int)]) → Ly H' a (List.range L.length) (fL L) → Q (.ref r) H')) : sp__law_begin ([.ref l] ++ []) H Q E := ⟨l,L,rfl,hl,hA,h6,q⟩
def sp__law_alone (cs : Cs) : Sp := fun vs H Q _ => ∃ (a C : Addr),vs = [.ref a] ∧ H a = some (ExcO a C) ∧ (C = cs.NoDeed ∨ C = cs.NoName ∨ C = cs.Unfit ∨ C = cs.Grain) ∧ Q (.bl true) H
theorem we {cs : Cs} {a C : Addr} {H : Hp} {Q : VK} {E : XK} (ea : H a = some (ExcO a C)) (hC : (C = cs.NoDeed ∨ C = cs.NoName ∨ C = cs.Unfit ∨ C = cs.Grain)) (q : Q (.bl true) H) : sp__law_alone cs ([.ref a] ++ []) H Q E := ⟨a,C,rfl,ea,hC,q⟩
def sp_Yard___init__ (cs : Cs) : Sp := fun vs H Q _ => ∃ (p dx hp : Addr) (d : Int) (tn : Bool) (cl : List Cell),vs = [.ref p,.int d,.ref hp,.bl tn] ∧ H p = some (.ins cs.Yard dx []) ∧ H hp = some (.lst (cl.map Cell.v)) ∧ (∀ c ∈ cl,c.At H) ∧ cl.length ≤ 60 ∧ ∀ (y : Yd) (H' : Hp),y.p = p → y.dx = dx → (∀ b o,H b = some o → b ≠ p → H' b = some o) → YdAt cs.Yard H' y d tn cl (List.range cl.length) [] → H y.k = none → H y.l = none → H y.t = none → Q .non H'
theorem wB {cs : Cs} {x dx hp : Addr} {d : Int} {tn : Bool} {cl : List Cell} {vs : List V} {H1 : Hp} {Q : VK} {E : XK} (hv : vs = [.ref x,.int d,.ref hp,.bl tn]) (n1 : H1 x = none) (n2 : H1 dx = none) (hh : H1 hp = some (.lst (cl.map Cell.v))) (hat : ∀ c ∈ cl,c.At H1) (hl : cl.length ≤ 60)
    (q : ∀ (y : Yd) (H' : Hp),y.p = x → Same H1 H' → YdAt cs.Yard H' y d tn cl (List.range cl.length) [] → H1 y.k = none → H1 y.l = none → H1 y.t = none → Q .non H') :
    sp_Yard___init__ cs vs (upd (upd H1 dx (.own x)) x (.ins cs.Yard dx [])) Q E := by
  subst hv
  have k : ∀ b o,H1 b = some o → (upd (upd H1 dx (.own x)) x (.ins cs.Yard dx [])) b = some o := fun b o e => by
    rw [zv (zf e n1),zv (zf e n2)]; exact e
  have nn : ∀ b,(upd (upd H1 dx (.own x)) x (.ins cs.Yard dx [])) b = none → H1 b = none := fun b h => by
    cases e : H1 b with
    | none => rfl
    | some o => rw [k b o e] at h; cases h
  exact ⟨x,dx,hp,d,tn,cl,rfl,zq,k _ _ hh,fun c hc => ⟨k _ _ (hat c hc).t,k _ _ (hat c hc).w,k _ _ (hat c hc).h⟩,hl,fun y H' e1 _ fr hy h1 h2 h3 => q y H' e1 (fun b o e => fr b o (k b o e) (zf e n1)) hy (nn _ h1) (nn _ h2) (nn _ h3)⟩
def sp_Yard_heap (cs : Cs) : Sp := fun vs H Q _ => ∃ (y : Yd) (d : Int) (tn : Bool) (cl : List Cell) (ns : List Nat) (lg : List V),vs = [.ref y.p] ∧ YdAt cs.Yard H y d tn cl ns lg ∧ ∀ (r : Addr) (H' : Hp),Same H H' → H r = none → H' r = some (.lst ((pick cl ns).map Cell.v)) → Q (.ref r) H'
theorem tK {cs : Cs} {y : Yd} {d : Int} {tn : Bool} {cl : List Cell} {ns : List Nat} {lg : List V} {H : Hp} {Q : VK} {E : XK} (hy : YdAt cs.Yard H y d tn cl ns lg) (q : ∀ (r : Addr) (H' : Hp),Same H H' → H r = none → H' r = some (.lst ((pick cl ns).map Cell.v)) → Q (.ref r) H') : sp_Yard_heap cs ([.ref y.p] ++ []) H Q E := ⟨y,d,tn,cl,ns,lg,rfl,hy,q⟩
def sp_length : Sp := fun vs H Q _ => ∃ a b n : Int,vs = [.int a,.int b,.int n] ∧ n ≠ 0 ∧ Bd 8000 n ∧ (Bd 8192 a ∧ Bd 8192 b) ∧ ∀ p H',Same H H' → H' p = some (.tup [.int (lA a b n),.int (lB a b n),.int (lN a b n)]) → Q (.ref p) H'
theorem vX {a b n : Int} {vs : List V} {H : Hp} {Q : VK} {E : XK} (e : vs = [.int a,.int b,.int n]) (hn : n ≠ 0) (hb : Bd 8000 n) (q : ∀ p H',Same H H' → H' p = some (.tup [.int (lA a b n),.int (lB a b n),.int (lN a b n)]) → Q (.ref p) H') (ha8 : Bd 8192 a := by walk_at "b8") (hb8 : Bd 8192 b := by walk_at "b8") : sp_length vs H Q E := ⟨a,b,n,e,hn,hb,⟨ha8,hb8⟩,q⟩
def sp_added : Sp := fun vs H Q _ => ∃ (p q : Addr) (x y z x' y' z' : Int),vs = [.ref p,.ref q] ∧ H p = some (.tup [.int x,.int y,.int z]) ∧ H q = some (.tup [.int x',.int y',.int z']) ∧ 1 ≤ z ∧ 1 ≤ z' ∧ g3 x y z = 1 ∧ g3 x' y' z' = 1 ∧ (Bd 3900 x ∧ Bd 3900 y ∧ Bd 3900 z ∧ Bd 3900 x' ∧ Bd 3900 y' ∧ Bd 3900 z') ∧ ∀ (r : Addr) (H' : Hp),Same H H' → H' r = some (.tup [.int (lA (x * z' + x' * z) (y * z' + y' * z) (z * z')),.int (lB (x * z' + x' * z) (y * z' + y' * z) (z * z')),.int (lN (x * z' + x' * z) (y * z' + y' * z) (z * z'))]) → Q (.ref r) H'
theorem Bm {p p' : Addr} {x y z x' y' z' : Int} {H : Hp} {Q : VK} {E : XK} (h1 : H p = some (.tup [.int x,.int y,.int z])) (h2 : H p' = some (.tup [.int x',.int y',.int z'])) (n1 : 1 ≤ z) (n2 : 1 ≤ z') (k1 : g3 x y z = 1) (k2 : g3 x' y' z' = 1) (b1 : Bd 3900 x) (b2 : Bd 3900 y) (b3 : Bd 3900 z) (b4 : Bd 3900 x') (b5 : Bd 3900 y') (b6 : Bd 3900 z') (q : ∀ (r : Addr) (H' : Hp),Same H H' → H' r = some (.tup [.int (lA (x * z' + x' * z) (y * z' + y' * z) (z * z')),.int (lB (x * z' + x' * z) (y * z' + y' * z) (z * z')),.int (lN (x * z' + x' * z) (y * z' + y' * z) (z * z'))]) → Q (.ref r) H') : sp_added ([.ref p,.ref p'] ++ []) H Q E := ⟨p,p',x,y,z,x',y',z',rfl,h1,h2,n1,n2,k1,k2,⟨b1,b2,b3,b4,b5,b6⟩,q⟩
def sp_under (K : PySem.W.Frag) : Sp := fun vs H Q _ => ∃ (d : Int) (p p' : Addr) (x y z x' y' z' : Int),vs = [.int d,.ref p,.ref p'] ∧ SqT K H p [.int x,.int y,.int z] ∧ H p' = some (.tup [.int x',.int y',.int z']) ∧ Bd 64 d ∧ (Bd 2500 x ∧ Bd 2500 y ∧ Bd 2500 z ∧ Bd 2500 x' ∧ Bd 2500 y' ∧ Bd 2500 z') ∧ Q (.bl (decide (0 < sgn d (x' * z - x * z') (y' * z - y * z')))) H
theorem Ci {K : PySem.W.Frag} {d : Int} {p p' : Addr} {x y z x' y' z' : Int} {H : Hp} {Q : VK} {E : XK} (h1 : SqT K H p [.int x,.int y,.int z]) (h2 : H p' = some (.tup [.int x',.int y',.int z'])) (hd : Bd 64 d) (b1 : Bd 2500 x) (b2 : Bd 2500 y) (b3 : Bd 2500 z) (b4 : Bd 2500 x') (b5 : Bd 2500 y') (b6 : Bd 2500 z') (q : Q (.bl (decide (0 < sgn d (x' * z - x * z') (y' * z - y * z')))) H) : sp_under K ([.int d,.ref p,.ref p'] ++ []) H Q E := ⟨d,p,p',x,y,z,x',y',z',rfl,h1,h2,hd,⟨b1,b2,b3,b4,b5,b6⟩,q⟩
def sp__law_digits : Sp := fun vs H Q _ => ∃ c m : Int,vs = [.int c,.int m] ∧ Bd 1048576 c ∧ (0 ≤ m ∧ m ≤ 20) ∧ ∀ (l : Addr) (H' : Hp) (ds : List Int),Same H H' → H' l = some (.lst (ds.map V.int)) → (ds.length : Int) = m → (∀ x ∈ ds,0 ≤ x ∧ x < 1000000) → Q (.ref l) H'
theorem yi {c m : Int} {H : Hp} {Q : VK} {E : XK} (hc : Bd 1048576 c) (m0 : 0 ≤ m) (m1 : m ≤ 20) (q : ∀ (l : Addr) (H' : Hp) (ds : List Int),Same H H' → H' l = some (.lst (ds.map V.int)) → (ds.length : Int) = m → (∀ x ∈ ds,0 ≤ x ∧ x < 1000000) → Q (.ref l) H') : sp__law_digits ([.int c,.int m] ++ []) H Q E := ⟨c,m,rfl,hc,⟨m0,m1⟩,q⟩
def sp__law_lowest : Sp := fun vs H Q _ => ∃ a b n : Int,vs = [.int a,.int b,.int n] ∧ n ≠ 0 ∧ Bd 8000 n ∧ ∀ (r : Addr) (H' : Hp),Same H H' → H' r = some (.tup [.int (lA a b n),.int (lB a b n),.int (lN a b n)]) → Q (.ref r) H'
theorem yT {a b n : Int} {H : Hp} {Q : VK} {E : XK} (hn : n ≠ 0) (hb : Bd 8000 n) (q : ∀ (r : Addr) (H' : Hp),Same H H' → H' r = some (.tup [.int (lA a b n),.int (lB a b n),.int (lN a b n)]) → Q (.ref r) H') : sp__law_lowest ([.int a,.int b,.int n] ++ []) H Q E := ⟨a,b,n,rfl,hn,hb,q⟩
def sp__law_root : Sp := fun vs H Q _ => ∃ c k : Int,vs = [.int c,.int k] ∧ Bd 1048576 c ∧ Bd 64 k ∧ ∀ (d : Int) (H' : Hp),Rt d → Same H H' → Q (.int d) H'
theorem tw {c k : Int} {H : Hp} {Q : VK} {E : XK} (hc : Bd 1048576 c) (hk : Bd 64 k) (q : ∀ (d : Int) (H' : Hp),Rt d → Same H H' → Q (.int d) H') : sp__law_root ([.int c,.int k] ++ []) H Q E := ⟨c,k,rfl,hc,hk,q⟩
def sp__law_is_length : Sp := fun vs H Q _ => ∃ (p : Addr) (s : Sd),vs = [.ref p] ∧ SdAt H p s ∧ Q (.bl true) H
theorem yV {p : Addr} {s : Sd} {H : Hp} {Q : VK} {E : XK} (h1 : SdAt H p s) (q : Q (.bl true) H) : sp__law_is_length ([.ref p] ++ []) H Q E := ⟨p,s,rfl,h1,q⟩
def sp__law_spoilt (cs : Cs) : Sp := fun vs H Q _ => ∃ (pl sl : Addr) (c due : Int) (d : Int) (tn : Bool) (L : List Cell) (ps ss : List Addr) (es : DL),vs = [.ref pl,.ref sl,.int c,.int due] ∧ Bd 1048576 c ∧ H pl = some (.lst (ps.map V.ref)) ∧ H sl = some (.lst (ss.map V.ref)) ∧ Runs H ps es ∧ es.length ≤ 30 ∧ ss.length = es.length + 1 ∧ (∀ (j : Nat) (t : Addr),ss[j]? = some t → StAt H t (ends (As.st L) (es.take j))) ∧ (due = 0 ∨ due = 1 ∨ due = 2 ∨ (due = 3 ∧ tn = false)) ∧ (∀ (r p C : Addr) (k : Nat) (H' : Hp),Same H H' → H' r = some (.lst ((ps.take k ++ p :: ps.drop k).map V.ref)) → k ≤ es.length → Bad cs d tn (ends (As.st L) (es.take k)) H' p C → ((due = 0 ∧ C = cs.NoDeed) ∨ (due = 1 ∧ C = cs.NoName) ∨ (due = 2 ∧ C = cs.Unfit) ∨ (due = 3 ∧ C = cs.Grain)) → Q (.ref r) H')
theorem vR {cs : Cs} {pl sl : Addr} {c due : Int} {d : Int} {tn : Bool} {L : List Cell} {ps ss : List Addr} {es : DL} {H : Hp} {Q : VK} {E : XK} (hc : Bd 1048576 c) (epl : H pl = some (.lst (ps.map V.ref))) (esl : H sl = some (.lst (ss.map V.ref))) (hrun : Runs H ps es) (el30 : es.length ≤ 30) (hssl : ss.length = es.length + 1) (hst : (∀ (j : Nat) (t : Addr),ss[j]? = some t → StAt H t (ends (As.st L) (es.take j)))) (hdu : (due = 0 ∨ due = 1 ∨ due = 2 ∨ (due = 3 ∧ tn = false))) (q : (∀ (r p C : Addr) (k : Nat) (H' : Hp),Same H H' → H' r = some (.lst ((ps.take k ++ p :: ps.drop k).map V.ref)) → k ≤ es.length → Bad cs d tn (ends (As.st L) (es.take k)) H' p C → ((due = 0 ∧ C = cs.NoDeed) ∨ (due = 1 ∧ C = cs.NoName) ∨ (due = 2 ∧ C = cs.Unfit) ∨ (due = 3 ∧ C = cs.Grain)) → Q (.ref r) H')) : sp__law_spoilt cs ([.ref pl,.ref sl,.int c,.int due] ++ []) H Q E := ⟨pl,sl,c,due,d,tn,L,ps,ss,es,rfl,hc,epl,esl,hrun,el30,hssl,hst,hdu,q⟩
def sp_Yard_check_names (cs : Cs) : Sp := fun vs H Q E => ∃ (y : Yd) (d : Int) (tn : Bool) (cl : List Cell) (ns : List Nat) (lg : List V) (a : Addr) (ms : List Int),vs = [.ref y.p,.ref a] ∧ YdAt cs.Yard H y d tn cl ns lg ∧ H a = some (.lst (ms.map V.int)) ∧ ms.length ≤ 2 ∧ (((∀ m ∈ ms,∃ n ∈ ns,m = (n : Int)) ∧ ms.Nodup ∧ Q .non H) ∨ (∃ z,ms = [z] ∧ (∀ n ∈ ns,(n : Int) ≠ z) ∧ E (.ref cs.NoName) none H))
theorem xI {cs : Cs} {y : Yd} {d : Int} {tn : Bool} {cl : List Cell} {ns : List Nat} {lg : List V} {a : Addr} {ms : List Int} {H : Hp} {Q : VK} {E : XK} (hy : YdAt cs.Yard H y d tn cl ns lg) (ha : H a = some (.lst (ms.map V.int))) (hm : ∀ m ∈ ms,∃ n ∈ ns,m = (n : Int)) (hn : ms.Nodup) (hl : ms.length ≤ 2) (q : Q .non H) : sp_Yard_check_names cs ([.ref y.p,.ref a] ++ []) H Q E := ⟨y,d,tn,cl,ns,lg,a,ms,rfl,hy,ha,hl,.inl ⟨hm,hn,q⟩⟩
theorem xy {cs : Cs} {y : Yd} {d : Int} {tn : Bool} {cl : List Cell} {ns : List Nat} {lg : List V} {a : Addr} {z : Int} {H : Hp} {Q : VK} {E : XK} (hy : YdAt cs.Yard H y d tn cl ns lg) (ha : H a = some (.lst ([z].map V.int))) (hz : ∀ n ∈ ns,(n : Int) ≠ z) (q : E (.ref cs.NoName) none H) : sp_Yard_check_names cs ([.ref y.p,.ref a] ++ []) H Q E := ⟨y,d,tn,cl,ns,lg,a,[z],rfl,hy,ha,by simp,.inr ⟨z,rfl,hz,q⟩⟩
def sp_taken : Sp := fun vs H Q _ => ∃ (p q : Addr) (x y z x' y' z' : Int),vs = [.ref p,.ref q] ∧ H p = some (.tup [.int x,.int y,.int z]) ∧ H q = some (.tup [.int x',.int y',.int z']) ∧ 1 ≤ z ∧ 1 ≤ z' ∧ g3 x y z = 1 ∧ g3 x' y' z' = 1 ∧ (Bd 3900 x ∧ Bd 3900 y ∧ Bd 3900 z ∧ Bd 3900 x' ∧ Bd 3900 y' ∧ Bd 3900 z') ∧ ∀ (r : Addr) (H' : Hp),Same H H' → H' r = some (.tup [.int (lA (x * z' + -x' * z) (y * z' + -y' * z) (z * z')),.int (lB (x * z' + -x' * z) (y * z' + -y' * z) (z * z')),.int (lN (x * z' + -x' * z) (y * z' + -y' * z) (z * z'))]) → Q (.ref r) H'
theorem DM {p p' : Addr} {x y z x' y' z' : Int} {H : Hp} {Q : VK} {E : XK} (h1 : H p = some (.tup [.int x,.int y,.int z])) (h2 : H p' = some (.tup [.int x',.int y',.int z'])) (n1 : 1 ≤ z) (n2 : 1 ≤ z') (k1 : g3 x y z = 1) (k2 : g3 x' y' z' = 1) (b1 : Bd 3900 x) (b2 : Bd 3900 y) (b3 : Bd 3900 z) (b4 : Bd 3900 x') (b5 : Bd 3900 y') (b6 : Bd 3900 z') (q : ∀ (r : Addr) (H' : Hp),Same H H' → H' r = some (.tup [.int (lA (x * z' + -x' * z) (y * z' + -y' * z) (z * z')),.int (lB (x * z' + -x' * z) (y * z' + -y' * z) (z * z')),.int (lN (x * z' + -x' * z) (y * z' + -y' * z) (z * z'))]) → Q (.ref r) H') : sp_taken ([.ref p,.ref p'] ++ []) H Q E := ⟨p,p',x,y,z,x',y',z',rfl,h1,h2,n1,n2,k1,k2,⟨b1,b2,b3,b4,b5,b6⟩,q⟩
def sp_is_length : Sp := fun vs H Q _ => ∃ (p : Addr) (s : Sd),vs = [.ref p] ∧ SdAt H p s ∧ SK 2400 2100 s ∧ ∀ H',Same H H' → Q (.bl true) H'
theorem wv {p : Addr} {s : Sd} {H : Hp} {Q : VK} {E : XK} (h : SdAt H p s) (ok : SK 2400 2100 s) (q : ∀ H',Same H H' → Q (.bl true) H') : sp_is_length ([.ref p] ++ []) H Q E := ⟨p,s,rfl,h,ok,q⟩
def sp_glued_beside (cs : Cs) : Sp := fun vs H Q E => ∃ (c c' : Cell),vs = [.ref c.p,.ref c'.p] ∧ c.At H ∧ c'.At H ∧ SY c.b.w ∧ SY c'.b.w ∧ (c.b.h = c'.b.h → ∀ (c1 : Cell) (H' : Hp),Same H H' → H c1.p = none → c1.At H' → c1.b = ⟨adS c.b.w c'.b.w,c.b.h⟩ → Q (.ref c1.p) H') ∧ (¬ c.b.h = c'.b.h → (∀ H',Same H H' → E (.ref cs.Unfit) none H'))
theorem xn {cs : Cs} {c c' : Cell} {H : Hp} {Q : VK} {E : XK} (hc : c.At H) (hc' : c'.At H) (okw : SY c.b.w) (oks : SY c'.b.w) (q : (c.b.h = c'.b.h → ∀ (c1 : Cell) (H' : Hp),Same H H' → H c1.p = none → c1.At H' → c1.b = ⟨adS c.b.w c'.b.w,c.b.h⟩ → Q (.ref c1.p) H')) (qe : (¬ c.b.h = c'.b.h → (∀ H',Same H H' → E (.ref cs.Unfit) none H'))) : sp_glued_beside cs ([.ref c.p,.ref c'.p] ++ []) H Q E := ⟨c,c',rfl,hc,hc',okw,oks,q,qe⟩
def sp_stacked : Sp := fun vs H Q _ => ∃ (c : Cell) (k : Int),vs = [.ref c.p,.int k] ∧ c.At H ∧ 1 ≤ k ∧ Bd 64 k ∧ SY c.b.w ∧ SY c.b.h ∧ ∀ (c1 : Cell) (H' : Hp),Same H H' → H c1.p = none → c1.At H' → c1.b = ⟨shS c.b.w 1 k,shS c.b.h k 1⟩ → Q (.ref c1.p) H'
theorem uT {c : Cell} {k : Int} {H : Hp} {Q : VK} {E : XK} (hc : c.At H) (k1 : 1 ≤ k) (bk : Bd 64 k) (okw : SY c.b.w) (okh : SY c.b.h) (q : ∀ (c1 : Cell) (H' : Hp),Same H H' → H c1.p = none → c1.At H' → c1.b = ⟨shS c.b.w 1 k,shS c.b.h k 1⟩ → Q (.ref c1.p) H') : sp_stacked ([.ref c.p,.int k] ++ []) H Q E := ⟨c,k,rfl,hc,k1,bk,okw,okh,q⟩
def sp__law_plus : Sp := fun vs H Q _ => ∃ (p p' : Addr) (s t : Sd) (g : Int),vs = [.ref p,.ref p',.int g] ∧ SdAt H p s ∧ SdAt H p' t ∧ SY s ∧ SY t ∧ Bd 60 g ∧ (∀ (r : Addr) (H' : Hp),Same H H' → SdAt H' r (plS s t g) → Q (.ref r) H')
theorem yE {p p' : Addr} {s t : Sd} {g : Int} {H : Hp} {Q : VK} {E : XK} (h1 : SdAt H p s) (h2 : SdAt H p' t) (o1 : SY s) (o2 : SY t) (bg : Bd 60 g) (q : (∀ (r : Addr) (H' : Hp),Same H H' → SdAt H' r (plS s t g) → Q (.ref r) H')) : sp__law_plus ([.ref p,.ref p',.int g] ++ []) H Q E := ⟨p,p',s,t,g,rfl,h1,h2,o1,o2,bg,q⟩
def sp__law_share : Sp := fun vs H Q _ => ∃ (p : Addr) (s : Sd) (m k : Int),vs = [.ref p,.int m,.int k] ∧ SdAt H p s ∧ SY s ∧ Bd 64 m ∧ k ≠ 0 ∧ Bd 64 k ∧ (∀ (r : Addr) (H' : Hp),Same H H' → SdAt H' r (shS s m k) → Q (.ref r) H')
theorem yh {p : Addr} {s : Sd} {m k : Int} {H : Hp} {Q : VK} {E : XK} (h1 : SdAt H p s) (ok : SY s) (bm : Bd 64 m) (k1 : k ≠ 0) (bk : Bd 64 k) (q : (∀ (r : Addr) (H' : Hp),Same H H' → SdAt H' r (shS s m k) → Q (.ref r) H')) : sp__law_share ([.ref p,.int m,.int k] ++ []) H Q E := ⟨p,s,m,k,rfl,h1,ok,bm,k1,bk,q⟩
def sp__law_side : Sp := fun vs H Q _ => ∃ (d c : Int) (k : Nat),vs = [.int d,.int c,.int (k : Int)] ∧ Rt d ∧ Bd 1048576 c ∧ k ≤ 10 ∧ (∀ (r : Addr) (H' : Hp) (s : Sd),Same H H' → SdAt H' r s → Dw d s → Q (.ref r) H')
theorem xr {d c : Int} {k : Nat} {H : Hp} {Q : VK} {E : XK} (hR : Rt d) (hc : Bd 1048576 c) (hk : k ≤ 10) (q : (∀ (r : Addr) (H' : Hp) (s : Sd),Same H H' → SdAt H' r s → Dw d s → Q (.ref r) H')) : sp__law_side ([.int d,.int c,.int (k : Int)] ++ []) H Q E := ⟨d,c,k,rfl,hR,hc,hk,q⟩
def sp__law_is_heap : Sp := fun vs H Q _ => ∃ (a b : Addr) (C D : List Cell),vs = [.ref a,.ref b] ∧ H a = some (.lst (C.map Cell.v)) ∧ H b = some (.lst (D.map Cell.v)) ∧ (∀ c ∈ C,c.At H) ∧ (∀ c ∈ D,c.At H) ∧ C.map Cell.b = D.map Cell.b ∧ Q (.bl true) H
theorem wX {a b : Addr} {C D : List Cell} {H : Hp} {Q : VK} {E : XK} (ha : H a = some (.lst (C.map Cell.v))) (hb : H b = some (.lst (D.map Cell.v))) (hC : (∀ c ∈ C,c.At H)) (hD : (∀ c ∈ D,c.At H)) (eq : C.map Cell.b = D.map Cell.b) (q : Q (.bl true) H) : sp__law_is_heap ([.ref a,.ref b] ++ []) H Q E := ⟨a,b,C,D,rfl,ha,hb,hC,hD,eq,q⟩
def sp_is_deed : Sp := fun vs H Q _ => ∃ (p : Addr),vs = [.ref p] ∧ ((∃ e,DdAt H p e ∧ e.Ok ∧ ∀ H',Same H H' → Q (.bl true) H') ∨ (H p = some (.tup [.str (Str.ofString "turn")]) ∧ Q (.bl false) H))
theorem uo {p : Addr} {e : Dd} {H : Hp} {Q : VK} {E : XK} (he : DdAt H p e) (ok : e.Ok) (q : ∀ H',Same H H' → Q (.bl true) H') : sp_is_deed ([.ref p] ++ []) H Q E := ⟨p,rfl,.inl ⟨e,he,ok,q⟩⟩
theorem Aw {p : Addr} {H : Hp} {Q : VK} {E : XK} (he : H p = some (.tup [.str (Str.ofString "turn")])) (q : Q (.bl false) H) : sp_is_deed ([.ref p] ++ []) H Q E := ⟨p,rfl,.inr ⟨he,q⟩⟩
def sp_cut_across (cs : Cs) : Sp := fun vs H Q E => ∃ (d : Int) (c : Cell) (p : Addr) (s : Sd),vs = [.int d,.ref c.p,.ref p] ∧ c.At H ∧ SdAt H p s ∧ Bd 64 d ∧ SY c.b.w ∧ SY s ∧ (CutC d c.b.w s → (∀ (r : Addr) (c1 c2 : Cell) (H' : Hp),Same H H' → H r = none → H' r = some (.lst [.ref c1.p,.ref c2.p]) → c1.At H' → c2.At H' → c1.b = ⟨s,c.b.h⟩ → c2.b = ⟨tkS c.b.w s,c.b.h⟩ → Q (.ref r) H')) ∧ (¬ CutC d c.b.w s → (∀ H',Same H H' → E (.ref cs.Unfit) none H'))
theorem wc {cs : Cs} {d : Int} {c : Cell} {p : Addr} {s : Sd} {H : Hp} {Q : VK} {E : XK} (hc : c.At H) (hs : SdAt H p s) (hd : Bd 64 d) (okw : SY c.b.w) (oks : SY s) (q : (CutC d c.b.w s → (∀ (r : Addr) (c1 c2 : Cell) (H' : Hp),Same H H' → H r = none → H' r = some (.lst [.ref c1.p,.ref c2.p]) → c1.At H' → c2.At H' → c1.b = ⟨s,c.b.h⟩ → c2.b = ⟨tkS c.b.w s,c.b.h⟩ → Q (.ref r) H'))) (qe : (¬ CutC d c.b.w s → (∀ H',Same H H' → E (.ref cs.Unfit) none H'))) : sp_cut_across cs ([.int d,.ref c.p,.ref p] ++ []) H Q E := ⟨d,c,p,s,rfl,hc,hs,hd,okw,oks,q,qe⟩
def sp__law_below : Sp := fun vs H Q _ => ∃ (d : Int) (p p' : Addr) (s t : Sd),vs = [.int d,.ref p,.ref p'] ∧ SdAt H p s ∧ SdAt H p' t ∧ SY s ∧ SY t ∧ Bd 64 d ∧ (∀ H',Same H H' → Q (.bl (decide (sgn d (tkS s t).x (tkS s t).y < 0))) H')
theorem ur {d : Int} {p p' : Addr} {s t : Sd} {H : Hp} {Q : VK} {E : XK} (h1 : SdAt H p s) (h2 : SdAt H p' t) (o1 : SY s) (o2 : SY t) (hd : Bd 64 d) (q : (∀ H',Same H H' → Q (.bl (decide (sgn d (tkS s t).x (tkS s t).y < 0))) H')) : sp__law_below ([.int d,.ref p,.ref p'] ++ []) H Q E := ⟨d,p,p',s,t,rfl,h1,h2,o1,o2,hd,q⟩
def sp__law_heap (K : PySem.W.Frag) : Sp := fun vs H Q _ => ∃ (p : Addr) (ns : List Int) (d : Int),vs = [.ref p,.int d,.int 1] ∧ SqL K H p (ns.map V.int) ∧ (∀ x ∈ ns,Bd 1048576 x) ∧ Rt d ∧ (∀ (r qa l : Addr) (H' : Hp) (P : PL) (L : List Cell),Same H H' → H' r = some (.tup [.ref qa,.ref l]) → Pl H' qa P → H' l = some (.lst (L.map Cell.v)) → (∀ c ∈ L,c.At H') → (∀ x ∈ P,Dw d x.2) → (∀ c ∈ L,Dw d c.b.w ∧ Dw d c.b.h) → 1 ≤ L.length → L.length ≤ 6 → Q (.ref r) H')
theorem tD {K : PySem.W.Frag} {p : Addr} {ns : List Int} {d : Int} {H : Hp} {Q : VK} {E : XK} (hS : SqL K H p (ns.map V.int)) (hb : (∀ x ∈ ns,Bd 1048576 x)) (hR : Rt d) (q : (∀ (r qa l : Addr) (H' : Hp) (P : PL) (L : List Cell),Same H H' → H' r = some (.tup [.ref qa,.ref l]) → Pl H' qa P → H' l = some (.lst (L.map Cell.v)) → (∀ c ∈ L,c.At H') → (∀ x ∈ P,Dw d x.2) → (∀ c ∈ L,Dw d c.b.w ∧ Dw d c.b.h) → 1 ≤ L.length → L.length ≤ 6 → Q (.ref r) H')) : sp__law_heap K ([.ref p,.int d,.int 1] ++ []) H Q E := ⟨p,ns,d,rfl,hS,hb,hR,q⟩
def sp__law_new : Sp := fun vs H Q _ => ∃ (p a : Addr) (d : Int) (e : Dd) (c c' : Cell),vs = [.ref p,.ref a] ∧ DdAt H p e ∧ H a = some (.lst (if e.two then [.ref c.p,.ref c'.p] else [.ref c.p])) ∧ c.At H ∧ c'.At H ∧ e.Fit d c.b c'.b ∧ (∀ (r : Addr) (N : List Cell) (H' : Hp),Same H H' → H r = none → H' r = some (.lst (N.map Cell.v)) → (∀ x ∈ N,x.At H') → N.map Cell.b = e.new c.b c'.b → Q (.ref r) H')
theorem Ay {p a : Addr} {d : Int} {e : Dd} {c c' : Cell} {H : Hp} {Q : VK} {E : XK} (he : DdAt H p e) (ha : H a = some (.lst (if e.two then [.ref c.p,.ref c'.p] else [.ref c.p]))) (hc : c.At H) (hc' : c'.At H) (hf : e.Fit d c.b c'.b) (q : (∀ (r : Addr) (N : List Cell) (H' : Hp),Same H H' → H r = none → H' r = some (.lst (N.map Cell.v)) → (∀ x ∈ N,x.At H') → N.map Cell.b = e.new c.b c'.b → Q (.ref r) H')) : sp__law_new ([.ref p,.ref a] ++ []) H Q E := ⟨p,a,d,e,c,c',rfl,he,ha,hc,hc',hf,q⟩
def sp__law_at : Sp := fun vs H Q _ => ∃ (d : Int) (l p qa : Addr) (ds : List Int) (s : Sd) (P : PL) (D : Int) (M K' : Nat),vs = [.int d,.ref l,.ref p,.ref qa] ∧ H l = some (.lst (ds.map V.int)) ∧ (ds.length : Int) = 8 ∧ (∀ x ∈ ds,0 ≤ x ∧ x < 1000000) ∧ SdAt H p s ∧ So d D M s ∧ Pl H qa P ∧ (∀ x ∈ P,So d D M x.2) ∧ Sz D K' M ∧ Rt d ∧ (∀ (r : Addr) (H' : Hp) (f : Sd) (k : Int),Same H H' → SdAt H' r f → 1 ≤ k → Bd 10 k → So d (D * k) (M + 10) f → sgn d (tkS s f).x (tkS s f).y = 1 → Q (.ref r) H')
theorem uL {d : Int} {l p qa : Addr} {ds : List Int} {s : Sd} {P : PL} {D : Int} {M K' : Nat} {H : Hp} {Q : VK} {E : XK} (hl : H l = some (.lst (ds.map V.int))) (n8 : (ds.length : Int) = 8) (hds : (∀ x ∈ ds,0 ≤ x ∧ x < 1000000)) (h1 : SdAt H p s) (so : So d D M s) (hP : Pl H qa P) (oP : (∀ x ∈ P,So d D M x.2)) (zz : Sz D K' M) (hR : Rt d) (q : (∀ (r : Addr) (H' : Hp) (f : Sd) (k : Int),Same H H' → SdAt H' r f → 1 ≤ k → Bd 10 k → So d (D * k) (M + 10) f → sgn d (tkS s f).x (tkS s f).y = 1 → Q (.ref r) H')) : sp__law_at ([.int d,.ref l,.ref p,.ref qa] ++ []) H Q E := ⟨d,l,p,qa,ds,s,P,D,M,K',rfl,hl,n8,hds,h1,so,hP,oP,zz,hR,q⟩
def sp__law_done : Sp := fun vs H Q _ => ∃ (a p : Addr) (ns : List Nat) (f : Nat → Cell) (k : Nat) (d D : Int) (M : Nat) (e : Dd) (n m : Nat),vs = [.ref a,.int (k : Int),.ref p] ∧ Ly H a ns f ∧ (∀ n ∈ ns,n < k) ∧ ns.length < 64 ∧ DdAt H p e ∧ e.Good d D M ns f n m ∧ (∀ (r a' : Addr) (N : List Cell) (H' : Hp),Same H H' → H a' = none → H' r = some (.tup [.ref a',.int ((k + N.length : Nat) : Int)]) → N.map Cell.b = (e.new (f n).b (f m).b) → Ly H' a' (yA ns e.names ++ List.range' k N.length) (fN f k N) → Q (.ref r) H')
theorem tJ {a p : Addr} {ns : List Nat} {f : Nat → Cell} {k : Nat} {d D : Int} {M : Nat} {e : Dd} {n m : Nat} {H : Hp} {Q : VK} {E : XK} (hL : Ly H a ns f) (lt : (∀ n ∈ ns,n < k)) (nl : ns.length < 64) (he : DdAt H p e) (gd : e.Good d D M ns f n m) (q : (∀ (r a' : Addr) (N : List Cell) (H' : Hp),Same H H' → H a' = none → H' r = some (.tup [.ref a',.int ((k + N.length : Nat) : Int)]) → N.map Cell.b = (e.new (f n).b (f m).b) → Ly H' a' (yA ns e.names ++ List.range' k N.length) (fN f k N) → Q (.ref r) H')) : sp__law_done ([.ref a,.int (k : Int),.ref p] ++ []) H Q E := ⟨a,p,ns,f,k,d,D,M,e,n,m,rfl,hL,lt,nl,he,gd,q⟩
def sp_Yard_put_by (cs : Cs) : Sp := fun vs H Q E => ∃ (y : Yd) (d : Int) (tn : Bool) (cl : List Cell) (ns : List Nat) (lg : List V) (p a : Addr) (e : Dd) (c c' : Cell),vs = [.ref y.p,.ref p,.ref a] ∧ YdAt cs.Yard H y d tn cl ns lg ∧ DdAt H p e ∧ H a = some (.lst (if e.two then [.ref c.p,.ref c'.p] else [.ref c.p])) ∧ c.At H ∧ c'.At H ∧ Bd 64 d ∧ e.Bnd c.b c'.b ∧ (e.Cond d c.b c'.b → (∀ (r : Addr) (N : List Cell) (H' : Hp),Same H H' → H r = none → H' r = some (.lst (N.map Cell.v)) → (∀ x ∈ N,x.At H') → N.map Cell.b = e.new c.b c'.b → Q (.ref r) H')) ∧ (¬ e.Cond d c.b c'.b → (∀ H',Same H H' → E (.ref cs.Unfit) none H'))
theorem vQ {cs : Cs} {y : Yd} {d : Int} {tn : Bool} {cl : List Cell} {ns : List Nat} {lg : List V} {p a : Addr} {e : Dd} {c c' : Cell} {H : Hp} {Q : VK} {E : XK} (hy : YdAt cs.Yard H y d tn cl ns lg) (he : DdAt H p e) (ha : H a = some (.lst (if e.two then [.ref c.p,.ref c'.p] else [.ref c.p]))) (hc : c.At H) (hc' : c'.At H) (hd : Bd 64 d) (hb : e.Bnd c.b c'.b) (q : (e.Cond d c.b c'.b → (∀ (r : Addr) (N : List Cell) (H' : Hp),Same H H' → H r = none → H' r = some (.lst (N.map Cell.v)) → (∀ x ∈ N,x.At H') → N.map Cell.b = e.new c.b c'.b → Q (.ref r) H'))) (qe : (¬ e.Cond d c.b c'.b → (∀ H',Same H H' → E (.ref cs.Unfit) none H'))) : sp_Yard_put_by cs ([.ref y.p,.ref p,.ref a] ++ []) H Q E := ⟨y,d,tn,cl,ns,lg,p,a,e,c,c',rfl,hy,he,ha,hc,hc',hd,hb,q,qe⟩
def sp__law_deed (K : PySem.W.Frag) : Sp := fun vs H Q _ => ∃ (d c : Int) (a qa : Addr) (ns : List Nat) (f : Nat → Cell) (P : PL) (D : Int) (M K' : Nat),vs = [.int d,.int c,.ref a,.ref qa] ∧ Bd 1048576 c ∧ Ly H a ns f ∧ ns.Pairwise (· < ·) ∧ ns.length < 64 ∧ ns ≠ [] ∧ (∀ n ∈ ns,BoD d D M (f n).b) ∧ Pl H qa P ∧ (∀ x ∈ P,So d D M x.2) ∧ Sz D K' M ∧ Rt d ∧ (∀ (p : Addr) (e : Dd) (n m : Nat) (H' : Hp),Same H H' → DdAt H' p e → e.Good d D M ns f n m → e.isT = false → Q (.ref p) H')
theorem u8 {K : PySem.W.Frag} {d c : Int} {a qa : Addr} {ns : List Nat} {f : Nat → Cell} {P : PL} {D : Int} {M K' : Nat} {H : Hp} {Q : VK} {E : XK} (hc : Bd 1048576 c) (hL : Ly H a ns f) (up : ns.Pairwise (· < ·)) (nl : ns.length < 64) (ne : ns ≠ []) (ob : (∀ n ∈ ns,BoD d D M (f n).b)) (hP : Pl H qa P) (oP : (∀ x ∈ P,So d D M x.2)) (zz : Sz D K' M) (hR : Rt d) (q : (∀ (p : Addr) (e : Dd) (n m : Nat) (H' : Hp),Same H H' → DdAt H' p e → e.Good d D M ns f n m → e.isT = false → Q (.ref p) H')) : sp__law_deed K ([.int d,.int c,.ref a,.ref qa] ++ []) H Q E := ⟨d,c,a,qa,ns,f,P,D,M,K',rfl,hc,hL,up,nl,ne,ob,hP,oP,zz,hR,q⟩
def sp_Yard_do (cs : Cs) : Sp := fun vs H Q E => ∃ (y : Yd) (d : Int) (tn : Bool) (cl : List Cell) (ns : List Nat) (lg : List V) (p : Addr),vs = [.ref y.p,.ref p] ∧ YdAt cs.Yard H y d tn cl ns lg ∧ Bd 64 d ∧ cl.length ≤ 198 ∧ lg.length ≤ 99 ∧ ((∃ (e : Dd) (c c' : Cell),DdAt H p e ∧ e.Ok ∧ (∀ m ∈ e.names,∃ n ∈ ns,m = (n : Int)) ∧ e.names.Nodup ∧ CellsOf cl e c c' ∧ e.Bnd c.b c'.b ∧ ((e.isT = true → tn = true) → e.Cond d c.b c'.b → (∀ (N : List Cell) (H' : Hp),YdAt cs.Yard H' y d tn (cl ++ N) (yA ns e.names ++ List.range' cl.length N.length) (lg ++ [.ref p]) → N.map Cell.b = e.new c.b c'.b → (∀ b o,H b = some o → b ≠ y.k → b ≠ y.l → b ≠ y.t → H' b = some o) → Q .non H')) ∧ (e.isT = true → tn = false → ∀ H',Same H H' → E (.ref cs.Grain) none H') ∧ (e.isT = false → ¬ e.Cond d c.b c'.b → (∀ H',Same H H' → E (.ref cs.Unfit) none H'))) ∨ (∃ (al : Bool) (z k : Int),DdAt H p (.shift al z k) ∧ 1 ≤ k ∧ Bd 64 k ∧ (∀ n ∈ ns,(n : Int) ≠ z) ∧ ∀ H',Same H H' → E (.ref cs.NoName) none H') ∨ (H p = some (.tup [.str (Str.ofString "turn")]) ∧ ∀ H',Same H H' → E (.ref cs.NoDeed) none H'))
theorem wH {cs : Cs} {y : Yd} {d : Int} {tn : Bool} {cl : List Cell} {ns : List Nat} {lg : List V} {p : Addr} {e : Dd} {c c' : Cell} {H : Hp} {Q : VK} {E : XK} (hy : YdAt cs.Yard H y d tn cl ns lg) (he : DdAt H p e) (ok : e.Ok) (hm : (∀ m ∈ e.names,∃ n ∈ ns,m = (n : Int))) (hn : e.names.Nodup) (hc : CellsOf cl e c c') (hd : Bd 64 d) (l1 : cl.length ≤ 198) (l2 : lg.length ≤ 99) (hb : e.Bnd c.b c'.b) (q : ((e.isT = true → tn = true) → e.Cond d c.b c'.b → (∀ (N : List Cell) (H' : Hp),YdAt cs.Yard H' y d tn (cl ++ N) (yA ns e.names ++ List.range' cl.length N.length) (lg ++ [.ref p]) → N.map Cell.b = e.new c.b c'.b → (∀ b o,H b = some o → b ≠ y.k → b ≠ y.l → b ≠ y.t → H' b = some o) → Q .non H'))) (qg : (e.isT = true → tn = false → ∀ H',Same H H' → E (.ref cs.Grain) none H')) (qu : (e.isT = false → ¬ e.Cond d c.b c'.b → (∀ H',Same H H' → E (.ref cs.Unfit) none H'))) : sp_Yard_do cs ([.ref y.p,.ref p] ++ []) H Q E := ⟨y,d,tn,cl,ns,lg,p,rfl,hy,hd,l1,l2,.inl ⟨e,c,c',he,ok,hm,hn,hc,hb,q,qg,qu⟩⟩
theorem AD {cs : Cs} {y : Yd} {d : Int} {tn : Bool} {cl : List Cell} {ns : List Nat} {lg : List V} {p : Addr} {al : Bool} {z k : Int} {H : Hp} {Q : VK} {E : XK} (hy : YdAt cs.Yard H y d tn cl ns lg) (hd : Bd 64 d) (l1 : cl.length ≤ 198) (l2 : lg.length ≤ 99) (he : DdAt H p (.shift al z k)) (k1 : 1 ≤ k) (bk : Bd 64 k) (hz : ∀ n ∈ ns,(n : Int) ≠ z) (q : ∀ H',Same H H' → E (.ref cs.NoName) none H') : sp_Yard_do cs ([.ref y.p,.ref p] ++ []) H Q E := ⟨y,d,tn,cl,ns,lg,p,rfl,hy,hd,l1,l2,.inr (.inl ⟨al,z,k,he,k1,bk,hz,q⟩)⟩
theorem AI {cs : Cs} {y : Yd} {d : Int} {tn : Bool} {cl : List Cell} {ns : List Nat} {lg : List V} {p : Addr} {H : Hp} {Q : VK} {E : XK} (hy : YdAt cs.Yard H y d tn cl ns lg) (hd : Bd 64 d) (l1 : cl.length ≤ 198) (l2 : lg.length ≤ 99) (he : H p = some (.tup [.str (Str.ofString "turn")])) (q : ∀ H',Same H H' → E (.ref cs.NoDeed) none H') : sp_Yard_do cs ([.ref y.p,.ref p] ++ []) H Q E := ⟨y,d,tn,cl,ns,lg,p,rfl,hy,hd,l1,l2,.inr (.inr ⟨he,q⟩)⟩
def sp_yard_behind (cs : Cs) : Sp := fun vs H Q E => ∃ (hp pl : Addr) (d : Int) (tn : Bool) (L : List Cell) (ps tl : List Addr) (es : DL),vs = [.int d,.ref hp,.ref pl,.bl tn] ∧ H hp = some (.lst (L.map Cell.v)) ∧ (∀ c ∈ L,c.At H) ∧ L.length ≤ 6 ∧ H pl = some (.lst ((ps ++ tl).map V.ref)) ∧ ps.length ≤ 30 ∧ Bd 64 d ∧ Runs H ps es ∧ Walk d tn (As.st L) es ∧ ((tl = [] ∧ (∀ (y : Yd) (H' : Hp),Same H H' → YdS cs.Yard H' y d tn (ends (As.st L) es) (ps.map V.ref) → Q (.ref y.p) H')) ∨ (∃ p rs C,tl = p :: rs ∧ Bad cs d tn (ends (As.st L) es) H p C ∧ ∀ H',Same H H' → E (.ref C) none H'))
theorem xF {cs : Cs} {hp pl : Addr} {d : Int} {tn : Bool} {L : List Cell} {ps tl : List Addr} {es : DL} {H : Hp} {Q : VK} {E : XK} (hh : H hp = some (.lst (L.map Cell.v))) (hA : (∀ c ∈ L,c.At H)) (l6 : L.length ≤ 6) (hpl : H pl = some (.lst ((ps ++ tl).map V.ref))) (plen : ps.length ≤ 30) (hd : Bd 64 d) (hr' : Runs H ps es) (hw : Walk d tn (As.st L) es) (hq : ((tl = [] ∧ (∀ (y : Yd) (H' : Hp),Same H H' → YdS cs.Yard H' y d tn (ends (As.st L) es) (ps.map V.ref) → Q (.ref y.p) H')) ∨ (∃ p rs C,tl = p :: rs ∧ Bad cs d tn (ends (As.st L) es) H p C ∧ ∀ H',Same H H' → E (.ref C) none H'))) : sp_yard_behind cs ([.int d,.ref hp,.ref pl,.bl tn] ++ []) H Q E := ⟨hp,pl,d,tn,L,ps,tl,es,rfl,hh,hA,l6,hpl,plen,hd,hr',hw,hq⟩
def sp__law_plan (K : PySem.W.Frag) : Sp := fun vs H Q _ => ∃ (d : Int) (sc l qa : Addr) (tn : Bool) (zs0 : List Int) (L : List Cell) (P : PL) (D0 : Int),vs = [.int d,.ref sc,.ref l,.ref qa,.bl tn] ∧ SqL K H sc (zs0.map V.int) ∧ (∀ x ∈ zs0,Bd 1048576 x) ∧ H l = some (.lst (L.map Cell.v)) ∧ (∀ c ∈ L,c.At H) ∧ 1 ≤ L.length ∧ L.length ≤ 6 ∧ Pl H qa P ∧ (1 ≤ D0 ∧ Bd 301 D0) ∧ (∀ c ∈ L,BoD d D0 341 c.b) ∧ (∀ x ∈ P,So d D0 341 x.2) ∧ Rt d ∧ (∀ (r pl sl : Addr) (ps ss : List Addr) (es : DL) (H' : Hp),Same H H' → H' r = some (.tup [.ref pl,.ref sl]) → H' pl = some (.lst (ps.map V.ref)) → H' sl = some (.lst (ss.map V.ref)) → Runs H' ps es → Walk d tn (As.st L) es → es.length ≤ 30 → ss.length = es.length + 1 → (∀ (j : Nat) (t : Addr),ss[j]? = some t → StAt H' t (ends (As.st L) (es.take j))) → Q (.ref r) H')
theorem u6 {K : PySem.W.Frag} {d : Int} {sc l qa : Addr} {tn : Bool} {zs0 : List Int} {L : List Cell} {P : PL} {D0 : Int} {H : Hp} {Q : VK} {E : XK} (hS : SqL K H sc (zs0.map V.int)) (hb : (∀ x ∈ zs0,Bd 1048576 x)) (hl : H l = some (.lst (L.map Cell.v))) (hA : (∀ c ∈ L,c.At H)) (l1 : 1 ≤ L.length) (l6 : L.length ≤ 6) (hP : Pl H qa P) (hD : (1 ≤ D0 ∧ Bd 301 D0)) (oL : (∀ c ∈ L,BoD d D0 341 c.b)) (oP : (∀ x ∈ P,So d D0 341 x.2)) (hR : Rt d) (q : (∀ (r pl sl : Addr) (ps ss : List Addr) (es : DL) (H' : Hp),Same H H' → H' r = some (.tup [.ref pl,.ref sl]) → H' pl = some (.lst (ps.map V.ref)) → H' sl = some (.lst (ss.map V.ref)) → Runs H' ps es → Walk d tn (As.st L) es → es.length ≤ 30 → ss.length = es.length + 1 → (∀ (j : Nat) (t : Addr),ss[j]? = some t → StAt H' t (ends (As.st L) (es.take j))) → Q (.ref r) H')) : sp__law_plan K ([.int d,.ref sc,.ref l,.ref qa,.bl tn] ++ []) H Q E := ⟨d,sc,l,qa,tn,zs0,L,P,D0,rfl,hS,hb,hl,hA,l1,l6,hP,hD,oL,oP,hR,q⟩
def sp_walked (cs : Cs) : Sp := fun vs H Q E => ∃ (hp pl : Addr) (d : Int) (tn : Bool) (L : List Cell) (ps tl : List Addr) (es : DL),vs = [.int d,.ref hp,.ref pl,.bl tn] ∧ H hp = some (.lst (L.map Cell.v)) ∧ (∀ c ∈ L,c.At H) ∧ L.length ≤ 6 ∧ H pl = some (.lst ((ps ++ tl).map V.ref)) ∧ ps.length ≤ 30 ∧ Bd 64 d ∧ Runs H ps es ∧ Walk d tn (As.st L) es ∧ ((tl = [] ∧ (∀ (r : Addr) (C : List Cell) (H' : Hp),Same H H' → H r = none → H' r = some (.lst (C.map Cell.v)) → (∀ c ∈ C,c.At H') → C.map Cell.b = (ends (As.st L) es).ns.map (ends (As.st L) es).g → Q (.ref r) H')) ∨ (∃ p rs C,tl = p :: rs ∧ Bad cs d tn (ends (As.st L) es) H p C ∧ ∀ H',Same H H' → E (.ref C) none H'))
theorem yI {cs : Cs} {hp pl : Addr} {d : Int} {tn : Bool} {L : List Cell} {ps tl : List Addr} {es : DL} {H : Hp} {Q : VK} {E : XK} (hh : H hp = some (.lst (L.map Cell.v))) (hA : (∀ c ∈ L,c.At H)) (l6 : L.length ≤ 6) (hpl : H pl = some (.lst ((ps ++ tl).map V.ref))) (plen : ps.length ≤ 30) (hd : Bd 64 d) (hr' : Runs H ps es) (hw : Walk d tn (As.st L) es) (hq : ((tl = [] ∧ (∀ (r : Addr) (C : List Cell) (H' : Hp),Same H H' → H r = none → H' r = some (.lst (C.map Cell.v)) → (∀ c ∈ C,c.At H') → C.map Cell.b = (ends (As.st L) es).ns.map (ends (As.st L) es).g → Q (.ref r) H')) ∨ (∃ p rs C,tl = p :: rs ∧ Bad cs d tn (ends (As.st L) es) H p C ∧ ∀ H',Same H H' → E (.ref C) none H'))) : sp_walked cs ([.int d,.ref hp,.ref pl,.bl tn] ++ []) H Q E := ⟨hp,pl,d,tn,L,ps,tl,es,rfl,hh,hA,l6,hpl,plen,hd,hr',hw,hq⟩
def sp__law_refused (cs : Cs) : Sp := fun vs H Q _ => ∃ (hp pl : Addr) (d : Int) (tn : Bool) (L : List Cell) (ps rs : List Addr) (es : DL) (p C : Addr) (due : Int),vs = [.int d,.ref hp,.ref pl,.bl tn,.int due] ∧ H hp = some (.lst (L.map Cell.v)) ∧ (∀ c ∈ L,c.At H) ∧ L.length ≤ 6 ∧ H pl = some (.lst ((ps ++ p :: rs).map V.ref)) ∧ ps.length ≤ 30 ∧ Bd 64 d ∧ Runs H ps es ∧ Walk d tn (As.st L) es ∧ Bad cs d tn (ends (As.st L) es) H p C ∧ ((due = 0 ∧ C = cs.NoDeed) ∨ (due = 1 ∧ C = cs.NoName) ∨ (due = 2 ∧ C = cs.Unfit) ∨ (due = 3 ∧ C = cs.Grain)) ∧ (∀ H',Same H H' → Q (.bl true) H')
theorem vh {cs : Cs} {hp pl : Addr} {d : Int} {tn : Bool} {L : List Cell} {ps rs : List Addr} {es : DL} {p C : Addr} {due : Int} {H : Hp} {Q : VK} {E : XK} (hh : H hp = some (.lst (L.map Cell.v))) (hA : (∀ c ∈ L,c.At H)) (l6 : L.length ≤ 6) (hpl : H pl = some (.lst ((ps ++ p :: rs).map V.ref))) (plen : ps.length ≤ 30) (hd : Bd 64 d) (hr' : Runs H ps es) (hw : Walk d tn (As.st L) es) (hbad : Bad cs d tn (ends (As.st L) es) H p C) (hdue : ((due = 0 ∧ C = cs.NoDeed) ∨ (due = 1 ∧ C = cs.NoName) ∨ (due = 2 ∧ C = cs.Unfit) ∨ (due = 3 ∧ C = cs.Grain))) (q : (∀ H',Same H H' → Q (.bl true) H')) : sp__law_refused cs ([.int d,.ref hp,.ref pl,.bl tn,.int due] ++ []) H Q E := ⟨hp,pl,d,tn,L,ps,rs,es,p,C,due,rfl,hh,hA,l6,hpl,plen,hd,hr',hw,hbad,hdue,q⟩
theorem uZ : FnScope ["thing"] ["thing"] (defScope s_is_whole) := ⟨rfl,rfl,rfl,by decide +kernel,rfl,by decide +kernel,by decide +kernel⟩
theorem sc_common_divisor : FnScope ["one","other","pair","rest"] ["one","other"] (defScope s_common_divisor) := ⟨rfl,rfl,rfl,by decide +kernel,rfl,by decide +kernel,by decide +kernel⟩
theorem wy : FnScope ["divisor","bottom"] ["divisor","bottom"] (defScope s_with_sign_of) := ⟨rfl,rfl,rfl,by decide +kernel,rfl,by decide +kernel,by decide +kernel⟩
theorem xG : FnScope ["d","a","b"] ["d","a","b"] (defScope s_is_above_nought) := ⟨rfl,rfl,rfl,by decide +kernel,rfl,by decide +kernel,by decide +kernel⟩
theorem vg : FnScope ["deed"] ["deed"] (defScope s_names_taken) := ⟨rfl,rfl,rfl,by decide +kernel,rfl,by decide +kernel,by decide +kernel⟩
theorem BU : FnScope ["one"] ["one"] (defScope s_turned) := ⟨rfl,rfl,rfl,by decide +kernel,rfl,by decide +kernel,by decide +kernel⟩
theorem uC : FnScope ["_law_script","_law_k"] ["_law_script","_law_k"] (defScope s__law_cell) := ⟨rfl,rfl,rfl,by decide +kernel,rfl,by decide +kernel,by decide +kernel⟩
theorem vG : FnScope ["_law_found"] ["_law_found"] (defScope s__law_whole) := ⟨rfl,rfl,rfl,by decide +kernel,rfl,by decide +kernel,by decide +kernel⟩
theorem sc__law_great : FnScope ["_law_cell_here","_law_k","_law_number"] ["_law_cell_here","_law_k"] (defScope s__law_great) := ⟨rfl,rfl,rfl,by decide +kernel,rfl,by decide +kernel,by decide +kernel⟩
theorem sc__law_divisor : FnScope ["_law_one","_law_other"] ["_law_one","_law_other"] (defScope s__law_divisor) := ⟨rfl,rfl,rfl,by decide +kernel,rfl,by decide +kernel,by decide +kernel⟩
theorem ui : FnScope ["_law_d","_law_a","_law_b"] ["_law_d","_law_a","_law_b"] (defScope s__law_sign) := ⟨rfl,rfl,rfl,by decide +kernel,rfl,by decide +kernel,by decide +kernel⟩
theorem sc__law_begin : FnScope ["_law_heap_here","_law_lying","_law_k"] ["_law_heap_here"] (defScope s__law_begin) := ⟨rfl,rfl,rfl,by decide +kernel,rfl,by decide +kernel,by decide +kernel⟩
theorem sc__law_alone : FnScope ["_law_error","_law_many"] ["_law_error"] (defScope s__law_alone) := ⟨rfl,rfl,rfl,by decide +kernel,rfl,by decide +kernel,by decide +kernel⟩
theorem wm : FnScope ["self","d","heap","turning"] ["self","d","heap","turning"] (defScope s_Yard___init__) := ⟨rfl,rfl,rfl,by decide +kernel,rfl,by decide +kernel,by decide +kernel⟩
theorem uy : FnScope ["self"] ["self"] (defScope s_Yard_heap) := ⟨rfl,rfl,rfl,by decide +kernel,rfl,by decide +kernel,by decide +kernel⟩
theorem sc_length : FnScope ["a","b","n","divisor"] ["a","b","n"] (defScope s_length) := ⟨rfl,rfl,rfl,by decide +kernel,rfl,by decide +kernel,by decide +kernel⟩
theorem sc_added : FnScope ["one","other","shared","ahead","behind","a","b","left"] ["one","other"] (defScope s_added) := ⟨rfl,rfl,rfl,by decide +kernel,rfl,by decide +kernel,by decide +kernel⟩
theorem Da : FnScope ["d","one","other"] ["d","one","other"] (defScope s_under) := ⟨rfl,rfl,rfl,by decide +kernel,rfl,by decide +kernel,by decide +kernel⟩
theorem sc__law_digits : FnScope ["_law_cell_here","_law_many","_law_found","_law_number","_law_k"] ["_law_cell_here","_law_many"] (defScope s__law_digits) := ⟨rfl,rfl,rfl,by decide +kernel,rfl,by decide +kernel,by decide +kernel⟩
theorem sc__law_lowest : FnScope ["_law_a","_law_b","_law_n","_law_share_here"] ["_law_a","_law_b","_law_n"] (defScope s__law_lowest) := ⟨rfl,rfl,rfl,by decide +kernel,rfl,by decide +kernel,by decide +kernel⟩
theorem sc__law_root : FnScope ["_law_cell_here","_law_k","_law_some"] ["_law_cell_here","_law_k"] (defScope s__law_root) := ⟨rfl,rfl,rfl,by decide +kernel,rfl,by decide +kernel,by decide +kernel⟩
theorem xW : FnScope ["_law_found"] ["_law_found"] (defScope s__law_is_length) := ⟨rfl,rfl,rfl,by decide +kernel,rfl,by decide +kernel,by decide +kernel⟩
theorem sc__law_spoilt : FnScope ["_law_plan_here","_law_states","_law_cell_here","_law_due","_law_at_here","_law_lying","_law_used","_law_name","_law_none","_law_none_there","_law_deed_here"] ["_law_plan_here","_law_states","_law_cell_here","_law_due"] (defScope s__law_spoilt) := ⟨rfl,rfl,rfl,by decide +kernel,rfl,by decide +kernel,by decide +kernel⟩
theorem sc_Yard_check_names : FnScope ["self","names","name"] ["self","names"] (defScope s_Yard_check_names) := ⟨rfl,rfl,rfl,by decide +kernel,rfl,by decide +kernel,by decide +kernel⟩
theorem Cj : FnScope ["one","other"] ["one","other"] (defScope s_taken) := ⟨rfl,rfl,rfl,by decide +kernel,rfl,by decide +kernel,by decide +kernel⟩
theorem uS : FnScope ["thing"] ["thing"] (defScope s_is_length) := ⟨rfl,rfl,rfl,by decide +kernel,rfl,by decide +kernel,by decide +kernel⟩
theorem wT : FnScope ["one","other"] ["one","other"] (defScope s_glued_beside) := ⟨rfl,rfl,rfl,by decide +kernel,rfl,by decide +kernel,by decide +kernel⟩
theorem sc_stacked : FnScope ["one","many","width","height"] ["one","many"] (defScope s_stacked) := ⟨rfl,rfl,rfl,by decide +kernel,rfl,by decide +kernel,by decide +kernel⟩
theorem sc__law_plus : FnScope ["_law_one","_law_other","_law_sign_here","_law_a","_law_b"] ["_law_one","_law_other","_law_sign_here"] (defScope s__law_plus) := ⟨rfl,rfl,rfl,by decide +kernel,rfl,by decide +kernel,by decide +kernel⟩
theorem vS : FnScope ["_law_one","_law_top","_law_bottom"] ["_law_one","_law_top","_law_bottom"] (defScope s__law_share) := ⟨rfl,rfl,rfl,by decide +kernel,rfl,by decide +kernel,by decide +kernel⟩
theorem sc__law_side : FnScope ["_law_d","_law_cell_here","_law_at_here","_law_digits_here","_law_a","_law_b","_law_n","_law_sign_here"] ["_law_d","_law_cell_here","_law_at_here"] (defScope s__law_side) := ⟨rfl,rfl,rfl,by decide +kernel,rfl,by decide +kernel,by decide +kernel⟩
theorem sc__law_is_heap : FnScope ["_law_found","_law_due","_law_one"] ["_law_found","_law_due"] (defScope s__law_is_heap) := ⟨rfl,rfl,rfl,by decide +kernel,rfl,by decide +kernel,by decide +kernel⟩
theorem AC : FnScope ["thing"] ["thing"] (defScope s_is_deed) := ⟨rfl,rfl,rfl,by decide +kernel,rfl,by decide +kernel,by decide +kernel⟩
theorem vz : FnScope ["d","one","at"] ["d","one","at"] (defScope s_cut_across) := ⟨rfl,rfl,rfl,by decide +kernel,rfl,by decide +kernel,by decide +kernel⟩
theorem sc__law_below : FnScope ["_law_d","_law_one","_law_other","_law_left"] ["_law_d","_law_one","_law_other"] (defScope s__law_below) := ⟨rfl,rfl,rfl,by decide +kernel,rfl,by decide +kernel,by decide +kernel⟩
theorem sc__law_heap : FnScope ["_law_script","_law_d","_law_first","_law_pool","_law_heap_here","_law_k","_law_cell_here","_law_digits_here","_law_width","_law_height"] ["_law_script","_law_d","_law_first"] (defScope s__law_heap) := ⟨rfl,rfl,rfl,by decide +kernel,rfl,by decide +kernel,by decide +kernel⟩
theorem sc__law_new : FnScope ["_law_deed_here","_law_some","_law_width","_law_height"] ["_law_deed_here","_law_some"] (defScope s__law_new) := ⟨rfl,rfl,rfl,by decide +kernel,rfl,by decide +kernel,by decide +kernel⟩
theorem sc__law_at : FnScope ["_law_d","_law_digits_here","_law_side_here","_law_pool","_law_at_here","_law_bottom"] ["_law_d","_law_digits_here","_law_side_here","_law_pool"] (defScope s__law_at) := ⟨rfl,rfl,rfl,by decide +kernel,rfl,by decide +kernel,by decide +kernel⟩
theorem sc__law_done : FnScope ["_law_lying","_law_used","_law_deed_here","_law_names","_law_new_here","_law_left","_law_name","_law_k"] ["_law_lying","_law_used","_law_deed_here"] (defScope s__law_done) := ⟨rfl,rfl,rfl,by decide +kernel,rfl,by decide +kernel,by decide +kernel⟩
theorem sc_Yard_put_by : FnScope ["self","deed","boards","word"] ["self","deed","boards"] (defScope s_Yard_put_by) := ⟨rfl,rfl,rfl,by decide +kernel,rfl,by decide +kernel,by decide +kernel⟩
theorem sc__law_deed : FnScope ["_law_d","_law_cell_here","_law_lying","_law_pool","_law_digits_here","_law_names","_law_name","_law_way","_law_side_here","_law_others"] ["_law_d","_law_cell_here","_law_lying","_law_pool"] (defScope s__law_deed) := ⟨rfl,rfl,rfl,by decide +kernel,rfl,by decide +kernel,by decide +kernel⟩
theorem sc_Yard_do : FnScope ["self","deed","names","fresh","name","one"] ["self","deed"] (defScope s_Yard_do) := ⟨rfl,rfl,rfl,by decide +kernel,rfl,by decide +kernel,by decide +kernel⟩
theorem sc_yard_behind : FnScope ["d","heap","plan","turning","yard","deed"] ["d","heap","plan","turning"] (defScope s_yard_behind) := ⟨rfl,rfl,rfl,by decide +kernel,rfl,by decide +kernel,by decide +kernel⟩
theorem sc__law_plan : FnScope ["_law_d","_law_script","_law_heap_here","_law_pool","_law_freed","_law_lying","_law_used","_law_plan_here","_law_states","_law_cell_here","_law_deed_here"] ["_law_d","_law_script","_law_heap_here","_law_pool","_law_freed"] (defScope s__law_plan) := ⟨rfl,rfl,rfl,by decide +kernel,rfl,by decide +kernel,by decide +kernel⟩
theorem BV : FnScope ["d","heap","plan","turning"] ["d","heap","plan","turning"] (defScope s_walked) := ⟨rfl,rfl,rfl,by decide +kernel,rfl,by decide +kernel,by decide +kernel⟩
theorem sc__law_refused : FnScope ["_law_d","_law_heap_here","_law_plan_here","_law_freed","_law_due","_law_kept","_law_error"] ["_law_d","_law_heap_here","_law_plan_here","_law_freed","_law_due"] (defScope s__law_refused) := ⟨rfl,rfl,rfl,by decide +kernel,rfl,by decide +kernel,by decide +kernel⟩
theorem sc_law : FnScope ["_law_script","_law_d","_law_pool","_law_heap_here","_law_freed","_law_plan_here","_law_states","_law_lying","_law_due","_law_handed","_law_found","_law_way"] ["_law_script"] (defScope s_law) := ⟨rfl,rfl,rfl,by decide +kernel,rfl,by decide +kernel,by decide +kernel⟩
section
variable {P : Program} {w : World} {K : PySem.W.Frag} {mg : Str → Option Value} {base : Heap} {cs : Cs}
theorem ok_is_whole {f : Addr} {fd : FuncData} (F : Fun K "is_whole" "is_whole" s_is_whole f fd) (B : Bl mg)   : FnOk P w K mg base CX0 1 f fd ["thing"] sp_is_whole := by
  refine F.ok (k := 0) uZ (fun vs H Q E h => ?_) (fun cdv A outer s H vs Q E hr h => ?_)
  · obtain ⟨i,rfl,q⟩ := h
    rfl
  obtain ⟨i,rfl,q⟩ := h
  refine ⟨_,(ze (zp (wg (zm zP rfl B.isinstance zj (za (pv 0) (za (yF (v := .ty "int") rfl B.int yy rfl) zc))) (wD (Bi (zm zP rfl B.isinstance zj (za (pv 0) (za (yF (v := .ty "bool") rfl B.bool Cf rfl) zc)))))))),?_⟩
  rw [show zI ["thing"] [.int i] = [some (.int i)] from rfl]
  walk_at "r"
  exact q
theorem ok_common_divisor {f : Addr} {fd : FuncData} (F : Fun K "common_divisor" "common_divisor" s_common_divisor f fd) (B : Bl mg) (g_GREAT_BITS : TopI mg "GREAT_BITS" (8192))  : FnOk P w K mg base CX0 1 f fd ["one","other"] sp_common_divisor := by
  obtain ⟨u_GREAT_BITS,m_GREAT_BITS,r_GREAT_BITS⟩ := g_GREAT_BITS
  refine F.ok (k := 0) sc_common_divisor (fun vs H Q E h => ?_) (fun cdv A outer s H vs Q E hr h => ?_)
  · obtain ⟨a,b,rfl,hb,q⟩ := h
    rfl
  obtain ⟨a,b,rfl,hb,q⟩ := h
  refine ⟨_,(zd (zJ (zn wp (EJ PySem.F.plainAttrs_int PySem.F.slot_int_bit_length PySem.F.type_int_bit_length DU (pv 1)) (zM (v := .int (8192)) rfl m_GREAT_BITS r_GREAT_BITS) (zt _)) AY zu) (zd (Af PassesOwn.never (zn AL (pv 1) zb (zt _)) (zd (zr (i := 3) sc_common_divisor.nd rfl (Or.inl rfl) (zi Ex (pv 0) (pv 1))) (zd (zr (i := 0) sc_common_divisor.nd rfl (Or.inl rfl) (pv 1)) (ze (zr (i := 1) sc_common_divisor.nd rfl (Or.inl rfl) (pv 3)))))) (ze (zp (zm wQ rfl B.abs BP (za (pv 0) zc)))))),?_⟩
  rw [show zI ["one","other","pair","rest"] [.int a,.int b] = [some (.int a),some (.int b),none,none] from rfl]
  walk_at "r"
  refine if_d (fun c => absurd c (Ep hb)) (fun _ => ?_)
  walk_at "r"
  refine tR (fun σ' H' => ∃ (x y : Int) (r : Option V),σ' = [some (.int x),some (.int y),none,r] ∧ H' = H ∧ Int.gcd x y = Int.gcd a b) (fun σ' _ => match σ' with | [_,some (.int y),_,_] => y.natAbs | _ => 0) ⟨a,b,none,rfl,rfl,rfl⟩ ?_ ?_
  · rintro σ' H' ⟨x,y,r,rfl,rfl,hg⟩
    walk_at "r"
    refine AA (fun c => ?_) (fun c => ?_)
    · walk_at "r"
      exact ⟨⟨y,x.fmod y,_,rfl,rfl,(Cr x y).trans hg⟩,Ei c⟩
    · walk_at "r"
      have e : (if x < 0 then -x else x) = ((Int.gcd a b : Nat) : Int) := by
        rw [← hg,c,Int.gcd_zero_right]
        split <;> omega
      rw [e]
      exact q
  · intro σ H Q Q' hq h
    obtain ⟨v,e,hs,k,e2,z⟩ := h
    exact ⟨v,e,hs,k,e2,hq _ _ z⟩
theorem ok_with_sign_of {f : Addr} {fd : FuncData} (F : Fun K "with_sign_of" "with_sign_of" s_with_sign_of f fd) (B : Bl mg)   : FnOk P w K mg base CX0 1 f fd ["divisor","bottom"] sp_with_sign_of := by
  refine F.ok (k := 0) wy (fun vs H Q E h => ?_) (fun cdv A outer s H vs Q E hr h => ?_)
  · obtain ⟨g,n,rfl,q⟩ := h
    rfl
  obtain ⟨g,n,rfl,q⟩ := h
  refine ⟨_,(ze (zp (tY (zn uD (pv 1) zb (zt _)) (wZ xo (pv 0)) (pv 0)))),?_⟩
  rw [show zI ["divisor","bottom"] [.int g,.int n] = [some (.int g),some (.int n)] from rfl]
  walk_at "r"
  refine if_d (fun c => ?_) (fun c => ?_)
  · walk_at "r"
    rw [if_pos c] at q
    exact q
  · walk_at "r"
    rw [if_neg c] at q
    exact q
theorem ok_is_above_nought {f : Addr} {fd : FuncData} (F : Fun K "is_above_nought" "is_above_nought" s_is_above_nought f fd) (B : Bl mg)   : FnOk P w K mg base CX0 1 f fd ["d","a","b"] sp_is_above_nought := by
  refine F.ok (k := 0) xG (fun vs H Q E h => ?_) (fun cdv A outer s H vs Q E hr h => ?_)
  · obtain ⟨d,a,b,rfl,hd,ha,hb,q⟩ := h
    rfl
  obtain ⟨d,a,b,rfl,hd,ha,hb,q⟩ := h
  refine ⟨_,(zd (zJ (PW.pt (yJ (zn By (pv 1) zb (zt _)) (ym (zn By (pv 2) zb (zt _))))) (ze (zp (Gv (z9 wp (pv 1) zb (zt _)) (wD (z9 wp (pv 2) zb (zt _)))))) zu) (zd (zJ (PW.pt (yJ (zn CW (pv 1) zb (zt _)) (ym (zn CW (pv 2) zb (zt _))))) (ze (zp yN)) zu) (zd (zJ (zn wp (pv 1) zb (zt _)) (ze (zp (z9 wp (zi zx (pv 1) (pv 1)) (zi zx (zi zx (pv 0) (pv 2)) (pv 2)) (zt _)))) zu) (ze (zp (z9 wp (zi zx (zi zx (pv 0) (pv 2)) (pv 2)) (zi zx (pv 1) (pv 1)) (zt _))))))),?_⟩
  rw [show zI ["d","a","b"] [.int d,.int a,.int b] = [some (.int d),some (.int a),some (.int b)] from rfl]
  walk_at "r"
  refine if_d (fun c1 => ?_) (fun c1 => ?_)
  · walk_at "r"
    refine if_d (fun c2 => ?_) (fun c2 => ?_)
    · walk_at "r"
      refine if_d (fun c3 => ?_) (fun c3 => ?_)
      · exact bl_q (Eq.symm (decide_eq_true (by unfold sgn; rw [if_pos ⟨c1,c2⟩,if_pos (by omega)]; decide))) q
      · walk_at "r"
        exact bl_q (decide_eq_decide.mpr (by unfold sgn; rw [if_pos ⟨c1,c2⟩]; split <;> omega)) q
    · walk_at "r"
      refine if_d (fun c3 => ?_) (fun c3 => ?_)
      · walk_at "r"
        refine if_d (fun c4 => ?_) (fun c4 => ?_)
        · walk_at "r"
          exact bl_q (Eq.symm (decide_eq_false (by unfold sgn; rw [if_neg (by omega),if_pos ⟨c3,c4⟩]; decide))) q
        · omega
      · walk_at "r"
        refine if_d (fun c4 => ?_) (fun c4 => ?_)
        · walk_at "r"
          exact bl_q (decide_eq_decide.mpr (by unfold sgn; rw [if_neg (by omega),if_neg (by omega),if_pos c4]; split <;> omega)) q
        · omega
  · walk_at "r"
    refine if_d (fun c3 => ?_) (fun c3 => ?_)
    · walk_at "r"
      refine if_d (fun c4 => ?_) (fun c4 => ?_)
      · walk_at "r"
        exact bl_q (Eq.symm (decide_eq_false (by unfold sgn; rw [if_neg (by omega),if_pos ⟨c3,c4⟩]; decide))) q
      · walk_at "r"
        refine if_d (fun c5 => ?_) (fun c5 => ?_)
        · omega
        · walk_at "r"
          exact bl_q (decide_eq_decide.mpr (by unfold sgn; rw [if_neg (by omega),if_neg (by omega),if_neg c5]; split <;> omega)) q
    · omega
theorem ok_names_taken {f : Addr} {fd : FuncData} (F : Fun K "names_taken" "names_taken" s_names_taken f fd) (B : Bl mg) (g_GLUINGS : TopT K mg "GLUINGS" [.str "beside",.str "atop"])  : FnOk P w K mg base CX0 1 f fd ["deed"] sp_names_taken := by
  obtain ⟨a_GLUINGS,m_GLUINGS,q_GLUINGS⟩ := g_GLUINGS
  refine F.ok (k := 0) vg (fun vs H Q E h => ?_) (fun cdv A outer s H vs Q E hr h => ?_)
  · obtain ⟨p,e,rfl,he,q⟩ := h
    rfl
  obtain ⟨p,e,rfl,he,q⟩ := h
  refine ⟨_,(ze (zp (tY (zn xh (zg zh (pv 0) zb (fun _ _ => rfl)) (zM (v := .ref a_GLUINGS) rfl m_GLUINGS rfl) (by with_unfolding_all rfl)) (zQ (za (zg zh (pv 0) zb (fun _ _ => rfl)) (za (zg zh (pv 0) zb (fun _ _ => rfl)) zc))) (zQ (za (zg zh (pv 0) zb (fun _ _ => rfl)) zc))))),?_⟩
  rw [show zI ["deed"] [.ref p] = [some (.ref p)] from rfl]
  cases e with
  | cut al n s =>
    obtain ⟨pq,h0,hs⟩ := he
    cases al with
    | false =>
      have h0 : H p = some (.tup [.str (Str.ofString "across"),.int n,.ref pq]) := h0
      walk_at "r"
      refine ⟨_,_,rfl,.inr (q_GLUINGS H),rfl,rfl,?_⟩
      rw [show (if false = true then !inV _ _ else inV _ _) = false from by decide +kernel]
      walk_at "r"
      refine zw (by simp) fun r H1 hr s1 e1 => ?_
      exact q r H1 s1 hr e1
    | true =>
      have h0 : H p = some (.tup [.str (Str.ofString "along"),.int n,.ref pq]) := h0
      walk_at "r"
      refine ⟨_,_,rfl,.inr (q_GLUINGS H),rfl,rfl,?_⟩
      rw [show (if false = true then !inV _ _ else inV _ _) = false from by decide +kernel]
      walk_at "r"
      refine zw (by simp) fun r H1 hr s1 e1 => ?_
      exact q r H1 s1 hr e1
  | glue al n m =>
    have h0 := he
    cases al with
    | false =>
      have h0 : H p = some (.tup [.str (Str.ofString "beside"),.int n,.int m]) := h0
      walk_at "r"
      refine ⟨_,_,rfl,.inr (q_GLUINGS H),rfl,rfl,?_⟩
      rw [show (if false = true then !inV _ _ else inV _ _) = true from by decide +kernel]
      walk_at "r"
      refine zw (by simp) fun r H1 hr s1 e1 => ?_
      exact q r H1 s1 hr e1
    | true =>
      have h0 : H p = some (.tup [.str (Str.ofString "atop"),.int n,.int m]) := h0
      walk_at "r"
      refine ⟨_,_,rfl,.inr (q_GLUINGS H),rfl,rfl,?_⟩
      rw [show (if false = true then !inV _ _ else inV _ _) = true from by decide +kernel]
      walk_at "r"
      refine zw (by simp) fun r H1 hr s1 e1 => ?_
      exact q r H1 s1 hr e1
  | shift al n k =>
    have h0 := he
    cases al with
    | false =>
      have h0 : H p = some (.tup [.str (Str.ofString "stack"),.int n,.int k]) := h0
      walk_at "r"
      refine ⟨_,_,rfl,.inr (q_GLUINGS H),rfl,rfl,?_⟩
      rw [show (if false = true then !inV _ _ else inV _ _) = false from by decide +kernel]
      walk_at "r"
      refine zw (by simp) fun r H1 hr s1 e1 => ?_
      exact q r H1 s1 hr e1
    | true =>
      have h0 : H p = some (.tup [.str (Str.ofString "spread"),.int n,.int k]) := h0
      walk_at "r"
      refine ⟨_,_,rfl,.inr (q_GLUINGS H),rfl,rfl,?_⟩
      rw [show (if false = true then !inV _ _ else inV _ _) = false from by decide +kernel]
      walk_at "r"
      refine zw (by simp) fun r H1 hr s1 e1 => ?_
      exact q r H1 s1 hr e1
  | turn n =>
    have h0 := he
    have h0 : H p = some (.tup [.str (Str.ofString "turn"),.int n]) := h0
    walk_at "r"
    refine ⟨_,_,rfl,.inr (q_GLUINGS H),rfl,rfl,?_⟩
    rw [show (if false = true then !inV _ _ else inV _ _) = false from by decide +kernel]
    walk_at "r"
    refine zw (by simp) fun r H1 hr s1 e1 => ?_
    exact q r H1 s1 hr e1
theorem ok_turned {f : Addr} {fd : FuncData} (F : Fun K "turned" "turned" s_turned f fd) (B : Bl mg)   : FnOk P w K mg base CX0 1 f fd ["one"] sp_turned := by
  refine F.ok (k := 0) BU (fun vs H Q E h => ?_) (fun cdv A outer s H vs Q E hr h => ?_)
  · obtain ⟨c,rfl,hc,q⟩ := h
    rfl
  obtain ⟨c,rfl,hc,q⟩ := h
  refine ⟨_,(ze (zp (zR (za (zg zh (pv 0) zb (fun _ _ => rfl)) (za (zg zh (pv 0) zb (fun _ _ => rfl)) zc))))),?_⟩
  rw [show zI ["one"] [.ref c.p] = [some (.ref c.p)] from rfl]
  have ct := hc.t
  walk_at "r"
  refine zE (by simp) fun r H1 hr s1 e1 => ?_
  exact q r H1 s1 hr ⟨e1,s1 _ _ hc.h,s1 _ _ hc.w⟩
theorem ok__law_cell {f : Addr} {fd : FuncData} (F : Fun K "_law_cell" "_law_cell" s__law_cell f fd) (B : Bl mg)   : FnOk P w K mg base CX0 1 f fd ["_law_script","_law_k"] (sp__law_cell K) := by
  refine F.ok (k := 0) uC (fun vs H Q E h => ?_) (fun cdv A outer s H vs Q E hr h => ?_)
  · obtain ⟨p,ns,k,rfl,hS,hk,hb,q⟩ := h
    rfl
  obtain ⟨p,ns,k,rfl,hS,hk,hb,q⟩ := h
  refine ⟨_,(zd (zJ (zn uD (pv 1) (zm zH rfl B.len PySem.boot_len (za (pv 0) zc)) (zt _)) (ze (zp (zg zo (pv 0) (pv 1) (fun _ _ => rfl)))) zu) (ze (zp zb))),?_⟩
  rw [show zI ["_law_script","_law_k"] [.ref p,.int k] = [some (.ref p),some (.int k)] from rfl]
  walk_at "r"
  refine ⟨p,_,rfl,.inl hS,?_⟩
  walk_at "r"
  refine if_d (fun c => ?_) (fun c => ?_)
  · walk_at "r"
    rw [List.length_map] at c
    obtain ⟨d,hd,e⟩ := uq (xs := ns) (i := k) hk c
    exact ⟨p,_,_,_,rfl,rfl,hS,e,q d (hb d hd)⟩
  · walk_at "r"
    exact q 0 (by exact (AO 0).mono (by decide +kernel))
theorem ok__law_whole {f : Addr} {fd : FuncData} (F : Fun K "_law_whole" "_law_whole" s__law_whole f fd) (B : Bl mg)   : FnOk P w K mg base CX0 1 f fd ["_law_found"] sp__law_whole := by
  refine F.ok (k := 0) vG (fun vs H Q E h => ?_) (fun cdv A outer s H vs Q E hr h => ?_)
  · obtain ⟨i,rfl,q⟩ := h
    rfl
  obtain ⟨i,rfl,q⟩ := h
  refine ⟨_,(ze (zp (wg (zm zP rfl B.isinstance zj (za (pv 0) (za (yF (v := .ty "int") rfl B.int yy rfl) zc))) (wD (Bi (zm zP rfl B.isinstance zj (za (pv 0) (za (yF (v := .ty "bool") rfl B.bool Cf rfl) zc)))))))),?_⟩
  rw [show zI ["_law_found"] [.int i] = [some (.int i)] from rfl]
  walk_at "r"
  exact q
theorem ok__law_great {f : Addr} {fd : FuncData} (F : Fun K "_law_great" "_law_great" s__law_great f fd) (B : Bl mg)   : FnOk P w K mg base CX0 1 f fd ["_law_cell_here","_law_k"] sp__law_great := by
  refine F.ok (k := 0) sc__law_great (fun vs H Q E h => ?_) (fun cdv A outer s H vs Q E hr h => ?_)
  · obtain ⟨c,k,rfl,hc,hk,q⟩ := h
    rfl
  obtain ⟨c,k,rfl,hc,hk,q⟩ := h
  refine ⟨_,(zd (zr (i := 2) sc__law_great.nd rfl (Or.inl rfl) (zi zx (zi zK (zi zK (zi zK (pv 0) (zi zx (zi zx zb (pv 1)) (pv 1))) (pv 1)) zb) zb)) (zd (zr (i := 2) sc__law_great.nd rfl (Or.inl rfl) (zi zN (pv 2) zb)) (ze (zp (zi zN (zi zx (pv 2) (pv 2)) zb))))),?_⟩
  rw [show zI ["_law_cell_here","_law_k","_law_number"] [.int c,.int k] = [some (.int c),some (.int k),none] from rfl]
  walk_at "r"
  exact q _ (Int.emod_nonneg _ (by decide)) (Int.emod_lt_of_pos _ (by decide))
theorem ok__law_divisor {f : Addr} {fd : FuncData} (F : Fun K "_law_divisor" "_law_divisor" s__law_divisor f fd) (B : Bl mg)   : FnOk P w K mg base CX0 1 f fd ["_law_one","_law_other"] sp__law_divisor := by
  refine F.ok (k := 0) sc__law_divisor (fun vs H Q E h => ?_) (fun cdv A outer s H vs Q E hr h => ?_)
  · obtain ⟨a,b,rfl,q⟩ := h
    rfl
  obtain ⟨a,b,rfl,q⟩ := h
  refine ⟨_,(zd (zr (i := 0) sc__law_divisor.nd rfl (Or.inl rfl) (zm wQ rfl B.abs BP (za (pv 0) zc))) (zd (zr (i := 1) sc__law_divisor.nd rfl (Or.inl rfl) (zm wQ rfl B.abs BP (za (pv 1) zc))) (zd (Af PassesOwn.never (zn wp (pv 1) zb (zt _)) (ze (FN (i := 0) (j := 1) rfl sc__law_divisor.nd rfl rfl (by decide) rfl rfl (za (pv 1) (za (zi zN (pv 0) (pv 1)) zc)) rfl))) (ze (zp (pv 0)))))),?_⟩
  rw [show zI ["_law_one","_law_other"] [.int a,.int b] = [some (.int a),some (.int b)] from rfl]
  walk_at "r"
  refine tR (fun σ' H' => ∃ (x y : Int),σ' = [some (.int x),some (.int y)] ∧ H' = H ∧ 0 ≤ x ∧ 0 ≤ y ∧ Int.gcd x y = Int.gcd a b) (fun σ' _ => match σ' with | [_,some (.int y)] => y.natAbs | _ => 0) ⟨_,_,rfl,rfl,?_,?_,?_⟩ ?_ ?_
  · split <;> omega
  · split <;> omega
  · exact CK a b
  · rintro σ' H' ⟨x,y,rfl,rfl,hx,hy,hg⟩
    walk_at "r"
    refine if_d (fun c => ?_) (fun c => ?_)
    · walk_at "r"
      exact ⟨⟨y,x % y,rfl,rfl,hy,Int.emod_nonneg _ (by omega),(Cu x y).trans hg⟩,by
        have h1 := Int.emod_nonneg x (show y ≠ 0 by omega)
        have h2 := Int.emod_lt_of_pos x c
        show (x % y).natAbs < y.natAbs
        omega⟩
    · walk_at "r"
      have hy0 : y = 0 := by omega
      have e : x = ((Int.gcd a b : Nat) : Int) := by
        rw [← hg,hy0,Int.gcd_zero_right]
        omega
      rw [e]
      exact q
  · intro σ H Q Q' hq h
    obtain ⟨v,e,i,j,e1,e2,k,e3,z⟩ := h
    exact ⟨v,e,i,j,e1,e2,k,e3,hq _ _ z⟩
theorem FH {k : Bool} : atI [V.int (-1),V.int 1] (if k = true then 1 else 0) = some (.int (if k = true then 1 else -1)) := by cases k <;> rfl
theorem ok__law_sign {f : Addr} {fd : FuncData} (F : Fun K "_law_sign" "_law_sign" s__law_sign f fd) (B : Bl mg)   : FnOk P w K mg base CX0 1 f fd ["_law_d","_law_a","_law_b"] sp__law_sign := by
  refine F.ok (k := 0) ui (fun vs H Q E h => ?_) (fun cdv A outer s H vs Q E hr h => ?_)
  · obtain ⟨d,a,b,rfl,hd,ha,hb,q⟩ := h
    rfl
  obtain ⟨d,a,b,rfl,hd,ha,hb,q⟩ := h
  refine ⟨_,(zd (zJ (PW.pt (yJ (zn By (pv 1) zb (zt _)) (ym (zn By (pv 2) zb (zt _))))) (ze (zp (zF zO rfl B.int yy (za (z9 wp (zi zK (pv 1) (pv 2)) zb (zt _)) zc)))) zu) (zd (zJ (PW.pt (yJ (zn CW (pv 1) zb (zt _)) (ym (zn CW (pv 2) zb (zt _))))) (ze (zp (wZ xo zb))) zu) (zd (zJ (zn wp (pv 1) zb (zt _)) (ze (zp (zg zo (zQ (za (wZ xo zb) (za zb zc))) (zF zO rfl B.int yy (za (z9 wp (zi zx (pv 1) (pv 1)) (zi zx (zi zx (pv 0) (pv 2)) (pv 2)) (zt _)) zc)) (fun _ _ => rfl)))) zu) (ze (zp (zg zo (zQ (za (wZ xo zb) (za zb zc))) (zF zO rfl B.int yy (za (z9 wp (zi zx (zi zx (pv 0) (pv 2)) (pv 2)) (zi zx (pv 1) (pv 1)) (zt _)) zc)) (fun _ _ => rfl))))))),?_⟩
  rw [show zI ["_law_d","_law_a","_law_b"] [.int d,.int a,.int b] = [some (.int d),some (.int a),some (.int b)] from rfl]
  walk_at "r"
  refine if_d (fun c1 => ?_) (fun c1 => ?_)
  · walk_at "r"
    refine if_d (fun c2 => ?_) (fun c2 => ?_)
    · walk_at "r"
      exact AZ (by rw [Aj c1 c2]; simp only [decide_eq_true_eq]) (q H (Same.refl H))
    · walk_at "r"
      refine if_d (fun c3 => ?_) (fun c3 => ?_)
      · walk_at "r"
        refine if_d (fun c4 => ?_) (fun c4 => ?_)
        · walk_at "r"
          exact AZ (by unfold sgn; rw [if_neg (by omega),if_pos ⟨c3,c4⟩]) (q H (Same.refl H))
        · omega
      · walk_at "r"
        refine if_d (fun c4 => ?_) (fun c4 => ?_)
        · walk_at "r"
          refine Dk (by simp) fun p H2 s2 e2 => ?_
          walk_at "r"
          refine zC e2 FH ?_
          exact AZ (by rw [B6 c4 (by omega)]; simp only [decide_eq_true_eq]) (q H2 s2)
        · omega
  · walk_at "r"
    refine if_d (fun c3 => ?_) (fun c3 => ?_)
    · walk_at "r"
      refine if_d (fun c4 => ?_) (fun c4 => ?_)
      · walk_at "r"
        exact AZ (by unfold sgn; rw [if_neg (by omega),if_pos ⟨c3,c4⟩]) (q H (Same.refl H))
      · walk_at "r"
        refine if_d (fun c5 => ?_) (fun c5 => ?_)
        · omega
        · walk_at "r"
          refine Dk (by simp) fun p H2 s2 e2 => ?_
          walk_at "r"
          refine zC e2 FH ?_
          exact AZ (by rw [BE (by omega) (by omega)]; simp only [decide_eq_true_eq]) (q H2 s2)
    · omega
theorem ok__law_begin {f : Addr} {fd : FuncData} (F : Fun K "_law_begin" "_law_begin" s__law_begin f fd) (B : Bl mg)   : FnOk P w K mg base CX0 1 f fd ["_law_heap_here"] sp__law_begin := by
  refine F.ok (k := 0) sc__law_begin (fun vs H Q E h => ?_) (fun cdv A outer s H vs Q E hr h => ?_)
  · obtain ⟨l,L,rfl,hl,hA,h6,q⟩ := h
    rfl
  obtain ⟨l,L,rfl,hl,hA,h6,q⟩ := h
  refine ⟨_,(zd (zr (i := 1) sc__law_begin.nd rfl (Or.inl rfl) CO) (zd (yW PassesOwn.never rfl (yt rfl B.range (za (zm zH rfl B.len PySem.boot_len (za (pv 0) zc)) zc)) (zD (i := 2) sc__law_begin.nd rfl (Or.inl rfl)) (ze (tE (wG hr) (pv 1) (pv 2) (zg zo (pv 0) (pv 2) (fun _ _ => rfl)) rfl))) (ze (zp (zR (za (pv 1) (za (zm zH rfl B.len PySem.boot_len (za (pv 0) zc)) zc))))))),?_⟩
  rw [show zI ["_law_heap_here","_law_lying","_law_k"] [.ref l] = [some (.ref l),none,none] from rfl]
  walk_at "r"
  refine D4 fun A H1 n1 s1 e1 => ?_
  have lA : l ≠ A := zf hl n1
  have hl1 := s1 _ _ hl
  walk_at "r"
  refine wW ?_
  walk_at "r"
  rw [List.length_map]
  refine ⟨(L.length : Int),rfl,by omega,by omega,xc (lo := 0) (n := (L.length : Int).toNat) (fun i σ H' => ∃ v,σ = [some (.ref l),some (.ref A),v] ∧ H' A = some (.dK (cdK (List.range i) (fL L))) ∧ SameX A H1 H') ⟨_,rfl,e1,fun b o e _ => e⟩ ?_ ?_⟩
  · rintro i σ H' hi ⟨v,rfl,el,sx⟩
    have hi' : i < L.length := by omega
    have hl' := sx _ _ hl1 lA
    obtain ⟨cx,hcx⟩ : ∃ c,L[i]? = some c := ⟨_,List.getElem?_eq_getElem hi'⟩
    walk_at "r"
    refine zC hl' (v := cx.v) (by rw [show (0 : Int) + (i : Int) = ((i : Nat) : Int) by omega]; exact zL (by rw [List.getElem?_map,hcx]; rfl)) ?_
    walk_at "r"
    rw [show (0 : Int) + (i : Int) = ((i : Nat) : Int) by omega]
    refine ⟨A,_,rfl,DPut.k (k := .inl ((i : Nat) : Int)) el (by rw [wC,List.length_range]; exact Nat.lt_of_lt_of_le (show _ < 1000 by omega) (by decide +kernel)),?_⟩
    refine ⟨_,rfl,?_,fun b o e n => by rw [zv n]; exact sx b o e n⟩
    rw [zq,vB _ (xu (fun j hj => List.mem_range.mp hj)),List.range_succ,tP,xA hcx]
  rintro σ H2 ⟨v,rfl,el,sx⟩
  have s2 : Same H H2 := fun b o e => sx b o (s1 b o e) (zf e n1)
  rw [Int.toNat_natCast] at el
  have hl2 := s2 _ _ hl
  walk_at "r"
  rw [List.length_map]
  walk_at "r"
  refine zE (by simp) fun r H3 n3 s3 e3 => ?_
  refine q r A H3 (s2.trans s3) n1 e3 ⟨s3 _ _ el,fun j hj => ?_⟩
  have hj := List.mem_range.mp hj
  rw [xA (List.getElem?_eq_getElem hj)]
  exact ((hA _ (List.getElem_mem hj)).same s2).same s3
theorem ok__law_alone {f : Addr} {fd : FuncData} (F : Fun K "_law_alone" "_law_alone" s__law_alone f fd) (B : Bl mg) (X : Xs K mg cs)  : FnOk P w K mg base CX0 1 f fd ["_law_error"] (sp__law_alone cs) := by
  refine F.ok (k := 0) sc__law_alone (fun vs H Q E h => ?_) (fun cdv A outer s H vs Q E hr h => ?_)
  · obtain ⟨a,C,rfl,ea,hC,q⟩ := h
    rfl
  obtain ⟨a,C,rfl,ea,hC,q⟩ := h
  refine ⟨_,(zd (zr (i := 1) sc__law_alone.nd rfl (Or.inl rfl) (zi zK (zi zK (zF zO rfl B.int yy (za (zm zB rfl B.isinstance zj (za (pv 0) (za (zM (v := .ref cs.NoLength) rfl X.m_NoLength rfl) zc))) zc)) (zF zO rfl B.int yy (za (zm zB rfl B.isinstance zj (za (pv 0) (za (zM (v := .ref cs.NoBoard) rfl X.m_NoBoard rfl) zc))) zc))) (zF zO rfl B.int yy (za (zm zB rfl B.isinstance zj (za (pv 0) (za (zM (v := .ref cs.NoText) rfl X.m_NoText rfl) zc))) zc)))) (zd (zr (i := 1) sc__law_alone.nd rfl (Or.inl rfl) (zi zK (zi zK (zi zK (pv 1) (zF zO rfl B.int yy (za (zm zB rfl B.isinstance zj (za (pv 0) (za (zM (v := .ref cs.NoDeed) rfl X.m_NoDeed rfl) zc))) zc))) (zF zO rfl B.int yy (za (zm zB rfl B.isinstance zj (za (pv 0) (za (zM (v := .ref cs.NoName) rfl X.m_NoName rfl) zc))) zc))) (zF zO rfl B.int yy (za (zm zB rfl B.isinstance zj (za (pv 0) (za (zM (v := .ref cs.Grain) rfl X.m_Grain rfl) zc))) zc)))) (zd (zr (i := 1) sc__law_alone.nd rfl (Or.inl rfl) (zi zK (zi zK (zi zK (pv 1) (zF zO rfl B.int yy (za (zm zB rfl B.isinstance zj (za (pv 0) (za (zM (v := .ref cs.Unfit) rfl X.m_Unfit rfl) zc))) zc))) (zF zO rfl B.int yy (za (zm zB rfl B.isinstance zj (za (pv 0) (za (zM (v := .ref cs.TooMany) rfl X.m_TooMany rfl) zc))) zc))) (zF zO rfl B.int yy (za (zm zB rfl B.isinstance zj (za (pv 0) (za (zM (v := .ref cs.NoRow) rfl X.m_NoRow rfl) zc))) zc)))) (zd (zr (i := 1) sc__law_alone.nd rfl (Or.inl rfl) (zi zK (pv 1) (zF zO rfl B.int yy (za (zm zB rfl B.isinstance zj (za (pv 0) (za (zM (v := .ref cs.Apart) rfl X.m_Apart rfl) zc))) zc)))) (ze (zp (wg (z9 yl (pv 1) zb (zt _)) (wg (zm zB rfl B.isinstance zj (za (pv 0) (za (zM (v := .ref cs.YardError) rfl X.m_YardError rfl) zc))) (wD (zm zB rfl B.isinstance zj (za (pv 0) (za (yF (v := .ty "ValueError") rfl B.ValueError vN rfl) zc)))))))))))),?_⟩
  rw [show zI ["_law_error","_law_many"] [.ref a] = [some (.ref a),none] from rfl]
  rcases hC with rfl | rfl | rfl | rfl
  · walk_at "r"
    refine zA ea X.o_NoDeed rfl X.k_NoDeed_NoLength ?_
    walk_at "r"
    refine zA ea X.o_NoDeed rfl X.k_NoDeed_NoBoard ?_
    walk_at "r"
    refine zA ea X.o_NoDeed rfl X.k_NoDeed_NoText ?_
    walk_at "r"
    refine zA ea X.o_NoDeed rfl X.k_NoDeed_NoDeed ?_
    walk_at "r"
    refine zA ea X.o_NoDeed rfl X.k_NoDeed_NoName ?_
    walk_at "r"
    refine zA ea X.o_NoDeed rfl X.k_NoDeed_Grain ?_
    walk_at "r"
    refine zA ea X.o_NoDeed rfl X.k_NoDeed_Unfit ?_
    walk_at "r"
    refine zA ea X.o_NoDeed rfl X.k_NoDeed_TooMany ?_
    walk_at "r"
    refine zA ea X.o_NoDeed rfl X.k_NoDeed_NoRow ?_
    walk_at "r"
    refine zA ea X.o_NoDeed rfl X.k_NoDeed_Apart ?_
    walk_at "r"
    refine if_d (fun _ => ?_) (fun c => absurd (by decide) c)
    walk_at "r"
    refine zA ea X.o_NoDeed rfl X.k_NoDeed_YardError ?_
    walk_at "r"
    refine zA ea X.o_NoDeed rfl X.k_NoDeed_ValueError ?_
    exact q
  · walk_at "r"
    refine zA ea X.o_NoName rfl X.k_NoName_NoLength ?_
    walk_at "r"
    refine zA ea X.o_NoName rfl X.k_NoName_NoBoard ?_
    walk_at "r"
    refine zA ea X.o_NoName rfl X.k_NoName_NoText ?_
    walk_at "r"
    refine zA ea X.o_NoName rfl X.k_NoName_NoDeed ?_
    walk_at "r"
    refine zA ea X.o_NoName rfl X.k_NoName_NoName ?_
    walk_at "r"
    refine zA ea X.o_NoName rfl X.k_NoName_Grain ?_
    walk_at "r"
    refine zA ea X.o_NoName rfl X.k_NoName_Unfit ?_
    walk_at "r"
    refine zA ea X.o_NoName rfl X.k_NoName_TooMany ?_
    walk_at "r"
    refine zA ea X.o_NoName rfl X.k_NoName_NoRow ?_
    walk_at "r"
    refine zA ea X.o_NoName rfl X.k_NoName_Apart ?_
    walk_at "r"
    refine if_d (fun _ => ?_) (fun c => absurd (by decide) c)
    walk_at "r"
    refine zA ea X.o_NoName rfl X.k_NoName_YardError ?_
    walk_at "r"
    refine zA ea X.o_NoName rfl X.k_NoName_ValueError ?_
    exact q
  · walk_at "r"
    refine zA ea X.o_Unfit rfl X.k_Unfit_NoLength ?_
    walk_at "r"
    refine zA ea X.o_Unfit rfl X.k_Unfit_NoBoard ?_
    walk_at "r"
    refine zA ea X.o_Unfit rfl X.k_Unfit_NoText ?_
    walk_at "r"
    refine zA ea X.o_Unfit rfl X.k_Unfit_NoDeed ?_
    walk_at "r"
    refine zA ea X.o_Unfit rfl X.k_Unfit_NoName ?_
    walk_at "r"
    refine zA ea X.o_Unfit rfl X.k_Unfit_Grain ?_
    walk_at "r"
    refine zA ea X.o_Unfit rfl X.k_Unfit_Unfit ?_
    walk_at "r"
    refine zA ea X.o_Unfit rfl X.k_Unfit_TooMany ?_
    walk_at "r"
    refine zA ea X.o_Unfit rfl X.k_Unfit_NoRow ?_
    walk_at "r"
    refine zA ea X.o_Unfit rfl X.k_Unfit_Apart ?_
    walk_at "r"
    refine if_d (fun _ => ?_) (fun c => absurd (by decide) c)
    walk_at "r"
    refine zA ea X.o_Unfit rfl X.k_Unfit_YardError ?_
    walk_at "r"
    refine zA ea X.o_Unfit rfl X.k_Unfit_ValueError ?_
    exact q
  · walk_at "r"
    refine zA ea X.o_Grain rfl X.k_Grain_NoLength ?_
    walk_at "r"
    refine zA ea X.o_Grain rfl X.k_Grain_NoBoard ?_
    walk_at "r"
    refine zA ea X.o_Grain rfl X.k_Grain_NoText ?_
    walk_at "r"
    refine zA ea X.o_Grain rfl X.k_Grain_NoDeed ?_
    walk_at "r"
    refine zA ea X.o_Grain rfl X.k_Grain_NoName ?_
    walk_at "r"
    refine zA ea X.o_Grain rfl X.k_Grain_Grain ?_
    walk_at "r"
    refine zA ea X.o_Grain rfl X.k_Grain_Unfit ?_
    walk_at "r"
    refine zA ea X.o_Grain rfl X.k_Grain_TooMany ?_
    walk_at "r"
    refine zA ea X.o_Grain rfl X.k_Grain_NoRow ?_
    walk_at "r"
    refine zA ea X.o_Grain rfl X.k_Grain_Apart ?_
    walk_at "r"
    refine if_d (fun _ => ?_) (fun c => absurd (by decide) c)
    walk_at "r"
    refine zA ea X.o_Grain rfl X.k_Grain_YardError ?_
    walk_at "r"
    refine zA ea X.o_Grain rfl X.k_Grain_ValueError ?_
    exact q
theorem ok_Yard___init__ {f : Addr} {fd : FuncData} {its : List Value} (F : FunD K "__init__" "Yard.__init__" s_Yard___init__ f fd its) (B : Bl mg) (X : Xs K mg cs)  : FnOk P w K mg base CX0 1 f fd ["self","d","heap","turning"] (sp_Yard___init__ cs) := by
  refine F.ok (k := 0) wm (fun vs H Q E h => ?_) (fun cdv A outer s H vs Q E hr h => ?_)
  · obtain ⟨p,dx,hp,d,tn,cl,rfl,h0,hh,hat,hlen,q⟩ := h
    rfl
  obtain ⟨p,dx,hp,d,tn,cl,rfl,h0,hh,hat,hlen,q⟩ := h
  refine ⟨_,(zd (uz (pv 0) (pv 1) rfl) (zd (uz (pv 0) (pv 3) rfl) (zd (uz (pv 0) (zF wK rfl B.list vO (za (pv 2) zc)) rfl) (zd (uz (pv 0) (zF (AH rfl) rfl B.dict vK (za (xP ["name"] [] rfl (yt rfl B.range (za (zm zH rfl B.len PySem.boot_len (za (pv 2) zc)) zc)) (fun _ _ _ _ _ => (zD (i := 0) (show List.Nodup (α := Str) ["name"] by decide +kernel) rfl (Or.inl rfl))) (fun _ _ _ _ _ => yH) (fun _ _ _ _ _ => (zR (za (pv 0) (za yN zc))))) zc)) rfl) (ze (uz (pv 0) (zQ zc) rfl)))))),?_⟩
  rw [show zI ["self","d","heap","turning"] [.ref p,.int d,.ref hp,.bl tn] = [some (.ref p),some (.int d),some (.ref hp),some (.bl tn)] from rfl]
  walk_at "r"
  refine uF h0 X.c_Yard X.n_Yard_root (by simp) fun H1 x1 e1 => ?_
  walk_at "r"
  refine uF e1 X.c_Yard X.n_Yard_turning (yM (by simp)) fun H2 x2 e2 => ?_
  have np : hp ≠ p := yw hh h0 (fun z => nomatch z)
  have hh2 := x2 _ _ (x1 _ _ hh np) np
  walk_at "r"
  refine u4 hh2 fun k H3 nk s3 ek => ?_
  have e3 := s3 _ _ e2
  have kp : k ≠ p := yw ek e3 (fun z => nomatch z)
  walk_at "r"
  refine uF e3 X.c_Yard X.n_Yard_known (yM (yM (by simp))) fun H4 x4 e4 => ?_
  have ek4 := x4 _ _ ek kp
  have hh4 := x4 _ _ (s3 _ _ hh2) np
  walk_at "r"
  refine vU ?_
  walk_at "r"
  refine ⟨_,rfl,by simp only [List.length_map]; omega,by simp only [List.length_map]; omega,fun D hD => xk (lo := 0) (n := ((cl.map Cell.v).length : Int).toNat) (fun i xs σ' H' => ∃ (v : Option V) (ps : List Addr),σ' = [v] ∧ xs = ps.map V.ref ∧ ps.length = i ∧ H' D = some (.lst xs) ∧ SameX D H4 H' ∧ ∀ (j : Nat) (p' : Addr),ps[j]? = some p' → H' p' = some (.tup [.int (j : Int),.bl true])) ⟨none,[],rfl,rfl,rfl,zq,fun b o e n => by rw [zv n]; exact e,by simp⟩ ?_ ?_⟩
  · rintro i xs σ' H' hi ⟨v,ps,rfl,rfl,hl,eD,sx,hps⟩
    walk_at "r"
    refine zE (by simp) fun r H5 hr s5 e5 => ?_
    walk_at "r"
    have hi' : i < 61 := by simp only [List.length_map] at hi; omega
    refine zG (s5 _ _ eD) (by rw [List.length_map]; omega) fun H6 x6 e6 => ?_
    have rD : r ≠ D := yw e5 (s5 _ _ eD) (fun z => nomatch z)
    refine yX hi ⟨_,ps ++ [r],rfl,rfl,by rw [List.length_append,hl]; rfl,by rw [List.map_append]; exact e6,sx.trans ((SameX.of s5).trans x6),?_⟩
    intro j p' hj
    by_cases c : j < ps.length
    · rw [List.getElem?_append_left c] at hj
      have := hps j p' hj
      exact x6.tup (s5 _ _ this) (s5 _ _ eD)
    · rw [List.getElem?_append_right (by omega)] at hj
      have hj1 := (List.getElem?_eq_some_iff.mp hj).1
      have j0 : j - ps.length = 0 := by simpa using hj1
      rw [j0] at hj
      injection hj with hj
      subst hj
      have : j = i := by omega
      subst this
      have := x6.tup e5 (s5 _ _ eD)
      simpa using this
  · rintro xs σ' H' ⟨v,ps,rfl,rfl,hl,eD,sx,hps⟩
    have s5 : Same H4 H' := fun b o e => sx b o e (zf e hD)
    have hl : ps.length = cl.length := by rw [hl]; simp
    walk_at "r"
    refine Eo (kvs := nmK (List.range cl.length)) eD (by simp [nmK,hl]) (fun i p' kv h1 h2 => ?_) (Bp List.pairwise_lt_range) (by simp [nmK]; omega) fun l H6 nl s6 el => ?_
    · have h3 := hps i p' h1
      have hi := (List.getElem?_eq_some_iff.mp h1).1
      rw [nmK,List.getElem?_map,List.getElem?_range (by omega)] at h2
      injection h2 with h2
      rw [← h2]
      exact h3
    have e6 := s6 _ _ (s5 _ _ e4)
    have lp : l ≠ p := yw el e6 (fun z => nomatch z)
    walk_at "r"
    refine uF e6 X.c_Yard X.n_Yard_lying (yM (yM (yM (by simp)))) fun H7 x7 e7 => ?_
    walk_at "r"
    refine zw (by simp) fun t H8 nt s8 et => ?_
    have e8 := s8 _ _ e7
    have tp : t ≠ p := yw et e8 (fun z => nomatch z)
    walk_at "r"
    refine uF e8 X.c_Yard X.n_Yard_done (yM (yM (yM (yM (by simp))))) fun H9 x9 e9 => ?_
    have ek7 := x7 _ _ (s6 _ _ (s5 _ _ ek4)) kp
    have xx : SameX p H H9 := x1.trans (x2.trans ((SameX.of s3).trans (x4.trans ((SameX.of (s5.trans s6)).trans (x7.trans ((SameX.of s8).trans x9))))))
    have pn : ∀ {b : Addr} {G : Hp},SameX p H G → b ≠ p → G b = none → H b = none := fun {b G} x n g => by
      cases e : H b with
      | none => rfl
      | some o => rw [x _ _ e n] at g; cases g
    refine q ⟨p,dx,k,l,t⟩ H9 rfl rfl xx ⟨e9,x9 _ _ (s8 _ _ ek7) kp,x9 _ _ (s8 _ _ (x7 _ _ el lp)) lp,x9 _ _ et tp,zf ek7 nt,fun c hc => ?_,List.pairwise_lt_range,fun n hn => List.mem_range.mp hn,by omega,by simp⟩ (pn (x1.trans x2) kp nk) (pn (x1.trans (x2.trans ((SameX.of s3).trans (x4.trans (SameX.of s5))))) lp nl) (pn (x1.trans (x2.trans ((SameX.of s3).trans (x4.trans ((SameX.of (s5.trans s6)).trans x7))))) tp nt)
    have hc := hat c hc
    exact ⟨xx _ _ hc.t (yw hc.t h0 (fun z => nomatch z)),xx _ _ hc.w (yw hc.w h0 (fun z => nomatch z)),xx _ _ hc.h (yw hc.h h0 (fun z => nomatch z))⟩
theorem ok_Yard_heap {f : Addr} {fd : FuncData} (F : Fun K "heap" "Yard.heap" s_Yard_heap f fd) (B : Bl mg) (X : Xs K mg cs)  : FnOk P w K mg base CX0 1 f fd ["self"] (sp_Yard_heap cs) := by
  refine F.ok (k := 0) uy (fun vs H Q E h => ?_) (fun cdv A outer s H vs Q E hr h => ?_)
  · obtain ⟨y,d,tn,cl,ns,lg,rfl,hy,q⟩ := h
    rfl
  obtain ⟨y,d,tn,cl,ns,lg,rfl,hy,q⟩ := h
  refine ⟨_,(ze (zp (C1 ["name"] [0] rfl (DZ (yx (K := K) rfl (pv 0) rfl)) (fun _ _ _ _ _ => (zD (i := 0) (show List.Nodup (α := Str) ["name","self"] by decide +kernel) rfl (Or.inl rfl))) (fun _ _ _ _ _ => yH) (fun _ _ _ _ _ => (zg (r := rIxL K) zo (yx (K := K) rfl (pv 1) rfl) (pv 0) (fun _ _ => rfl)))))),?_⟩
  rw [show zI ["self"] [.ref y.p] = [some (.ref y.p)] from rfl]
  refine F7 ?_
  refine Ea ?_
  walk_at "r"
  refine ⟨_,_,_,_,_,rfl,hy.o,X.c_Yard,X.n_Yard_lying,rfl,?_⟩
  refine ⟨y.l,nmK ns,rfl,hy.l,fun ob nf D hD => BM (d := y.l) (ob := ob) (kvs := nmK ns) (fun i xs σ' H' => ∃ v : Option V,σ' = [v,some (.ref y.p)] ∧ xs = (pick cl (ns.take i)).map Cell.v ∧ H' D = some (.lst xs) ∧ H' y.l = some (.frz ob (.dK (nmK ns))) ∧ ∀ b o,H b = some o → b ≠ y.l → H' b = some o) ?_ (fun i xs σ' H' _ z => by obtain ⟨_,_,_,_,z,_⟩ := z; exact z) ?_ ?_⟩
  · have nl : D ≠ y.l := fun c => by rw [c,zq] at hD; cases hD
    have hD' : H D = none := by rw [zv nl] at hD; exact hD
    exact ⟨none,rfl,rfl,zq,by rw [zv (Ne.symm nl),zq],fun b o e n => by rw [zv (zf e hD'),zv n]; exact e⟩
  · rintro i kv xs σ' H' hi ⟨v,rfl,rfl,eD,el,sx⟩
    have nl0 : D ≠ y.l := fun c => by rw [c,zq] at hD; cases hD
    have hD' : H D = none := by rw [zv nl0] at hD; exact hD
    rw [nmK,List.getElem?_map] at hi
    obtain ⟨n,hn,rfl⟩ := Option.map_eq_some_iff.mp hi
    have hlt := hy.lt n (List.mem_of_getElem? hn)
    obtain ⟨c,hc⟩ : ∃ c,cl[n]? = some c := ⟨_,List.getElem?_eq_getElem hlt⟩
    have nl : ∀ {b : Addr} {o : HO},H b = some o → (∀ k,o ≠ .dK k) → b ≠ y.l := fun e h z => by rw [z,hy.l] at e; injection e with e; exact h _ e.symm
    have eo := sx _ _ hy.o (nl hy.o (fun _ z => nomatch z))
    have ek := sx _ _ hy.k (nl hy.k (fun _ z => nomatch z))
    walk_at "r"
    refine ⟨_,_,_,_,_,rfl,eo,X.c_Yard,X.n_Yard_known,rfl,?_⟩
    walk_at "r"
    refine zC ek (v := c.v) (zL (by rw [List.getElem?_map,hc]; rfl)) ?_
    have hi3 := (List.getElem?_eq_some_iff.mp hn).1
    have l1 := DB hy.up hy.lt
    have l2 := hy.lc
    have l3 := tU (cl := cl) (ns := ns.take i)
    rw [List.length_take] at l3
    walk_at "r"
    refine zG eD (by rw [List.length_map]; omega) fun H3 x3 e3 => ?_
    refine yX (by simp only [nmK,List.length_map]; exact hi3) ⟨_,rfl,rfl,by rw [AS hn hc,List.map_append]; exact e3,x3 _ _ el (yw el eD (fun z => nomatch z)),fun b o e n => x3 _ _ (sx b o e n) (zf e hD')⟩
  · rintro xs σ' H' ⟨v,rfl,rfl,eD,el,sx⟩
    have nl0 : D ≠ y.l := fun c => by rw [c,zq] at hD; cases hD
    have hD' : H D = none := by rw [zv nl0] at hD; exact hD
    refine ⟨y.l,ob,nmK ns,nf,el,?_⟩
    rw [show ns.take (nmK ns).length = ns by rw [nmK,List.length_map,List.take_length]] at eD
    refine q D _ (fun b o e => ?_) hD' (by rw [zv nl0]; exact eD)
    by_cases c : b = y.l
    · rw [c,zq]; rw [c,hy.l] at e; exact e
    · rw [zv c]; exact sx b o e c
theorem ok_length {f : Addr} {fd : FuncData} {its : List Value} (F : FunD K "length" "length" s_length f fd its) (B : Bl mg)  (o_with_sign_of : Own P w K mg base 1 "with_sign_of" ["divisor","bottom"] [] sp_with_sign_of) (o_common_divisor : Own P w K mg base 1 "common_divisor" ["one","other"] [] sp_common_divisor) (o_is_whole : Own P w K mg base 1 "is_whole" ["thing"] [] sp_is_whole) : FnOk P w K mg base CX0 2 f fd ["a","b","n"] sp_length := by
  refine F.ok (k := 1) sc_length (fun vs H Q E h => ?_) (fun cdv A outer s H vs Q E hr h => ?_)
  · obtain ⟨a,b,n,rfl,hn,hb,⟨ha8,hb8⟩,q⟩ := h
    rfl
  obtain ⟨a,b,n,rfl,hn,hb,⟨ha8,hb8⟩,q⟩ := h
  refine ⟨_,(zd (zJ (yu (PW.pt (yJ (zV (zk o_is_whole hr rfl (za (pv 0) zc))) (yJ (zV (zk o_is_whole hr rfl (za (pv 1) zc))) (ym (zV (zk o_is_whole hr rfl (za (pv 2) zc)))))))) (ze Ah) zu) (zd (zJ (zn yl (pv 2) zb (zt _)) (ze Ah) zu) (zd (zr (i := 3) sc_length.nd rfl (Or.inl rfl) (zk o_with_sign_of hr rfl (za (zk o_common_divisor hr rfl (za (zk o_common_divisor hr rfl (za (pv 2) (za (pv 0) zc))) (za (pv 1) zc))) (za (pv 2) zc)))) (ze (zp (zR (za (zi yk (pv 0) (pv 3)) (za (zi yk (pv 1) (pv 3)) (za (zi yk (pv 2) (pv 3)) zc))))))))),?_⟩
  rw [show zI ["a","b","n","divisor"] [.int a,.int b,.int n] = [some (.int a),some (.int b),some (.int n),none] from rfl]
  have hc : ∀ x,CFd x (gd a b n) := fun x => ⟨Fv hn,Nat.lt_of_le_of_lt (ES hn hb).log (by decide)⟩
  walk_at "r"
  refine if_d (fun c => absurd c hn) (fun _ => ?_)
  walk_at "r"
  · exact yL (by simp) fun p H' s e => q p H' s e
  all_goals exact hc _
theorem ok_added {f : Addr} {fd : FuncData} (F : Fun K "added" "added" s_added f fd) (B : Bl mg)  (o_common_divisor : Own P w K mg base 1 "common_divisor" ["one","other"] [] sp_common_divisor) : FnOk P w K mg base CX0 2 f fd ["one","other"] sp_added := by
  refine F.ok (k := 1) sc_added (fun vs H Q E h => ?_) (fun cdv A outer s H vs Q E hr h => ?_)
  · obtain ⟨p,p',x,y,z,x',y',z',rfl,h1,h2,n1,n2,k1,k2,⟨b1,b2,b3,b4,b5,b6⟩,q⟩ := h
    rfl
  obtain ⟨p,p',x,y,z,x',y',z',rfl,h1,h2,n1,n2,k1,k2,⟨b1,b2,b3,b4,b5,b6⟩,q⟩ := h
  refine ⟨_,(zd (zr (i := 2) sc_added.nd rfl (Or.inl rfl) (zk o_common_divisor hr rfl (za (zg zh (pv 0) zb (fun _ _ => rfl)) (za (zg zh (pv 1) zb (fun _ _ => rfl)) zc)))) (zd (zr (i := 3) sc_added.nd rfl (Or.inl rfl) (zi yk (zg zh (pv 1) zb (fun _ _ => rfl)) (pv 2))) (zd (zr (i := 4) sc_added.nd rfl (Or.inl rfl) (zi yk (zg zh (pv 0) zb (fun _ _ => rfl)) (pv 2))) (zd (zr (i := 5) sc_added.nd rfl (Or.inl rfl) (zi zK (zi zx (zg zh (pv 0) zb (fun _ _ => rfl)) (pv 3)) (zi zx (zg zh (pv 1) zb (fun _ _ => rfl)) (pv 4)))) (zd (zr (i := 6) sc_added.nd rfl (Or.inl rfl) (zi zK (zi zx (zg zh (pv 0) zb (fun _ _ => rfl)) (pv 3)) (zi zx (zg zh (pv 1) zb (fun _ _ => rfl)) (pv 4)))) (zd (zr (i := 7) sc_added.nd rfl (Or.inl rfl) (zk o_common_divisor hr rfl (za (zk o_common_divisor hr rfl (za (pv 2) (za (pv 5) zc))) (za (pv 6) zc)))) (ze (zp (zR (za (zi yk (pv 5) (pv 7)) (za (zi yk (pv 6) (pv 7)) (za (zi zx (pv 4) (zi yk (zg zh (pv 1) zb (fun _ _ => rfl)) (pv 7))) zc)))))))))))),?_⟩
  rw [show zI ["one","other","shared","ahead","behind","a","b","left"] [.ref p,.ref p'] = [some (.ref p),some (.ref p'),none,none,none,none,none,none] from rfl]
  obtain ⟨as1,al1,ea,eb,en⟩ := DY n1 n2 k1 k2
  have gb : Bd 3900 (aS z z') := tz (by omega) b3
  have lb : Bd 3900 (aL x y z x' y' z') := tz (by have := Int.gcd_pos_of_ne_zero_left (aA x z x' z') (show aS z z' ≠ 0 by omega); omega) (tz (by omega) gb)
  have ba8 : Bd 8192 (aA x z x' z') := Bd.mono (Bd.add (k := 7800) (b1.mul (b6.fdiv _)) (b4.mul (b3.fdiv _))) (by decide)
  have bb8 : Bd 8192 (aA y z y' z') := Bd.mono (Bd.add (k := 7800) (b2.mul (b6.fdiv _)) (b5.mul (b3.fdiv _))) (by decide)
  have hs : ∀ t,CFd t (aS z z') := fun t => ⟨by omega,Nat.lt_of_le_of_lt gb.log (by decide)⟩
  have hl : ∀ t,CFd t (aL x y z x' y' z') := fun t => ⟨by omega,Nat.lt_of_le_of_lt lb.log (by decide)⟩
  rw [← ea,← eb,← en] at q
  walk_at "r"
  · exact yL (by simp) fun r H' s e => q r H' s e
  all_goals first | exact hs _ | exact hl _
theorem ok_under {f : Addr} {fd : FuncData} (F : Fun K "under" "under" s_under f fd) (B : Bl mg)  (o_is_above_nought : Own P w K mg base 1 "is_above_nought" ["d","a","b"] [] sp_is_above_nought) : FnOk P w K mg base CX0 2 f fd ["d","one","other"] (sp_under K) := by
  refine F.ok (k := 1) Da (fun vs H Q E h => ?_) (fun cdv A outer s H vs Q E hr h => ?_)
  · obtain ⟨d,p,p',x,y,z,x',y',z',rfl,h1,h2,hd,⟨b1,b2,b3,b4,b5,b6⟩,q⟩ := h
    rfl
  obtain ⟨d,p,p',x,y,z,x',y',z',rfl,h1,h2,hd,⟨b1,b2,b3,b4,b5,b6⟩,q⟩ := h
  refine ⟨_,(ze (zp (zk o_is_above_nought hr rfl (za (pv 0) (za (zi xp (zi zx (zg zh (pv 2) zb (fun _ _ => rfl)) (zg zh (pv 1) zb (fun _ _ => rfl))) (zi zx (zg zh (pv 1) zb (fun _ _ => rfl)) (zg zh (pv 2) zb (fun _ _ => rfl)))) (za (zi xp (zi zx (zg zh (pv 2) zb (fun _ _ => rfl)) (zg zh (pv 1) zb (fun _ _ => rfl))) (zi zx (zg zh (pv 1) zb (fun _ _ => rfl)) (zg zh (pv 2) zb (fun _ _ => rfl)))) zc)))))),?_⟩
  rw [show zI ["d","one","other"] [.int d,.ref p,.ref p'] = [some (.int d),some (.ref p),some (.ref p')] from rfl]
  walk_at "r"
  exact wa hd ((Bd.sub (b4.mul b3) (b1.mul b6)).mono (by decide)) ((Bd.sub (b5.mul b3) (b2.mul b6)).mono (by decide)) q
theorem dig {ds : List Int} {m : Int} (hl : (ds.length : Int) = m) (hd : ∀ x ∈ ds,0 ≤ x ∧ x < 1000000) (i : Int) (h0 : 0 ≤ i) (h1 : i < m) : ∃ x : Int,atI (ds.map V.int) i = some (.int x) ∧ 0 ≤ x ∧ x < 1000000 := by
  obtain ⟨x,hx,e⟩ := uq (xs := ds) (i := i) h0 (by omega)
  exact ⟨x,e,hd x hx⟩
theorem ok__law_digits {f : Addr} {fd : FuncData} (F : Fun K "_law_digits" "_law_digits" s__law_digits f fd) (B : Bl mg)  (o__law_great : Own P w K mg base 1 "_law_great" ["_law_cell_here","_law_k"] [] sp__law_great) : FnOk P w K mg base CX0 2 f fd ["_law_cell_here","_law_many"] sp__law_digits := by
  refine F.ok (k := 1) sc__law_digits (fun vs H Q E h => ?_) (fun cdv A outer s H vs Q E hr h => ?_)
  · obtain ⟨c,m,rfl,hc,⟨m0,m1⟩,q⟩ := h
    rfl
  obtain ⟨c,m,rfl,hc,⟨m0,m1⟩,q⟩ := h
  refine ⟨_,(zd (zr (i := 2) sc__law_digits.nd rfl (Or.inl rfl) (zQ zc)) (zd (zr (i := 3) sc__law_digits.nd rfl (Or.inl rfl) (zi xN (pv 0) zb)) (zd (yW PassesOwn.never rfl (yt rfl B.range (za (pv 1) zc)) (zD (i := 4) sc__law_digits.nd rfl (Or.inl rfl)) (ze (zJ (PW.pt (yJ (zn yl (zi zN (pv 0) zb) zb (zt _)) (ym (zn wp (pv 3) zb (zt _))))) (zd (yg (vF PySem.F.plainAttrs_list PySem.F.slot_list_append PySem.F.type_list_append z6 (pv 2) (za (zi zN (pv 3) (zi yY zb zb)) zc))) (ze (zr (i := 3) sc__law_digits.nd rfl (Or.inl rfl) (zi xN (pv 3) (zi yY zb zb))))) (ze (yg (vF PySem.F.plainAttrs_list PySem.F.slot_list_append PySem.F.type_list_append z6 (pv 2) (za (zi zN (zk o__law_great hr rfl (za (pv 0) (za (pv 4) zc))) (zi yY zb zb)) zc))))))) (ze (zp (pv 2)))))),?_⟩
  rw [show zI ["_law_cell_here","_law_many","_law_found","_law_number","_law_k"] [.int c,.int m] = [some (.int c),some (.int m),none,none,none] from rfl]
  have e6 : (10 : Int) ^ (6 : Int).toNat = 1000000 := by decide +kernel
  walk_at "r"
  refine zw (by simp) fun l H1 hl s1 e1 => ?_
  walk_at "r"
  refine wW ?_
  walk_at "r"
  refine ⟨m,rfl,by omega,by omega,xc (lo := 0) (n := m.toNat) (fun i σ H' => ∃ (n : Int) (v : Option V) (ds : List Int),σ = [some (.int c),some (.int m),some (.ref l),some (.int n),v] ∧ SameX l H1 H' ∧ H' l = some (.lst (ds.map V.int)) ∧ ds.length = i ∧ (∀ x ∈ ds,0 ≤ x ∧ x < 1000000) ∧ Bd 1048576 n) ⟨_,_,[],rfl,fun b o e _ => e,e1,rfl,fun x hx => absurd hx (by simp),tH hc⟩ ?_ ?_⟩
  · rintro i σ H' hi ⟨n,v,ds,rfl,sx,el,hlen,hds,nb⟩
    walk_at "r"
    refine if_d (fun c1 => ?_) (fun c1 => ?_)
    · walk_at "r"
      refine if_d (fun c2 => ?_) (fun c2 => ?_)
      · walk_at "r"
        rw [e6]
        refine zG el (by rw [List.length_map]; omega) fun H2 sx2 e2 => ?_
        walk_at "r"
        rw [e6]
        refine ⟨n / 1000000,_,ds ++ [n % 1000000],rfl,sx.trans sx2,by rw [List.map_append]; exact e2,by rw [List.length_append,hlen]; rfl,fun x hx => ?_,tH nb⟩
        rcases List.mem_append.mp hx with h | h
        · exact hds x h
        · have : x = n % 1000000 := by simpa using h
          subst this
          omega
      · walk_at "r"
        refine zW hc (xl 64 (by omega) (by omega) (by decide)) fun r r0 r1 => ?_
        walk_at "r"
        rw [e6]
        refine zG el (by rw [List.length_map]; omega) fun H2 sx2 e2 => ?_
        walk_at "r"
        refine ⟨n,_,ds ++ [r % 1000000],rfl,sx.trans sx2,by rw [List.map_append]; exact e2,by rw [List.length_append,hlen]; rfl,fun x hx => ?_,nb⟩
        rcases List.mem_append.mp hx with h | h
        · exact hds x h
        · have : x = r % 1000000 := by simpa using h
          subst this
          omega
    · walk_at "r"
      refine zW hc (xl 64 (by omega) (by omega) (by decide)) fun r r0 r1 => ?_
      walk_at "r"
      rw [e6]
      refine zG el (by rw [List.length_map]; omega) fun H2 sx2 e2 => ?_
      walk_at "r"
      refine ⟨n,_,ds ++ [r % 1000000],rfl,sx.trans sx2,by rw [List.map_append]; exact e2,by rw [List.length_append,hlen]; rfl,fun x hx => ?_,nb⟩
      rcases List.mem_append.mp hx with h | h
      · exact hds x h
      · have : x = r % 1000000 := by simpa using h
        subst this
        omega
  · rintro σ H' ⟨n,v,ds,rfl,sx,el,hlen,hds,nb⟩
    walk_at "r"
    exact q l H' ds (fun b o e => sx b o (s1 b o e) (zf e hl)) el (by omega) hds
theorem ok__law_lowest {f : Addr} {fd : FuncData} (F : Fun K "_law_lowest" "_law_lowest" s__law_lowest f fd) (B : Bl mg)  (o__law_divisor : Own P w K mg base 1 "_law_divisor" ["_law_one","_law_other"] [] sp__law_divisor) : FnOk P w K mg base CX0 2 f fd ["_law_a","_law_b","_law_n"] sp__law_lowest := by
  refine F.ok (k := 1) sc__law_lowest (fun vs H Q E h => ?_) (fun cdv A outer s H vs Q E hr h => ?_)
  · obtain ⟨a,b,n,rfl,hn,hb,q⟩ := h
    rfl
  obtain ⟨a,b,n,rfl,hn,hb,q⟩ := h
  refine ⟨_,(zd (zr (i := 3) sc__law_lowest.nd rfl (Or.inl rfl) (zk o__law_divisor hr rfl (za (zk o__law_divisor hr rfl (za (pv 0) (za (pv 1) zc))) (za (pv 2) zc)))) (zd (wl (zJ (zn uD (pv 2) zb (zt _)) (ze (zr (i := 3) sc__law_lowest.nd rfl (Or.inl rfl) (zi xp zb (pv 3)))) zu)) (ze (zp (zR (za (zi yk (pv 0) (pv 3)) (za (zi yk (pv 1) (pv 3)) (za (zi yk (pv 2) (pv 3)) zc)))))))),?_⟩
  rw [show zI ["_law_a","_law_b","_law_n","_law_share_here"] [.int a,.int b,.int n] = [some (.int a),some (.int b),some (.int n),none] from rfl]
  have hc : ∀ x,CFd x (gd a b n) := fun x => ⟨Fv hn,Nat.lt_of_le_of_lt (ES hn hb).log (by decide)⟩
  walk_at "r"
  refine uj (T := fun σ' H' => σ' = [some (.int a),some (.int b),some (.int n),some (.int (gd a b n))] ∧ H' = H) ?_ ?_
  · walk_at "r"
    refine if_d (fun c => ?_) (fun c => ?_)
    · walk_at "r"
      refine ⟨?_,rfl⟩
      have e : (0 : Int) - ((Int.gcd (Int.gcd a b) n : Nat) : Int) = gd a b n := by
        unfold gd
        rw [if_pos c,Fu]
        omega
      rw [e]
    · walk_at "r"
      refine ⟨?_,rfl⟩
      have e : ((Int.gcd (Int.gcd a b) n : Nat) : Int) = gd a b n := by
        unfold gd
        rw [if_neg c,Fu]
      rw [e]
  rintro σ' H' ⟨rfl,rfl⟩
  walk_at "r"
  · exact yL (by simp) fun p H' s e => q p H' s e
  all_goals exact hc _
theorem ok__law_root {f : Addr} {fd : FuncData} (F : Fun K "_law_root" "_law_root" s__law_root f fd) (B : Bl mg)  (o__law_great : Own P w K mg base 1 "_law_great" ["_law_cell_here","_law_k"] [] sp__law_great) : FnOk P w K mg base CX0 2 f fd ["_law_cell_here","_law_k"] sp__law_root := by
  refine F.ok (k := 1) sc__law_root (fun vs H Q E h => ?_) (fun cdv A outer s H vs Q E hr h => ?_)
  · obtain ⟨c,k,rfl,hc,hk,q⟩ := h
    rfl
  obtain ⟨c,k,rfl,hc,hk,q⟩ := h
  refine ⟨_,(zd (vZ (i := 2) sc__law_root.nd rfl rfl ["_law_d"] [] rfl (BW rfl B.range (za zb (za zb zc))) (fun _ _ _ _ _ => (zD (i := 0) (show List.Nodup (α := Str) ["_law_d"] by decide +kernel) rfl (Or.inl rfl))) (fun _ _ _ _ _ => (vH (zn (r := rIn K true) uu (pv 0) (zR (za zb (za zb (za zb (za zb (za zb (za zb (za zb (za zb zc))))))))) (by with_unfolding_all rfl)))) (fun _ _ _ _ _ => (pv 0))) (ze (zp (zg zo (pv 2) (zi zN (zi xN (zk o__law_great hr rfl (za (pv 0) (za (pv 1) zc))) zb) (zm zH rfl B.len PySem.boot_len (za (pv 2) zc))) (fun _ _ => rfl))))),?_⟩
  rw [show zI ["_law_cell_here","_law_k","_law_some"] [.int c,.int k] = [some (.int c),some (.int k),none] from rfl]
  walk_at "r"
  refine Cv ?_
  walk_at "r"
  refine ⟨2,100,rfl,by decide,fun D hD => xk (fun i xs σ' H' => (∃ v,σ' = [v]) ∧ xs = (yD i).map V.int ∧ H' D = some (.lst xs) ∧ SameX D H H') ⟨⟨none,rfl⟩,rfl,zq,fun b o e n => by rw [zv n]; exact e⟩ ?_ ?_⟩
  · rintro i xs σ' H' hi ⟨⟨v,rfl⟩,rfl,eD,sx⟩
    have hi : i < 98 := hi
    walk_at "r"
    refine yL (by simp) fun p H2 s2 e2 => ?_
    refine CL e2 rfl rfl ?_
    rw [D6]
    walk_at "r"
    have hlen : (yD i).length ≤ i := Nat.le_trans (List.length_filter_le ..) (by simp)
    by_cases hs : sqs.contains ((2 : Int) + (i : Int)) = true
    · rw [hs]
      walk_at "r"
      refine yX hi ⟨⟨_,rfl⟩,rfl,?_,sx.trans (s2.sameX D)⟩
      rw [wb,if_pos hs,List.append_nil]
      exact s2 _ _ eD
    · rw [Bool.not_eq_true _ |>.mp hs]
      walk_at "r"
      refine zG (s2 _ _ eD) (by rw [List.length_map]; omega) fun H3 sx3 e3 => ?_
      refine yX hi ⟨⟨_,rfl⟩,rfl,?_,(sx.trans (s2.sameX D)).trans sx3⟩
      rw [wb,if_neg hs,List.map_append]
      exact e3
  · rintro xs σ' H' ⟨_,rfl,eD,sx⟩
    have eD : H' D = some (.lst ((yD 98).map V.int)) := eD
    have s' : Same H H' := fun b o e => sx b o e (zf e hD)
    walk_at "r"
    refine zW hc hk fun r r0 r1 => ?_
    walk_at "r"
    have hl : ((List.map V.int (yD 98)).length : Int) = 90 := by rw [List.length_map,uh]; rfl
    rw [hl]
    walk_at "r"
    obtain ⟨d,hd,e⟩ := uq (xs := yD 98) (i := r / 7 % 90) (by omega) (by rw [uh]; omega)
    exact zC eD e (q d H' (AK (Nat.le_refl _) hd) s')
theorem ok__law_is_length {f : Addr} {fd : FuncData} (F : Fun K "_law_is_length" "_law_is_length" s__law_is_length f fd) (B : Bl mg)  (o__law_whole : Own P w K mg base 1 "_law_whole" ["_law_found"] [] sp__law_whole) : FnOk P w K mg base CX0 2 f fd ["_law_found"] sp__law_is_length := by
  refine F.ok (k := 1) xW (fun vs H Q E h => ?_) (fun cdv A outer s H vs Q E hr h => ?_)
  · obtain ⟨p,s,rfl,h1,q⟩ := h
    rfl
  obtain ⟨p,s,rfl,h1,q⟩ := h
  refine ⟨_,(zd (zJ (PW.pt (xE (yu (zV (zm zP rfl B.isinstance zj (za (pv 0) (za (yF (v := .ty "tuple") rfl B.tuple wq rfl) zc))))) (yZ (zn AL (zm zH rfl B.len PySem.boot_len (za (pv 0) zc)) zb (zt _))))) (ze (zp yN)) zu) (ze (zp (wg (zk o__law_whole hr rfl (za (zg zh (pv 0) zb (fun _ _ => rfl)) zc)) (wg (zk o__law_whole hr rfl (za (zg zh (pv 0) zb (fun _ _ => rfl)) zc)) (wD (zk o__law_whole hr rfl (za (zg zh (pv 0) zb (fun _ _ => rfl)) zc)))))))),?_⟩
  rw [show zI ["_law_found"] [.ref p] = [some (.ref p)] from rfl]
  have h1' : H p = some (.tup [.int s.x,.int s.y,.int s.z]) := h1
  walk_at "r"
  refine v6 (by rfl) ?_
  walk_at "r"
  exact q
theorem Ad {j : Nat} {f : Nat → Cell} : ∀ {ns : List Nat},j ∉ ns → valV (cdK ns f) (.inl (j : Int)) = none
  | [],_ => rfl
  | m :: ns,h => by
    rw [cdK,List.map_cons,yz (fun c => h (by rw [Int.ofNat.inj (Sum.inl.inj c)]; exact List.mem_cons_self))]
    exact Ad fun hj => h (List.mem_cons_of_mem _ hj)
theorem Fc {K : PySem.W.Frag} {H : Hp} {Q : VK} {a : Addr} {xs : List V} {k : Nat} (h : H a = some (.lst xs)) (q : ∀ (p : Addr) (H2 : Hp),Same H H2 → H2 p = some (.lst (xs.take k)) → Q (.ref p) H2) : rSlL K (.ref a) none (some (k : Int)) H Q := by
  refine ⟨a,_,rfl,SqL.of h,fun p hp => ?_⟩
  refine q p _ (zU hp _) ?_
  rw [zq]
  unfold cutV
  rw [HT.sIx_none,HT.sIx_nat,List.drop_zero,Nat.sub_zero]
  congr 2
  rcases Nat.le_total k xs.length with z | z
  · rw [Nat.min_eq_left z]
  · rw [Nat.min_eq_right z,List.take_length,List.take_of_length_le z]
theorem ok__law_spoilt {f : Addr} {fd : FuncData} (F : Fun K "_law_spoilt" "_law_spoilt" s__law_spoilt f fd) (B : Bl mg)  (o__law_great : Own P w K mg base 1 "_law_great" ["_law_cell_here","_law_k"] [] sp__law_great) : FnOk P w K mg base CX0 2 f fd ["_law_plan_here","_law_states","_law_cell_here","_law_due"] (sp__law_spoilt cs) := by
  refine F.ok (k := 1) sc__law_spoilt (fun vs H Q E h => ?_) (fun cdv A outer s H vs Q E hr h => ?_)
  · obtain ⟨pl,sl,c,due,d,tn,L,ps,ss,es,rfl,hc,epl,esl,hrun,el30,hssl,hst,hdu,q⟩ := h
    rfl
  obtain ⟨pl,sl,c,due,d,tn,L,ps,ss,es,rfl,hc,epl,esl,hrun,el30,hssl,hst,hdu,q⟩ := h
  refine ⟨_,(zd (zr (i := 4) sc__law_spoilt.nd rfl (Or.inl rfl) (zi zN (zk o__law_great hr rfl (za (pv 2) (za zb zc))) (zm zH rfl B.len PySem.boot_len (za (pv 1) zc)))) (zd (vq (zg zo (pv 1) (pv 4) (fun _ _ => rfl)) (vk (n := 2) rfl (z8 (zD (i := 5) sc__law_spoilt.nd rfl (Or.inr rfl)) (z8 (zD (i := 6) sc__law_spoilt.nd rfl (Or.inl rfl)) xV)))) (zd (zr (i := 7) sc__law_spoilt.nd rfl (Or.inl rfl) (zg zo (zm (xS rfl) rfl B.sorted wM (za (pv 5) zc)) (zi zN (zk o__law_great hr rfl (za (pv 2) (za zb zc))) (zm AQ rfl B.len PySem.boot_len (za (pv 5) zc))) (fun _ _ => rfl))) (zd (zr (i := 8) sc__law_spoilt.nd rfl (Or.inl rfl) (zi B3 (zQ (za (pv 6) zc)) (xP ["_law_one"] [5] rfl (yt rfl B.range (za (pv 6) zc)) (fun _ _ _ _ _ => (zD (i := 0) (show List.Nodup (α := Str) ["_law_one","_law_lying"] by decide +kernel) rfl (Or.inl rfl))) (fun _ _ _ _ _ => (vH (DC (v9 (wG hr) (pv 0) (pv 1))))) (fun _ _ _ _ _ => (pv 0))))) (zd (zr (i := 9) sc__law_spoilt.nd rfl (Or.inl rfl) (zg zo (pv 8) (zi zN (zk o__law_great hr rfl (za (pv 2) (za zb zc))) (zm zH rfl B.len PySem.boot_len (za (pv 8) zc))) (fun _ _ => rfl))) (zd (zr (i := 10) sc__law_spoilt.nd rfl (Or.inl rfl) (zg zo (WE.w (wj (zy (yP (zy (yn zT) z5)) (zy (yP (zy (yn zT) (zy (yn (pv 9)) (zy (yn zb) z5)))) (zy (yP (zy (yn zT) (zy (yn (pv 7)) (zy (yn (zg zh (xT (wG hr) (pv 5) (pv 7) (fun _ _ => rfl)) zb (fun _ _ => rfl))) z5)))) (zy (yP (zy (yn zT) (zy (yn (pv 7)) z5))) z5)))))) (pv 3) (fun _ _ => rfl))) (ze (zp (zi B3 (zi B3 (xK v7 (pv 0) vW (xY (pv 4))) (zQ (za (pv 10) zc))) (xK v7 (pv 0) (xY (pv 4)) vW)))))))))),?_⟩
  rw [show zI ["_law_plan_here","_law_states","_law_cell_here","_law_due","_law_at_here","_law_lying","_law_used","_law_name","_law_none","_law_none_there","_law_deed_here"] [.ref pl,.ref sl,.int c,.int due] = [some (.ref pl),some (.ref sl),some (.int c),some (.int due),none,none,none,none,none,none,none] from rfl]
  have hsne : ss ≠ [] := fun h => by rw [h] at hssl; simp at hssl
  have hpm : (0 : Int) < (((ss.map V.ref).length : Nat) : Int) := by rw [List.length_map]; omega
  walk_at "r"
  refine zW hc (by decide +kernel) fun g1 g10 g11 => ?_
  have k0 := Int.emod_nonneg g1 (show (((ss.map V.ref).length : Nat) : Int) ≠ 0 by omega)
  have k1 := Int.emod_lt_of_pos g1 hpm
  walk_at "r"
  obtain ⟨k,hk⟩ : ∃ k : Nat,g1 % (((ss.map V.ref).length : Nat) : Int) = (k : Int) := ⟨_,(Int.toNat_of_nonneg k0).symm⟩
  rw [hk] at k1 ⊢
  have hkl : k < ss.length := by rw [List.length_map] at k1; omega
  have hke : k ≤ es.length := by omega
  obtain ⟨t,ht⟩ : ∃ t,ss[k]? = some t := ⟨_,List.getElem?_eq_getElem hkl⟩
  obtain ⟨A,f,i,et,hLy,hfb,hok,hi30,hsy⟩ := hst k t ht
  generalize hs : ends (As.st L) (es.take k) = s at *
  have hnl := hok.nl
  have hkk := hok.kl
  repeat (first | walk_at "rd" | refine zC esl (v := .ref t) (zL (by rw [List.getElem?_map,ht]; rfl)) ?_)
  refine u9 hLy.l hok.up (by omega) fun p2 G1 n1 t1 y1 => ?_
  have hLy1 := hLy.same t1
  have hpos : 0 < s.ns.length := List.length_pos_iff.mpr hok.ne
  walk_at "r"
  refine zW hc (by decide +kernel) fun g2 g20 g21 => ?_
  walk_at "r"
  refine ⟨A,_,rfl,hLy1.l,?_⟩
  have hcm : (0 : Int) < ((cdK s.ns f).length : Int) := by rw [wC]; omega
  obtain ⟨n,hn,gn⟩ := Ae (ns := s.ns) (i := g2) hok.ne
  have elen : ((((s.ns.map fun n : Nat => (n : Int)).map V.int).length : Nat) : Int) = ((cdK s.ns f).length : Int) := by rw [wC]; simp
  rw [elen] at gn
  repeat (first | walk_at "rd" | refine zC y1 gn ?_)
  refine zw (by simp) fun o2 G2 n2 t2 y2 => ?_
  have hLy2 := hLy1.same t2
  walk_at "r"
  refine vU ?_
  walk_at "r"
  refine ⟨(s.k : Int),rfl,by omega,by omega,fun O hO => xk (lo := 0) (n := (s.k : Int).toNat) (fun i xs σ' H' => ∃ (v : Option V) (os : List Int),σ' = [v,some (.ref A)] ∧ xs = os.map V.int ∧ os.length ≤ i ∧ H' O = some (.lst xs) ∧ SameX O G2 H' ∧ ∀ z ∈ os,∀ n ∈ s.ns,(n : Int) ≠ z) ⟨none,[],rfl,rfl,Nat.le_refl _,zq,(fun b o e n => by rw [zv n]; exact e),fun z hz => absurd hz (by simp)⟩ ?_ ?_⟩
  · rintro j xs σ' H' hj ⟨v,os,rfl,rfl,hol,eO,sx,hos⟩
    have s' : Same G2 H' := fun b o e => sx b o e (zf e hO)
    have hL' := hLy2.same s'
    walk_at "r"
    refine ⟨A,_,rfl,DGet.k (k := .inl (0 + (j : Int))) hL'.l,?_⟩
    rw [show (0 : Int) + (j : Int) = ((j : Nat) : Int) by omega]
    by_cases c : j ∈ s.ns
    · rw [z7 c,show (!(some (f j).v).isSome) = false from rfl]
      walk_at "r"
      exact yX hj ⟨_,os,rfl,rfl,Nat.le_succ_of_le hol,eO,sx,hos⟩
    · rw [Ad c,show (!(none : Option V).isSome) = true from rfl]
      walk_at "r"
      refine zG eO (by rw [List.length_map]; omega) fun H3 x3 e3 => ?_
      refine yX hj ⟨_,os ++ [(j : Int)],rfl,rfl,by rw [List.length_append]; simp only [List.length_cons,List.length_nil]; omega,by rw [List.map_append]; exact e3,sx.trans x3,fun z hz n hn => ?_⟩
      rcases List.mem_append.mp hz with hz | hz
      · exact hos z hz n hn
      · rw [List.mem_singleton.mp hz]
        intro h
        have : n = j := Int.ofNat.inj h
        exact c (this ▸ hn)
  rintro xs σ' G3 ⟨v,os,rfl,rfl,hol,eO,sx,hos⟩
  have t3 : Same G2 G3 := fun b o e => sx b o e (zf e hO)
  walk_at "r"
  refine DQ (t3 _ _ y2) eO (by rw [List.length_map]; simp only [List.length_cons,List.length_nil]; omega) fun o4 G4 t4 y4 => ?_
  have y4 : G4 o4 = some (.lst (((s.k : Int) :: os).map V.int)) := y4
  have hno : ∀ z ∈ (s.k : Int) :: os,∀ n ∈ s.ns,(n : Int) ≠ z := fun z hz n hn => by
    rcases List.mem_cons.mp hz with rfl | hz
    · have := hok.lt n hn
      omega
    · exact hos z hz n hn
  have hpo : (0 : Int) < (((((s.k : Int) :: os).map V.int).length : Nat) : Int) := by simp only [List.length_map,List.length_cons]; omega
  walk_at "r"
  refine zW hc (by decide +kernel) fun g3' g30 g31 => ?_
  obtain ⟨z,hz0,gz⟩ := uq (xs := (s.k : Int) :: os) (i := g3' % (((((s.k : Int) :: os).map V.int).length : Nat) : Int)) (Int.emod_nonneg _ (by omega)) (by have := Int.emod_lt_of_pos g3' hpo; rw [List.length_map] at this ⊢; exact this)
  have hz := hno z hz0
  repeat (first | walk_at "rd" | refine zC y4 gz ?_)
  have T4 := ((t1.trans t2).trans t3).trans t4
  refine zE (by simp) fun d0 G6 n6 t6 y6 => ?_
  walk_at "r"
  refine zE (by simp) fun d1 G7 n7 t7 y7 => ?_
  have T7 := (T4.trans t6).trans t7
  have hLy7 := hLy.same T7
  have ct7 := (hLy7.at' n hn).t
  walk_at "r"
  refine ⟨A,_,rfl,DGet.k (k := .inl (n : Int)) hLy7.l |> (fun z => by rw [z7 hn] at z; exact z),?_⟩
  walk_at "r"
  refine wU ct7 (zL (j := 0) rfl) ?_
  walk_at "r"
  refine zE (by simp) fun d2 G8 n8 t8 y8 => ?_
  walk_at "r"
  refine zE (by simp) fun d3 G9 n9 t9 y9 => ?_
  have T9 := (T7.trans t8).trans t9
  obtain ⟨p,C,gp,hbad,hdue⟩ : ∃ p C,atI [V.ref d0,V.ref d1,V.ref d2,V.ref d3] due = some (.ref p) ∧ Bad cs d tn s G9 p C ∧ ((due = 0 ∧ C = cs.NoDeed) ∨ (due = 1 ∧ C = cs.NoName) ∨ (due = 2 ∧ C = cs.Unfit) ∨ (due = 3 ∧ C = cs.Grain)) := by
    rcases hdu with rfl | rfl | rfl | ⟨rfl,htn⟩
    · exact ⟨d0,_,rfl,.inl ⟨rfl,(((t7.trans t8).trans t9)) _ _ y6⟩,.inl ⟨rfl,rfl⟩⟩
    · exact ⟨d1,_,rfl,.inr (.inl ⟨rfl,false,z,2,((t8.trans t9)) _ _ y7,by decide,by decide +kernel,hz⟩),.inr (.inl ⟨rfl,rfl⟩)⟩
    · refine ⟨d2,_,rfl,.inr (.inr (.inl ⟨rfl,.cut false n (s.g n).w,n,n,⟨(f n).pw,t9 _ _ y8,?_⟩,⟨rfl,hn,hn,(fun h => nomatch h),fun _ => rfl⟩,(hsy n hn).1,⟨(hsy n hn).1,(hsy n hn).1⟩,rfl,fun cc => ?_⟩)),.inr (.inr (.inl ⟨rfl,rfl⟩))⟩
      · rw [← hfb n hn]
        exact T9 _ _ (hLy.at' n hn).w
      · have := cc.2
        rw [show (s.g n).w.x * (s.g n).w.z - (s.g n).w.x * (s.g n).w.z = 0 by omega,show (s.g n).w.y * (s.g n).w.z - (s.g n).w.y * (s.g n).w.z = 0 by omega,yj] at this
        exact absurd this (by decide)
    · exact ⟨d3,_,rfl,.inr (.inr (.inr ⟨rfl,htn,n,hn,y9⟩)),.inr (.inr (.inr ⟨rfl,rfl⟩))⟩
  walk_at "r"
  refine zw (by simp) fun o5 Ga na ta ya => ?_
  repeat (first | walk_at "rd" | refine zC ya gp ?_)
  have epa := ta _ _ (T9 _ _ epl)
  refine Fc (k := k) epa fun o6 Gb tb yb => ?_
  walk_at "r"
  refine zw (by simp) fun o7 Gc nc tc yc => ?_
  walk_at "r"
  have hplen : ps.length ≤ 30 := by rw [hrun.1]; exact el30
  refine DQ (tc _ _ yb) yc (by rw [List.length_take,List.length_map]; simp only [List.length_cons,List.length_nil]; omega) fun o8 Gd td yd => ?_
  have epd := td _ _ (tc _ _ (tb _ _ epa))
  walk_at "r"
  refine Ac (i := k) epd fun o9 Ge te ye => ?_
  walk_at "r"
  refine DQ (te _ _ yd) ye (by simp only [List.length_append,List.length_take,List.length_drop,List.length_map,List.length_cons,List.length_nil]; omega) fun oa Gf tf yf => ?_
  have Tf := ((((ta.trans tb).trans tc).trans td).trans te).trans tf
  refine q oa p C k Gf (T9.trans Tf) ?_ hke (by rw [hs]; exact hbad.same Tf) hdue
  rw [yf,List.map_append,List.map_cons,List.map_take,List.map_drop,List.append_assoc]
  rfl
theorem ok_Yard_check_names {f : Addr} {fd : FuncData} (F : Fun K "check_names" "Yard.check_names" s_Yard_check_names f fd) (B : Bl mg) (X : Xs K mg cs) (o_is_whole : Own P w K mg base 1 "is_whole" ["thing"] [] sp_is_whole) : FnOk P w K mg base (CXe P w) 2 f fd ["self","names"] (sp_Yard_check_names cs) := by
  refine F.okX (k := 1) sc_Yard_check_names (fun vs H Q E h => ?_) (fun cdv A outer s H vs Q E hr h => ?_)
  · obtain ⟨y,d,tn,cl,ns,lg,a,ms,rfl,hy,ha,hl,hh⟩ := h
    rfl
  obtain ⟨y,d,tn,cl,ns,lg,a,ms,rfl,hy,ha,hl,hh⟩ := h
  refine ⟨_,(zd (yW PassesOwn.leaving rfl (yv (pv 1)) (zD (i := 2) sc_Yard_check_names.nd rfl (Or.inl rfl)) (ze (zJ (PW.pt (xE (yu (zV (zk o_is_whole hr rfl (za (pv 2) zc)))) (yZ (DC (v9 (wG hr) (pv 2) (yx (K := K) rfl (pv 0) rfl)))))) (ze (xj yQ X.o_NoName X.m_NoName rfl rfl)) zu))) (ze (zJ (PW.pt (yJ (zn yl (zm zH rfl B.len PySem.boot_len (za (pv 1) zc)) zb (zt _)) (ym (zn yl (zg zo (pv 1) zb (fun _ _ => rfl)) (zg zo (pv 1) zb (fun _ _ => rfl)) (zt _))))) (ze (xj yQ X.o_NoName X.m_NoName rfl rfl)) zu))),?_⟩
  rw [show zI ["self","names","name"] [.ref y.p,.ref a] = [some (.ref y.p),some (.ref a),none] from rfl]
  rcases hh with ⟨hm,hn,q⟩ | ⟨z,rfl,hz,q⟩
  rotate_left
  · refine Ed ?_
    refine wf ?_
    walk_at "r"
    refine ⟨a,rfl,⟨_,SqL.of ha⟩,yK (K := K) (a := a) (xs := [z].map V.int) (fun i σ H' => i = 0 ∧ σ = [some (.ref y.p),some (.ref a),none] ∧ H' = H) ⟨rfl,rfl,rfl⟩ (fun i σ H' _ ⟨_,_,e⟩ => by rw [e]; exact SqL.of ha) ?_ ?_⟩
    · rintro i x σ H' hi ⟨rfl,rfl,rfl⟩
      have hx : x = .int z := (Option.some.inj hi).symm
      subst hx
      walk_at "r"
      refine ⟨_,_,_,_,_,rfl,hy.o,X.c_Yard,X.n_Yard_lying,rfl,?_⟩
      refine ⟨y.l,_,rfl,DGet.k (k := .inl z) hy.l,?_⟩
      rw [ub hz,show (!(none : Option V).isSome) = true from rfl]
      walk_at "r"
      exact q
    · rintro σ H' ⟨h,_⟩
      exact absurd h (by simp)
  refine Ed ?_
  refine wf ?_
  walk_at "r"
  refine ⟨a,rfl,⟨_,SqL.of ha⟩,yK (K := K) (a := a) (xs := ms.map V.int) (fun i σ H' => ∃ v,σ = [some (.ref y.p),some (.ref a),v] ∧ H' = H) ⟨none,rfl,rfl⟩ (fun i σ H' _ ⟨_,_,e⟩ => by rw [e]; exact SqL.of ha) ?_ ?_⟩
  · rintro i x σ H' hi ⟨v,rfl,rfl⟩
    obtain ⟨m,hm',rfl⟩ := List.mem_map.mp (List.mem_of_getElem? hi)
    obtain ⟨n,hn',rfl⟩ := hm m hm'
    walk_at "r"
    refine ⟨_,_,_,_,_,rfl,hy.o,X.c_Yard,X.n_Yard_lying,rfl,?_⟩
    refine ⟨y.l,_,rfl,DGet.k (k := .inl (n : Int)) hy.l,?_⟩
    rw [vY hn',show (!(some (V.bl true)).isSome) = false from rfl]
    walk_at "r"
    exact ⟨_,rfl,rfl⟩
  · rintro σ H' ⟨v,rfl,rfl⟩
    walk_at "r"
    rcases ms with _ | ⟨m1,_ | ⟨m2,_ | ⟨m3,ms⟩⟩⟩
    · refine if_d (fun c => absurd c (by simp)) (fun _ => ?_)
      walk_at "r"
      exact q
    · refine if_d (fun c => absurd c (by simp)) (fun _ => ?_)
      walk_at "r"
      exact q
    · have ha : H' a = some (.lst [.int m1,.int m2]) := ha
      refine if_d (fun _ => ?_) (fun c => absurd (by simp) c)
      walk_at "r"
      have ne : m1 ≠ m2 := by simpa using hn
      refine if_d (fun c => absurd c ne) (fun _ => ?_)
      walk_at "r"
      exact q
    · simp at hl
theorem ok_taken {f : Addr} {fd : FuncData} (F : Fun K "taken" "taken" s_taken f fd) (B : Bl mg)  (o_added : Own P w K mg base 2 "added" ["one","other"] [] sp_added) : FnOk P w K mg base CX0 3 f fd ["one","other"] sp_taken := by
  refine F.ok (k := 2) Cj (fun vs H Q E h => ?_) (fun cdv A outer s H vs Q E hr h => ?_)
  · obtain ⟨p,p',x,y,z,x',y',z',rfl,h1,h2,n1,n2,k1,k2,⟨b1,b2,b3,b4,b5,b6⟩,q⟩ := h
    rfl
  obtain ⟨p,p',x,y,z,x',y',z',rfl,h1,h2,n1,n2,k1,k2,⟨b1,b2,b3,b4,b5,b6⟩,q⟩ := h
  refine ⟨_,(ze (zp (zk o_added hr rfl (za (pv 0) (za (zR (za (wZ xo (zg zh (pv 1) zb (fun _ _ => rfl))) (za (wZ xo (zg zh (pv 1) zb (fun _ _ => rfl))) (za (zg zh (pv 1) zb (fun _ _ => rfl)) zc)))) zc))))),?_⟩
  rw [show zI ["one","other"] [.ref p,.ref p'] = [some (.ref p),some (.ref p')] from rfl]
  walk_at "r"
  refine yL (by simp) fun t H2 s2 e2 => ?_
  walk_at "r"
  exact Bm (s2 _ _ h1) e2 n1 n2 k1 (by rw [Fi]; exact k2) b1 b2 b3 b4.neg b5.neg b6 fun r H' s' e' => q r H' (s2.trans s') e'
theorem ok_is_length {f : Addr} {fd : FuncData} (F : Fun K "is_length" "is_length" s_is_length f fd) (B : Bl mg)  (o_length : Own P w K mg base 2 "length" ["a","b","n"] [] sp_length) (o_is_whole : Own P w K mg base 1 "is_whole" ["thing"] [] sp_is_whole) : FnOk P w K mg base CX0 3 f fd ["thing"] sp_is_length := by
  refine F.ok (k := 2) uS (fun vs H Q E h => ?_) (fun cdv A outer s H vs Q E hr h => ?_)
  · obtain ⟨p,s,rfl,h1,ok,q⟩ := h
    rfl
  obtain ⟨p,s,rfl,h1,ok,q⟩ := h
  refine ⟨_,(zd (zJ (PW.pt (xE (yu (zV (zm zP rfl B.isinstance zj (za (pv 0) (za (yF (v := .ty "tuple") rfl B.tuple wq rfl) zc))))) (yZ (zn AL (zm zH rfl B.len PySem.boot_len (za (pv 0) zc)) zb (zt _))))) (ze (zp yN)) zu) (zd (zJ (PW.pt (xE (yu (zV (zm (Bw rfl) rfl B.all Fm (za (xP ["number"] [] rfl (E9 (pv 0)) (fun _ _ _ _ _ => (zD (i := 0) (show List.Nodup (α := Str) ["number"] by decide +kernel) rfl (Or.inl rfl))) (fun _ _ _ _ _ => yH) (fun _ _ _ _ _ => (zk o_is_whole hr rfl (za (pv 0) zc)))) zc)))) (yZ (zn uD (zg zh (pv 0) zb (fun _ _ => rfl)) zb (zt _))))) (ze (zp yN)) zu) (ze (zp (z9 (Dp hr.units) (zk o_length hr rfl (za (zg zh (pv 0) zb (fun _ _ => rfl)) (za (zg zh (pv 0) zb (fun _ _ => rfl)) (za (zg zh (pv 0) zb (fun _ _ => rfl)) zc)))) (pv 0) (zt _)))))),?_⟩
  rw [show zI ["thing"] [.ref p] = [some (.ref p)] from rfl]
  have z1 := ok.z1
  walk_at "r"
  refine v6 (by rfl) ?_
  walk_at "r"
  refine D5 ?_
  walk_at "r"
  refine ⟨p,rfl,⟨_,SqT.of h1⟩,fun D hD => CM (ys := [V.int s.x,V.int s.y,V.int s.z]) (fun i ys σ' H' => (∃ v,σ' = [v]) ∧ ys = ([V.int s.x,V.int s.y,V.int s.z].take i).map (fun _ => V.bl true) ∧ H' D = some (.lst ys) ∧ SameX D H H') ⟨⟨none,rfl⟩,rfl,zq,fun b o e n => by rw [zv n]; exact e⟩ (fun i ys σ' H' _ p => SqT.of (p.2.2.2 _ _ h1 (zf h1 hD))) ?_ ?_⟩
  · rintro i x ys σ' H' hi ⟨⟨v,rfl⟩,rfl,eD,sx⟩
    obtain ⟨n,rfl⟩ : ∃ n : Int,x = .int n := by
      have := List.mem_of_getElem? hi
      simp only [List.mem_cons,List.not_mem_nil,or_false] at this
      rcases this with rfl | rfl | rfl <;> exact ⟨_,rfl⟩
    have hi3 := (List.getElem?_eq_some_iff.mp hi).1
    walk_at "r"
    refine zG eD (by rw [List.length_map,List.length_take]; simp only [List.length_cons,List.length_nil] at hi3 ⊢; omega) fun H3 sx3 e3 => ?_
    refine yX hi3 ⟨⟨_,rfl⟩,rfl,?_,sx.trans sx3⟩
    rw [List.take_succ,hi,List.map_append]
    exact e3
  · rintro ys σ' H' ⟨_,rfl,eD,sx⟩
    have s' : Same H H' := fun b o e => sx b o e (zf e hD)
    have h1' := s' _ _ h1
    have eD' : H' D = some (.lst ([true,true,true].map V.bl)) := eD
    walk_at "r"
    refine FG (SqL.of eD') ?_
    rw [show ([true,true,true] : List Bool).all id = true from rfl]
    walk_at "r"
    refine if_d (fun c => absurd c (by omega)) (fun _ => ?_)
    walk_at "r"
    refine vX rfl ok.ne (ok.bz.mono (by decide)) (fun r H2 s2 e2 => ?_) (ok.bx.mono (by decide)) (ok.by'.mono (by decide))
    walk_at "r"
    refine Gw e2 (s2 _ _ h1') ?_
    exact bl_q (decide_eq_true (Cp ok.z1 ok.g)) (q H2 (s'.trans s2))
theorem GF {s t : Sd} (h : s.x = t.x ∧ s.y = t.y ∧ s.z = t.z) : s = t := by
  cases s
  cases t
  simp only [Sd.mk.injEq]
  exact h
theorem ok_glued_beside {f : Addr} {fd : FuncData} (F : Fun K "glued_beside" "glued_beside" s_glued_beside f fd) (B : Bl mg) (X : Xs K mg cs) (o_added : Own P w K mg base 2 "added" ["one","other"] [] sp_added) : FnOk P w K mg base (CXe P w) 3 f fd ["one","other"] (sp_glued_beside cs) := by
  refine F.okX (k := 2) wT (fun vs H Q E h => ?_) (fun cdv A outer s H vs Q E hr h => ?_)
  · obtain ⟨c,c',rfl,hc,hc',okw,oks,q,qe⟩ := h
    rfl
  obtain ⟨c,c',rfl,hc,hc',okw,oks,q,qe⟩ := h
  refine ⟨_,(zd (zJ (zn (Dc hr.units) (zg zh (pv 0) zb (fun _ _ => rfl)) (zg zh (pv 1) zb (fun _ _ => rfl)) (zt _)) (ze (xj yQ X.o_Unfit X.m_Unfit rfl rfl)) zu) (ze (zp (zR (za (zk o_added hr rfl (za (zg zh (pv 0) zb (fun _ _ => rfl)) (za (zg zh (pv 1) zb (fun _ _ => rfl)) zc))) (za (zg zh (pv 0) zb (fun _ _ => rfl)) zc)))))),?_⟩
  rw [show zI ["one","other"] [.ref c.p,.ref c'.p] = [some (.ref c.p),some (.ref c'.p)] from rfl]
  have ct := hc.t
  have ct' := hc'.t
  have cw : H c.pw = some (.tup [.int c.b.w.x,.int c.b.w.y,.int c.b.w.z]) := hc.w
  have cw' : H c'.pw = some (.tup [.int c'.b.w.x,.int c'.b.w.y,.int c'.b.w.z]) := hc'.w
  have ch : H c.ph = some (.tup [.int c.b.h.x,.int c.b.h.y,.int c.b.h.z]) := hc.h
  have ch' : H c'.ph = some (.tup [.int c'.b.h.x,.int c'.b.h.y,.int c'.b.h.z]) := hc'.h
  walk_at "r"
  refine Gr ch ch' ?_
  walk_at "r"
  refine AA (fun n => ?_) (fun eq => ?_)
  · walk_at "r"
    exact qe (fun h => n (by rw [h]; exact ⟨rfl,rfl,rfl⟩)) H (Same.refl H)
  have eh : c.b.h = c'.b.h := GF eq
  walk_at "r"
  refine Bm cw cw' okw.z1 oks.z1 okw.g oks.g (okw.bx.mono (by decide)) (okw.by'.mono (by decide)) (okw.bz.mono (by decide)) (oks.bx.mono (by decide)) (oks.by'.mono (by decide)) (oks.bz.mono (by decide)) fun r2 H2 s2 e2 => ?_
  have ct2 := s2 _ _ ct
  walk_at "r"
  refine zE (by simp) fun r3 H3 hr3 s3 e3 => ?_
  exact q eh ⟨r3,r2,c.ph,⟨adS c.b.w c'.b.w,c.b.h⟩⟩ H3 (s2.trans s3) (Same.nn s2 hr3) ⟨e3,s3 _ _ e2,s3 _ _ (s2 _ _ hc.h)⟩ rfl
theorem ok_stacked {f : Addr} {fd : FuncData} (F : Fun K "stacked" "stacked" s_stacked f fd) (B : Bl mg)  (o_length : Own P w K mg base 2 "length" ["a","b","n"] [] sp_length) : FnOk P w K mg base CX0 3 f fd ["one","many"] sp_stacked := by
  refine F.ok (k := 2) sc_stacked (fun vs H Q E h => ?_) (fun cdv A outer s H vs Q E hr h => ?_)
  · obtain ⟨c,k,rfl,hc,k1,bk,okw,okh,q⟩ := h
    rfl
  obtain ⟨c,k,rfl,hc,k1,bk,okw,okh,q⟩ := h
  refine ⟨_,(zd (zr (i := 2) sc_stacked.nd rfl (Or.inl rfl) (zg zh (pv 0) zb (fun _ _ => rfl))) (zd (zr (i := 3) sc_stacked.nd rfl (Or.inl rfl) (zg zh (pv 0) zb (fun _ _ => rfl))) (ze (zp (zR (za (zk o_length hr rfl (za (zg zh (pv 2) zb (fun _ _ => rfl)) (za (zg zh (pv 2) zb (fun _ _ => rfl)) (za (zi zx (zg zh (pv 2) zb (fun _ _ => rfl)) (pv 1)) zc)))) (za (zk o_length hr rfl (za (zi zx (zg zh (pv 3) zb (fun _ _ => rfl)) (pv 1)) (za (zi zx (zg zh (pv 3) zb (fun _ _ => rfl)) (pv 1)) (za (zg zh (pv 3) zb (fun _ _ => rfl)) zc)))) zc))))))),?_⟩
  rw [show zI ["one","many","width","height"] [.ref c.p,.int k] = [some (.ref c.p),some (.int k),none,none] from rfl]
  have ct := hc.t
  have cw : H c.pw = some (.tup [.int c.b.w.x,.int c.b.w.y,.int c.b.w.z]) := hc.w
  have ch : H c.ph = some (.tup [.int c.b.h.x,.int c.b.h.y,.int c.b.h.z]) := hc.h
  have m1 : IntMulOk c.b.w.z k := Bd.ok okw.bz bk (by decide +kernel)
  have m2 : IntMulOk c.b.h.x k := Bd.ok okh.bx bk (by decide +kernel)
  have m3 : IntMulOk c.b.h.y k := Bd.ok okh.by' bk (by decide +kernel)
  have bz : Bd 2164 (c.b.w.z * k) := okw.bz.mul bk
  have bx : Bd 2464 (c.b.h.x * k) := okh.bx.mul bk
  have by2 : Bd 2464 (c.b.h.y * k) := okh.by'.mul bk
  walk_at "r"
  refine vX rfl (Int.mul_ne_zero okw.ne (by omega)) (bz.mono (by decide)) (fun r1 H1 s1 e1 => ?_) (okw.bx.mono (by decide)) (okw.by'.mono (by decide))
  have ch1 := s1 _ _ ch
  walk_at "r"
  refine vX rfl okh.ne (okh.bz.mono (by decide)) (fun r2 H2 s2 e2 => ?_) (bx.mono (by decide)) (by2.mono (by decide))
  walk_at "r"
  refine zE (by simp) fun r3 H3 hr3 s3 e3 => ?_
  refine q ⟨r3,r1,r2,⟨shS c.b.w 1 k,shS c.b.h k 1⟩⟩ H3 ((s1.trans s2).trans s3) (Same.nn (s1.trans s2) hr3) ⟨e3,?_,?_⟩ rfl
  · have := s3 _ _ (s2 _ _ e1)
    simpa only [SdAt,shS,Int.mul_one] using this
  · have := s3 _ _ e2
    simpa only [SdAt,shS,Int.mul_one] using this
theorem ok__law_plus {f : Addr} {fd : FuncData} (F : Fun K "_law_plus" "_law_plus" s__law_plus f fd) (B : Bl mg)  (o__law_lowest : Own P w K mg base 2 "_law_lowest" ["_law_a","_law_b","_law_n"] [] sp__law_lowest) : FnOk P w K mg base CX0 3 f fd ["_law_one","_law_other","_law_sign_here"] sp__law_plus := by
  refine F.ok (k := 2) sc__law_plus (fun vs H Q E h => ?_) (fun cdv A outer s H vs Q E hr h => ?_)
  · obtain ⟨p,p',s,t,g,rfl,h1,h2,o1,o2,bg,q⟩ := h
    rfl
  obtain ⟨p,p',s,t,g,rfl,h1,h2,o1,o2,bg,q⟩ := h
  refine ⟨_,(zd (zr (i := 3) sc__law_plus.nd rfl (Or.inl rfl) (zi zK (zi zx (zg zh (pv 0) zb (fun _ _ => rfl)) (zg zh (pv 1) zb (fun _ _ => rfl))) (zi zx (zi zx (pv 2) (zg zh (pv 1) zb (fun _ _ => rfl))) (zg zh (pv 0) zb (fun _ _ => rfl))))) (zd (zr (i := 4) sc__law_plus.nd rfl (Or.inl rfl) (zi zK (zi zx (zg zh (pv 0) zb (fun _ _ => rfl)) (zg zh (pv 1) zb (fun _ _ => rfl))) (zi zx (zi zx (pv 2) (zg zh (pv 1) zb (fun _ _ => rfl))) (zg zh (pv 0) zb (fun _ _ => rfl))))) (ze (zp (zk o__law_lowest hr rfl (za (pv 3) (za (pv 4) (za (zi zx (zg zh (pv 0) zb (fun _ _ => rfl)) (zg zh (pv 1) zb (fun _ _ => rfl))) zc)))))))),?_⟩
  rw [show zI ["_law_one","_law_other","_law_sign_here","_law_a","_law_b"] [.ref p,.ref p',.int g] = [some (.ref p),some (.ref p'),some (.int g),none,none] from rfl]
  have h1' : H p = some (.tup [.int s.x,.int s.y,.int s.z]) := h1
  have h2' : H p' = some (.tup [.int t.x,.int t.y,.int t.z]) := h2
  have b1 := o1.bx
  have b2 := o1.by'
  have b3 := o1.bz
  have c1 := o2.bx
  have c2 := o2.by'
  have c3 := o2.bz
  walk_at "r"
  exact yT (Int.mul_ne_zero o1.ne o2.ne) (Bd.mono (b3.mul c3) (by decide)) fun r H' s' e => q r H' s' e
theorem ok__law_share {f : Addr} {fd : FuncData} (F : Fun K "_law_share" "_law_share" s__law_share f fd) (B : Bl mg)  (o__law_lowest : Own P w K mg base 2 "_law_lowest" ["_law_a","_law_b","_law_n"] [] sp__law_lowest) : FnOk P w K mg base CX0 3 f fd ["_law_one","_law_top","_law_bottom"] sp__law_share := by
  refine F.ok (k := 2) vS (fun vs H Q E h => ?_) (fun cdv A outer s H vs Q E hr h => ?_)
  · obtain ⟨p,s,m,k,rfl,h1,ok,bm,k1,bk,q⟩ := h
    rfl
  obtain ⟨p,s,m,k,rfl,h1,ok,bm,k1,bk,q⟩ := h
  refine ⟨_,(ze (zp (zk o__law_lowest hr rfl (za (zi zx (zg zh (pv 0) zb (fun _ _ => rfl)) (pv 1)) (za (zi zx (zg zh (pv 0) zb (fun _ _ => rfl)) (pv 1)) (za (zi zx (zg zh (pv 0) zb (fun _ _ => rfl)) (pv 2)) zc)))))),?_⟩
  rw [show zI ["_law_one","_law_top","_law_bottom"] [.ref p,.int m,.int k] = [some (.ref p),some (.int m),some (.int k)] from rfl]
  have h1' : H p = some (.tup [.int s.x,.int s.y,.int s.z]) := h1
  have b1 := ok.bx
  have b2 := ok.by'
  have b3 := ok.bz
  have hz : s.z * k ≠ 0 := Int.mul_ne_zero ok.ne k1
  walk_at "r"
  exact yT hz (Bd.mono (b3.mul bk) (by decide)) fun r H' s' e => q r H' s' e
theorem C4 {x : Int} (h0 : -1000000000000 ≤ x) (h1 : x ≤ 1000000000000) : Bd 40 x := by
  show x.natAbs < 2 ^ 40
  have : (2 : Nat) ^ 40 = 1099511627776 := by decide
  omega
theorem ok__law_side {f : Addr} {fd : FuncData} (F : Fun K "_law_side" "_law_side" s__law_side f fd) (B : Bl mg)  (o__law_sign : Own P w K mg base 1 "_law_sign" ["_law_d","_law_a","_law_b"] [] sp__law_sign) (o__law_lowest : Own P w K mg base 2 "_law_lowest" ["_law_a","_law_b","_law_n"] [] sp__law_lowest) (o__law_digits : Own P w K mg base 2 "_law_digits" ["_law_cell_here","_law_many"] [] sp__law_digits) : FnOk P w K mg base CX0 3 f fd ["_law_d","_law_cell_here","_law_at_here"] sp__law_side := by
  refine F.ok (k := 2) sc__law_side (fun vs H Q E h => ?_) (fun cdv A outer s H vs Q E hr h => ?_)
  · obtain ⟨d,c,k,rfl,hR,hc,hk,q⟩ := h
    rfl
  obtain ⟨d,c,k,rfl,hR,hc,hk,q⟩ := h
  refine ⟨_,(zd (zr (i := 3) sc__law_side.nd rfl (Or.inl rfl) (xK v7 (zk o__law_digits hr rfl (za (pv 1) (za (zi zK (pv 2) zb) zc))) (xY (pv 2)) vW)) (zd (zr (i := 4) sc__law_side.nd rfl (Or.inl rfl) (zi xp (zi zK (zi zx (zg zo (pv 3) zb (fun _ _ => rfl)) (zi yY zb zb)) (zg zo (pv 3) zb (fun _ _ => rfl))) (zi zx zb (zi yY zb zb)))) (zd (zr (i := 5) sc__law_side.nd rfl (Or.inl rfl) (zi xp (zi zK (zi zx (zg zo (pv 3) zb (fun _ _ => rfl)) (zi yY zb zb)) (zg zo (pv 3) zb (fun _ _ => rfl))) (zi zx zb (zi yY zb zb)))) (zd (zr (i := 6) sc__law_side.nd rfl (Or.inl rfl) (zi zK zb (zg zo (pv 3) zb (fun _ _ => rfl)))) (zd (wl (zJ (zn yl (zi zN (pv 1) zb) zb (zt _)) (zd (zr (i := 4) sc__law_side.nd rfl (Or.inl rfl) (zi xp (zi zN (zg zo (pv 3) zb (fun _ _ => rfl)) zb) zb)) (zd (zr (i := 5) sc__law_side.nd rfl (Or.inl rfl) (zi xp (zi zN (zg zo (pv 3) zb (fun _ _ => rfl)) zb) zb)) (ze (zr (i := 6) sc__law_side.nd rfl (Or.inl rfl) (zi zK zb (zi zN (zg zo (pv 3) zb (fun _ _ => rfl)) zb)))))) zu)) (zd (zJ (PW.pt (yJ (zn yl (pv 4) zb (zt _)) (ym (zn yl (pv 5) zb (zt _))))) (ze (zp (zR (za zb (za zb (za zb zc)))))) zu) (zd (zr (i := 7) sc__law_side.nd rfl (Or.inl rfl) (zk o__law_sign hr rfl (za (pv 0) (za (pv 4) (za (pv 5) zc))))) (ze (zp (zk o__law_lowest hr rfl (za (zi zx (pv 7) (pv 4)) (za (zi zx (pv 7) (pv 5)) (za (pv 6) zc))))))))))))),?_⟩
  rw [show zI ["_law_d","_law_cell_here","_law_at_here","_law_digits_here","_law_a","_law_b","_law_n","_law_sign_here"] [.int d,.int c,.int (k : Int)] = [some (.int d),some (.int c),some (.int (k : Int)),none,none,none,none,none] from rfl]
  have e6 : (10 : Int) ^ (6 : Int).toNat = 1000000 := by decide +kernel
  have e11 : (10 : Int) ^ (11 : Int).toNat = 100000000000 := by decide +kernel
  have dlo := hR.lo
  have hd : Bd 64 d := zY (B := 99) (by omega) hR.hi (by decide +kernel)
  walk_at "r"
  refine yi hc (by omega) (by omega) fun l H1 ds s1 e1 hl hds => ?_
  walk_at "r"
  refine Ac e1 fun p H2 s2 e2 => ?_
  rw [← List.map_drop] at e2
  have hl5 : ((ds.drop k).length : Int) = 5 := by rw [List.length_drop]; omega
  have hd5 : ∀ x ∈ ds.drop k,0 ≤ x ∧ x < 1000000 := fun x hx => hds x (List.mem_of_mem_drop hx)
  obtain ⟨x0,g0,a0,b0⟩ := dig hl5 hd5 0 (by decide) (by decide)
  obtain ⟨x1,g1,a1,b1⟩ := dig hl5 hd5 1 (by decide) (by decide)
  obtain ⟨x2,g2,a2,b2⟩ := dig hl5 hd5 2 (by decide) (by decide)
  obtain ⟨x3,g3',a3,b3⟩ := dig hl5 hd5 3 (by decide) (by decide)
  obtain ⟨x4,g4,a4,b4⟩ := dig hl5 hd5 4 (by decide) (by decide)
  have y0 : Bd 20 x0 := zY (B := 999999) (by omega) (by omega) (by decide)
  have y1 : Bd 20 x1 := zY (B := 999999) (by omega) (by omega) (by decide)
  have y2 : Bd 20 x2 := zY (B := 999999) (by omega) (by omega) (by decide)
  have y3 : Bd 20 x3 := zY (B := 999999) (by omega) (by omega) (by decide)
  have y4 : Bd 20 x4 := zY (B := 999999) (by omega) (by omega) (by decide)
  repeat (first | walk_at "rd" | refine zC e2 g0 ?_ | refine zC e2 g1 ?_ | refine zC e2 g2 ?_ | refine zC e2 g3' ?_ | refine zC e2 g4 ?_ | rw [e6] | rw [e11])
  refine uj (T := fun σ' H' => ∃ a b n : Int,σ' = [some (.int d),some (.int c),some (.int (k : Int)),some (.ref p),some (.int a),some (.int b),some (.int n),none] ∧ H' = H2 ∧ Bd 40 a ∧ Bd 40 b ∧ 1 ≤ n ∧ n ≤ 1000000) ?_ ?_
  · repeat (first | walk_at "rd" | refine zC e2 g0 ?_ | refine zC e2 g1 ?_ | refine zC e2 g2 ?_ | refine zC e2 g3' ?_ | refine zC e2 g4 ?_ | rw [e6] | rw [e11])
    refine if_d (fun c1 => ?_) (fun c1 => ?_)
    · repeat (first | walk_at "rd" | refine zC e2 g0 ?_ | refine zC e2 g1 ?_ | refine zC e2 g2 ?_ | refine zC e2 g3' ?_ | refine zC e2 g4 ?_ | rw [e6] | rw [e11])
      exact ⟨_,_,_,rfl,rfl,C4 (by omega) (by omega),C4 (by omega) (by omega),by omega,by omega⟩
    · repeat (first | walk_at "rd" | refine zC e2 g0 ?_ | refine zC e2 g1 ?_ | refine zC e2 g2 ?_ | refine zC e2 g3' ?_ | refine zC e2 g4 ?_ | rw [e6] | rw [e11])
      exact ⟨_,_,_,rfl,rfl,C4 (by omega) (by omega),C4 (by omega) (by omega),by omega,by omega⟩
  rintro σ' H' ⟨a,b,n,rfl,rfl,ba,bb,n1,n2⟩
  have s12 := s1.trans s2
  walk_at "r"
  refine Gs (q := b = 0) (fun c0 => ?_) (fun c1 hB => ?_)
  · walk_at "r"
    refine wP hd (ba.mono (by decide)) (bb.mono (by decide)) fun H3 s3 => ?_
    have ba := ba
    have bs : Bd 2 (sgn d a b) := by
      rcases sgn_tri hR a b with h | h | ⟨h1,h2⟩
      · rw [h]; decide
      · rw [h]; decide
      · rw [h1,h2,yj]; decide
    walk_at "r"
    refine yT (by omega) (zY (k := 8000) (B := 1000000) (by omega) n2 (Nat.lt_of_lt_of_le (show (1000000 : Int).natAbs < 2 ^ 20 by decide) (Nat.pow_le_pow_right (by decide) (by decide)))) fun r H4 s4 e4 => ?_
    refine q r H4 ⟨lA (sgn d a b * a) (sgn d a b * b) n,lB (sgn d a b * a) (sgn d a b * b) n,lN (sgn d a b * a) (sgn d a b * b) n⟩ ((s12.trans s3).trans s4) e4 ?_
    rcases sgn_tri hR a b with h | h | h
    · rw [h,Int.one_mul,Int.one_mul]
      exact Dw.low hR ba bb n1 n2 h
    · rw [h,show (-1 : Int) * a = -a by omega,show (-1 : Int) * b = -b by omega]
      exact Dw.low hR ba.neg bb.neg n1 n2 (by rw [wF hR,h]; rfl)
    · exact absurd h (by omega)
  · walk_at "r"
    refine if_d (fun c2 => ?_) (fun c2 => hB (fun z => c2 z.2))
    walk_at "r"
    refine yL (by simp) fun r H4 s4 e4 => ?_
    exact q r H4 ⟨1,0,1⟩ (s12.trans s4) e4 ⟨by decide,by decide,by rw [Aj (by decide) (by decide)]; rfl,by decide,by decide,by decide⟩
theorem ok__law_is_heap {f : Addr} {fd : FuncData} (F : Fun K "_law_is_heap" "_law_is_heap" s__law_is_heap f fd) (B : Bl mg)  (o__law_is_length : Own P w K mg base 2 "_law_is_length" ["_law_found"] [] sp__law_is_length) : FnOk P w K mg base CX0 3 f fd ["_law_found","_law_due"] sp__law_is_heap := by
  refine F.ok (k := 2) sc__law_is_heap (fun vs H Q E h => ?_) (fun cdv A outer s H vs Q E hr h => ?_)
  · obtain ⟨a,b,C,D,rfl,ha,hb,hC,hD,eq,q⟩ := h
    rfl
  obtain ⟨a,b,C,D,rfl,ha,hb,hC,hD,eq,q⟩ := h
  refine ⟨_,(zd (zJ (PW.pt (xE (yu (zV (zm zP rfl B.isinstance zj (za (pv 0) (za (yF (v := .ty "list") rfl B.list vO rfl) zc))))) (yZ (zn (vp hr.units) (pv 0) (pv 1) (zt _))))) (ze (zp yN)) zu) (zd (yW PassesOwn.never rfl (yv (pv 0)) (zD (i := 2) sc__law_is_heap.nd rfl (Or.inl rfl)) (ze (zJ (PW.pt (xE (yu (zV (zm zP rfl B.isinstance zj (za (pv 2) (za (yF (v := .ty "tuple") rfl B.tuple wq rfl) zc))))) (xE (zn AL (zm zH rfl B.len PySem.boot_len (za (pv 2) zc)) zb (zt _)) (xE (yu (zV (zk o__law_is_length hr rfl (za (zg zh (pv 2) zb (fun _ _ => rfl)) zc)))) (yZ (yu (zV (zk o__law_is_length hr rfl (za (zg zh (pv 2) zb (fun _ _ => rfl)) zc))))))))) (ze (zp yN)) zu))) (ze (zp yN)))),?_⟩
  rw [show zI ["_law_found","_law_due","_law_one"] [.ref a,.ref b] = [some (.ref a),some (.ref b),none] from rfl]
  walk_at "r"
  refine GT (.lst ha) rfl ?_
  walk_at "r"
  refine ut ha hb hC hD eq ?_
  walk_at "r"
  refine wf ?_
  walk_at "r"
  refine ⟨a,rfl,⟨_,SqL.of ha⟩,yK (K := K) (a := a) (xs := C.map Cell.v) (fun i σ H' => ∃ v,σ = [some (.ref a),some (.ref b),v] ∧ H' = H) ⟨_,rfl,rfl⟩ (fun i σ H' _ z => by obtain ⟨_,_,rfl⟩ := z; exact SqL.of ha) ?_ ?_⟩
  · rintro i y σ H' hi ⟨v,rfl,rfl⟩
    obtain ⟨c,rfl,hc,hic⟩ := C9 hi
    have ct := (hC c hc).t
    walk_at "r"
    refine v6 (by rfl) ?_
    walk_at "r"
    refine yV (hC c hc).w ?_
    walk_at "r"
    refine yV (hC c hc).h ?_
    walk_at "r"
    exact ⟨_,rfl,rfl⟩
  rintro σ H' ⟨v,rfl,rfl⟩
  walk_at "r"
  exact q
theorem ok_is_deed {f : Addr} {fd : FuncData} (F : Fun K "is_deed" "is_deed" s_is_deed f fd) (B : Bl mg) (g_CUTS : TopT K mg "CUTS" [.str "across",.str "along"]) (g_SHIFTS : TopT K mg "SHIFTS" [.str "stack",.str "spread"]) (g_GLUINGS : TopT K mg "GLUINGS" [.str "beside",.str "atop"]) (g_TURN : TopS mg "TURN" (Str.ofString "turn")) (o_is_length : Own P w K mg base 3 "is_length" ["thing"] [] sp_is_length) (o_is_whole : Own P w K mg base 1 "is_whole" ["thing"] [] sp_is_whole) : FnOk P w K mg base CX0 4 f fd ["thing"] sp_is_deed := by
  obtain ⟨a_CUTS,m_CUTS,q_CUTS⟩ := g_CUTS
  obtain ⟨a_SHIFTS,m_SHIFTS,q_SHIFTS⟩ := g_SHIFTS
  obtain ⟨a_GLUINGS,m_GLUINGS,q_GLUINGS⟩ := g_GLUINGS
  obtain ⟨u_TURN,m_TURN,r_TURN⟩ := g_TURN
  refine F.ok (k := 3) AC (fun vs H Q E h => ?_) (fun cdv A outer s H vs Q E hr h => ?_)
  · obtain ⟨p,rfl,hh⟩ := h
    rfl
  obtain ⟨p,rfl,hh⟩ := h
  refine ⟨_,(zd (zJ (PW.pt (xE (yu (zV (zm zP rfl B.isinstance zj (za (pv 0) (za (yF (v := .ty "tuple") rfl B.tuple wq rfl) zc))))) (xE (zn uD (zm zH rfl B.len PySem.boot_len (za (pv 0) zc)) zb (zt _)) (yZ (yu (zV (zm zP rfl B.isinstance zj (za (zg zh (pv 0) zb (fun _ _ => rfl)) (za (yF (v := .ty "str") rfl B.str FC rfl) zc))))))))) (ze (zp yN)) zu) (zd (zJ (zn yl (zm zH rfl B.len PySem.boot_len (za (pv 0) zc)) zb (zt _)) (ze (zp (z9 yl (zg zh (pv 0) zb (fun _ _ => rfl)) (zM (v := .str (Str.ofString "turn")) rfl m_TURN r_TURN) (zt _)))) zu) (zd (zJ (zn AL (zm zH rfl B.len PySem.boot_len (za (pv 0) zc)) zb (zt _)) (ze (zp yN)) zu) (zd (zJ (zn xh (zg zh (pv 0) zb (fun _ _ => rfl)) (zM (v := .ref a_CUTS) rfl m_CUTS rfl) (by with_unfolding_all rfl)) (ze (zp (zk o_is_length hr rfl (za (zg zh (pv 0) zb (fun _ _ => rfl)) zc)))) zu) (zd (zJ (zn xh (zg zh (pv 0) zb (fun _ _ => rfl)) (zM (v := .ref a_SHIFTS) rfl m_SHIFTS rfl) (by with_unfolding_all rfl)) (ze (zp (wg (zk o_is_whole hr rfl (za (zg zh (pv 0) zb (fun _ _ => rfl)) zc)) (wD (z9 By (zg zh (pv 0) zb (fun _ _ => rfl)) zb (zt _)))))) zu) (ze (zp (z9 xh (zg zh (pv 0) zb (fun _ _ => rfl)) (zM (v := .ref a_GLUINGS) rfl m_GLUINGS rfl) (by with_unfolding_all rfl))))))))),?_⟩
  rw [show zI ["thing"] [.ref p] = [some (.ref p)] from rfl]
  rcases hh with ⟨e,he,ok,q⟩ | ⟨he,q⟩
  rotate_left
  · walk_at "r"
    refine if_d (fun _ => ?_) (fun c => absurd (by simp) c)
    walk_at "r"
    exact q
  cases e with
  | cut al n s =>
    obtain ⟨pq,h0,hs⟩ := he
    cases al with
    | false =>
      have h0 : H p = some (.tup [.str (Str.ofString "across"),.int n,.ref pq]) := h0
      walk_at "r"
      refine if_d (fun c => absurd c (by simp)) (fun _ => ?_)
      walk_at "r"
      refine if_d (fun c => absurd c (by simp)) (fun _ => ?_)
      walk_at "r"
      refine v6 (by simp) ?_
      walk_at "r"
      refine ⟨_,_,rfl,.inr (q_CUTS H),rfl,rfl,?_⟩
      rw [show (if false = true then !inV _ _ else inV _ _) = true from by decide +kernel]
      walk_at "r"
      exact wv hs ok fun H' s1 => q H' s1
    | true =>
      have h0 : H p = some (.tup [.str (Str.ofString "along"),.int n,.ref pq]) := h0
      walk_at "r"
      refine if_d (fun c => absurd c (by simp)) (fun _ => ?_)
      walk_at "r"
      refine if_d (fun c => absurd c (by simp)) (fun _ => ?_)
      walk_at "r"
      refine v6 (by simp) ?_
      walk_at "r"
      refine ⟨_,_,rfl,.inr (q_CUTS H),rfl,rfl,?_⟩
      rw [show (if false = true then !inV _ _ else inV _ _) = true from by decide +kernel]
      walk_at "r"
      exact wv hs ok fun H' s1 => q H' s1
  | glue al n m =>
    have h0 := he
    cases al with
    | false =>
      have h0 : H p = some (.tup [.str (Str.ofString "beside"),.int n,.int m]) := h0
      walk_at "r"
      refine if_d (fun c => absurd c (by simp)) (fun _ => ?_)
      walk_at "r"
      refine if_d (fun c => absurd c (by simp)) (fun _ => ?_)
      walk_at "r"
      refine v6 (by simp) ?_
      walk_at "r"
      refine ⟨_,_,rfl,.inr (q_CUTS H),rfl,rfl,?_⟩
      rw [show (if false = true then !inV _ _ else inV _ _) = false from by decide +kernel]
      walk_at "r"
      refine ⟨_,_,rfl,.inr (q_SHIFTS H),rfl,rfl,?_⟩
      rw [show (if false = true then !inV _ _ else inV _ _) = false from by decide +kernel]
      walk_at "r"
      refine ⟨_,_,rfl,.inr (q_GLUINGS H),rfl,rfl,?_⟩
      rw [show (if false = true then !inV _ _ else inV _ _) = true from by decide +kernel]
      walk_at "r"
      exact q H (Same.refl H)
    | true =>
      have h0 : H p = some (.tup [.str (Str.ofString "atop"),.int n,.int m]) := h0
      walk_at "r"
      refine if_d (fun c => absurd c (by simp)) (fun _ => ?_)
      walk_at "r"
      refine if_d (fun c => absurd c (by simp)) (fun _ => ?_)
      walk_at "r"
      refine v6 (by simp) ?_
      walk_at "r"
      refine ⟨_,_,rfl,.inr (q_CUTS H),rfl,rfl,?_⟩
      rw [show (if false = true then !inV _ _ else inV _ _) = false from by decide +kernel]
      walk_at "r"
      refine ⟨_,_,rfl,.inr (q_SHIFTS H),rfl,rfl,?_⟩
      rw [show (if false = true then !inV _ _ else inV _ _) = false from by decide +kernel]
      walk_at "r"
      refine ⟨_,_,rfl,.inr (q_GLUINGS H),rfl,rfl,?_⟩
      rw [show (if false = true then !inV _ _ else inV _ _) = true from by decide +kernel]
      walk_at "r"
      exact q H (Same.refl H)
  | shift al n k =>
    have h0 := he
    cases al with
    | false =>
      have h0 : H p = some (.tup [.str (Str.ofString "stack"),.int n,.int k]) := h0
      walk_at "r"
      refine if_d (fun c => absurd c (by simp)) (fun _ => ?_)
      walk_at "r"
      refine if_d (fun c => absurd c (by simp)) (fun _ => ?_)
      walk_at "r"
      refine v6 (by simp) ?_
      walk_at "r"
      refine ⟨_,_,rfl,.inr (q_CUTS H),rfl,rfl,?_⟩
      rw [show (if false = true then !inV _ _ else inV _ _) = false from by decide +kernel]
      walk_at "r"
      refine ⟨_,_,rfl,.inr (q_SHIFTS H),rfl,rfl,?_⟩
      rw [show (if false = true then !inV _ _ else inV _ _) = true from by decide +kernel]
      walk_at "r"
      exact bl_q (decide_eq_true ok.1) (q H (Same.refl H))
    | true =>
      have h0 : H p = some (.tup [.str (Str.ofString "spread"),.int n,.int k]) := h0
      walk_at "r"
      refine if_d (fun c => absurd c (by simp)) (fun _ => ?_)
      walk_at "r"
      refine if_d (fun c => absurd c (by simp)) (fun _ => ?_)
      walk_at "r"
      refine v6 (by simp) ?_
      walk_at "r"
      refine ⟨_,_,rfl,.inr (q_CUTS H),rfl,rfl,?_⟩
      rw [show (if false = true then !inV _ _ else inV _ _) = false from by decide +kernel]
      walk_at "r"
      refine ⟨_,_,rfl,.inr (q_SHIFTS H),rfl,rfl,?_⟩
      rw [show (if false = true then !inV _ _ else inV _ _) = true from by decide +kernel]
      walk_at "r"
      exact bl_q (decide_eq_true ok.1) (q H (Same.refl H))
  | turn n =>
    have h0 := he
    have h0 : H p = some (.tup [.str (Str.ofString "turn"),.int n]) := h0
    walk_at "r"
    refine if_d (fun c => absurd c (by simp)) (fun _ => ?_)
    walk_at "r"
    refine if_d (fun _ => ?_) (fun c => absurd (by simp) c)
    walk_at "r"
    exact bl_q (by decide +kernel) (q H (Same.refl H))
theorem ok_cut_across {f : Addr} {fd : FuncData} (F : Fun K "cut_across" "cut_across" s_cut_across f fd) (B : Bl mg) (X : Xs K mg cs) (g_NOUGHT : TopT K mg "NOUGHT" [.int 0,.int 0,.int 1]) (o_under : Own P w K mg base 2 "under" ["d","one","other"] [] (sp_under K)) (o_taken : Own P w K mg base 3 "taken" ["one","other"] [] sp_taken) : FnOk P w K mg base (CXe P w) 4 f fd ["d","one","at"] (sp_cut_across cs) := by
  obtain ⟨a_NOUGHT,m_NOUGHT,q_NOUGHT⟩ := g_NOUGHT
  refine F.okX (k := 3) vz (fun vs H Q E h => ?_) (fun cdv A outer s H vs Q E hr h => ?_)
  · obtain ⟨d,c,p,s,rfl,hc,hs,hd,okw,oks,q,qe⟩ := h
    rfl
  obtain ⟨d,c,p,s,rfl,hc,hs,hd,okw,oks,q,qe⟩ := h
  refine ⟨_,(zd (zJ (yu (PW.pt (yJ (zV (zk o_under hr rfl (za (pv 0) (za (zM (v := .ref a_NOUGHT) rfl m_NOUGHT rfl) (za (pv 2) zc))))) (ym (zV (zk o_under hr rfl (za (pv 0) (za (pv 2) (za (zg zh (pv 1) zb (fun _ _ => rfl)) zc))))))))) (ze (xj yQ X.o_Unfit X.m_Unfit rfl rfl)) zu) (ze (zp (zQ (za (zR (za (pv 2) (za (zg zh (pv 1) zb (fun _ _ => rfl)) zc))) (za (zR (za (zk o_taken hr rfl (za (zg zh (pv 1) zb (fun _ _ => rfl)) (za (pv 2) zc))) (za (zg zh (pv 1) zb (fun _ _ => rfl)) zc))) zc)))))),?_⟩
  rw [show zI ["d","one","at"] [.int d,.ref c.p,.ref p] = [some (.int d),some (.ref c.p),some (.ref p)] from rfl]
  have ct := hc.t
  have cw := hc.w
  have hs' : H p = some (.tup [.int s.x,.int s.y,.int s.z]) := hs
  have cw' : H c.pw = some (.tup [.int c.b.w.x,.int c.b.w.y,.int c.b.w.z]) := cw
  walk_at "r"
  refine Ci (q_NOUGHT H) hs' hd (by decide +kernel) (by decide +kernel) (by decide +kernel) (oks.bx.mono (by decide)) (oks.by'.mono (by decide)) (oks.bz.mono (by decide)) ?_
  by_cases up : 0 < sgn d s.x s.y
  · rw [show decide (0 < sgn d (s.x * 1 - 0 * s.z) (s.y * 1 - 0 * s.z)) = true from decide_eq_true (by simpa only [Int.mul_one,Int.zero_mul,Int.sub_zero] using up)]
    walk_at "r"
    refine Ci (SqT.of hs') cw' hd (oks.bx.mono (by decide)) (oks.by'.mono (by decide)) (oks.bz.mono (by decide)) (okw.bx.mono (by decide)) (okw.by'.mono (by decide)) (okw.bz.mono (by decide)) ?_
    by_cases un : 0 < sgn d (c.b.w.x * s.z - s.x * c.b.w.z) (c.b.w.y * s.z - s.y * c.b.w.z)
    · rw [show decide (0 < sgn d (c.b.w.x * s.z - s.x * c.b.w.z) (c.b.w.y * s.z - s.y * c.b.w.z)) = true from decide_eq_true un]
      walk_at "r"
      refine zE (by simp) fun r1 H1 hr1 s1 e1 => ?_
      have ct1 := s1 _ _ ct
      walk_at "r"
      refine DM (s1 _ _ cw') (s1 _ _ hs') okw.z1 oks.z1 okw.g oks.g (okw.bx.mono (by decide)) (okw.by'.mono (by decide)) (okw.bz.mono (by decide)) (oks.bx.mono (by decide)) (oks.by'.mono (by decide)) (oks.bz.mono (by decide)) fun r2 H2 s2 e2 => ?_
      have ct2 := s2 _ _ ct1
      walk_at "r"
      refine zE (by simp) fun r3 H3 hr3 s3 e3 => ?_
      walk_at "r"
      refine zw (by simp) fun r H4 hr s4 e4 => ?_
      have t4 := ((s1.trans s2).trans s3).trans s4
      exact q ⟨up,un⟩ r ⟨r1,p,c.ph,⟨s,c.b.h⟩⟩ ⟨r3,r2,c.ph,⟨tkS c.b.w s,c.b.h⟩⟩ H4 t4 (Same.nn ((s1.trans s2).trans s3) hr) e4 ⟨s4 _ _ (s3 _ _ (s2 _ _ e1)),t4 _ _ hs,t4 _ _ hc.h⟩ ⟨s4 _ _ e3,s4 _ _ (s3 _ _ e2),t4 _ _ hc.h⟩ rfl rfl
    · rw [show decide (0 < sgn d (c.b.w.x * s.z - s.x * c.b.w.z) (c.b.w.y * s.z - s.y * c.b.w.z)) = false from decide_eq_false un]
      walk_at "r"
      exact qe (fun h => un h.2) H (Same.refl H)
  · rw [show decide (0 < sgn d (s.x * 1 - 0 * s.z) (s.y * 1 - 0 * s.z)) = false from decide_eq_false (by simpa only [Int.mul_one,Int.zero_mul,Int.sub_zero] using up)]
    walk_at "r"
    exact qe (fun h => up h.1) H (Same.refl H)
theorem E5 {K : PySem.W.Frag} {H : Hp} {Q : VK} {a : Addr} {x y z : V} (h : H a = some (.tup [x,y,z])) (q : ∀ (p : Addr) (H2 : Hp),Same H H2 → H2 p = some (.tup [x,y]) → Q (.ref p) H2) : rSlT K (.ref a) none (some 2) H Q :=
  ⟨a,_,rfl,SqT.of h,by simp only [List.length_cons,List.length_nil]; decide,fun p hp => q p _ (zU hp _) zq⟩
theorem ok__law_below {f : Addr} {fd : FuncData} (F : Fun K "_law_below" "_law_below" s__law_below f fd) (B : Bl mg)  (o__law_plus : Own P w K mg base 3 "_law_plus" ["_law_one","_law_other","_law_sign_here"] [] sp__law_plus) (o__law_sign : Own P w K mg base 1 "_law_sign" ["_law_d","_law_a","_law_b"] [] sp__law_sign) : FnOk P w K mg base CX0 4 f fd ["_law_d","_law_one","_law_other"] sp__law_below := by
  refine F.ok (k := 3) sc__law_below (fun vs H Q E h => ?_) (fun cdv A outer s H vs Q E hr h => ?_)
  · obtain ⟨d,p,p',s,t,rfl,h1,h2,o1,o2,hd,q⟩ := h
    rfl
  obtain ⟨d,p,p',s,t,rfl,h1,h2,o1,o2,hd,q⟩ := h
  refine ⟨_,(zd (zr (i := 3) sc__law_below.nd rfl (Or.inl rfl) (zk o__law_plus hr rfl (za (pv 1) (za (pv 2) (za (wZ xo zb) zc))))) (ze (zp (wg (z9 (Dc hr.units) (xK FV (pv 3) vW (xY zb)) (zR (za zb (za zb zc))) (zt _)) (wD (z9 uD (zk o__law_sign hr rfl (za (pv 0) (za (zg zh (pv 3) zb (fun _ _ => rfl)) (za (zg zh (pv 3) zb (fun _ _ => rfl)) zc)))) zb (zt _))))))),?_⟩
  rw [show zI ["_law_d","_law_one","_law_other","_law_left"] [.int d,.ref p,.ref p'] = [some (.int d),some (.ref p),some (.ref p'),none] from rfl]
  walk_at "r"
  refine yE h1 h2 o1 o2 (by decide +kernel) fun r H1 s1 e1 => ?_
  rw [tu] at e1
  have e1' : H1 r = some (.tup [.int (tkS s t).x,.int (tkS s t).y,.int (tkS s t).z]) := e1
  have bx : Bd 4501 (tkS s t).x := Bd.fdiv (Bd.add (Bd.mul o1.bx (o2.bz)) (Bd.mul o2.bx.neg o1.bz)) _
  have by' : Bd 4501 (tkS s t).y := Bd.fdiv (Bd.add (Bd.mul o1.by' (o2.bz)) (Bd.mul o2.by'.neg o1.bz)) _
  walk_at "r"
  refine E5 e1' fun p2 H2 s2 e2 => ?_
  have e1' := s2 _ _ e1'
  walk_at "r"
  refine yL (by simp) fun p3 H3 s3 e3 => ?_
  have e1' := s3 _ _ e1'
  refine Gq (s3 _ _ e2) e3 ?_
  walk_at "r"
  refine AA (fun c => ?_) (fun c => ?_)
  · walk_at "r"
    refine wP hd (bx.mono (by decide)) (by'.mono (by decide)) fun H4 s4 => ?_
    walk_at "r"
    exact q H4 (((s1.trans s2).trans s3).trans s4)
  · walk_at "r"
    refine bl_q ?_ (q H3 ((s1.trans s2).trans s3))
    rw [c.1,c.2,yj]
    rfl
theorem ok__law_heap {f : Addr} {fd : FuncData} (F : Fun K "_law_heap" "_law_heap" s__law_heap f fd) (B : Bl mg)  (o__law_side : Own P w K mg base 3 "_law_side" ["_law_d","_law_cell_here","_law_at_here"] [] sp__law_side) (o__law_cell : Own P w K mg base 1 "_law_cell" ["_law_script","_law_k"] [] (sp__law_cell K)) (o__law_digits : Own P w K mg base 2 "_law_digits" ["_law_cell_here","_law_many"] [] sp__law_digits) : FnOk P w K mg base CX0 4 f fd ["_law_script","_law_d","_law_first"] (sp__law_heap K) := by
  refine F.ok (k := 3) sc__law_heap (fun vs H Q E h => ?_) (fun cdv A outer s H vs Q E hr h => ?_)
  · obtain ⟨p,ns,d,rfl,hS,hb,hR,q⟩ := h
    rfl
  obtain ⟨p,ns,d,rfl,hS,hb,hR,q⟩ := h
  refine ⟨_,(zd (vZ (i := 3) sc__law_heap.nd rfl rfl ["_law_k"] [0,1,2] rfl (yt rfl B.range (za zb zc)) (fun _ _ _ _ _ => (zD (i := 0) (show List.Nodup (α := Str) ["_law_k","_law_script","_law_d","_law_first"] by decide +kernel) rfl (Or.inl rfl))) (fun _ _ _ _ _ => yH) (fun _ _ _ _ _ => (zk o__law_side hr rfl (za (pv 2) (za (zk o__law_cell hr rfl (za (pv 1) (za (zi zK (pv 3) (pv 0)) zc))) (za zb zc)))))) (zd (zr (i := 4) sc__law_heap.nd rfl (Or.inl rfl) (zQ zc)) (zd (yW PassesOwn.never rfl (yt rfl B.range (za (zi zK zb (zi zN (zg zo (zk o__law_digits hr rfl (za (zk o__law_cell hr rfl (za (pv 0) (za (zi zK (pv 2) zb) zc))) (za zb zc))) zb (fun _ _ => rfl)) zb)) zc)) (zD (i := 5) sc__law_heap.nd rfl (Or.inl rfl)) (zd (zr (i := 6) sc__law_heap.nd rfl (Or.inl rfl) (zk o__law_cell hr rfl (za (pv 0) (za (zi zK (zi zK (pv 2) zb) (pv 5)) zc)))) (zd (zr (i := 7) sc__law_heap.nd rfl (Or.inl rfl) (zk o__law_digits hr rfl (za (pv 6) (za zb zc)))) (zd (zr (i := 8) sc__law_heap.nd rfl (Or.inl rfl) (zg zo (pv 3) (zi zN (zg zo (pv 7) zb (fun _ _ => rfl)) zb) (fun _ _ => rfl))) (zd (zr (i := 9) sc__law_heap.nd rfl (Or.inl rfl) (zg zo (pv 3) (zi zN (zg zo (pv 7) zb (fun _ _ => rfl)) zb) (fun _ _ => rfl))) (zd (wl (zJ (zn yl (zi zN (zi xN (zg zo (pv 7) zb (fun _ _ => rfl)) zb) zb) zb (zt _)) (ze (zr (i := 8) sc__law_heap.nd rfl (Or.inl rfl) (zk o__law_side hr rfl (za (pv 1) (za (pv 6) (za zb zc)))))) zu)) (zd (wl (zJ (zn yl (zi zN (zi xN (zg zo (pv 7) zb (fun _ _ => rfl)) zb) zb) zb (zt _)) (ze (zr (i := 9) sc__law_heap.nd rfl (Or.inl rfl) (zk o__law_side hr rfl (za (pv 1) (za (pv 6) (za zb zc)))))) zu)) (ze (yg (vF PySem.F.plainAttrs_list PySem.F.slot_list_append PySem.F.type_list_append z6 (pv 4) (za (zR (za (pv 8) (za (pv 9) zc))) zc))))))))))) (ze (zp (zR (za (pv 3) (za (pv 4) zc)))))))),?_⟩
  rw [show zI ["_law_script","_law_d","_law_first","_law_pool","_law_heap_here","_law_k","_law_cell_here","_law_digits_here","_law_width","_law_height"] [.ref p,.int d,.int 1] = [some (.ref p),some (.int d),some (.int 1),none,none,none,none,none,none,none] from rfl]
  walk_at "r"
  refine vU ?_
  walk_at "r"
  refine ⟨3,rfl,by decide,by decide,fun D hD => xk (lo := 0) (n := (3 : Int).toNat) (fun i xs σ' H' => ∃ (v : Option V) (P : PL),σ' = [v,some (.ref p),some (.int d),some (.int 1)] ∧ xs = P.map (fun x => V.ref x.1) ∧ P.length = i ∧ H' D = some (.lst xs) ∧ SameX D H H' ∧ (∀ x ∈ P,SdAt H' x.1 x.2) ∧ ∀ x ∈ P,Dw d x.2) ⟨none,[],rfl,rfl,rfl,zq,fun b o e n => by rw [zv n]; exact e,fun x hx => absurd hx (by simp),fun x hx => absurd hx (by simp)⟩ ?_ ?_⟩
  · rintro i xs σ' H' hi ⟨v,P,rfl,rfl,hPl,eD,sx,hPa,hPd⟩
    have hi3 : i < 3 := hi
    have s' : Same H H' := fun b o e => sx b o e (zf e hD)
    walk_at "r"
    refine yo (s'.seq hS) (by omega) hb fun c0 hc0 => ?_
    walk_at "r"
    refine xr (k := 0) hR hc0 (by decide) fun r1 H1 s s1 e1 o1 => ?_
    walk_at "r"
    have eD1 := s1 _ _ eD
    refine zG eD1 (by rw [List.length_map]; omega) fun H2 x2 e2 => ?_
    refine yX hi ⟨_,P ++ [(r1,s)],rfl,rfl,by rw [List.length_append,hPl]; rfl,by rw [List.map_append]; exact e2,(sx.trans (s1.sameX D)).trans x2,fun x hx => ?_,fun x hx => ?_⟩
    · rcases List.mem_append.mp hx with hx | hx
      · exact x2.tup (s1 _ _ (hPa x hx)) eD1
      · rw [List.mem_singleton.mp hx]; exact x2.tup e1 eD1
    · rcases List.mem_append.mp hx with hx | hx
      · exact hPd x hx
      · rw [List.mem_singleton.mp hx]; exact o1
  rintro xs σ' H2 ⟨v,P,rfl,rfl,hPl,eD,sx,hPa,hPd⟩
  have s2 : Same H H2 := fun b o e => sx b o e (zf e hD)
  have hP : Pl H2 D P := ⟨eD,hPa,hPl⟩
  have hS2 := s2.seq hS
  clear sx hPa hPl hD
  walk_at "r"
  refine zw (by simp) fun l H3 hl s3 e3 => ?_
  walk_at "r"
  refine wW ?_
  walk_at "r"
  refine yo (s3.seq hS2) (by omega) hb fun c0 hc0 => ?_
  walk_at "r"
  refine yi hc0 (by decide) (by decide) fun l4 H4 ds s4 e4 hl4 hds => ?_
  obtain ⟨x5,g5,a5,b5⟩ := dig hl4 hds 5 (by decide) (by decide)
  walk_at "r"
  refine zC e4 g5 ?_
  walk_at "r"
  have s34 := s3.trans s4
  refine ⟨1 + x5 % 6,rfl,by omega,by omega,xc (lo := 0) (n := (1 + x5 % 6).toNat) (fun i σ H' => ∃ (v1 v2 v3 v4 v5 : Option V) (L : List Cell),σ = [some (.ref p),some (.int d),some (.int 1),some (.ref D),some (.ref l),v1,v2,v3,v4,v5] ∧ SameX l H4 H' ∧ H' l = some (.lst (L.map Cell.v)) ∧ L.length = i ∧ (∀ c ∈ L,c.At H') ∧ ∀ c ∈ L,Dw d c.b.w ∧ Dw d c.b.h) ⟨_,_,_,_,_,[],rfl,fun b o e _ => e,s4 _ _ e3,rfl,fun c hc => absurd hc (by simp),fun c hc => absurd hc (by simp)⟩ ?_ ?_⟩
  · rintro i σ H' hi ⟨v1,v2,v3,v4,v5,L,rfl,sx,el,hLl,hLa,hLd⟩
    have sH : Same H2 H' := fun b o e => sx b o (s34 b o e) (zf e hl)
    walk_at "r"
    refine yo (sH.seq hS2) (by omega) hb fun c1 hc1 => ?_
    walk_at "r"
    refine yi hc1 (by decide) (by decide) fun l5 H5 es s5 e5 hl5 hes => ?_
    obtain ⟨y0,k0,u0,w0⟩ := dig hl5 hes 0 (by decide) (by decide)
    obtain ⟨y1,k1,u1,w1⟩ := dig hl5 hes 1 (by decide) (by decide)
    have hP5 := (hP.same sH).same s5
    obtain ⟨z0,hz0,gz0,ez0⟩ := hP5.get (i := y0 % 3) (by omega) (by omega)
    obtain ⟨z1,hz1,gz1,ez1⟩ := hP5.get (i := y1 % 3) (by omega) (by omega)
    repeat (first | walk_at "rd" | refine zC e5 k0 ?_ | refine zC e5 k1 ?_ | refine zC hP5.l gz0 ?_ | refine zC hP5.l gz1 ?_)
    refine uj (T := fun σ' H6 => ∃ (pw : Addr) (sw : Sd),σ' = [some (.ref p),some (.int d),some (.int 1),some (.ref D),some (.ref l),some (.int (0 + (i : Int))),some (.int c1),some (.ref l5),some (.ref pw),some (.ref z1.1)] ∧ Same H5 H6 ∧ SdAt H6 pw sw ∧ Dw d sw) ?_ ?_
    · repeat (first | walk_at "rd" | refine zC e5 k0 ?_)
      refine if_d (fun _ => ?_) (fun _ => ?_)
      · walk_at "r"
        refine xr (k := 2) hR hc1 (by decide) fun r1 H6 s s6 e6 o6 => ?_
        walk_at "r"
        exact ⟨r1,s,rfl,s6,e6,o6⟩
      · walk_at "r"
        exact ⟨_,_,rfl,Same.refl _,ez0,hPd z0 hz0⟩
    rintro σ' H6 ⟨pw,sw,rfl,s6,ew,ow⟩
    have e5 := s6 _ _ e5
    walk_at "r"
    refine uj (T := fun σ' H7 => ∃ (ph : Addr) (sh : Sd),σ' = [some (.ref p),some (.int d),some (.int 1),some (.ref D),some (.ref l),some (.int (0 + (i : Int))),some (.int c1),some (.ref l5),some (.ref pw),some (.ref ph)] ∧ Same H6 H7 ∧ SdAt H7 ph sh ∧ Dw d sh) ?_ ?_
    · repeat (first | walk_at "rd" | refine zC e5 k1 ?_)
      refine if_d (fun _ => ?_) (fun _ => ?_)
      · walk_at "r"
        refine xr (k := 7) hR hc1 (by decide) fun r1 H7 s s7 e7 o7 => ?_
        walk_at "r"
        exact ⟨r1,s,rfl,s7,e7,o7⟩
      · walk_at "r"
        exact ⟨_,_,rfl,Same.refl _,s6 _ _ ez1,hPd z1 hz1⟩
    rintro σ' H7 ⟨ph,sh,rfl,s7,eh,oh⟩
    have el0 := s7 _ _ (s6 _ _ (s5 _ _ el))
    walk_at "r"
    refine zE (by simp) fun r8 H8 n8 s8 e8 => ?_
    have st := ((s5.trans s6).trans s7).trans s8
    have el8 := st _ _ el
    walk_at "r"
    refine zG el8 (by rw [List.length_map]; omega) fun H9 x9 e9 => ?_
    walk_at "r"
    refine ⟨_,_,_,_,_,L ++ [⟨r8,pw,ph,⟨sw,sh⟩⟩],rfl,(sx.trans (st.sameX l)).trans x9,by rw [List.map_append]; exact e9,by rw [List.length_append,hLl]; rfl,fun x hx => ?_,fun x hx => ?_⟩
    · rcases List.mem_append.mp hx with hx | hx
      · exact ((hLa x hx).same st).sameX x9 el8
      · rw [List.mem_singleton.mp hx]
        exact Cell.At.sameX ⟨e8,s8 _ _ (s7 _ _ ew),s8 _ _ eh⟩ x9 el8
    · rcases List.mem_append.mp hx with hx | hx
      · exact hLd x hx
      · rw [List.mem_singleton.mp hx]; exact ⟨ow,oh⟩
  rintro σ H5 ⟨v1,v2,v3,v4,v5,L,rfl,sx,el,hLl,hLa,hLd⟩
  have sH : Same H2 H5 := fun b o e => sx b o (s34 b o e) (zf e hl)
  walk_at "r"
  refine zE (by simp) fun r H6 n6 s6 e6 => ?_
  exact q r D l H6 P L ((s2.trans sH).trans s6) e6 ((hP.same sH).same s6) (s6 _ _ el) (fun c hc => (hLa c hc).same s6) hPd hLd (by omega) (by omega)
theorem ok__law_new {f : Addr} {fd : FuncData} (F : Fun K "_law_new" "_law_new" s__law_new f fd) (B : Bl mg)  (o__law_plus : Own P w K mg base 3 "_law_plus" ["_law_one","_law_other","_law_sign_here"] [] sp__law_plus) (o__law_share : Own P w K mg base 3 "_law_share" ["_law_one","_law_top","_law_bottom"] [] sp__law_share) : FnOk P w K mg base CX0 4 f fd ["_law_deed_here","_law_some"] sp__law_new := by
  refine F.ok (k := 3) sc__law_new (fun vs H Q E h => ?_) (fun cdv A outer s H vs Q E hr h => ?_)
  · obtain ⟨p,a,d,e,c,c',rfl,he,ha,hc,hc',hf,q⟩ := h
    rfl
  obtain ⟨p,a,d,e,c,c',rfl,he,ha,hc,hc',hf,q⟩ := h
  refine ⟨_,(zd (vq (zg zo (pv 1) zb (fun _ _ => rfl)) (vk (n := 2) rfl (z8 (zD (i := 2) sc__law_new.nd rfl (Or.inl rfl)) (z8 (zD (i := 3) sc__law_new.nd rfl (Or.inl rfl)) xV)))) (zd (zJ (zn yl (zg zh (pv 0) zb (fun _ _ => rfl)) zT (zt _)) (ze (zp (WE.w (wj (zy (yP (zy (yn (zg zh (pv 0) zb (fun _ _ => rfl))) (zy (yn (pv 3)) z5))) (zy (yP (zy (yn (zk o__law_plus hr rfl (za (pv 2) (za (zg zh (pv 0) zb (fun _ _ => rfl)) (za (wZ xo zb) zc))))) (zy (yn (pv 3)) z5))) z5)))))) zu) (zd (zJ (zn yl (zg zh (pv 0) zb (fun _ _ => rfl)) zT (zt _)) (ze (zp (WE.w (wj (zy (yP (zy (yn (pv 2)) (zy (yn (zg zh (pv 0) zb (fun _ _ => rfl))) z5))) (zy (yP (zy (yn (pv 2)) (zy (yn (zk o__law_plus hr rfl (za (pv 3) (za (zg zh (pv 0) zb (fun _ _ => rfl)) (za (wZ xo zb) zc))))) z5))) z5)))))) zu) (zd (zJ (zn yl (zg zh (pv 0) zb (fun _ _ => rfl)) zT (zt _)) (ze (zp (WE.w (wj (zy (yP (zy (yn (zk o__law_plus hr rfl (za (pv 2) (za (zg zh (zg zo (pv 1) zb (fun _ _ => rfl)) zb (fun _ _ => rfl)) (za zb zc))))) (zy (yn (pv 3)) z5))) z5))))) zu) (zd (zJ (zn yl (zg zh (pv 0) zb (fun _ _ => rfl)) zT (zt _)) (ze (zp (WE.w (wj (zy (yP (zy (yn (pv 2)) (zy (yn (zk o__law_plus hr rfl (za (pv 3) (za (zg zh (zg zo (pv 1) zb (fun _ _ => rfl)) zb (fun _ _ => rfl)) (za zb zc))))) z5))) z5))))) zu) (zd (zJ (zn yl (zg zh (pv 0) zb (fun _ _ => rfl)) zT (zt _)) (ze (zp (WE.w (wj (zy (yP (zy (yn (zk o__law_share hr rfl (za (pv 2) (za zb (za (zg zh (pv 0) zb (fun _ _ => rfl)) zc))))) (zy (yn (zk o__law_share hr rfl (za (pv 3) (za (zg zh (pv 0) zb (fun _ _ => rfl)) (za zb zc))))) z5))) z5))))) zu) (zd (zJ (zn yl (zg zh (pv 0) zb (fun _ _ => rfl)) zT (zt _)) (ze (zp (WE.w (wj (zy (yP (zy (yn (zk o__law_share hr rfl (za (pv 2) (za (zg zh (pv 0) zb (fun _ _ => rfl)) (za zb zc))))) (zy (yn (zk o__law_share hr rfl (za (pv 3) (za zb (za (zg zh (pv 0) zb (fun _ _ => rfl)) zc))))) z5))) z5))))) zu) (ze (zp (WE.w (wj (zy (yP (zy (yn (pv 3)) (zy (yn (pv 2)) z5))) z5)))))))))))),?_⟩
  rw [show zI ["_law_deed_here","_law_some","_law_width","_law_height"] [.ref p,.ref a] = [some (.ref p),some (.ref a),none,none] from rfl]
  cases e with
  | cut al n s =>
    obtain ⟨pq,h0,hs⟩ := he
    cases al with
    | false =>
      have h0 : H p = some (.tup [.str (Str.ofString "across"),.int n,.ref pq]) := h0
      have ha : H a = some (.lst [.ref c.p]) := ha
      have ct := hc.t
      have ct' := hc'.t
      walk_at "r"
      refine if_d (fun _ => ?_) (fun c => absurd rfl c)
      walk_at "r"
      obtain ⟨f1,f2,f3,f4⟩ := hf
      refine zE (by simp) fun r1 H1 hr1 s1 e1 => ?_
      have h0 := s1 _ _ h0
      walk_at "r"
      refine yE (s1 _ _ hc.w) (s1 _ _ hs) f1 f2 (by decide +kernel) fun r2 H2 s2 e2 => ?_
      rw [tu] at e2
      walk_at "r"
      refine zE (by simp) fun r3 H3 hr3 s3 e3 => ?_
      walk_at "r"
      refine zw (by simp) fun r HL nr sL eL => ?_
      have t4 := ((s1.trans s2).trans s3).trans sL
      refine q r [⟨r1,pq,c.ph,⟨s,c.b.h⟩⟩,⟨r3,r2,c.ph,⟨tkS c.b.w s,c.b.h⟩⟩] HL t4 (Same.nn ((s1.trans s2).trans s3) nr) eL (fun x hx => ?_) rfl
      rcases List.mem_cons.mp hx with rfl | hx
      · exact ⟨sL _ _ (s3 _ _ (s2 _ _ e1)),t4 _ _ hs,t4 _ _ hc.h⟩
      · rw [List.mem_singleton.mp hx]; exact ⟨sL _ _ e3,sL _ _ (s3 _ _ e2),t4 _ _ hc.h⟩
    | true =>
      have h0 : H p = some (.tup [.str (Str.ofString "along"),.int n,.ref pq]) := h0
      have ha : H a = some (.lst [.ref c.p]) := ha
      have ct := hc.t
      have ct' := hc'.t
      walk_at "r"
      refine if_d (fun c => absurd c (by decide +kernel)) (fun _ => ?_)
      walk_at "r"
      refine if_d (fun _ => ?_) (fun c => absurd rfl c)
      walk_at "r"
      obtain ⟨f1,f2,f3,f4⟩ := hf
      refine zE (by simp) fun r1 H1 hr1 s1 e1 => ?_
      have h0 := s1 _ _ h0
      walk_at "r"
      refine yE (s1 _ _ hc.h) (s1 _ _ hs) f1 f2 (by decide +kernel) fun r2 H2 s2 e2 => ?_
      rw [tu] at e2
      walk_at "r"
      refine zE (by simp) fun r3 H3 hr3 s3 e3 => ?_
      walk_at "r"
      refine zw (by simp) fun r HL nr sL eL => ?_
      have t4 := ((s1.trans s2).trans s3).trans sL
      refine q r [⟨r1,c.pw,pq,⟨c.b.w,s⟩⟩,⟨r3,c.pw,r2,⟨c.b.w,tkS c.b.h s⟩⟩] HL t4 (Same.nn ((s1.trans s2).trans s3) nr) eL (fun x hx => ?_) rfl
      rcases List.mem_cons.mp hx with rfl | hx
      · exact ⟨sL _ _ (s3 _ _ (s2 _ _ e1)),t4 _ _ hc.w,t4 _ _ hs⟩
      · rw [List.mem_singleton.mp hx]; exact ⟨sL _ _ e3,t4 _ _ hc.w,sL _ _ (s3 _ _ e2)⟩
  | glue al n m =>
    have h0 := he
    cases al with
    | false =>
      have h0 : H p = some (.tup [.str (Str.ofString "beside"),.int n,.int m]) := h0
      have ha : H a = some (.lst [.ref c.p,.ref c'.p]) := ha
      have ct := hc.t
      have ct' := hc'.t
      walk_at "r"
      refine if_d (fun c => absurd c (by decide +kernel)) (fun _ => ?_)
      walk_at "r"
      refine if_d (fun c => absurd c (by decide +kernel)) (fun _ => ?_)
      walk_at "r"
      refine if_d (fun _ => ?_) (fun c => absurd rfl c)
      walk_at "r"
      refine yE hc.w hc'.w hf.2.1 hf.2.2 (by decide +kernel) fun r2 H2 s2 e2 => ?_
      rw [A3] at e2
      walk_at "r"
      refine zE (by simp) fun rc HC nc sC eC => ?_
      walk_at "r"
      refine zw (by simp) fun r HL nr sL eL => ?_
      refine q r [⟨rc,r2,c.ph,⟨adS c.b.w c'.b.w,c.b.h⟩⟩] HL ((s2.trans sC).trans sL) (Same.nn (s2.trans sC) nr) eL (fun x hx => ?_) rfl
      rw [List.mem_singleton.mp hx]
      exact ⟨sL _ _ eC,sL _ _ (sC _ _ e2),sL _ _ (sC _ _ (s2 _ _ hc.h))⟩
    | true =>
      have h0 : H p = some (.tup [.str (Str.ofString "atop"),.int n,.int m]) := h0
      have ha : H a = some (.lst [.ref c.p,.ref c'.p]) := ha
      have ct := hc.t
      have ct' := hc'.t
      walk_at "r"
      refine if_d (fun c => absurd c (by decide +kernel)) (fun _ => ?_)
      walk_at "r"
      refine if_d (fun c => absurd c (by decide +kernel)) (fun _ => ?_)
      walk_at "r"
      refine if_d (fun c => absurd c (by decide +kernel)) (fun _ => ?_)
      walk_at "r"
      refine if_d (fun _ => ?_) (fun c => absurd rfl c)
      walk_at "r"
      refine yE hc.h hc'.h hf.2.1 hf.2.2 (by decide +kernel) fun r2 H2 s2 e2 => ?_
      rw [A3] at e2
      walk_at "r"
      refine zE (by simp) fun rc HC nc sC eC => ?_
      walk_at "r"
      refine zw (by simp) fun r HL nr sL eL => ?_
      refine q r [⟨rc,c.pw,r2,⟨c.b.w,adS c.b.h c'.b.h⟩⟩] HL ((s2.trans sC).trans sL) (Same.nn (s2.trans sC) nr) eL (fun x hx => ?_) rfl
      rw [List.mem_singleton.mp hx]
      exact ⟨sL _ _ eC,sL _ _ (sC _ _ (s2 _ _ hc.w)),sL _ _ (sC _ _ e2)⟩
  | shift al n k =>
    have h0 := he
    cases al with
    | false =>
      have h0 : H p = some (.tup [.str (Str.ofString "stack"),.int n,.int k]) := h0
      have ha : H a = some (.lst [.ref c.p]) := ha
      have ct := hc.t
      have ct' := hc'.t
      walk_at "r"
      refine if_d (fun c => absurd c (by decide +kernel)) (fun _ => ?_)
      walk_at "r"
      refine if_d (fun c => absurd c (by decide +kernel)) (fun _ => ?_)
      walk_at "r"
      refine if_d (fun c => absurd c (by decide +kernel)) (fun _ => ?_)
      walk_at "r"
      refine if_d (fun c => absurd c (by decide +kernel)) (fun _ => ?_)
      walk_at "r"
      refine if_d (fun _ => ?_) (fun c => absurd rfl c)
      walk_at "r"
      refine yh hc.w hf.2.2.1 (by decide +kernel) (by have := hf.1; omega) (hf.2.1) fun r1 H1 s1 e1 => ?_
      have h0 := s1 _ _ h0
      walk_at "r"
      refine yh (s1 _ _ hc.h) hf.2.2.2 (hf.2.1) (by decide) (by decide +kernel) fun r2 H2 s2 e2 => ?_
      walk_at "r"
      refine zE (by simp) fun rc HC nc sC eC => ?_
      walk_at "r"
      refine zw (by simp) fun r HL nr sL eL => ?_
      refine q r [⟨rc,r1,r2,⟨shS c.b.w 1 k,shS c.b.h k 1⟩⟩] HL (((s1.trans s2).trans sC).trans sL) (Same.nn ((s1.trans s2).trans sC) nr) eL (fun x hx => ?_) rfl
      rw [List.mem_singleton.mp hx]
      exact ⟨sL _ _ eC,sL _ _ (sC _ _ (s2 _ _ e1)),sL _ _ (sC _ _ e2)⟩
    | true =>
      have h0 : H p = some (.tup [.str (Str.ofString "spread"),.int n,.int k]) := h0
      have ha : H a = some (.lst [.ref c.p]) := ha
      have ct := hc.t
      have ct' := hc'.t
      walk_at "r"
      refine if_d (fun c => absurd c (by decide +kernel)) (fun _ => ?_)
      walk_at "r"
      refine if_d (fun c => absurd c (by decide +kernel)) (fun _ => ?_)
      walk_at "r"
      refine if_d (fun c => absurd c (by decide +kernel)) (fun _ => ?_)
      walk_at "r"
      refine if_d (fun c => absurd c (by decide +kernel)) (fun _ => ?_)
      walk_at "r"
      refine if_d (fun c => absurd c (by decide +kernel)) (fun _ => ?_)
      walk_at "r"
      refine if_d (fun _ => ?_) (fun c => absurd rfl c)
      walk_at "r"
      refine yh hc.w hf.2.2.1 (hf.2.1) (by decide) (by decide +kernel) fun r1 H1 s1 e1 => ?_
      have h0 := s1 _ _ h0
      walk_at "r"
      refine yh (s1 _ _ hc.h) hf.2.2.2 (by decide +kernel) (by have := hf.1; omega) (hf.2.1) fun r2 H2 s2 e2 => ?_
      walk_at "r"
      refine zE (by simp) fun rc HC nc sC eC => ?_
      walk_at "r"
      refine zw (by simp) fun r HL nr sL eL => ?_
      refine q r [⟨rc,r1,r2,⟨shS c.b.w k 1,shS c.b.h 1 k⟩⟩] HL (((s1.trans s2).trans sC).trans sL) (Same.nn ((s1.trans s2).trans sC) nr) eL (fun x hx => ?_) rfl
      rw [List.mem_singleton.mp hx]
      exact ⟨sL _ _ eC,sL _ _ (sC _ _ (s2 _ _ e1)),sL _ _ (sC _ _ e2)⟩
  | turn n =>
    have h0 := he
    have h0 : H p = some (.tup [.str (Str.ofString "turn"),.int n]) := h0
    have ha : H a = some (.lst [.ref c.p]) := ha
    have ct := hc.t
    have ct' := hc'.t
    walk_at "r"
    refine if_d (fun c => absurd c (by decide +kernel)) (fun _ => ?_)
    walk_at "r"
    refine if_d (fun c => absurd c (by decide +kernel)) (fun _ => ?_)
    walk_at "r"
    refine if_d (fun c => absurd c (by decide +kernel)) (fun _ => ?_)
    walk_at "r"
    refine if_d (fun c => absurd c (by decide +kernel)) (fun _ => ?_)
    walk_at "r"
    refine if_d (fun c => absurd c (by decide +kernel)) (fun _ => ?_)
    walk_at "r"
    refine if_d (fun c => absurd c (by decide +kernel)) (fun _ => ?_)
    walk_at "r"
    refine zE (by simp) fun rc HC nc sC eC => ?_
    walk_at "r"
    refine zw (by simp) fun r HL nr sL eL => ?_
    refine q r [⟨rc,c.ph,c.pw,⟨c.b.h,c.b.w⟩⟩] HL (((Same.refl H).trans sC).trans sL) (Same.nn ((Same.refl H).trans sC) nr) eL (fun x hx => ?_) rfl
    rw [List.mem_singleton.mp hx]
    exact ⟨sL _ _ eC,sL _ _ (sC _ _ hc.h),sL _ _ (sC _ _ hc.w)⟩
theorem ok__law_at {f : Addr} {fd : FuncData} (F : Fun K "_law_at" "_law_at" s__law_at f fd) (B : Bl mg)  (o__law_share : Own P w K mg base 3 "_law_share" ["_law_one","_law_top","_law_bottom"] [] sp__law_share) (o__law_below : Own P w K mg base 4 "_law_below" ["_law_d","_law_one","_law_other"] [] sp__law_below) : FnOk P w K mg base CX0 5 f fd ["_law_d","_law_digits_here","_law_side_here","_law_pool"] sp__law_at := by
  refine F.ok (k := 4) sc__law_at (fun vs H Q E h => ?_) (fun cdv A outer s H vs Q E hr h => ?_)
  · obtain ⟨d,l,p,qa,ds,s,P,D,M,K',rfl,hl,n8,hds,h1,so,hP,oP,zz,hR,q⟩ := h
    rfl
  obtain ⟨d,l,p,qa,ds,s,P,D,M,K',rfl,hl,n8,hds,h1,so,hP,oP,zz,hR,q⟩ := h
  refine ⟨_,(zd (zr (i := 4) sc__law_at.nd rfl (Or.inl rfl) (zg zo (pv 3) (zi zN (zg zo (pv 1) zb (fun _ _ => rfl)) zb) (fun _ _ => rfl))) (zd (zJ (PW.pt (yJ (zn yl (zi zN (zg zo (pv 1) zb (fun _ _ => rfl)) zb) zb (zt _)) (ym (zV (zk o__law_below hr rfl (za (pv 0) (za (pv 4) (za (pv 2) zc)))))))) (ze (zp (pv 4))) zu) (zd (zr (i := 5) sc__law_at.nd rfl (Or.inl rfl) (zi zK zb (zi zN (zg zo (pv 1) zb (fun _ _ => rfl)) zb))) (ze (zp (zk o__law_share hr rfl (za (pv 2) (za (zi zK zb (zi zN (zg zo (pv 1) zb (fun _ _ => rfl)) (zi xp (pv 5) zb))) (za (pv 5) zc))))))))),?_⟩
  rw [show zI ["_law_d","_law_digits_here","_law_side_here","_law_pool","_law_at_here","_law_bottom"] [.int d,.ref l,.ref p,.ref qa] = [some (.int d),some (.ref l),some (.ref p),some (.ref qa),none,none] from rfl]
  have dlo := hR.lo
  have hd : Bd 64 d := zY (B := 99) (by omega) hR.hi (by decide +kernel)
  have sk : SY s := zz.sy so
  obtain ⟨x3,g3',a3,b3⟩ := dig n8 hds 3 (by decide) (by decide)
  obtain ⟨x4,g4,a4,b4⟩ := dig n8 hds 4 (by decide) (by decide)
  obtain ⟨x5,g5,a5,b5⟩ := dig n8 hds 5 (by decide) (by decide)
  obtain ⟨x6,g6,a6,b6⟩ := dig n8 hds 6 (by decide) (by decide)
  obtain ⟨y,hy,gy,ey⟩ := hP.get (i := x3 % 3) (by omega) (by omega)
  have oy := oP y hy
  have hPl := hP.l
  have fin : ∀ (r : Addr) (H' : Hp),Same H H' → SdAt H' r (shS s (1 + x6 % (2 + x5 % 1000 - 1)) (2 + x5 % 1000)) → Q (.ref r) H' := fun r H' s' e => by
    have h4 := Int.emod_nonneg x6 (show 2 + x5 % 1000 - 1 ≠ 0 by omega)
    have h5 := Int.emod_lt_of_pos x6 (show 0 < 2 + x5 % 1000 - 1 by omega)
    generalize x6 % (2 + x5 % 1000 - 1) = t at *
    have hk : 2 ≤ 2 + x5 % 1000 ∧ 2 + x5 % 1000 ≤ 1001 := by omega
    generalize 2 + x5 % 1000 = k at *
    exact q r H' _ k s' e (by omega) (zY (B := 1001) (by omega) (by omega) (by decide)) ((D2 hR so (by omega) (by omega) (zY (k := 10) (B := 1001) (by omega) (by omega) (by decide))).mono (by omega)) (Gm hR so.z1 so.up (by omega) (by omega))
  repeat (first | walk_at "rd" | refine zC hl g3' ?_ | refine zC hl g4 ?_ | refine zC hPl gy ?_)
  refine if_d (fun c1 => ?_) (fun c1 => ?_)
  · walk_at "r"
    refine ur ey h1 (zz.sy oy) sk hd fun H1 s1 => ?_
    have hl := s1 _ _ hl
    walk_at "r"
    refine if_d (fun c2 => ?_) (fun c2 => ?_)
    · walk_at "r"
      exact q y.1 H1 y.2 1 s1 (s1 _ _ ey) (by decide) (by decide) (by rw [Int.mul_one]; exact oy.mono (by omega)) (GC hR so.z1 oy.z1 c2)
    · repeat (first | walk_at "rd" | refine zC hl g5 ?_ | refine zC hl g6 ?_)
      have h4 := Int.emod_nonneg x6 (show 2 + x5 % 1000 - 1 ≠ 0 by omega)
      have h5 := Int.emod_lt_of_pos x6 (show 0 < 2 + x5 % 1000 - 1 by omega)
      repeat (first | walk_at "rd" | refine zC hl g5 ?_ | refine zC hl g6 ?_)
      refine yh (s1 _ _ h1) sk (xl 64 (by omega) (by omega) (by decide)) (by omega) (xl 64 (by omega) (by omega) (by decide)) fun r Hz sz ez => ?_
      exact fin r Hz (s1.trans sz) ez
  · repeat (first | walk_at "rd" | refine zC hl g5 ?_ | refine zC hl g6 ?_)
    have h4 := Int.emod_nonneg x6 (show 2 + x5 % 1000 - 1 ≠ 0 by omega)
    have h5 := Int.emod_lt_of_pos x6 (show 0 < 2 + x5 % 1000 - 1 by omega)
    repeat (first | walk_at "rd" | refine zC hl g5 ?_ | refine zC hl g6 ?_)
    refine yh h1 sk (xl 64 (by omega) (by omega) (by decide)) (by omega) (xl 64 (by omega) (by omega) (by decide)) fun r Hz sz ez => ?_
    exact fin r Hz (sz) ez
theorem uE : ∀ {ms : List Int} {ns : List Nat},(yA ns ms).length ≤ ns.length
  | [],_ => Nat.le_refl _
  | _ :: ms,ns => Nat.le_trans (uE (ms := ms)) (List.length_filter_le ..)
theorem ok__law_done {f : Addr} {fd : FuncData} (F : Fun K "_law_done" "_law_done" s__law_done f fd) (B : Bl mg)  (o__law_new : Own P w K mg base 4 "_law_new" ["_law_deed_here","_law_some"] [] sp__law_new) : FnOk P w K mg base CX0 5 f fd ["_law_lying","_law_used","_law_deed_here"] sp__law_done := by
  refine F.ok (k := 4) sc__law_done (fun vs H Q E h => ?_) (fun cdv A outer s H vs Q E hr h => ?_)
  · obtain ⟨a,p,ns,f,k,d,D,M,e,n,m,rfl,hL,lt,nl,he,gd,q⟩ := h
    rfl
  obtain ⟨a,p,ns,f,k,d,D,M,e,n,m,rfl,hL,lt,nl,he,gd,q⟩ := h
  refine ⟨_,(zd (zr (i := 3) sc__law_done.nd rfl (Or.inl rfl) (zQ (za (zg zh (pv 2) zb (fun _ _ => rfl)) zc))) (zd (wl (zJ (zn xh (zg zh (pv 2) zb (fun _ _ => rfl)) (zR (za zT (za zT zc))) (by with_unfolding_all rfl)) (ze (yg (vF PySem.F.plainAttrs_list PySem.F.slot_list_append PySem.F.type_list_append z6 (pv 3) (za (zg zh (pv 2) zb (fun _ _ => rfl)) zc)))) zu)) (zd (zr (i := 4) sc__law_done.nd rfl (Or.inl rfl) (zk o__law_new hr rfl (za (pv 2) (za (xP ["_law_name"] [0] rfl (yv (pv 3)) (fun _ _ _ _ _ => (zD (i := 0) (show List.Nodup (α := Str) ["_law_name","_law_lying"] by decide +kernel) rfl (Or.inl rfl))) (fun _ _ _ _ _ => yH) (fun _ _ _ _ _ => (xT (wG hr) (pv 1) (pv 0) (fun _ _ => rfl)))) zc)))) (zd (zr (i := 5) sc__law_done.nd rfl (Or.inl rfl) (zF xX rfl B.dict vK (za (pv 0) zc))) (zd (yW PassesOwn.never rfl (yv (pv 3)) (zD (i := 6) sc__law_done.nd rfl (Or.inl rfl)) (ze (yg (tW (pv 5) (pv 6) ⟨rfl,rfl,rfl,rfl⟩)))) (zd (yW PassesOwn.never rfl (yt rfl B.range (za (zm zH rfl B.len PySem.boot_len (za (pv 4) zc)) zc)) (zD (i := 7) sc__law_done.nd rfl (Or.inl rfl)) (ze (tE (wG hr) (pv 5) (zi zK (pv 1) (pv 7)) (zg zo (pv 4) (pv 7) (fun _ _ => rfl)) rfl))) (ze (zp (zR (za (pv 5) (za (zi zK (pv 1) (zm zH rfl B.len PySem.boot_len (za (pv 4) zc))) zc))))))))))),?_⟩
  rw [show zI ["_law_lying","_law_used","_law_deed_here","_law_names","_law_new_here","_law_left","_law_name","_law_k"] [.ref a,.int (k : Int),.ref p] = [some (.ref a),some (.int (k : Int)),some (.ref p),none,none,none,none,none] from rfl]
  obtain ⟨rs,hp⟩ := he.tup
  have hcn := hL.at' n gd.hn
  have hcm := hL.at' m gd.hm
  walk_at "r"
  refine wU hp (zL (j := 1) rfl) ?_
  walk_at "r"
  refine zw (by simp) fun l H1 nl1 s1 e1 => ?_
  walk_at "r"
  refine uj (T := fun σ' H' => σ' = [some (.ref a),some (.int (k : Int)),some (.ref p),some (.ref l),none,none,none,none] ∧ SameX l H1 H' ∧ H' l = some (.lst (e.names.map V.int))) ?_ ?_
  · clear gd q hp
    cases e with
    | cut al n' s' =>
      obtain ⟨pq,h0,hs⟩ := he
      cases al with
      | false =>
        have h0 : H p = some (.tup [.str (Str.ofString "across"),.int n',.ref pq]) := h0
        have h0 := s1 _ _ h0
        walk_at "r"
        refine yL (by simp) fun q2 H2 s2 e2 => ?_
        refine wJ (b := false) e2 rfl rfl (by decide +kernel) ?_
        have h0 := s2 _ _ h0
        have e1 := s2 _ _ e1
        walk_at "r"
        exact ⟨rfl,s2.sameX l,e1⟩
      | true =>
        have h0 : H p = some (.tup [.str (Str.ofString "along"),.int n',.ref pq]) := h0
        have h0 := s1 _ _ h0
        walk_at "r"
        refine yL (by simp) fun q2 H2 s2 e2 => ?_
        refine wJ (b := false) e2 rfl rfl (by decide +kernel) ?_
        have h0 := s2 _ _ h0
        have e1 := s2 _ _ e1
        walk_at "r"
        exact ⟨rfl,s2.sameX l,e1⟩
    | glue al n' m' =>
      have h0 := he
      cases al with
      | false =>
        have h0 : H p = some (.tup [.str (Str.ofString "beside"),.int n',.int m']) := h0
        have h0 := s1 _ _ h0
        walk_at "r"
        refine yL (by simp) fun q2 H2 s2 e2 => ?_
        refine wJ (b := true) e2 rfl rfl (by decide +kernel) ?_
        have h0 := s2 _ _ h0
        have e1 := s2 _ _ e1
        walk_at "r"
        refine zG e1 (by simp) fun H3 x3 e3 => ?_
        walk_at "r"
        exact ⟨rfl,(s2.sameX l).trans x3,e3⟩
      | true =>
        have h0 : H p = some (.tup [.str (Str.ofString "atop"),.int n',.int m']) := h0
        have h0 := s1 _ _ h0
        walk_at "r"
        refine yL (by simp) fun q2 H2 s2 e2 => ?_
        refine wJ (b := true) e2 rfl rfl (by decide +kernel) ?_
        have h0 := s2 _ _ h0
        have e1 := s2 _ _ e1
        walk_at "r"
        refine zG e1 (by simp) fun H3 x3 e3 => ?_
        walk_at "r"
        exact ⟨rfl,(s2.sameX l).trans x3,e3⟩
    | shift al n' k' =>
      have h0 := he
      cases al with
      | false =>
        have h0 : H p = some (.tup [.str (Str.ofString "stack"),.int n',.int k']) := h0
        have h0 := s1 _ _ h0
        walk_at "r"
        refine yL (by simp) fun q2 H2 s2 e2 => ?_
        refine wJ (b := false) e2 rfl rfl (by decide +kernel) ?_
        have h0 := s2 _ _ h0
        have e1 := s2 _ _ e1
        walk_at "r"
        exact ⟨rfl,s2.sameX l,e1⟩
      | true =>
        have h0 : H p = some (.tup [.str (Str.ofString "spread"),.int n',.int k']) := h0
        have h0 := s1 _ _ h0
        walk_at "r"
        refine yL (by simp) fun q2 H2 s2 e2 => ?_
        refine wJ (b := false) e2 rfl rfl (by decide +kernel) ?_
        have h0 := s2 _ _ h0
        have e1 := s2 _ _ e1
        walk_at "r"
        exact ⟨rfl,s2.sameX l,e1⟩
    | turn n' =>
      have h0 := he
      have h0 : H p = some (.tup [.str (Str.ofString "turn"),.int n']) := h0
      have h0 := s1 _ _ h0
      walk_at "r"
      refine yL (by simp) fun q2 H2 s2 e2 => ?_
      refine wJ (b := false) e2 rfl rfl (by decide +kernel) ?_
      have h0 := s2 _ _ h0
      have e1 := s2 _ _ e1
      walk_at "r"
      exact ⟨rfl,s2.sameX l,e1⟩
  rintro σ' H2 ⟨rfl,sx2,e2⟩
  have s2 : Same H H2 := fun b o e => sx2 b o (s1 b o e) (zf e nl1)
  have hL2 := hL.same s2
  clear sx2 e1 s1
  walk_at "r"
  refine xQ ?_
  walk_at "r"
  refine ⟨l,rfl,⟨_,SqL.of e2⟩,fun O hO => yS (K := K) (a := l) (ys := e.names.map V.int) (fun i xs σ' H' => ∃ v : Option V,σ' = [v,some (.ref a)] ∧ xs = ((e.cells (f n) (f m)).take i).map Cell.v ∧ H' O = some (.lst xs) ∧ SameX O H2 H') ⟨none,rfl,rfl,zq,fun b o e n => by rw [zv n]; exact e⟩ (fun i xs σ' H' _ z => by obtain ⟨v,_,_,_,z⟩ := z; exact SqL.of (z _ _ e2 (zf e2 hO))) ?_ ?_⟩
  · rintro i x xs σ' H' hi ⟨v,rfl,rfl,eO,sx⟩
    rw [List.getElem?_map] at hi
    obtain ⟨z,hz,rfl⟩ := Option.map_eq_some_iff.mp hi
    obtain ⟨j,hj,rfl,hcx⟩ := B9 gd hz
    have hi3 := (List.getElem?_eq_some_iff.mp hz).1
    have hn2 := e.names_len
    have s' : Same H2 H' := fun b o e => sx b o e (zf e hO)
    have hL' := hL2.same s'
    walk_at "r"
    refine ⟨a,_,rfl,DGet.k (k := .inl (j : Int)) hL'.l |> (fun z => by rw [z7 hj] at z; exact z),?_⟩
    walk_at "r"
    refine zG eO (by rw [List.length_map,List.length_take]; omega) fun H3 x3 e3 => ?_
    refine yX (by rw [List.length_map]; exact hi3) ⟨_,rfl,rfl,?_,sx.trans x3⟩
    rw [List.take_succ,hcx,List.map_append]
    exact e3
  rintro xs σ' H3 ⟨v,rfl,rfl,eO,sx⟩
  have s3 : Same H2 H3 := fun b o e => sx b o e (zf e hO)
  rw [List.length_map,← e.cells_len (f n) (f m),List.take_length] at eO
  clear sx
  have t3 := s2.trans s3
  walk_at "r"
  refine Ay (he.same t3) (by rw [eO]; unfold Dd.cells; cases e.two <;> rfl) (hcn.same t3) (hcm.same t3) gd.fit fun r4 N H4 s4 n4 e4 hN hNb => ?_
  have t4 := t3.trans s4
  have hL4 := hL.same t4
  have hNl : N.length ≤ 2 := by rw [← List.length_map (f := Cell.b),hNb]; exact vv e _ _
  have e2 := s4 _ _ (s3 _ _ e2)
  walk_at "r"
  refine vy hL4.l fun A H5 n5 s5 e5 => ?_
  have lA : l ≠ A := zf e2 n5
  have e2 := s5 _ _ e2
  walk_at "r"
  refine wf ?_
  walk_at "r"
  refine ⟨l,rfl,⟨_,SqL.of e2⟩,yK (K := K) (a := l) (xs := e.names.map V.int) (fun i σ H' => ∃ v,σ = [some (.ref a),some (.int (k : Int)),some (.ref p),some (.ref l),some (.ref r4),some (.ref A),v,none] ∧ H' A = some (.dK (cdK (yA ns (e.names.take i)) f)) ∧ SameX A H5 H') ⟨_,rfl,e5,fun b o e _ => e⟩ (fun i σ H' _ ⟨_,_,_,x⟩ => SqL.of (x _ _ e2 lA)) ?_ ?_⟩
  · rintro i x σ H' hi ⟨v,rfl,el,sx⟩
    rw [List.getElem?_map] at hi
    obtain ⟨z,hz,rfl⟩ := Option.map_eq_some_iff.mp hi
    obtain ⟨j,hj,rfl,hcx⟩ := B9 gd hz
    have hni : (j : Int) ∉ e.names.take i := by
      intro hh
      obtain ⟨j',hj'⟩ := List.getElem?_of_mem hh
      have hj1 := (List.getElem?_eq_some_iff.mp hj').1
      rw [List.length_take] at hj1
      rw [List.getElem?_take_of_lt (by omega)] at hj'
      have := (List.getElem?_inj (i := j') (by omega) gd.nodup).mp (hj'.trans hz.symm)
      omega
    walk_at "r"
    refine ⟨A,rfl,.inl ⟨_,.inl el⟩,?_⟩
    walk_at "r"
    refine ⟨_,.inl (j : Int),_,el,rfl,z7 (mem_ndrop.mpr ⟨hj,hni⟩),?_⟩
    refine ⟨_,rfl,?_,fun b o e n => by rw [zv n]; exact sx b o e n⟩
    rw [zq,uf,List.take_succ,hz,show ((some (j : Int)).toList) = [(j : Int)] from rfl,xU]
  rintro σ H6 ⟨v,rfl,el6,sx6⟩
  rw [List.length_map,List.take_length,A5 (g := fN f k N) (fun j hj => (CZ (lt j (mem_ndrop.mp hj).1)).symm)] at el6
  have rA : r4 ≠ A := zf e4 n5
  have e4 := sx6 _ _ (s5 _ _ e4) rA
  have dl : (yA ns e.names).length ≤ ns.length := uE
  walk_at "r"
  refine wW ?_
  walk_at "r"
  rw [List.length_map]
  refine ⟨(N.length : Int),rfl,by omega,by omega,xc (lo := 0) (n := (N.length : Int).toNat) (fun i σ H' => ∃ v v',σ = [some (.ref a),some (.int (k : Int)),some (.ref p),some (.ref l),some (.ref r4),some (.ref A),v,v'] ∧ H' A = some (.dK (cdK (yA ns e.names ++ List.range' k i) (fN f k N))) ∧ SameX A H6 H') ⟨_,_,rfl,by simpa using el6,fun b o e _ => e⟩ ?_ ?_⟩
  · rintro i σ H' hi ⟨v,v',rfl,el,sx⟩
    have hi' : i < N.length := by omega
    have e4' := sx _ _ e4 rA
    obtain ⟨cx,hcx⟩ : ∃ c,N[i]? = some c := ⟨_,List.getElem?_eq_getElem hi'⟩
    walk_at "r"
    refine zC e4' (v := cx.v) (by rw [show (0 : Int) + (i : Int) = ((i : Nat) : Int) by omega]; exact zL (by rw [List.getElem?_map,hcx]; rfl)) ?_
    walk_at "r"
    rw [show (k : Int) + (0 + (i : Int)) = ((k + i : Nat) : Int) by omega]
    refine ⟨A,_,rfl,DPut.k (k := .inl ((k + i : Nat) : Int)) el (by rw [wC,List.length_append,List.length_range']; exact Nat.lt_of_lt_of_le (show _ < 1000 by omega) (by decide +kernel)),?_⟩
    refine ⟨_,_,rfl,?_,fun b o e n => by rw [zv n]; exact sx b o e n⟩
    rw [zq,vB _ (xu (fun j hj => ?_)),List.range'_concat,← List.append_assoc,tP,Nat.one_mul,Cm,xA hcx]
    rcases List.mem_append.mp hj with hj | hj
    · have := lt j (mem_ndrop.mp hj).1
      omega
    · have := List.mem_range'_1.mp hj
      omega
  rintro σ H7 ⟨v,v',rfl,el7,sx7⟩
  have sE : Same H4 H7 := fun b o e => sx7 _ _ (sx6 _ _ (s5 _ _ e) (zf e n5)) (zf e n5)
  rw [Int.toNat_natCast] at el7
  have e4 := sx7 _ _ e4 rA
  walk_at "r"
  rw [List.length_map]
  walk_at "r"
  refine zE (by simp) fun r H8 n8 s8 e8 => ?_
  refine q r A N H8 ((t4.trans sE).trans s8) (Same.nn t4 n5) (by rw [Int.natCast_add]; exact e8) hNb ⟨s8 _ _ el7,fun j hj => ?_⟩
  rcases List.mem_append.mp hj with hj | hj
  · have hj := (mem_ndrop.mp hj).1
    rw [CZ (lt j hj)]
    exact ((hL4.at' j hj).same sE).same s8
  · have hj := List.mem_range'_1.mp hj
    obtain ⟨i,rfl⟩ : ∃ i,j = k + i := ⟨j - k,by omega⟩
    have hi : i < N.length := by omega
    rw [Cm,xA (List.getElem?_eq_getElem hi)]
    exact ((hN _ (List.getElem_mem hi)).same sE).same s8
theorem ok_Yard_put_by {f : Addr} {fd : FuncData} (F : Fun K "put_by" "Yard.put_by" s_Yard_put_by f fd) (B : Bl mg) (X : Xs K mg cs) (o_cut_across : OwnX P w K mg base 4 "cut_across" ["d","one","at"] [] (sp_cut_across cs)) (o_turned : Own P w K mg base 1 "turned" ["one"] [] sp_turned) (o_glued_beside : OwnX P w K mg base 3 "glued_beside" ["one","other"] [] (sp_glued_beside cs)) (o_stacked : Own P w K mg base 3 "stacked" ["one","many"] [] sp_stacked) : FnOk P w K mg base (CXe P w) 5 f fd ["self","deed","boards"] (sp_Yard_put_by cs) := by
  refine F.okX (k := 4) sc_Yard_put_by (fun vs H Q E h => ?_) (fun cdv A outer s H vs Q E hr h => ?_)
  · obtain ⟨y,d,tn,cl,ns,lg,p,a,e,c,c',rfl,hy,he,ha,hc,hc',hd,hb,q,qe⟩ := h
    rfl
  obtain ⟨y,d,tn,cl,ns,lg,p,a,e,c,c',rfl,hy,he,ha,hc,hc',hd,hb,q,qe⟩ := h
  refine ⟨_,(zd (zr (i := 3) sc_Yard_put_by.nd rfl (Or.inl rfl) (zg zh (pv 1) zb (fun _ _ => rfl))) (zd (zJ (zn yl (pv 3) zT (zt _)) (ze (zp (wR yr o_cut_across hr rfl (za (yx (K := K) rfl (pv 0) rfl) (za (zg zo (pv 2) zb (fun _ _ => rfl)) (za (zg zh (pv 1) zb (fun _ _ => rfl)) zc)))))) zu) (zd (zJ (zn yl (pv 3) zT (zt _)) (ze (zp (xP ["one"] [] rfl (yv (wR yr o_cut_across hr rfl (za (yx (K := K) rfl (pv 0) rfl) (za (zk o_turned hr rfl (za (zg zo (pv 2) zb (fun _ _ => rfl)) zc)) (za (zg zh (pv 1) zb (fun _ _ => rfl)) zc))))) (fun _ _ _ _ _ => (zD (i := 0) (show List.Nodup (α := Str) ["one"] by decide +kernel) rfl (Or.inl rfl))) (fun _ _ _ _ _ => yH) (fun _ _ _ _ _ => (zk o_turned hr rfl (za (pv 0) zc)))))) zu) (zd (zJ (zn yl (pv 3) zT (zt _)) (ze (zp (zQ (za (wR yr o_glued_beside hr rfl (za (zg zo (pv 2) zb (fun _ _ => rfl)) (za (zg zo (pv 2) zb (fun _ _ => rfl)) zc))) zc)))) zu) (zd (zJ (zn yl (pv 3) zT (zt _)) (ze (zp (zQ (za (zk o_turned hr rfl (za (wR yr o_glued_beside hr rfl (za (zk o_turned hr rfl (za (zg zo (pv 2) zb (fun _ _ => rfl)) zc)) (za (zk o_turned hr rfl (za (zg zo (pv 2) zb (fun _ _ => rfl)) zc)) zc))) zc)) zc)))) zu) (zd (zJ (zn yl (pv 3) zT (zt _)) (ze (zp (zQ (za (zk o_stacked hr rfl (za (zg zo (pv 2) zb (fun _ _ => rfl)) (za (zg zh (pv 1) zb (fun _ _ => rfl)) zc))) zc)))) zu) (zd (zJ (zn yl (pv 3) zT (zt _)) (ze (zp (zQ (za (zk o_turned hr rfl (za (zk o_stacked hr rfl (za (zk o_turned hr rfl (za (zg zo (pv 2) zb (fun _ _ => rfl)) zc)) (za (zg zh (pv 1) zb (fun _ _ => rfl)) zc))) zc)) zc)))) zu) (ze (zp (zQ (za (zk o_turned hr rfl (za (zg zo (pv 2) zb (fun _ _ => rfl)) zc)) zc))))))))))),?_⟩
  rw [show zI ["self","deed","boards","word"] [.ref y.p,.ref p,.ref a] = [some (.ref y.p),some (.ref p),some (.ref a),none] from rfl]
  cases e with
  | cut al n s =>
    obtain ⟨pq,h0,hs⟩ := he
    cases al with
    | false =>
      have h0 : H p = some (.tup [.str (Str.ofString "across"),.int n,.ref pq]) := h0
      have ha : H a = some (.lst [.ref c.p]) := ha
      walk_at "r"
      refine if_d (fun _ => ?_) (fun c => absurd rfl c)
      walk_at "r"
      refine ⟨_,_,_,_,_,rfl,hy.o,X.c_Yard,X.n_Yard_root,rfl,?_⟩
      walk_at "r"
      refine wc hc hs hd hb.1 hb.2 (fun cc r c1 c2 H1 s1 hr e1 a1 a2 b1 b2 => ?_) qe
      refine q cc r [c1,c2] H1 s1 hr e1 (fun x hx => ?_) ?_
      · rcases List.mem_cons.mp hx with rfl | hx
        · exact a1
        · rw [List.mem_singleton.mp hx]; exact a2
      · show [c1.b,c2.b] = _
        rw [b1,b2]
        rfl
    | true =>
      have h0 : H p = some (.tup [.str (Str.ofString "along"),.int n,.ref pq]) := h0
      have ha : H a = some (.lst [.ref c.p]) := ha
      walk_at "r"
      refine if_d (fun c => absurd c (by decide +kernel)) (fun _ => ?_)
      walk_at "r"
      refine if_d (fun _ => ?_) (fun c => absurd rfl c)
      walk_at "r"
      refine xQ ?_
      walk_at "r"
      refine ⟨_,_,_,_,_,rfl,hy.o,X.c_Yard,X.n_Yard_root,rfl,?_⟩
      walk_at "r"
      refine yG hc fun r1 H1 s1 nr1 a1 => ?_
      have h01 := s1 _ _ h0
      walk_at "r"
      refine wc a1 (s1 _ _ hs) hd hb.1 hb.2 (fun cc r c1 c2 H2 s2 hr e2 a2 a3 b1 b2 => ?_) (fun nc H' s' => qe nc H' (s1.trans s'))
      have t2 := s1.trans s2
      have hat : ∀ x ∈ [c1,c2],x.At H2 := fun x hx => by
        rcases List.mem_cons.mp hx with rfl | hx
        · exact a2
        · rw [List.mem_singleton.mp hx]; exact a3
      refine ⟨r,rfl,⟨_,SqL.of e2⟩,fun D hD => yS (K := K) (a := r) (ys := [c1,c2].map Cell.v) (fun i xs σ' H' => ∃ (v : Option V) (N : List Cell),σ' = [v] ∧ xs = N.map Cell.v ∧ H' D = some (.lst xs) ∧ SameX D H2 H' ∧ (∀ x ∈ N,x.At H') ∧ N.length = i ∧ N.map Cell.b = ([c1,c2].take i).map (fun x => ⟨x.b.h,x.b.w⟩)) ⟨none,[],rfl,rfl,zq,fun b o e n => by rw [zv n]; exact e,fun x hx => absurd hx (by simp),rfl,rfl⟩ (fun i xs σ' H' _ z => by obtain ⟨v,N,_,_,_,z,_⟩ := z; exact SqL.of (z _ _ e2 (zf e2 hD))) ?_ ?_⟩
      · rintro i x xs σ' H' hi ⟨v,N,rfl,rfl,eD,sx,hN,hl,hb⟩
        rw [List.getElem?_map] at hi
        obtain ⟨cx,hcx,rfl⟩ := Option.map_eq_some_iff.mp hi
        have hi3 := (List.getElem?_eq_some_iff.mp hcx).1
        have s' : Same H2 H' := fun b o e => sx b o e (zf e hD)
        walk_at "r"
        refine yG ((hat cx (List.mem_of_getElem? hcx)).same s') fun r3 H3 s3 nr3 a3 => ?_
        walk_at "r"
        refine zG (s3 _ _ eD) (by rw [List.length_map,hl]; simp only [List.length_cons,List.length_nil] at hi3; omega) fun H4 x4 e4 => ?_
        refine yX hi3 ⟨_,N ++ [⟨r3,cx.ph,cx.pw,⟨cx.b.h,cx.b.w⟩⟩],rfl,rfl,by rw [List.map_append]; exact e4,sx.trans ((SameX.of s3).trans x4),fun x hx => ?_,by rw [List.length_append,hl]; rfl,?_⟩
        · rcases List.mem_append.mp hx with hx | hx
          · exact ((hN x hx).same s3).sameX x4 (s3 _ _ eD)
          · rw [List.mem_singleton.mp hx]; exact a3.sameX x4 (s3 _ _ eD)
        · rw [List.take_succ,hcx,List.map_append,List.map_append,hb]
          rfl
      · rintro xs σ' H' ⟨v,N,rfl,rfl,eD,sx,hN,hl,hb⟩
        have s' : Same H2 H' := fun b o e => sx b o e (zf e hD)
        walk_at "r"
        refine q cc D N H' (t2.trans s') (Same.nn t2 hD) eD hN ?_
        rw [hb]
        show [(⟨c1.b.h,c1.b.w⟩ : Bo),⟨c2.b.h,c2.b.w⟩] = _
        rw [b1,b2]
        rfl
  | glue al n m =>
    have h0 := he
    cases al with
    | false =>
      have h0 : H p = some (.tup [.str (Str.ofString "beside"),.int n,.int m]) := h0
      have ha : H a = some (.lst [.ref c.p,.ref c'.p]) := ha
      walk_at "r"
      refine if_d (fun c => absurd c (by decide +kernel)) (fun _ => ?_)
      walk_at "r"
      refine if_d (fun c => absurd c (by decide +kernel)) (fun _ => ?_)
      walk_at "r"
      refine if_d (fun _ => ?_) (fun c => absurd rfl c)
      walk_at "r"
      refine xn hc hc' hb.1 hb.2 (fun cc c1 H1 s1 n1 a1 hb => ?_) qe
      walk_at "r"
      refine zw (by simp) fun r HL nr sL eL => ?_
      refine q cc r [c1] HL (Same.trans s1 sL) (Same.nn s1 nr) eL (fun x hx => ?_) ?_
      · rw [List.mem_singleton.mp hx]
        exact a1.same sL
      · exact congrArg (fun z => [z]) hb
    | true =>
      have h0 : H p = some (.tup [.str (Str.ofString "atop"),.int n,.int m]) := h0
      have ha : H a = some (.lst [.ref c.p,.ref c'.p]) := ha
      walk_at "r"
      refine if_d (fun c => absurd c (by decide +kernel)) (fun _ => ?_)
      walk_at "r"
      refine if_d (fun c => absurd c (by decide +kernel)) (fun _ => ?_)
      walk_at "r"
      refine if_d (fun c => absurd c (by decide +kernel)) (fun _ => ?_)
      walk_at "r"
      refine if_d (fun _ => ?_) (fun c => absurd rfl c)
      walk_at "r"
      refine yG hc fun r1 H1 s1 nr1 a1 => ?_
      have ha1 := s1 _ _ ha
      walk_at "r"
      refine yG (hc'.same s1) fun r2 H2 s2 nr2 a2 => ?_
      walk_at "r"
      refine xn (a1.same s2) a2 hb.1 hb.2 (fun cc c1 H3 s3 n3 a3 hb => ?_) (fun nc H' s' => qe nc H' ((s1.trans s2).trans s'))
      walk_at "r"
      refine yG a3 fun r4 H4 s4 nr4 a4 => ?_
      replace hb : (⟨c1.b.h,c1.b.w⟩ : Bo) = ⟨c.b.w,adS c.b.h c'.b.h⟩ := by rw [hb]
      walk_at "r"
      refine zw (by simp) fun r HL nr sL eL => ?_
      refine q cc r [⟨r4,c1.ph,c1.pw,⟨c1.b.h,c1.b.w⟩⟩] HL (Same.trans (((s1.trans s2).trans s3).trans s4) sL) (Same.nn (((s1.trans s2).trans s3).trans s4) nr) eL (fun x hx => ?_) ?_
      · rw [List.mem_singleton.mp hx]
        exact a4.same sL
      · exact congrArg (fun z => [z]) hb
  | shift al n k =>
    have h0 := he
    cases al with
    | false =>
      have h0 : H p = some (.tup [.str (Str.ofString "stack"),.int n,.int k]) := h0
      have ha : H a = some (.lst [.ref c.p]) := ha
      walk_at "r"
      refine if_d (fun c => absurd c (by decide +kernel)) (fun _ => ?_)
      walk_at "r"
      refine if_d (fun c => absurd c (by decide +kernel)) (fun _ => ?_)
      walk_at "r"
      refine if_d (fun c => absurd c (by decide +kernel)) (fun _ => ?_)
      walk_at "r"
      refine if_d (fun c => absurd c (by decide +kernel)) (fun _ => ?_)
      walk_at "r"
      refine if_d (fun _ => ?_) (fun c => absurd rfl c)
      walk_at "r"
      refine uT hc hb.1 hb.2.1 hb.2.2.1 hb.2.2.2 fun c1 H1 s1 n1 a1 hb => ?_
      walk_at "r"
      refine zw (by simp) fun r HL nr sL eL => ?_
      refine q trivial r [c1] HL (Same.trans s1 sL) (Same.nn s1 nr) eL (fun x hx => ?_) ?_
      · rw [List.mem_singleton.mp hx]
        exact a1.same sL
      · exact congrArg (fun z => [z]) hb
    | true =>
      have h0 : H p = some (.tup [.str (Str.ofString "spread"),.int n,.int k]) := h0
      have ha : H a = some (.lst [.ref c.p]) := ha
      walk_at "r"
      refine if_d (fun c => absurd c (by decide +kernel)) (fun _ => ?_)
      walk_at "r"
      refine if_d (fun c => absurd c (by decide +kernel)) (fun _ => ?_)
      walk_at "r"
      refine if_d (fun c => absurd c (by decide +kernel)) (fun _ => ?_)
      walk_at "r"
      refine if_d (fun c => absurd c (by decide +kernel)) (fun _ => ?_)
      walk_at "r"
      refine if_d (fun c => absurd c (by decide +kernel)) (fun _ => ?_)
      walk_at "r"
      refine if_d (fun _ => ?_) (fun c => absurd rfl c)
      walk_at "r"
      refine yG hc fun r1 H1 s1 nr1 a1 => ?_
      have h01 := s1 _ _ h0
      walk_at "r"
      refine uT a1 hb.1 hb.2.1 hb.2.2.2 hb.2.2.1 fun c1 H3 s3 n3 a3 hb => ?_
      walk_at "r"
      refine yG a3 fun r4 H4 s4 nr4 a4 => ?_
      replace hb : (⟨c1.b.h,c1.b.w⟩ : Bo) = ⟨shS c.b.w k 1,shS c.b.h 1 k⟩ := by rw [hb]
      walk_at "r"
      refine zw (by simp) fun r HL nr sL eL => ?_
      refine q trivial r [⟨r4,c1.ph,c1.pw,⟨c1.b.h,c1.b.w⟩⟩] HL (Same.trans ((s1.trans s3).trans s4) sL) (Same.nn ((s1.trans s3).trans s4) nr) eL (fun x hx => ?_) ?_
      · rw [List.mem_singleton.mp hx]
        exact a4.same sL
      · exact congrArg (fun z => [z]) hb
  | turn n =>
    have h0 := he
    have h0 : H p = some (.tup [.str (Str.ofString "turn"),.int n]) := h0
    have ha : H a = some (.lst [.ref c.p]) := ha
    walk_at "r"
    refine if_d (fun c => absurd c (by decide +kernel)) (fun _ => ?_)
    walk_at "r"
    refine if_d (fun c => absurd c (by decide +kernel)) (fun _ => ?_)
    walk_at "r"
    refine if_d (fun c => absurd c (by decide +kernel)) (fun _ => ?_)
    walk_at "r"
    refine if_d (fun c => absurd c (by decide +kernel)) (fun _ => ?_)
    walk_at "r"
    refine if_d (fun c => absurd c (by decide +kernel)) (fun _ => ?_)
    walk_at "r"
    refine if_d (fun c => absurd c (by decide +kernel)) (fun _ => ?_)
    walk_at "r"
    refine yG hc fun r1 H1 s1 nr1 a1 => ?_
    have hb : (⟨c.b.h,c.b.w⟩ : Bo) = ⟨c.b.h,c.b.w⟩ := rfl
    walk_at "r"
    refine zw (by simp) fun r HL nr sL eL => ?_
    refine q trivial r [⟨r1,c.ph,c.pw,⟨c.b.h,c.b.w⟩⟩] HL (Same.trans s1 sL) (Same.nn s1 nr) eL (fun x hx => ?_) ?_
    · rw [List.mem_singleton.mp hx]
      exact a1.same sL
    · exact congrArg (fun z => [z]) hb
theorem ok__law_deed {f : Addr} {fd : FuncData} (F : Fun K "_law_deed" "_law_deed" s__law_deed f fd) (B : Bl mg)  (o__law_digits : Own P w K mg base 2 "_law_digits" ["_law_cell_here","_law_many"] [] sp__law_digits) (o__law_at : Own P w K mg base 5 "_law_at" ["_law_d","_law_digits_here","_law_side_here","_law_pool"] [] sp__law_at) : FnOk P w K mg base CX0 6 f fd ["_law_d","_law_cell_here","_law_lying","_law_pool"] (sp__law_deed K) := by
  refine F.ok (k := 5) sc__law_deed (fun vs H Q E h => ?_) (fun cdv A outer s H vs Q E hr h => ?_)
  · obtain ⟨d,c,a,qa,ns,f,P,D,M,K',rfl,hc,hL,up,nl,ne,ob,hP,oP,zz,hR,q⟩ := h
    rfl
  obtain ⟨d,c,a,qa,ns,f,P,D,M,K',rfl,hc,hL,up,nl,ne,ob,hP,oP,zz,hR,q⟩ := h
  refine ⟨_,(zd (zr (i := 4) sc__law_deed.nd rfl (Or.inl rfl) (zk o__law_digits hr rfl (za (pv 1) (za zb zc)))) (zd (zr (i := 5) sc__law_deed.nd rfl (Or.inl rfl) (zm (xS rfl) rfl B.sorted wM (za (pv 2) zc))) (zd (zr (i := 6) sc__law_deed.nd rfl (Or.inr rfl) (zg zo (pv 5) (zi zN (zg zo (pv 4) zb (fun _ _ => rfl)) (zm zH rfl B.len PySem.boot_len (za (pv 5) zc))) (fun _ _ => rfl))) (zd (zr (i := 7) sc__law_deed.nd rfl (Or.inl rfl) (zi zN (zg zo (pv 4) zb (fun _ _ => rfl)) zb)) (zd (zJ (zn uD (pv 7) zb (zt _)) (ze (zp (zR (za (zg zo (zQ (za zT (za zT zc))) (pv 7) (fun _ _ => rfl)) (za (pv 6) (za (zk o__law_at hr rfl (za (pv 0) (za (pv 4) (za (zg zh (xT (wG hr) (pv 2) (pv 6) (fun _ _ => rfl)) (pv 7) (fun _ _ => rfl)) (za (pv 3) zc))))) zc)))))) zu) (zd (wl (zJ (zn uD (pv 7) zb (zt _)) (zd (zr (i := 8) sc__law_deed.nd rfl (Or.inr rfl) (zi xp zb (pv 7))) (zd (vZ (i := 9) sc__law_deed.nd rfl rfl ["_law_other"] [2,6,8] rfl (yv (pv 5)) (fun _ _ _ _ _ => (zD (i := 0) (show List.Nodup (α := Str) ["_law_other","_law_lying","_law_name","_law_side_here"] by decide +kernel) rfl (Or.inl rfl))) (fun _ _ _ _ _ => (vH (PW.pt (yJ (zn AL (pv 0) (pv 2) (zt _)) (ym (zn (r := rEq3 K) (F3 hr.units rfl) (zg (r := rIxT K) zh (xT (wG hr) (pv 1) (pv 0) (fun _ _ => rfl)) (pv 3) (fun _ _ => rfl)) (zg (r := rIxT K) zh (xT (wG hr) (pv 1) (pv 2) (fun _ _ => rfl)) (pv 3) (fun _ _ => rfl)) (zt _))))))) (fun _ _ _ _ _ => (pv 0))) (ze (zJ (zn (EV hr.units) (pv 9) (zQ zc) (zt _)) (ze (zp (zR (za (zg zo (zQ (za zT (za zT zc))) (zi xp (pv 7) zb) (fun _ _ => rfl)) (za (pv 6) (za (zg zo (pv 9) (zi zN (zg zo (pv 4) zb (fun _ _ => rfl)) (zm zH rfl B.len PySem.boot_len (za (pv 9) zc))) (fun _ _ => rfl)) zc)))))) zu)))) zu)) (ze (zp (zR (za (zg zo (zQ (za zT (za zT zc))) (zi zN (pv 7) zb) (fun _ _ => rfl)) (za (pv 6) (za (zi zK zb (zi zN (zg zo (pv 4) zb (fun _ _ => rfl)) (zg zo (zQ (za (zi yY zb zb) (za zb zc))) (zi zN (pv 1) zb) (fun _ _ => rfl)))) zc)))))))))))),?_⟩
  rw [show zI ["_law_d","_law_cell_here","_law_lying","_law_pool","_law_digits_here","_law_names","_law_name","_law_way","_law_side_here","_law_others"] [.int d,.int c,.ref a,.ref qa] = [some (.int d),some (.int c),some (.ref a),some (.ref qa),none,none,none,none,none,none] from rfl]
  have hpos : 0 < ns.length := List.length_pos_iff.mpr ne
  walk_at "r"
  refine yi hc (by decide) (by decide) fun l H1 ds s1 e1 hl hds => ?_
  obtain ⟨x0,k0,a0,b0⟩ := dig hl hds 0 (by decide) (by decide)
  obtain ⟨x1,k1,a1,b1⟩ := dig hl hds 1 (by decide) (by decide)
  obtain ⟨x2,k2,a2,b2⟩ := dig hl hds 2 (by decide) (by decide)
  obtain ⟨x7,k7,a7,b7⟩ := dig hl hds 7 (by decide) (by decide)
  walk_at "r"
  refine u9 (s1 _ _ hL.l) up nl fun p2 H2 np2 s2 e2 => ?_
  have e1' := s2 _ _ e1
  have hpm : (0 : Int) < (((ns.map fun n : Nat => (n : Int)).map V.int).length : Nat) := by simp only [List.length_map]; omega
  obtain ⟨n,hn,gn⟩ := Ae (ns := ns) (i := x0) ne
  repeat (first | walk_at "rd" | refine zC e1' k0 ?_ | refine zC e1' k1 ?_ | refine zC e2 gn ?_)
  have w6 : 0 ≤ x1 % 6 ∧ x1 % 6 < 6 := by omega
  generalize hway : x1 % 6 = way at w6 ⊢
  by_cases w2 : way < 2
  · have hw : way = 0 ∨ way = 1 := by omega
    rcases hw with hw | hw
    · rw [hw]
      refine if_d (fun _ => ?_) (fun c => absurd (by decide) c)
      walk_at "r"
      refine zw (by simp) fun q3 H3 n3 s3 e3 => ?_
      have e1 := s3 _ _ (s2 _ _ e1)
      have hL3 := hL.same ((s1.trans s2).trans s3)
      have hc3 := hL3.at' n hn
      have ct3 := hc3.t
      have hP3 := hP.same ((s1.trans s2).trans s3)
      repeat (first | walk_at "rd" | refine zC e3 (zL (j := 0) rfl) ?_)
      refine ⟨a,_,rfl,DGet.k (k := .inl (n : Int)) hL3.l |> (fun z => by rw [z7 hn] at z; exact z),?_⟩
      walk_at "r"
      refine wU ct3 (zL (j := 0) rfl) ?_
      walk_at "r"
      refine uL e1 hl hds hc3.w (ob n hn).1 hP3 oP zz hR fun r H4 g k s4 e4 k1 bk og ug => ?_
      walk_at "r"
      refine zE (by simp) fun p5 H5 n5 s5 e5 => ?_
      exact q p5 (.cut false n g) n n H5 ((((s1.trans s2).trans s3).trans s4).trans s5) ⟨r,e5,s5 _ _ e4⟩ (Ai hR zz hn (ob n hn) k1 bk og ug) rfl
    · rw [hw]
      refine if_d (fun _ => ?_) (fun c => absurd (by decide) c)
      walk_at "r"
      refine zw (by simp) fun q3 H3 n3 s3 e3 => ?_
      have e1 := s3 _ _ (s2 _ _ e1)
      have hL3 := hL.same ((s1.trans s2).trans s3)
      have hc3 := hL3.at' n hn
      have ct3 := hc3.t
      have hP3 := hP.same ((s1.trans s2).trans s3)
      repeat (first | walk_at "rd" | refine zC e3 (zL (j := 1) rfl) ?_)
      refine ⟨a,_,rfl,DGet.k (k := .inl (n : Int)) hL3.l |> (fun z => by rw [z7 hn] at z; exact z),?_⟩
      walk_at "r"
      refine wU ct3 (zL (j := 1) rfl) ?_
      walk_at "r"
      refine uL e1 hl hds hc3.h (ob n hn).2 hP3 oP zz hR fun r H4 g k s4 e4 k1 bk og ug => ?_
      walk_at "r"
      refine zE (by simp) fun p5 H5 n5 s5 e5 => ?_
      exact q p5 (.cut true n g) n n H5 ((((s1.trans s2).trans s3).trans s4).trans s5) ⟨r,e5,s5 _ _ e4⟩ (Ai hR zz hn (ob n hn) k1 bk og ug) rfl
  refine if_d (fun c => absurd c w2) (fun _ => ?_)
  walk_at "r"
  refine uj (T := fun σ' H3 => ∃ v v' : Option V,σ' = [some (.int d),some (.int c),some (.ref a),some (.ref qa),some (.ref l),some (.ref p2),some (.int (n : Int)),some (.int way),v,v'] ∧ Same H2 H3) ?_ ?_
  · walk_at "r"
    by_cases w4 : way < 4
    · have hw : way = 2 ∨ way = 3 := by omega
      rcases hw with hw | hw
      · rw [hw]
        refine if_d (fun _ => ?_) (fun c => absurd (by decide) c)
        walk_at "r"
        refine xQ ?_
        walk_at "r"
        refine ⟨p2,rfl,⟨_,SqL.of e2⟩,fun O hO => yS (K := K) (a := p2) (ys := (ns.map fun n : Nat => (n : Int)).map V.int) (fun i xs σ' H' => ∃ (v : Option V) (os : List Nat),σ' = [v,some (.ref a),some (.int (n : Int)),some (.int 1)] ∧ xs = (os.map fun n : Nat => (n : Int)).map V.int ∧ os.length ≤ i ∧ H' O = some (.lst xs) ∧ SameX O H2 H' ∧ ∀ m ∈ os,m ∈ ns ∧ n ≠ m ∧ (f n).b.h = (f m).b.h) ⟨none,[],rfl,rfl,Nat.le_refl _,zq,fun b o e n => by rw [zv n]; exact e,fun m hm => absurd hm (by simp)⟩ (fun i xs σ' H' _ z => by obtain ⟨v,os,_,_,_,_,z,_⟩ := z; exact SqL.of (z _ _ e2 (zf e2 hO))) ?_ ?_⟩
        · rintro i x xs σ' H' hi ⟨v,os,rfl,rfl,hol,eO,sx,hos⟩
          have hi' := (List.getElem?_eq_some_iff.mp hi).1
          have hil : i < ns.length := by simpa using hi'
          obtain ⟨m,hm,rfl⟩ : ∃ m ∈ ns,x = .int (m : Int) := by
            obtain ⟨y,hy,rfl⟩ := List.mem_map.mp (List.mem_of_getElem? hi)
            obtain ⟨m,hm,rfl⟩ := List.mem_map.mp hy
            exact ⟨m,hm,rfl⟩
          have s' : Same H2 H' := fun b o e => sx b o e (zf e hO)
          have hL' := hL.same ((s1.trans s2).trans s')
          have cm := hL'.at' m hm
          have cn := hL'.at' n hn
          have ctm := cm.t
          have ctn := cn.t
          walk_at "r"
          refine AA (fun c1 => ?_) (fun c1 => ?_)
          · walk_at "r"
            refine ⟨a,_,rfl,DGet.k (k := .inl (m : Int)) hL'.l |> (fun z => by rw [z7 hm] at z; exact z),?_⟩
            walk_at "r"
            refine wU ctm (zL (j := 1) rfl) ?_
            walk_at "r"
            refine ⟨a,_,rfl,DGet.k (k := .inl (n : Int)) hL'.l |> (fun z => by rw [z7 hn] at z; exact z),?_⟩
            walk_at "r"
            refine wU ctn (zL (j := 1) rfl) ?_
            walk_at "r"
            refine ⟨_,_,_,_,_,_,_,_,rfl,rfl,SqT.of cm.h,SqT.of cn.h,?_⟩
            walk_at "r"
            refine if_d (fun c2 => ?_) (fun c2 => ?_)
            · walk_at "r"
              refine zG eO (by simp only [List.length_map]; omega) fun H3 x3 e3 => ?_
              refine yX hi' ⟨_,os ++ [m],rfl,rfl,by rw [List.length_append]; simp only [List.length_cons,List.length_nil]; omega,by rw [List.map_append,List.map_append]; exact e3,sx.trans x3,fun k hk => ?_⟩
              rcases List.mem_append.mp hk with hk | hk
              · exact hos k hk
              · rw [List.mem_singleton.mp hk]
                refine ⟨hm,fun z => c1 (by rw [z]),?_⟩
                have z1 : (f m).b.h = ⟨(f m).b.h.x,(f m).b.h.y,(f m).b.h.z⟩ := rfl
                rw [z1,c2.1,c2.2.1,c2.2.2]
            · walk_at "r"
              exact yX hi' ⟨_,os,rfl,rfl,Nat.le_succ_of_le hol,eO,sx,hos⟩
          · walk_at "r"
            exact yX hi' ⟨_,os,rfl,rfl,Nat.le_succ_of_le hol,eO,sx,hos⟩
        rintro xs σ' H3 ⟨v,os,rfl,rfl,hol,eO,sx,hos⟩
        have s3 : Same H2 H3 := fun b o e => sx b o e (zf e hO)
        have e1 := s3 _ _ (s2 _ _ e1)
        walk_at "r"
        refine zw (by simp) fun q4 H4 n4 s4 e4 => ?_
        have e1 := s4 _ _ e1
        have eO := s4 _ _ eO
        refine ⟨O,q4,_,rfl,rfl,SqL.of eO,SqL.of e4,?_⟩
        cases os with
        | nil =>
          walk_at "r"
          exact ⟨_,_,rfl,s3.trans s4⟩
        | cons o os =>
          rw [show (!(List.map V.int (List.map (fun n : Nat => (n : Int)) (o :: os))).isEmpty) = true from rfl]
          walk_at "r"
          refine zw (by simp) fun q5 H5 n5 s5 e5 => ?_
          have e1 := s5 _ _ e1
          have eO := s5 _ _ eO
          have hp2 : (0 : Int) < ((List.map V.int (List.map (fun n : Nat => (n : Int)) (o :: os))).length : Nat) := by simp only [List.length_map,List.length_cons]; omega
          repeat (first | walk_at "rd" | refine zC e5 (zL (j := 0) rfl) ?_ | refine zC e1 k2 ?_)
          repeat (first | walk_at "rd" | refine zC e5 (zL (j := 0) rfl) ?_ | refine zC e1 k2 ?_)
          obtain ⟨m,hm,gm⟩ := Ae (ns := o :: os) (i := x2) (by simp)
          refine zC eO gm ?_
          walk_at "r"
          refine zE (by simp) fun p6 H6 n6 s6 e6 => ?_
          obtain ⟨h1,h2,h3⟩ := hos m hm
          exact q p6 (.glue false n m) n m H6 (((((s1.trans s2).trans s3).trans s4).trans s5).trans s6) e6 (uk hR zz hn h1 h2 (ob n hn) (ob m h1) h3) rfl
      · rw [hw]
        refine if_d (fun _ => ?_) (fun c => absurd (by decide) c)
        walk_at "r"
        refine xQ ?_
        walk_at "r"
        refine ⟨p2,rfl,⟨_,SqL.of e2⟩,fun O hO => yS (K := K) (a := p2) (ys := (ns.map fun n : Nat => (n : Int)).map V.int) (fun i xs σ' H' => ∃ (v : Option V) (os : List Nat),σ' = [v,some (.ref a),some (.int (n : Int)),some (.int 0)] ∧ xs = (os.map fun n : Nat => (n : Int)).map V.int ∧ os.length ≤ i ∧ H' O = some (.lst xs) ∧ SameX O H2 H' ∧ ∀ m ∈ os,m ∈ ns ∧ n ≠ m ∧ (f n).b.w = (f m).b.w) ⟨none,[],rfl,rfl,Nat.le_refl _,zq,fun b o e n => by rw [zv n]; exact e,fun m hm => absurd hm (by simp)⟩ (fun i xs σ' H' _ z => by obtain ⟨v,os,_,_,_,_,z,_⟩ := z; exact SqL.of (z _ _ e2 (zf e2 hO))) ?_ ?_⟩
        · rintro i x xs σ' H' hi ⟨v,os,rfl,rfl,hol,eO,sx,hos⟩
          have hi' := (List.getElem?_eq_some_iff.mp hi).1
          have hil : i < ns.length := by simpa using hi'
          obtain ⟨m,hm,rfl⟩ : ∃ m ∈ ns,x = .int (m : Int) := by
            obtain ⟨y,hy,rfl⟩ := List.mem_map.mp (List.mem_of_getElem? hi)
            obtain ⟨m,hm,rfl⟩ := List.mem_map.mp hy
            exact ⟨m,hm,rfl⟩
          have s' : Same H2 H' := fun b o e => sx b o e (zf e hO)
          have hL' := hL.same ((s1.trans s2).trans s')
          have cm := hL'.at' m hm
          have cn := hL'.at' n hn
          have ctm := cm.t
          have ctn := cn.t
          walk_at "r"
          refine AA (fun c1 => ?_) (fun c1 => ?_)
          · walk_at "r"
            refine ⟨a,_,rfl,DGet.k (k := .inl (m : Int)) hL'.l |> (fun z => by rw [z7 hm] at z; exact z),?_⟩
            walk_at "r"
            refine wU ctm (zL (j := 0) rfl) ?_
            walk_at "r"
            refine ⟨a,_,rfl,DGet.k (k := .inl (n : Int)) hL'.l |> (fun z => by rw [z7 hn] at z; exact z),?_⟩
            walk_at "r"
            refine wU ctn (zL (j := 0) rfl) ?_
            walk_at "r"
            refine ⟨_,_,_,_,_,_,_,_,rfl,rfl,SqT.of cm.w,SqT.of cn.w,?_⟩
            walk_at "r"
            refine if_d (fun c2 => ?_) (fun c2 => ?_)
            · walk_at "r"
              refine zG eO (by simp only [List.length_map]; omega) fun H3 x3 e3 => ?_
              refine yX hi' ⟨_,os ++ [m],rfl,rfl,by rw [List.length_append]; simp only [List.length_cons,List.length_nil]; omega,by rw [List.map_append,List.map_append]; exact e3,sx.trans x3,fun k hk => ?_⟩
              rcases List.mem_append.mp hk with hk | hk
              · exact hos k hk
              · rw [List.mem_singleton.mp hk]
                refine ⟨hm,fun z => c1 (by rw [z]),?_⟩
                have z1 : (f m).b.w = ⟨(f m).b.w.x,(f m).b.w.y,(f m).b.w.z⟩ := rfl
                rw [z1,c2.1,c2.2.1,c2.2.2]
            · walk_at "r"
              exact yX hi' ⟨_,os,rfl,rfl,Nat.le_succ_of_le hol,eO,sx,hos⟩
          · walk_at "r"
            exact yX hi' ⟨_,os,rfl,rfl,Nat.le_succ_of_le hol,eO,sx,hos⟩
        rintro xs σ' H3 ⟨v,os,rfl,rfl,hol,eO,sx,hos⟩
        have s3 : Same H2 H3 := fun b o e => sx b o e (zf e hO)
        have e1 := s3 _ _ (s2 _ _ e1)
        walk_at "r"
        refine zw (by simp) fun q4 H4 n4 s4 e4 => ?_
        have e1 := s4 _ _ e1
        have eO := s4 _ _ eO
        refine ⟨O,q4,_,rfl,rfl,SqL.of eO,SqL.of e4,?_⟩
        cases os with
        | nil =>
          walk_at "r"
          exact ⟨_,_,rfl,s3.trans s4⟩
        | cons o os =>
          rw [show (!(List.map V.int (List.map (fun n : Nat => (n : Int)) (o :: os))).isEmpty) = true from rfl]
          walk_at "r"
          refine zw (by simp) fun q5 H5 n5 s5 e5 => ?_
          have e1 := s5 _ _ e1
          have eO := s5 _ _ eO
          have hp2 : (0 : Int) < ((List.map V.int (List.map (fun n : Nat => (n : Int)) (o :: os))).length : Nat) := by simp only [List.length_map,List.length_cons]; omega
          repeat (first | walk_at "rd" | refine zC e5 (zL (j := 1) rfl) ?_ | refine zC e1 k2 ?_)
          repeat (first | walk_at "rd" | refine zC e5 (zL (j := 1) rfl) ?_ | refine zC e1 k2 ?_)
          obtain ⟨m,hm,gm⟩ := Ae (ns := o :: os) (i := x2) (by simp)
          refine zC eO gm ?_
          walk_at "r"
          refine zE (by simp) fun p6 H6 n6 s6 e6 => ?_
          obtain ⟨h1,h2,h3⟩ := hos m hm
          exact q p6 (.glue true n m) n m H6 (((((s1.trans s2).trans s3).trans s4).trans s5).trans s6) e6 (uk hR zz hn h1 h2 (ob n hn) (ob m h1) h3) rfl
    · refine if_d (fun c => absurd c w4) (fun _ => ?_)
      walk_at "r"
      exact ⟨_,_,rfl,Same.refl _⟩
  rintro σ' H3 ⟨v,v',rfl,s3⟩
  have e1' := s3 _ _ e1'
  walk_at "r"
  refine zw (by simp) fun q4 H4 n4 s4 e4 => ?_
  have e1' := s4 _ _ e1'
  walk_at "r"
  obtain ⟨al,gal⟩ : ∃ al : Bool,atI [V.str (Str.ofString "stack"),V.str (Str.ofString "spread")] (way % 2) = some (.str (Dd.shift al n 1).wd) := by
    have : way % 2 = 0 ∨ way % 2 = 1 := by omega
    rcases this with h | h
    · exact ⟨false,by rw [h]; rfl⟩
    · exact ⟨true,by rw [h]; rfl⟩
  refine zC e4 gal ?_
  repeat (first | walk_at "rd" | refine zC e1' k7 ?_)
  refine zw (by simp) fun q5 H5 n5 s5 e5 => ?_
  walk_at "r"
  obtain ⟨t,gt,t1,t2⟩ : ∃ t : Int,atI [V.int ((10 : Int) ^ (4 : Int).toNat),V.int 6] (c % 2) = some (.int t) ∧ 1 ≤ t ∧ t ≤ 10000 := by
    have : c % 2 = 0 ∨ c % 2 = 1 := by omega
    rcases this with h | h
    · exact ⟨(10 : Int) ^ (4 : Int).toNat,by rw [h]; rfl,by decide,by decide⟩
    · exact ⟨6,by rw [h]; rfl,by decide,by decide⟩
  refine zC e5 gt ?_
  have h4 := Int.emod_nonneg x7 (show t ≠ 0 by omega)
  have h5 := Int.emod_lt_of_pos x7 (show 0 < t by omega)
  walk_at "r"
  refine zE (by simp) fun p6 H6 n6 s6 e6 => ?_
  exact q p6 (.shift al n (1 + x7 % t)) n n H6 (((((s1.trans s2).trans s3).trans s4).trans s5).trans s6) e6 (AF hR zz hn (ob n hn) (by omega) (zY (B := 10000) (by omega) (by omega) (by decide))) rfl
theorem Eb {d : Int} {b c : Bo} {e : Dd} (h : ¬ e.Cond d b c) : e.isT = false := by
  cases e with
  | turn n => exact absurd trivial h
  | _ => rfl
theorem ok_Yard_do {f : Addr} {fd : FuncData} (F : Fun K "do" "Yard.do" s_Yard_do f fd) (B : Bl mg) (X : Xs K mg cs) (g_TURN : TopS mg "TURN" (Str.ofString "turn")) (o_names_taken : Own P w K mg base 1 "names_taken" ["deed"] [] sp_names_taken) (o_Yard_check_names : OwnM P w K mg base (CXe P w) cs.Yard 2 "check_names" ["self","names"] [] (sp_Yard_check_names cs)) (o_Yard_put_by : OwnM P w K mg base (CXe P w) cs.Yard 5 "put_by" ["self","deed","boards"] [] (sp_Yard_put_by cs)) (o_is_deed : Own P w K mg base 4 "is_deed" ["thing"] [] sp_is_deed) : FnOk P w K mg base (CXe P w) 6 f fd ["self","deed"] (sp_Yard_do cs) := by
  obtain ⟨u_TURN,m_TURN,r_TURN⟩ := g_TURN
  refine F.okX (k := 5) sc_Yard_do (fun vs H Q E h => ?_) (fun cdv A outer s H vs Q E hr h => ?_)
  · obtain ⟨y,d,tn,cl,ns,lg,p,rfl,hy,hd,l1,l2,hh⟩ := h
    rfl
  obtain ⟨y,d,tn,cl,ns,lg,p,rfl,hy,hd,l1,l2,hh⟩ := h
  refine ⟨_,(zd (zJ (yu (zV (zk o_is_deed hr rfl (za (pv 1) zc)))) (ze (xj yQ X.o_NoDeed X.m_NoDeed rfl rfl)) zu) (zd (zr (i := 2) sc_Yard_do.nd rfl (Or.inl rfl) (zk o_names_taken hr rfl (za (pv 1) zc))) (zd (yg (uW o_Yard_check_names yr hr (pv 0) (za (pv 2) zc))) (zd (zJ (PW.pt (yJ (zn yl (zg zh (pv 1) zb (fun _ _ => rfl)) (zM (v := .str (Str.ofString "turn")) rfl m_TURN r_TURN) (zt _)) (ym (yu (zV (yx (K := K) rfl (pv 0) rfl)))))) (ze (xj yQ X.o_Grain X.m_Grain rfl rfl)) zu) (zd (zr (i := 3) sc_Yard_do.nd rfl (Or.inl rfl) (uW o_Yard_put_by yr hr (pv 0) (za (pv 1) (za (xP ["name"] [0] rfl (yv (pv 2)) (fun _ _ _ _ _ => (zD (i := 0) (show List.Nodup (α := Str) ["name","self"] by decide +kernel) rfl (Or.inl rfl))) (fun _ _ _ _ _ => yH) (fun _ _ _ _ _ => (zg (r := rIxL K) zo (yx (K := K) rfl (pv 1) rfl) (pv 0) (fun _ _ => rfl)))) zc)))) (zd (yW PassesOwn.leaving rfl (yv (pv 2)) (zD (i := 4) sc_Yard_do.nd rfl (Or.inl rfl)) (ze (yg (tW (yx (K := K) rfl (pv 0) rfl) (pv 4) ⟨rfl,rfl,rfl,rfl⟩)))) (zd (yW PassesOwn.leaving rfl (yv (pv 3)) (zD (i := 5) sc_Yard_do.nd rfl (Or.inl rfl)) (zd (tE (wG hr) (yx (K := K) rfl (pv 0) rfl) (zm zH rfl B.len PySem.boot_len (za (yx (K := K) rfl (pv 0) rfl) zc)) yN rfl) (ze (yg (vF PySem.F.plainAttrs_list PySem.F.slot_list_append PySem.F.type_list_append z6 (yx (K := K) rfl (pv 0) rfl) (za (pv 5) zc)))))) (ze (yg (vF PySem.F.plainAttrs_list PySem.F.slot_list_append PySem.F.type_list_append z6 (yx (K := K) rfl (pv 0) rfl) (za (pv 1) zc))))))))))),?_⟩
  rw [show zI ["self","deed","names","fresh","name","one"] [.ref y.p,.ref p] = [some (.ref y.p),some (.ref p),none,none,none,none] from rfl]
  rcases hh with ⟨e,c,c',he,ok,hm,hn,hc,hb,q,qg,qu⟩ | ⟨al,z,k,he,k1,bk,hz,q⟩ | ⟨he,q⟩
  rotate_left
  · walk_at "r"
    refine uo he ⟨k1,bk⟩ fun H1 s1 => ?_
    walk_at "r"
    refine xC (he.same s1) fun a H2 s2 na ea => ?_
    have t2 := s1.trans s2
    walk_at "r"
    have hy2 := hy.same t2
    refine ⟨_,_,_,rfl,hy2.o,rfl,?_⟩
    walk_at "r"
    exact xy hy2 ea hz (q H2 t2)
  · walk_at "r"
    refine Aw he ?_
    walk_at "r"
    exact q H (Same.refl H)
  walk_at "r"
  refine uo he ok fun H1 s1 => ?_
  walk_at "r"
  refine xC (he.same s1) fun a H2 s2 na ea => ?_
  have t2 := s1.trans s2
  walk_at "r"
  have hy2 := hy.same t2
  have he2 := he.same t2
  refine ⟨_,_,_,rfl,hy2.o,rfl,?_⟩
  walk_at "r"
  refine xI hy2 ea hm hn e.names_len ?_
  walk_at "r"
  obtain ⟨rs,hp⟩ := he2.tup
  refine wU hp (zL (j := 0) rfl) ?_
  walk_at "r"
  by_cases hT : e.isT = true ∧ tn = false
  · refine if_d (fun _ => ?_) (fun n => absurd (Fx hT.1) n)
    walk_at "r"
    refine ⟨_,_,_,_,_,rfl,hy2.o,X.c_Yard,X.n_Yard_turning,rfl,?_⟩
    rw [hT.2]
    walk_at "r"
    exact qg hT.1 hT.2 H2 t2
  have ht : e.isT = true → tn = true := fun h => by
    cases htn : tn with
    | true => rfl
    | false => exact absurd ⟨h,htn⟩ hT
  refine Gz ?_ (fun ct hB => ?_)
  rotate_left
  · walk_at "r"
    refine ⟨_,_,_,_,_,rfl,hy2.o,X.c_Yard,X.n_Yard_turning,rfl,?_⟩
    rw [ht (Ek ct)]
    walk_at "rd"
    exact F0 hB
  walk_at "r"
  refine ⟨_,_,_,rfl,hy2.o,rfl,?_⟩
  walk_at "r"
  refine xQ ?_
  walk_at "r"
  refine ⟨a,rfl,⟨_,SqL.of ea⟩,fun D hD => yS (K := K) (a := a) (ys := e.names.map V.int) (fun i xs σ' H' => ∃ v : Option V,σ' = [v,some (.ref y.p)] ∧ xs = ((e.cells c c').take i).map Cell.v ∧ H' D = some (.lst xs) ∧ SameX D H2 H') ⟨none,rfl,rfl,zq,fun b o e n => by rw [zv n]; exact e⟩ (fun i xs σ' H' _ z => by obtain ⟨v,_,_,_,z⟩ := z; exact SqL.of (z _ _ ea (zf ea hD))) ?_ ?_⟩
  · rintro i x xs σ' H' hi ⟨v,rfl,rfl,eD,sx⟩
    rw [List.getElem?_map] at hi
    obtain ⟨m,hm',rfl⟩ := Option.map_eq_some_iff.mp hi
    obtain ⟨n,x,rfl,hx,hcx⟩ := uV hc hm'
    have hi3 := (List.getElem?_eq_some_iff.mp hm').1
    have hn2 := e.names_len
    have s' : Same H2 H' := fun b o e => sx b o e (zf e hD)
    have hy' := hy2.same s'
    walk_at "r"
    refine ⟨_,_,_,_,_,rfl,hy'.o,X.c_Yard,X.n_Yard_known,rfl,?_⟩
    walk_at "r"
    refine zC hy'.k (v := x.v) (zL (by rw [List.getElem?_map,hx]; rfl)) ?_
    walk_at "r"
    refine zG eD (by rw [List.length_map,List.length_take]; omega) fun H3 x3 e3 => ?_
    refine yX (by rw [List.length_map]; exact hi3) ⟨_,rfl,rfl,?_,sx.trans x3⟩
    rw [List.take_succ,hcx,List.map_append]
    exact e3
  rintro xs σ' H3 ⟨v,rfl,rfl,eD,sx⟩
  have s3 : Same H2 H3 := fun b o e => sx b o e (zf e hD)
  have t3 := t2.trans s3
  have hy3 := hy.same t3
  rw [List.length_map,← e.cells_len c c',List.take_length] at eD
  walk_at "r"
  refine vQ hy3 (he.same t3) (by rw [eD]; unfold Dd.cells; cases e.two <;> rfl) (hy3.at' c hc.mem.1) (hy3.at' c' hc.mem.2) hd hb (fun cc r N H4 s4 nr er hN hNb => ?_) (fun nc H4 s4 => qu (Eb nc) nc H4 (t3.trans s4))
  have t4 := t3.trans s4
  have hy4 := hy.same t4
  have ea4 := s4 _ _ (s3 _ _ ea)
  have kl : y.k ≠ y.l := yw hy4.k hy4.l (fun z => nomatch z)
  have tl : y.t ≠ y.l := yw hy4.t hy4.l (fun z => nomatch z)
  have ol : y.p ≠ y.l := yw hy4.o hy4.l (fun z => nomatch z)
  have ok' : y.p ≠ y.k := yw hy4.o hy4.k (fun z => nomatch z)
  have ot : y.p ≠ y.t := yw hy4.o hy4.t (fun z => nomatch z)
  have al : a ≠ y.l := yw ea4 hy4.l (fun z => nomatch z)
  have rl : r ≠ y.l := yw er hy4.l (fun z => nomatch z)
  have rk : r ≠ y.k := Ne.symm (zf hy3.k nr)
  walk_at "r"
  refine wf ?_
  walk_at "r"
  refine ⟨a,rfl,⟨_,SqL.of ea4⟩,yK (K := K) (a := a) (xs := e.names.map V.int) (fun i σ H' => ∃ v,σ = [some (.ref y.p),some (.ref p),some (.ref a),some (.ref r),v,none] ∧ H' y.l = some (.dK (nmK (yA ns (e.names.take i)))) ∧ SameX y.l H4 H') ⟨_,rfl,hy4.l,fun b o e _ => e⟩ (fun i σ H' _ ⟨_,_,_,x⟩ => SqL.of (x _ _ ea4 al)) ?_ ?_⟩
  · rintro i x σ H' hi ⟨v,rfl,el,sx5⟩
    rw [List.getElem?_map] at hi
    obtain ⟨m,hm',rfl⟩ := Option.map_eq_some_iff.mp hi
    obtain ⟨n,hn',rfl⟩ := hm m (List.mem_of_getElem? hm')
    have hni : (n : Int) ∉ e.names.take i := by
      intro hh
      obtain ⟨j,hj⟩ := List.getElem?_of_mem hh
      have hj1 := (List.getElem?_eq_some_iff.mp hj).1
      rw [List.length_take] at hj1
      rw [List.getElem?_take_of_lt (by omega)] at hj
      have := (List.getElem?_inj (i := j) (by omega) hn).mp (hj.trans hm'.symm)
      omega
    have eo := sx5 _ _ hy4.o ol
    walk_at "r"
    refine ⟨_,_,_,_,_,rfl,eo,X.c_Yard,X.n_Yard_lying,rfl,?_⟩
    refine ⟨y.l,rfl,.inl ⟨_,.inl el⟩,?_⟩
    walk_at "r"
    refine ⟨_,.inl (n : Int),_,el,rfl,vY (mem_ndrop.mpr ⟨hn',hni⟩),?_⟩
    refine ⟨_,rfl,?_,fun b o e n => by rw [zv n]; exact sx5 b o e n⟩
    rw [zq,uA,List.take_succ,hm',show ((some (n : Int)).toList) = [(n : Int)] from rfl,xU]
  rintro σ H5 ⟨v,rfl,el5,sx5⟩
  rw [List.length_map,List.take_length] at el5
  have er5 := sx5 _ _ er rl
  have ek5 := sx5 _ _ hy4.k kl
  have hN2 : N.length ≤ 2 := by rw [← List.length_map (f := Cell.b),hNb]; exact vv e _ _
  have dl := DB (xD (ms := e.names) hy.up) (fun n h => hy.lt n (mem_ndrop.mp h).1)
  walk_at "r"
  refine wf ?_
  walk_at "r"
  refine ⟨r,rfl,⟨_,SqL.of er5⟩,yK (K := K) (a := r) (xs := N.map Cell.v) (fun i σ H' => ∃ v v',σ = [some (.ref y.p),some (.ref p),some (.ref a),some (.ref r),v,v'] ∧ H' y.l = some (.dK (nmK (yA ns e.names ++ List.range' cl.length i))) ∧ H' y.k = some (.lst ((cl ++ N.take i).map Cell.v)) ∧ ∀ b o,H5 b = some o → b ≠ y.k → b ≠ y.l → H' b = some o) ⟨_,_,rfl,by simpa using el5,by simpa using ek5,fun b o e _ _ => e⟩ (fun i σ H' _ ⟨_,_,_,_,_,x⟩ => SqL.of (x _ _ er5 rk rl)) ?_ ?_⟩
  · rintro i x σ H' hi ⟨v1,v2,rfl,el,ek,sx6⟩
    rw [List.getElem?_map] at hi
    obtain ⟨cx,hcx,rfl⟩ := Option.map_eq_some_iff.mp hi
    have hi3 := (List.getElem?_eq_some_iff.mp hcx).1
    have eo := sx6 _ _ (sx5 _ _ hy4.o ol) ok' ol
    have lk : ((cl ++ N.take i).map Cell.v).length = cl.length + i := by rw [List.length_map,List.length_append,List.length_take]; omega
    walk_at "r"
    refine ⟨_,_,_,_,_,rfl,eo,X.c_Yard,X.n_Yard_lying,rfl,?_⟩
    walk_at "r"
    refine ⟨_,_,_,_,_,rfl,eo,X.c_Yard,X.n_Yard_known,rfl,?_⟩
    walk_at "r"
    rw [lk]
    refine ⟨y.l,_,rfl,DPut.k (k := .inl ((cl.length + i : Nat) : Int)) el (by simp only [nmK,List.length_map,List.length_append,List.length_range']; exact Nat.lt_of_lt_of_le (show _ < 1000 by omega) (by decide +kernel)),?_⟩
    have ek' : upd H' y.l (.dK (putK (nmK (yA ns e.names ++ List.range' cl.length i)) (.inl ((cl.length + i : Nat) : Int)) (.bl true))) y.k = some (.lst ((cl ++ N.take i).map Cell.v)) := by rw [zv kl]; exact ek
    walk_at "r"
    refine ⟨_,_,_,_,_,rfl,by rw [zv ol]; exact eo,X.c_Yard,X.n_Yard_known,rfl,?_⟩
    walk_at "r"
    refine zG ek' (by rw [lk]; omega) fun H7 x7 e7 => ?_
    refine ⟨_,_,rfl,?_,?_,fun b o e n1 n2 => x7 _ _ (by rw [zv n2]; exact sx6 b o e n1 n2) n1⟩
    · rw [x7 _ _ zq (Ne.symm kl)]
      rw [vB _ (vn (fun n hn => ?_))]
      · rw [List.range'_concat,← List.append_assoc]
        simp [nmK]
      · rcases List.mem_append.mp hn with hn | hn
        · have := hy.lt n (mem_ndrop.mp hn).1
          omega
        · have := List.mem_range'_1.mp hn
          omega
    · rw [List.take_succ,hcx,← List.append_assoc,List.map_append]
      exact e7
  rintro σ H6 ⟨v1,v2,rfl,el6,ek6,sx6⟩
  rw [List.length_map] at el6 ek6
  rw [List.take_length] at ek6
  have eo6 := sx6 _ _ (sx5 _ _ hy4.o ol) ok' ol
  have et6 := sx6 _ _ (sx5 _ _ hy4.t tl) (Ne.symm hy.kt) tl
  walk_at "r"
  refine ⟨_,_,_,_,_,rfl,eo6,X.c_Yard,X.n_Yard_done,rfl,?_⟩
  walk_at "r"
  refine zG et6 (by omega) fun H7 x7 e7 => ?_
  walk_at "r"
  have keep : ∀ x : Cell,x.At H4 → x.At H7 := fun x hx => by
    have f : ∀ {b : Addr} {ys : List V},H4 b = some (.tup ys) → H7 b = some (.tup ys) := fun {b ys} e => x7 _ _ (sx6 _ _ (sx5 _ _ e (yw e hy4.l (fun z => nomatch z))) (yw e hy4.k (fun z => nomatch z)) (yw e hy4.l (fun z => nomatch z))) (yw e hy4.t (fun z => nomatch z))
    exact ⟨f hx.t,f hx.w,f hx.h⟩
  refine q ht cc N H7 ⟨x7 _ _ eo6 ot,x7 _ _ ek6 hy.kt,x7 _ _ el6 (Ne.symm tl),e7,hy.kt,fun x hx => ?_,?_,fun n hn => ?_,by rw [List.length_append]; omega,by rw [List.length_append]; simp only [List.length_cons,List.length_nil]; omega⟩ hNb (fun b o e n1 n2 n3 => x7 _ _ (sx6 _ _ (sx5 _ _ (t4 _ _ e) n2) n1 n2) n3)
  · rcases List.mem_append.mp hx with hx | hx
    · exact keep x (hy4.at' x hx)
    · exact keep x (hN x hx)
  · refine List.pairwise_append.mpr ⟨xD hy.up,List.pairwise_lt_range' ..,fun n1 h1 n2 h2 => ?_⟩
    have := hy.lt n1 (mem_ndrop.mp h1).1
    have := List.mem_range'_1.mp h2
    omega
  · rw [List.length_append]
    rcases List.mem_append.mp hn with hn | hn
    · have := hy.lt n (mem_ndrop.mp hn).1
      omega
    · have := List.mem_range'_1.mp hn
      omega
theorem ok_yard_behind {f : Addr} {fd : FuncData} (F : Fun K "yard_behind" "yard_behind" s_yard_behind f fd) (B : Bl mg) (X : Xs K mg cs) (o_Yard___init__ : OwnI P w K mg base CX0 cs.Yard 1 "Yard" ["self","d","heap","turning"] [] (sp_Yard___init__ cs)) (o_Yard_do : OwnM P w K mg base (CXe P w) cs.Yard 6 "do" ["self","deed"] [] (sp_Yard_do cs)) : FnOk P w K mg base (CXe P w) 7 f fd ["d","heap","plan","turning"] (sp_yard_behind cs) := by
  refine F.okX (k := 6) sc_yard_behind (fun vs H Q E h => ?_) (fun cdv A outer s H vs Q E hr h => ?_)
  · obtain ⟨hp,pl,d,tn,L,ps,tl,es,rfl,hh,hA,l6,hpl,plen,hd,hr',hw,hq⟩ := h
    rfl
  obtain ⟨hp,pl,d,tn,L,ps,tl,es,rfl,hh,hA,l6,hpl,plen,hd,hr',hw,hq⟩ := h
  refine ⟨_,(zd (zr (i := 4) sc_yard_behind.nd rfl (Or.inl rfl) (Eg o_Yard___init__ EB hr rfl (za (pv 0) (za (pv 1) (za (pv 3) zc))))) (zd (yW PassesOwn.leaving rfl (yv (pv 2)) (zD (i := 5) sc_yard_behind.nd rfl (Or.inl rfl)) (ze (yg (uW o_Yard_do yr hr (pv 4) (za (pv 5) zc))))) (ze (zp (pv 4))))),?_⟩
  rw [show zI ["d","heap","plan","turning","yard","deed"] [.int d,.ref hp,.ref pl,.bl tn] = [some (.int d),some (.ref hp),some (.ref pl),some (.bl tn),none,none] from rfl]
  walk_at "r"
  refine Fn ?_
  walk_at "r"
  intro x dx nx ndx ndxx
  refine wB (tn := tn) rfl nx ndx hh hA (by omega) fun y H1 ep s1 hy1 k1 l1 t1 => ?_
  subst ep
  refine ⟨rfl,?_⟩
  have hpl1 := s1 _ _ hpl
  have plk : pl ≠ y.k := zf hpl k1
  have plt : pl ≠ y.t := zf hpl t1
  have hel : es.length ≤ 30 := by rw [← hr'.1]; exact plen
  have st0 : YdS cs.Yard H1 y d tn (As.st L) [] := ⟨L,hy1,rfl,fun n hn => by
    have hn := List.mem_range.mp hn
    exact ⟨_,List.getElem?_eq_getElem hn,by show _ = (fL L n).b; rw [xA (List.getElem?_eq_getElem hn)]⟩⟩
  walk_at "r"
  refine wf ?_
  walk_at "r"
  refine ⟨pl,rfl,⟨_,SqL.of hpl1⟩,yK (K := K) (a := pl) (xs := (ps ++ tl).map V.ref) (fun i σ H' => i ≤ ps.length ∧ ∃ v,σ = [some (.int d),some (.ref hp),some (.ref pl),some (.bl tn),some (.ref y.p),v] ∧ Same H H' ∧ YdS cs.Yard H' y d tn (ends (As.st L) (es.take i)) ((ps.take i).map V.ref)) ⟨Nat.zero_le _,_,rfl,s1,st0⟩ (fun i σ H' _ ⟨_,_,_,s,_⟩ => SqL.of (s _ _ hpl)) ?_ ?_⟩
  · rintro i x σ H' hi ⟨hip,v,rfl,s',⟨cl,hyc,hk,hrel⟩⟩
    rw [List.getElem?_map] at hi
    obtain ⟨p,hp',rfl⟩ := Option.map_eq_some_iff.mp hi
    have hkk := F4 (s := As.st L) (es := es.take i)
    have hk0 : (As.st L).k = L.length := rfl
    rw [List.length_take] at hkk
    have hcl : cl.length ≤ 66 := by omega
    have hlg : ((ps.take i).map V.ref).length ≤ 30 := by rw [List.length_map,List.length_take]; omega
    by_cases ci : i < ps.length
    · rw [List.getElem?_append_left ci] at hp'
      have hie : i < es.length := by rw [← hr'.1]; exact ci
      obtain ⟨e,n,m,hx⟩ : ∃ e n m,es[i]? = some (e,n,m) := ⟨_,_,_,List.getElem?_eq_getElem hie⟩
      have st := hw i _ hx
      have he := (hr'.2 i p _ hp' hx).same s'
      obtain ⟨cn,hcn,hbn⟩ := hrel n st.nms.hn
      obtain ⟨cm,hcm,hbm⟩ := hrel m st.nms.hm
      walk_at "r"
      refine ⟨_,_,_,rfl,hyc.o,rfl,?_⟩
      walk_at "r"
      refine wH (c := cn) (c' := cm) hyc he st.ok st.nms.names_in st.nms.nodup (st.nms.cells hcn hcm) hd (by omega) (by omega) (by rw [hbn,hbm]; exact (EH st.fit).1) (fun _ _ N H2 hy2 hN fr2 => ?_) (fun h1 h2 => by rw [st.tn h1] at h2; cases h2) (fun _ nc => absurd (by rw [hbn,hbm]; exact (EH st.fit).2) nc)
      rw [hbn,hbm] at hN
      walk_at "r"
      refine ⟨by omega,_,rfl,fun b o e => fr2 _ _ (s' _ _ e) (zf e k1) (zf e l1) (zf e t1),?_⟩
      rw [Bn hx,List.take_succ,hp',List.map_append]
      exact YdS.next hk hrel hyc.lt hy2 hN
    · have ie : i = ps.length := by omega
      subst ie
      rcases hq with ⟨rfl,_⟩ | ⟨p0,rs,C,rfl,hbad,qe⟩
      · rw [List.append_nil] at hp'
        exact absurd (List.getElem?_eq_some_iff.mp hp').1 (by omega)
      rw [List.getElem?_append_right (Nat.le_refl _),Nat.sub_self] at hp'
      have hp' : p0 = p := Option.some.inj hp'
      subst hp'
      rw [hr'.1,List.take_length] at hyc hk hrel
      have hbad := hbad.same s'
      walk_at "r"
      refine ⟨_,_,_,rfl,hyc.o,rfl,?_⟩
      walk_at "r"
      rcases hbad with ⟨rfl,h2⟩ | ⟨rfl,al,z,k,h2,h3,h4,h5⟩ | ⟨rfl,e,n,m,h2,h3,h4,h5,h6,h7⟩ | ⟨rfl,h2,n,hn,h3⟩
      · exact AI hyc hd (by omega) (by rw [← hr'.1] at *; omega) h2 fun H2 s2 => qe H2 (s'.trans s2)
      · exact AD hyc hd (by omega) (by rw [← hr'.1] at *; omega) h2 h3 h4 h5 fun H2 s2 => qe H2 (s'.trans s2)
      · obtain ⟨cn,hcn,hbn⟩ := hrel n h3.hn
        obtain ⟨cm,hcm,hbm⟩ := hrel m h3.hm
        exact wH (c := cn) (c' := cm) hyc h2 h4 h3.names_in h3.nodup (h3.cells hcn hcm) hd (by omega) (by rw [← hr'.1] at *; omega) (by rw [hbn,hbm]; exact h5) (fun _ cc => absurd (by rw [hbn,hbm] at cc; exact cc) h7) (fun h => by rw [h6] at h; cases h) (fun _ _ H2 s2 => qe H2 (s'.trans s2))
      · obtain ⟨cn,hcn,hbn⟩ := hrel n hn
        exact wH (e := .turn n) (c := cn) (c' := cn) hyc h3 trivial (fun m hm => ⟨n,hn,List.mem_singleton.mp hm⟩) (by simp [Dd.names,Dd.n]) ⟨⟨n,rfl,hcn⟩,rfl⟩ hd (by omega) (by rw [← hr'.1] at *; omega) trivial (fun h _ => by rw [h2] at h; exact absurd (h rfl) (by decide)) (fun _ _ H2 s2 => qe H2 (s'.trans s2)) (fun h => nomatch h)
  rintro σ H' ⟨hip,v,rfl,s',st⟩
  rcases hq with ⟨rfl,q⟩ | ⟨p0,rs,C,rfl,hbad,qe⟩
  · rw [List.append_nil,List.length_map,List.take_length,hr'.1,List.take_length] at st
    walk_at "r"
    exact q y H' s' st
  · rw [List.length_map,List.length_append,List.length_cons] at hip
    omega
theorem ok__law_plan {f : Addr} {fd : FuncData} (F : Fun K "_law_plan" "_law_plan" s__law_plan f fd) (B : Bl mg)  (o__law_begin : Own P w K mg base 1 "_law_begin" ["_law_heap_here"] [] sp__law_begin) (o__law_deed : Own P w K mg base 6 "_law_deed" ["_law_d","_law_cell_here","_law_lying","_law_pool"] [] (sp__law_deed K)) (o__law_done : Own P w K mg base 5 "_law_done" ["_law_lying","_law_used","_law_deed_here"] [] sp__law_done) (o__law_digits : Own P w K mg base 2 "_law_digits" ["_law_cell_here","_law_many"] [] sp__law_digits) : FnOk P w K mg base CX0 7 f fd ["_law_d","_law_script","_law_heap_here","_law_pool","_law_freed"] (sp__law_plan K) := by
  refine F.ok (k := 6) sc__law_plan (fun vs H Q E h => ?_) (fun cdv A outer s H vs Q E hr h => ?_)
  · obtain ⟨d,sc,l,qa,tn,zs0,L,P,D0,rfl,hS,hb,hl,hA,l1,l6,hP,hD,oL,oP,hR,q⟩ := h
    rfl
  obtain ⟨d,sc,l,qa,tn,zs0,L,P,D0,rfl,hS,hb,hl,hA,l1,l6,hP,hD,oL,oP,hR,q⟩ := h
  refine ⟨_,(zd (vq (zk o__law_begin hr rfl (za (pv 2) zc)) (vk (n := 2) rfl (z8 (zD (i := 5) sc__law_plan.nd rfl (Or.inl rfl)) (z8 (zD (i := 6) sc__law_plan.nd rfl (Or.inl rfl)) xV)))) (zd (zr (i := 7) sc__law_plan.nd rfl (Or.inl rfl) (zQ zc)) (zd (zr (i := 8) sc__law_plan.nd rfl (Or.inl rfl) (zQ (za (zR (za (zF xX rfl B.dict vK (za (pv 5) zc)) (za (pv 6) zc))) zc))) (zd (yW PassesOwn.never rfl (yv (xK v7 (pv 1) (xY zb) (xY zb))) (zD (i := 9) sc__law_plan.nd rfl (Or.inl rfl)) (zd (zr (i := 10) sc__law_plan.nd rfl (Or.inl rfl) (zk o__law_deed hr rfl (za (pv 0) (za (pv 9) (za (pv 5) (za (pv 3) zc)))))) (zd (wl (zJ (PW.pt (yJ (zV (pv 4)) (ym (zn yl (zi zN (zg zo (zk o__law_digits hr rfl (za (pv 9) (za zb zc))) zb (fun _ _ => rfl)) zb) zb (zt _))))) (ze (zr (i := 10) sc__law_plan.nd rfl (Or.inl rfl) (zR (za zT (za (zg zh (pv 10) zb (fun _ _ => rfl)) zc))))) zu)) (zd (yg (vF PySem.F.plainAttrs_list PySem.F.slot_list_append PySem.F.type_list_append z6 (pv 7) (za (pv 10) zc))) (zd (vq (zk o__law_done hr rfl (za (pv 5) (za (pv 6) (za (pv 10) zc)))) (vk (n := 2) rfl (z8 (zD (i := 5) sc__law_plan.nd rfl (Or.inl rfl)) (z8 (zD (i := 6) sc__law_plan.nd rfl (Or.inl rfl)) xV)))) (ze (yg (vF PySem.F.plainAttrs_list PySem.F.slot_list_append PySem.F.type_list_append z6 (pv 8) (za (zR (za (zF xX rfl B.dict vK (za (pv 5) zc)) (za (pv 6) zc))) zc))))))))) (ze (zp (zR (za (pv 7) (za (pv 8) zc))))))))),?_⟩
  rw [show zI ["_law_d","_law_script","_law_heap_here","_law_pool","_law_freed","_law_lying","_law_used","_law_plan_here","_law_states","_law_cell_here","_law_deed_here"] [.int d,.ref sc,.ref l,.ref qa,.bl tn] = [some (.int d),some (.ref sc),some (.ref l),some (.ref qa),some (.bl tn),none,none,none,none,none,none] from rfl]
  walk_at "r"
  refine uQ hl hA (by omega) fun r1 A0 H1 s1 nA e1 hLy => ?_
  walk_at "r"
  refine zw (by simp) fun pl H2 npl s2 epl => ?_
  have hLy2 := hLy.same s2
  walk_at "r"
  refine vy hLy2.l fun B0 H2b nB sB eB => ?_
  walk_at "r"
  refine zE (by simp) fun t0 H2c nt st et => ?_
  walk_at "r"
  refine zw (by simp) fun sl H3 nsl s3 esl => ?_
  have z23 := (sB.trans st).trans s3
  have z13 := s2.trans z23
  have z3 := s1.trans z13
  have psl : pl ≠ sl := zf ((sB.trans st) _ _ epl) nsl
  have rel0 : ∀ n ∈ (As.st L).ns,(fL L n).b = (As.st L).g n := fun n hn => rfl
  have ok0 : (As.st L).Ok 0 := ⟨List.pairwise_lt_range,fun n hn => List.mem_range.mp hn,fun h => by
    have : List.range L.length = [] := h
    rw [List.range_eq_nil] at this; omega,by show (List.range L.length).length ≤ _; rw [List.length_range]; omega,by show L.length ≤ _; omega⟩
  have ob0 : ∀ n ∈ (As.st L).ns,BoD d D0 341 ((As.st L).g n) := fun n hn => by
    have hn := List.mem_range.mp hn
    show BoD d D0 341 (fL L n).b
    rw [xA (List.getElem?_eq_getElem hn)]
    exact oL _ (List.getElem_mem hn)
  have z0 : Sz D0 301 341 := ⟨hD.1,hD.2,by decide,by decide⟩
  have stat0 : StAt H3 t0 (As.st L) := ⟨B0,fL L,0,s3 _ _ et,⟨s3 _ _ (st _ _ eB),fun n hn => (hLy2.at' n hn).same z23⟩,rel0,ok0,by decide,fun n hn => ⟨z0.sy (ob0 n hn).1,z0.sy (ob0 n hn).2⟩⟩
  walk_at "r"
  refine wf ?_
  walk_at "r"
  refine Ef (i := 12) (j := 42) (z3.seq hS) fun zl H4 nzl s4 ezl => ?_
  obtain ⟨zs,hzs⟩ : ∃ zs,(zs0.drop 12).take (42 - 12) = zs := ⟨_,rfl⟩
  have hz30 : zs.length ≤ 30 := by rw [← hzs,List.length_take]; omega
  have hzb : ∀ x ∈ zs,Bd 1048576 x := fun x hx => by rw [← hzs] at hx; exact hb x (List.mem_of_mem_drop (List.mem_of_mem_take hx))
  rw [hzs] at ezl
  have zpl : zl ≠ pl := Ne.symm (zf (z23 _ _ epl) nzl)
  have zsl : zl ≠ sl := Ne.symm (zf esl nzl)
  have qpl : qa ≠ pl := zf (s1 _ _ hP.l) npl
  have qsl : qa ≠ sl := zf ((s1.trans (s2.trans (sB.trans st))) _ _ hP.l) nsl
  refine ⟨zl,rfl,⟨_,SqL.of ezl⟩,yK (K := K) (a := zl) (xs := zs.map V.int) (fun i σ H' => ∃ (vc vd : Option V) (A : Addr) (f : Nat → Cell) (ps ss : List Addr) (es : DL) (D : Int),σ = [some (.int d),some (.ref sc),some (.ref l),some (.ref qa),some (.bl tn),some (.ref A),some (.int ((ends (As.st L) es).k : Int)),some (.ref pl),some (.ref sl),vc,vd] ∧ (es.length = i ∧ Ly H' A (ends (As.st L) es).ns f ∧ (∀ n ∈ (ends (As.st L) es).ns,(f n).b = (ends (As.st L) es).g n) ∧ (ends (As.st L) es).Ok i) ∧ (1 ≤ D ∧ Bd (301 + 30 * i) D ∧ (∀ n ∈ (ends (As.st L) es).ns,BoD d D (341 + 32 * i) ((ends (As.st L) es).g n)) ∧ ∀ x ∈ P,So d D (341 + 32 * i) x.2) ∧ (H' pl = some (.lst (ps.map V.ref)) ∧ H' sl = some (.lst (ss.map V.ref)) ∧ Runs H' ps es ∧ Walk d tn (As.st L) es ∧ ss.length = i + 1 ∧ ∀ (j : Nat) (t : Addr),ss[j]? = some t → StAt H' t (ends (As.st L) (es.take j))) ∧ ∀ b o,H4 b = some o → b ≠ pl → b ≠ sl → H' b = some o) ⟨none,none,A0,fL L,[],[t0],[],D0,rfl,⟨rfl,hLy.same (z13.trans s4),rel0,ok0⟩,⟨hD.1,hD.2,ob0,oP⟩,⟨s4 _ _ (z23 _ _ epl),s4 _ _ esl,⟨rfl,fun i p x h => by simp at h⟩,fun i x h => by simp at h,rfl,fun j t hj => ?_⟩,fun b o e n1 n2 => e⟩ (fun i σ H' _ z => by obtain ⟨_,_,_,_,_,_,_,_,_,_,_,_,z⟩ := z; exact SqL.of (z _ _ ezl zpl zsl)) ?_ ?_⟩
  · have hj1 := (List.getElem?_eq_some_iff.mp hj).1
    have : j = 0 := by simpa using hj1
    subst this
    have : t0 = t := Option.some.inj hj
    subst this
    exact stat0.same s4
  · rintro i x σ H' hi ⟨vc,vd,A,f,ps,ss,es,D,rfl,⟨hel,hL,hfb,hok⟩,⟨D1,bD,ob,oP⟩,⟨epl',esl',hrun,hwalk,hssl,hst⟩,fr⟩
    have hi' := (List.getElem?_eq_some_iff.mp hi).1
    have hi30 : i < 30 := by rw [List.length_map] at hi'; omega
    obtain ⟨cz,rfl,hcz⟩ := DR hi
    have hczb := hzb cz hcz
    have zz : Sz D (301 + 30 * i) (341 + 32 * i) := ⟨D1,bD,by omega,by omega⟩
    have hP' : Pl H' qa P := ⟨fr _ _ (s4 _ _ (z3 _ _ hP.l)) qpl qsl,fun x hx => fr _ _ (s4 _ _ (z3 _ _ (hP.at' x hx))) (yw (s4 _ _ (z3 _ _ (hP.at' x hx))) (s4 _ _ (z23 _ _ epl)) (fun z => nomatch z)) (yw (s4 _ _ (z3 _ _ (hP.at' x hx))) (s4 _ _ esl) (fun z => nomatch z)),hP.n⟩
    have hnl := hok.nl
    have hkl := hok.kl
    generalize hs : ends (As.st L) es = s at *
    have obf : ∀ n ∈ s.ns,BoD d D (341 + 32 * i) (f n).b := fun n hn => by rw [hfb n hn]; exact ob n hn
    walk_at "r"
    refine u8 hczb hL hok.up (by omega) hok.ne obf hP' oP zz hR fun p e n m G1 t1 he gd hnt => ?_
    walk_at "r"
    refine uj (T := fun σ' G2 => ∃ (p : Addr) (e : Dd) (n m : Nat),σ' = [some (.int d),some (.ref sc),some (.ref l),some (.ref qa),some (.bl tn),some (.ref A),some (.int (s.k : Int)),some (.ref pl),some (.ref sl),some (.int cz),some (.ref p)] ∧ Same H' G2 ∧ DdAt G2 p e ∧ e.Good d D (341 + 32 * i) s.ns f n m ∧ (e.isT = true → tn = true)) ?_ ?_
    · walk_at "r"
      cases htn2 : tn with
      | false =>
        walk_at "r"
        exact ⟨p,e,n,m,rfl,t1,he,gd,fun h => by simp [hnt] at h⟩
      | true =>
        walk_at "r"
        refine yi hczb (by decide) (by decide) fun l2 G2 ds t2 e2 hl2 hds => ?_
        obtain ⟨x8,k8,a8,b8⟩ := dig hl2 hds 8 (by decide) (by decide)
        repeat (first | walk_at "rd" | refine zC e2 k8 ?_)
        refine if_d (fun c8 => ?_) (fun c8 => ?_)
        · obtain ⟨rs,hpt⟩ := (he.same t2).tup
          walk_at "r"
          refine wU hpt (zL (j := 1) rfl) ?_
          walk_at "r"
          refine zE (by simp) fun p3 G3 n3 t3 e3 => ?_
          walk_at "r"
          refine ⟨p3,.turn n,n,n,rfl,(t1.trans t2).trans t3,?_,BY gd.hn (obf n gd.hn),fun _ => rfl⟩
          rw [gd.en] at e3
          exact e3
        · walk_at "r"
          exact ⟨p,e,n,m,rfl,t1.trans t2,he.same t2,gd,fun h => by simp [hnt] at h⟩
    clear he gd hnt t1 p e n m
    rintro σ' G2 ⟨p,e,n,m,rfl,t2,he,gd,hturn⟩
    have epl2 := t2 _ _ epl'
    walk_at "r"
    refine zG epl2 (by rw [List.length_map,hrun.1]; omega) fun G3 x3 e3 => ?_
    have hL3 := (hL.same t2).sameX x3 epl2
    have he3 := he.sameX x3 epl2
    have esl3 := x3 _ _ (t2 _ _ esl') (Ne.symm psl)
    walk_at "r"
    refine tJ hL3 hok.lt (by omega) he3 gd fun r4 A' N' G4 t4 nA' e4 hN' hL4 => ?_
    have hgn : (f n).b = s.g n := hfb n gd.hn
    have hgm : (f m).b = s.g m := hfb m gd.hm
    rw [hgn,hgm] at hN'
    have hNl : N'.length = (e.new (s.g n) (s.g m)).length := by rw [← hN',List.length_map]
    have hL4 : Ly G4 A' (s.next (e,n,m)).ns (fN f s.k N') := by rw [hNl] at hL4; exact hL4
    have hfb' := GR (x := (e,n,m)) hfb hok.lt hN'
    have hok' := hok.next (x := (e,n,m)) (tZ gd)
    have hk' : ((s.k + N'.length : Nat) : Int) = ((s.next (e,n,m)).k : Int) := by rw [hNl]; rfl
    rw [hk'] at e4
    obtain ⟨k,k1,bk,onew⟩ := gd.new
    rw [hgn,hgm] at onew
    have D1' : 1 ≤ D * k := Int.mul_pos (by omega) (by omega)
    have bD' : Bd (301 + 30 * (i + 1)) (D * k) := (bD.mul bk).mono (by omega)
    have ob' : ∀ j ∈ (s.next (e,n,m)).ns,BoD d (D * k) (341 + 32 * (i + 1)) ((s.next (e,n,m)).g j) := fun j hj => by
      rw [← hfb' j hj]
      rcases List.mem_append.mp hj with hj | hj
      · have hj := (mem_ndrop.mp hj).1
        rw [CZ (hok.lt j hj),hfb j hj]
        exact ((ob j hj).up bk).mono (by omega)
      · have hj := List.mem_range'_1.mp hj
        obtain ⟨t,rfl⟩ : ∃ t,j = s.k + t := ⟨j - s.k,by omega⟩
        have ht' : t < N'.length := by rw [hNl]; exact Nat.lt_of_add_lt_add_left hj.2
        rw [Cm,xA (List.getElem?_eq_getElem ht')]
        refine (onew _ ?_).mono (by omega)
        rw [← hN']
        exact List.mem_map_of_mem (List.getElem_mem ht')
    have zz' : Sz (D * k) (301 + 30 * (i + 1)) (341 + 32 * (i + 1)) := ⟨D1',bD',by omega,by omega⟩
    have esl4 := t4 _ _ esl3
    walk_at "r"
    refine vy hL4.l fun B G5 nB t5 e5 => ?_
    walk_at "r"
    refine zE (by simp) fun t6 G6 n6 t6' e6 => ?_
    have esl6 := t6' _ _ (t5 _ _ esl4)
    have z56 := t5.trans t6'
    walk_at "r"
    refine zG esl6 (by rw [List.length_map,hssl]; omega) fun G7 x7 e7 => ?_
    have hsnext : ends (As.st L) (es ++ [(e,n,m)]) = s.next (e,n,m) := by rw [C7,hs]
    walk_at "r"
    refine ⟨some (.int cz),some (.ref p),A',fN f s.k N',ps ++ [p],ss ++ [t6],es ++ [(e,n,m)],D * k,?_,?_,?_,?_,?_⟩
    · rw [hsnext]
    · rw [hsnext]
      exact ⟨by rw [List.length_append,hel]; rfl,(hL4.same z56).sameX x7 esl6,hfb',hok'⟩
    · rw [hsnext]
      exact ⟨D1',bD',ob',fun x hx => ((oP x hx).scale bk).mono (by omega)⟩
    · refine ⟨x7 _ _ (z56 _ _ (t4 _ _ (by rw [List.map_append]; exact e3))) psl,by rw [List.map_append]; exact e7,BC (((((hrun.same t2).sameX x3 epl2).same t4).same z56).sameX x7 esl6) (((he3.same t4).same z56).sameX x7 esl6),B2 hwalk (by rw [hs]; exact ⟨tZ gd,gd.ok,by rw [← hgn,← hgm]; exact gd.fit,hturn⟩),by rw [List.length_append,hssl]; rfl,fun j t hj => ?_⟩
      by_cases c : j < ss.length
      · rw [List.getElem?_append_left c] at hj
        rw [List.take_append_of_le_length (by omega)]
        exact (((((hst j t hj).same t2).sameX x3 epl2).same t4).same z56).sameX x7 esl6
      · have hl := (List.getElem?_eq_some_iff.mp hj).1
        rw [List.length_append] at hl
        have : j = ss.length := by simp only [List.length_cons,List.length_nil] at hl; omega
        subst this
        rw [List.getElem?_append_right (Nat.le_refl _),Nat.sub_self] at hj
        have : t6 = t := Option.some.inj hj
        subst this
        rw [List.take_of_length_le (by rw [List.length_append,hel,hssl]; simp),hsnext]
        exact StAt.sameX ⟨B,fN f s.k N',i + 1,e6,⟨t6' _ _ e5,fun n hn => (hL4.at' n hn).same z56⟩,hfb',hok',by omega,fun n hn => ⟨zz'.sy (ob' n hn).1,zz'.sy (ob' n hn).2⟩⟩ x7 esl6
    · exact fun b o e n1 n2 => x7 _ _ (z56 _ _ (t4 _ _ (x3 _ _ (t2 _ _ (fr b o e n1 n2)) n1))) n2
  rintro σ H' ⟨vc,vd,A,f,ps,ss,es,D,rfl,⟨hel,_⟩,_,⟨epl',esl',hrun,hwalk,hssl,hst⟩,fr⟩
  walk_at "r"
  refine zE (by simp) fun r H5 nr s5 e5 => ?_
  refine q r pl sl ps ss es H5 (fun b o e => s5 _ _ (fr _ _ (s4 _ _ (z3 _ _ e)) (zf (s1 _ _ e) npl) (zf ((s1.trans (s2.trans (sB.trans st))) _ _ e) nsl))) e5 (s5 _ _ epl') (s5 _ _ esl') (hrun.same s5) hwalk (by rw [hel,List.length_map]; exact hz30) (by rw [hssl,hel]) fun j t hj => (hst j t hj).same s5
theorem DI {cl : List Cell} {g : Nat → Bo} : ∀ {ns : List Nat},(∀ n ∈ ns,∃ c,cl[n]? = some c ∧ c.b = g n) → (pick cl ns).map Cell.b = ns.map g
  | [],_ => rfl
  | n :: ns,h => by
    obtain ⟨c,h1,h2⟩ := h n List.mem_cons_self
    have ih := DI (ns := ns) fun m hm => h m (List.mem_cons_of_mem _ hm)
    simp only [pick,List.filterMap_cons,h1,List.map_cons,h2] at ih ⊢
    rw [ih]
theorem ok_walked {f : Addr} {fd : FuncData} {its : List Value} (F : FunD K "walked" "walked" s_walked f fd its) (B : Bl mg)  (o_Yard_heap : OwnM P w K mg base CX0 cs.Yard 1 "heap" ["self"] [] (sp_Yard_heap cs)) (o_yard_behind : OwnX P w K mg base 7 "yard_behind" ["d","heap","plan","turning"] [] (sp_yard_behind cs)) : FnOk P w K mg base (CXe P w) 8 f fd ["d","heap","plan","turning"] (sp_walked cs) := by
  refine F.okX (k := 7) BV (fun vs H Q E h => ?_) (fun cdv A outer s H vs Q E hr h => ?_)
  · obtain ⟨hp,pl,d,tn,L,ps,tl,es,rfl,hh,hA,l6,hpl,plen,hd,hr',hw,hq⟩ := h
    rfl
  obtain ⟨hp,pl,d,tn,L,ps,tl,es,rfl,hh,hA,l6,hpl,plen,hd,hr',hw,hq⟩ := h
  refine ⟨_,(ze (zp (CV o_Yard_heap EB hr (wR yr o_yard_behind hr rfl (za (pv 0) (za (pv 1) (za (pv 2) (za (pv 3) zc)))))))),?_⟩
  rw [show zI ["d","heap","plan","turning"] [.int d,.ref hp,.ref pl,.bl tn] = [some (.int d),some (.ref hp),some (.ref pl),some (.bl tn)] from rfl]
  walk_at "r"
  rcases hq with ⟨rfl,q⟩ | ⟨p0,rs,C,rfl,hbad,qe⟩
  · refine xF hh hA l6 hpl plen hd hr' hw (.inl ⟨rfl,fun y H1 s1 st => ?_⟩)
    obtain ⟨cl,hyc,hk,hrel⟩ := st
    refine ⟨_,_,_,rfl,hyc.o,rfl,?_⟩
    walk_at "r"
    refine tK hyc fun r H2 s2 nr e2 => ?_
    exact q r _ H2 (s1.trans s2) (Same.nn s1 nr) e2 (fun c hc => (hyc.at' c (CI hc)).same s2) (DI hrel)
  · exact xF hh hA l6 hpl plen hd hr' hw (.inr ⟨p0,rs,C,rfl,hbad,qe⟩)
theorem ok__law_refused {f : Addr} {fd : FuncData} (F : Fun K "_law_refused" "_law_refused" s__law_refused f fd) (B : Bl mg) (X : Xs K mg cs) (o_walked : OwnX P w K mg base 8 "walked" ["d","heap","plan","turning"] [] (sp_walked cs)) (o_walked_3 : OwnX P w K mg base 8 "walked" ["d","heap","plan","turning"] [.bl false] (sp_walked cs)) (o__law_alone : Own P w K mg base 1 "_law_alone" ["_law_error"] [] (sp__law_alone cs)) : FnOk P w K mg base CX0 9 f fd ["_law_d","_law_heap_here","_law_plan_here","_law_freed","_law_due"] (sp__law_refused cs) := by
  refine F.ok (k := 8) sc__law_refused (fun vs H Q E h => ?_) (fun cdv A outer s H vs Q E hr h => ?_)
  · obtain ⟨hp,pl,d,tn,L,ps,rs,es,p,C,due,rfl,hh,hA,l6,hpl,plen,hd,hr',hw,hbad,hdue,q⟩ := h
    rfl
  obtain ⟨hp,pl,d,tn,L,ps,rs,es,p,C,due,rfl,hh,hA,l6,hpl,plen,hd,hr',hw,hbad,hdue,q⟩ := h
  refine ⟨_,(zd (zr (i := 5) sc__law_refused.nd rfl (Or.inl rfl) Bb) (zd (E7 (j := 6) rfl rfl sc__law_refused.nd rfl rfl X.o_YardError X.m_YardError rfl (fun pl EE => (ze (zJ (zV (pv 3)) (ze (yg (BS o_walked hr rfl (za (pv 0) (za (pv 1) (za (pv 2) (za yN zc))))))) (ze (yg (BS o_walked_3 hr rfl (za (pv 0) (za (pv 1) (za (pv 2) zc))))))))) (fun _ => (ze (zr (i := 5) sc__law_refused.nd rfl (Or.inl rfl) (pv 6))))) (zd (zJ (PW.pt (xE (zn EA (pv 5) Bb (zt _)) (yZ (yu (zV (zk o__law_alone hr rfl (za (pv 5) zc))))))) (ze (zp yN)) zu) (ze (zp (zg zo (zQ (za (zm zB rfl B.isinstance zj (za (pv 5) (za (zM (v := .ref cs.NoDeed) rfl X.m_NoDeed rfl) zc))) (za (zm zB rfl B.isinstance zj (za (pv 5) (za (zM (v := .ref cs.NoName) rfl X.m_NoName rfl) zc))) (za (zm zB rfl B.isinstance zj (za (pv 5) (za (zM (v := .ref cs.Unfit) rfl X.m_Unfit rfl) zc))) (za (zm zB rfl B.isinstance zj (za (pv 5) (za (zM (v := .ref cs.Grain) rfl X.m_Grain rfl) zc))) zc))))) (pv 4) (fun _ _ => rfl))))))),?_⟩
  rw [show zI ["_law_d","_law_heap_here","_law_plan_here","_law_freed","_law_due","_law_kept","_law_error"] [.int d,.ref hp,.ref pl,.bl tn,.int due] = [some (.int d),some (.ref hp),some (.ref pl),some (.bl tn),some (.int due),none,none] from rfl]
  have hC : (C = cs.NoDeed ∨ C = cs.NoName ∨ C = cs.Unfit ∨ C = cs.Grain) := by
    rcases hdue with ⟨_,h⟩ | ⟨_,h⟩ | ⟨_,h⟩ | ⟨_,h⟩
    · exact .inl h
    · exact .inr (.inl h)
    · exact .inr (.inr (.inl h))
    · exact .inr (.inr (.inr h))
  have sC : PySem.W.mroIn K C (.ref cs.YardError) = some true := by
    rcases hC with rfl | rfl | rfl | rfl
    · exact X.s_NoDeed
    · exact X.s_NoName
    · exact X.s_Unfit
    · exact X.s_Grain
  walk_at "r"
  refine GD ?_
  walk_at "r"
  cases htn : tn with
  | true =>
    subst htn
    walk_at "r"
    refine BA ?_
    walk_at "r"
    refine yI hh hA l6 hpl plen hd hr' hw (.inr ⟨p,rs,C,rfl,hbad,fun H1 s1 => Dh sC fun x hx => ?_⟩)
    have s2 : Same H (upd H1 x (ExcO x C)) := fun b o e => by rw [zv (zf (s1 _ _ e) hx)]; exact s1 _ _ e
    have ex : upd H1 x (ExcO x C) x = some (ExcO x C) := zq
    generalize upd H1 x (ExcO x C) = H2 at *
    dsimp only [List.set_cons_zero,List.set_cons_succ]
    walk_at "r"
    dsimp only [tryD,List.set_cons_zero,List.set_cons_succ]
    walk_at "r"
    refine if_d (fun h => nomatch h) (fun _ => ?_)
    walk_at "r"
    refine we ex hC ?_
    walk_at "r"
    rcases hdue with ⟨hd1,rfl⟩ | ⟨hd1,rfl⟩ | ⟨hd1,rfl⟩ | ⟨hd1,rfl⟩
    · subst hd1
      refine zA ex X.o_NoDeed rfl X.k_NoDeed_NoDeed ?_
      walk_at "r"
      refine zA ex X.o_NoDeed rfl X.k_NoDeed_NoName ?_
      walk_at "r"
      refine zA ex X.o_NoDeed rfl X.k_NoDeed_Unfit ?_
      walk_at "r"
      refine zA ex X.o_NoDeed rfl X.k_NoDeed_Grain ?_
      walk_at "r"
      refine zw (by simp) fun o1 G1 n1 t1 y1 => ?_
      walk_at "r"
      exact q G1 (s2.trans t1)
    · subst hd1
      refine zA ex X.o_NoName rfl X.k_NoName_NoDeed ?_
      walk_at "r"
      refine zA ex X.o_NoName rfl X.k_NoName_NoName ?_
      walk_at "r"
      refine zA ex X.o_NoName rfl X.k_NoName_Unfit ?_
      walk_at "r"
      refine zA ex X.o_NoName rfl X.k_NoName_Grain ?_
      walk_at "r"
      refine zw (by simp) fun o1 G1 n1 t1 y1 => ?_
      walk_at "r"
      exact q G1 (s2.trans t1)
    · subst hd1
      refine zA ex X.o_Unfit rfl X.k_Unfit_NoDeed ?_
      walk_at "r"
      refine zA ex X.o_Unfit rfl X.k_Unfit_NoName ?_
      walk_at "r"
      refine zA ex X.o_Unfit rfl X.k_Unfit_Unfit ?_
      walk_at "r"
      refine zA ex X.o_Unfit rfl X.k_Unfit_Grain ?_
      walk_at "r"
      refine zw (by simp) fun o1 G1 n1 t1 y1 => ?_
      walk_at "r"
      exact q G1 (s2.trans t1)
    · subst hd1
      refine zA ex X.o_Grain rfl X.k_Grain_NoDeed ?_
      walk_at "r"
      refine zA ex X.o_Grain rfl X.k_Grain_NoName ?_
      walk_at "r"
      refine zA ex X.o_Grain rfl X.k_Grain_Unfit ?_
      walk_at "r"
      refine zA ex X.o_Grain rfl X.k_Grain_Grain ?_
      walk_at "r"
      refine zw (by simp) fun o1 G1 n1 t1 y1 => ?_
      walk_at "r"
      exact q G1 (s2.trans t1)
  | false =>
    subst htn
    walk_at "r"
    refine BA ?_
    walk_at "r"
    refine yI hh hA l6 hpl plen hd hr' hw (.inr ⟨p,rs,C,rfl,hbad,fun H1 s1 => Dh sC fun x hx => ?_⟩)
    have s2 : Same H (upd H1 x (ExcO x C)) := fun b o e => by rw [zv (zf (s1 _ _ e) hx)]; exact s1 _ _ e
    have ex : upd H1 x (ExcO x C) x = some (ExcO x C) := zq
    generalize upd H1 x (ExcO x C) = H2 at *
    dsimp only [List.set_cons_zero,List.set_cons_succ]
    walk_at "r"
    dsimp only [tryD,List.set_cons_zero,List.set_cons_succ]
    walk_at "r"
    refine if_d (fun h => nomatch h) (fun _ => ?_)
    walk_at "r"
    refine we ex hC ?_
    walk_at "r"
    rcases hdue with ⟨hd1,rfl⟩ | ⟨hd1,rfl⟩ | ⟨hd1,rfl⟩ | ⟨hd1,rfl⟩
    · subst hd1
      refine zA ex X.o_NoDeed rfl X.k_NoDeed_NoDeed ?_
      walk_at "r"
      refine zA ex X.o_NoDeed rfl X.k_NoDeed_NoName ?_
      walk_at "r"
      refine zA ex X.o_NoDeed rfl X.k_NoDeed_Unfit ?_
      walk_at "r"
      refine zA ex X.o_NoDeed rfl X.k_NoDeed_Grain ?_
      walk_at "r"
      refine zw (by simp) fun o1 G1 n1 t1 y1 => ?_
      walk_at "r"
      exact q G1 (s2.trans t1)
    · subst hd1
      refine zA ex X.o_NoName rfl X.k_NoName_NoDeed ?_
      walk_at "r"
      refine zA ex X.o_NoName rfl X.k_NoName_NoName ?_
      walk_at "r"
      refine zA ex X.o_NoName rfl X.k_NoName_Unfit ?_
      walk_at "r"
      refine zA ex X.o_NoName rfl X.k_NoName_Grain ?_
      walk_at "r"
      refine zw (by simp) fun o1 G1 n1 t1 y1 => ?_
      walk_at "r"
      exact q G1 (s2.trans t1)
    · subst hd1
      refine zA ex X.o_Unfit rfl X.k_Unfit_NoDeed ?_
      walk_at "r"
      refine zA ex X.o_Unfit rfl X.k_Unfit_NoName ?_
      walk_at "r"
      refine zA ex X.o_Unfit rfl X.k_Unfit_Unfit ?_
      walk_at "r"
      refine zA ex X.o_Unfit rfl X.k_Unfit_Grain ?_
      walk_at "r"
      refine zw (by simp) fun o1 G1 n1 t1 y1 => ?_
      walk_at "r"
      exact q G1 (s2.trans t1)
    · subst hd1
      refine zA ex X.o_Grain rfl X.k_Grain_NoDeed ?_
      walk_at "r"
      refine zA ex X.o_Grain rfl X.k_Grain_NoName ?_
      walk_at "r"
      refine zA ex X.o_Grain rfl X.k_Grain_Unfit ?_
      walk_at "r"
      refine zA ex X.o_Grain rfl X.k_Grain_Grain ?_
      walk_at "r"
      refine zw (by simp) fun o1 G1 n1 t1 y1 => ?_
      walk_at "r"
      exact q G1 (s2.trans t1)
theorem Fq : ∀ L : List Cell,(L.flatMap (fun c => [c.b.w,c.b.h])).length = 2 * L.length
  | [] => rfl
  | c :: L => by
    have := Fq L
    simp only [List.flatMap_cons,List.length_append,List.length_cons,List.length_nil] at this ⊢
    omega
theorem ok_law {f : Addr} {fd : FuncData} (F : Fun K "law" "law" s_law f fd) (B : Bl mg)  (o__law_root : Own P w K mg base 2 "_law_root" ["_law_cell_here","_law_k"] [] sp__law_root) (o__law_heap : Own P w K mg base 4 "_law_heap" ["_law_script","_law_d","_law_first"] [] (sp__law_heap K)) (o__law_plan : Own P w K mg base 7 "_law_plan" ["_law_d","_law_script","_law_heap_here","_law_pool","_law_freed"] [] (sp__law_plan K)) (o__law_cell : Own P w K mg base 1 "_law_cell" ["_law_script","_law_k"] [] (sp__law_cell K)) (o_walked_3_k_turning : OwnKX P w K mg base 8 "walked" ["d","heap","plan","turning"] ["turning"] gV_walked_3_k_turning (sp_walked cs)) (o_walked_3 : OwnX P w K mg base 8 "walked" ["d","heap","plan","turning"] [.bl false] (sp_walked cs)) (o__law_great : Own P w K mg base 1 "_law_great" ["_law_cell_here","_law_k"] [] sp__law_great) (o__law_is_heap : Own P w K mg base 3 "_law_is_heap" ["_law_found","_law_due"] [] sp__law_is_heap) (o_walked : OwnX P w K mg base 8 "walked" ["d","heap","plan","turning"] [] (sp_walked cs)) (o__law_refused : Own P w K mg base 9 "_law_refused" ["_law_d","_law_heap_here","_law_plan_here","_law_freed","_law_due"] [] (sp__law_refused cs)) (o__law_spoilt : Own P w K mg base 2 "_law_spoilt" ["_law_plan_here","_law_states","_law_cell_here","_law_due"] [] (sp__law_spoilt cs)) : FnOk P w K mg base CX0 10 f fd ["_law_script"] (CU K) := by
  refine F.ok (k := 9) sc_law (fun vs H Q E h => ?_) (fun cdv A outer s H vs Q E hr h => ?_)
  · obtain ⟨a,ns,rfl,hS,h63,hbd,q⟩ := h
    rfl
  obtain ⟨a,ns,rfl,hS,h63,hbd,q⟩ := h
  refine ⟨_,(zd (zr (i := 1) sc_law.nd rfl (Or.inl rfl) (zk o__law_root hr rfl (za (zk o__law_cell hr rfl (za (pv 0) (za zb zc))) (za zb zc)))) (zd (vq (zk o__law_heap hr rfl (za (pv 0) (za (pv 1) (za zb zc)))) (vk (n := 2) rfl (z8 (zD (i := 2) sc_law.nd rfl (Or.inl rfl)) (z8 (zD (i := 3) sc_law.nd rfl (Or.inl rfl)) xV)))) (zd (zr (i := 4) sc_law.nd rfl (Or.inl rfl) (z9 yl (zi zN (zk o__law_great hr rfl (za (zk o__law_cell hr rfl (za (pv 0) (za zb zc))) (za zb zc))) zb) zb (zt _))) (zd (vq (zk o__law_plan hr rfl (za (pv 1) (za (pv 0) (za (pv 3) (za (pv 2) (za (pv 4) zc)))))) (vk (n := 2) rfl (z8 (zD (i := 5) sc_law.nd rfl (Or.inl rfl)) (z8 (zD (i := 6) sc_law.nd rfl (Or.inl rfl)) xV)))) (zd (zr (i := 7) sc_law.nd rfl (Or.inr rfl) (zg zh (zg zo (pv 6) (wZ xo zb) (fun _ _ => rfl)) zb (fun _ _ => rfl))) (zd (vZ (i := 8) sc_law.nd rfl rfl ["_law_name"] [7] rfl (yv (zm (xS rfl) rfl B.sorted wM (za (pv 7) zc))) (fun _ _ _ _ _ => (zD (i := 0) (show List.Nodup (α := Str) ["_law_name","_law_lying"] by decide +kernel) rfl (Or.inl rfl))) (fun _ _ _ _ _ => yH) (fun _ _ _ _ _ => (xT (wG hr) (pv 1) (pv 0) (fun _ _ => rfl)))) (zd (zr (i := 9) sc_law.nd rfl (Or.inl rfl) (zQ (za (zF wK rfl B.list vO (za (pv 3) zc)) (za (zF wK rfl B.list vO (za (pv 5) zc)) zc)))) (zd (wl (zJ (zV (pv 4)) (ze (zr (i := 10) sc_law.nd rfl (Or.inl rfl) (Ag o_walked_3_k_turning hr rfl (za (pv 1) (za (zg zo (pv 9) zb (fun _ _ => rfl)) (za (zg zo (pv 9) zb (fun _ _ => rfl)) zc))) (Bu yN Df)))) (zd (zr (i := 10) sc_law.nd rfl (Or.inl rfl) (vw o_walked_3 hr rfl (za (pv 1) (za (zg zo (pv 9) zb (fun _ _ => rfl)) (za (zg zo (pv 9) zb (fun _ _ => rfl)) zc))))) (ze (zJ (PW.pt (xE (zn (vp hr.units) (Ag o_walked_3_k_turning hr rfl (za (pv 1) (za (pv 3) (za (pv 5) zc))) (Bu yN Df)) (pv 8) (zt _)) (yZ (zn (vp hr.units) (vw o_walked hr rfl (za (pv 1) (za (pv 3) (za (pv 5) (za yN zc))))) (pv 8) (zt _))))) (ze (zp yN)) zu))))) (zd (zJ (PW.pt (xE (yu (zV (zk o__law_is_heap hr rfl (za (pv 10) (za (pv 8) zc))))) (yZ (zn (vp hr.units) (pv 9) (zQ (za (pv 3) (za (pv 5) zc))) (zt _))))) (ze (zp yN)) zu) (zd (yg (vF PySem.F.plainAttrs_list PySem.F.slot_list_append PySem.F.type_list_append z6 (pv 10) (za Bb zc))) (zd (zJ (PW.pt (xE (zn (vp hr.units) (vw o_walked hr rfl (za (pv 1) (za (pv 3) (za (pv 5) (za (pv 4) zc))))) (pv 8) (zt _)) (yZ (zn (vp hr.units) (vw o_walked_3 hr rfl (za (pv 1) (za (pv 3) (za (zQ zc) zc)))) (pv 3) (zt _))))) (ze (zp yN)) zu) (zd (yW PassesOwn.never rfl (yt rfl B.range (za (zi zK zb (zF zO rfl B.int yy (za (Bi (pv 4)) zc))) zc)) (zD (i := 11) sc_law.nd rfl (Or.inl rfl)) (ze (zJ (yu (zV (zk o__law_refused hr rfl (za (pv 1) (za (pv 3) (za (zk o__law_spoilt hr rfl (za (pv 5) (za (pv 6) (za (zk o__law_cell hr rfl (za (pv 0) (za zb zc))) (za (pv 11) zc))))) (za (pv 4) (za (pv 11) zc)))))))) (ze (zp yN)) zu))) (ze (zp yN)))))))))))))),?_⟩
  rw [show zI ["_law_script","_law_d","_law_pool","_law_heap_here","_law_freed","_law_plan_here","_law_states","_law_lying","_law_due","_law_handed","_law_found","_law_way"] [.ref a] = [some (.ref a),none,none,none,none,none,none,none,none,none,none,none] from rfl]
  walk_at "r"
  refine yo hS (by decide) hbd fun c0 hc0 => ?_
  walk_at "r"
  refine tw hc0 (by decide +kernel) fun d H1 hR s1 => ?_
  have hS1 := s1.seq hS
  walk_at "r"
  refine tD hS1 hbd hR fun r2 qa l H2 P L s2 e2 hP hl hA hPd hLd l1 l6 => ?_
  have hS2 := s2.seq hS1
  have dlo := hR.lo
  have hd64 : Bd 64 d := zY (B := 99) (by omega) hR.hi (by decide +kernel)
  obtain ⟨sides,hsides⟩ : ∃ l : List Sd,P.map (·.2) ++ L.flatMap (fun c => [c.b.w,c.b.h]) = l := ⟨_,rfl⟩
  have hsd : ∀ s ∈ sides,Dw d s := fun s hs => by
    rw [← hsides] at hs
    rcases List.mem_append.mp hs with hs | hs
    · obtain ⟨x,hx,rfl⟩ := List.mem_map.mp hs
      exact hPd x hx
    · obtain ⟨c,hc,hs⟩ := List.mem_flatMap.mp hs
      rcases List.mem_cons.mp hs with rfl | hs
      · exact (hLd c hc).1
      · rw [List.mem_singleton.mp hs]; exact (hLd c hc).2
  have hfl : (L.flatMap (fun c => [c.b.w,c.b.h])).length = 2 * L.length := Fq L
  have hsl : sides.length ≤ 15 := by rw [← hsides,List.length_append,List.length_map,hfl,hP.n]; omega
  have inP : ∀ x ∈ P,x.2 ∈ sides := fun x hx => by rw [← hsides]; exact List.mem_append_left _ (List.mem_map_of_mem hx)
  have inW : ∀ c ∈ L,c.b.w ∈ sides := fun c hc => by rw [← hsides]; exact List.mem_append_right _ (List.mem_flatMap.mpr ⟨c,hc,by simp⟩)
  have inH : ∀ c ∈ L,c.b.h ∈ sides := fun c hc => by rw [← hsides]; exact List.mem_append_right _ (List.mem_flatMap.mpr ⟨c,hc,by simp⟩)
  have so0 : ∀ s ∈ sides,So d (pz sides) 341 s := fun s hs => (FX hsd s hs).mono (by omega)
  walk_at "r"
  refine yo hS2 (by decide) hbd fun c1 hc1 => ?_
  walk_at "r"
  refine zW hc1 (by decide +kernel) fun g g0 g1 => ?_
  walk_at "r"
  generalize htn : decide (g % 2 = 1) = tn
  refine u6 (D0 := pz sides) hS2 hbd hl hA l1 l6 hP ⟨Dt hsd,(Er hsd).mono (by omega)⟩ (fun c hc => ⟨so0 _ (inW c hc),so0 _ (inH c hc)⟩) (fun x hx => so0 _ (inP x hx)) hR fun r3 pl sl ps ss es H3 s3 e3 epl esl hrun hwalk el30 hssl hst => ?_
  have hS3 := s3.seq hS2
  have hl3 := s3 _ _ hl
  have hA3 : ∀ c ∈ L,c.At H3 := fun c hc => (hA c hc).same s3
  have plen : ps.length ≤ 30 := by rw [hrun.1]; exact el30
  obtain ⟨ss',tL,hssc⟩ : ∃ ss' tL,ss = ss' ++ [tL] := by
    rcases List.eq_nil_or_concat ss with h | ⟨ss',c,h⟩
    · rw [h] at hssl; simp at hssl
    · exact ⟨ss',c,by rw [h,List.concat_eq_append]⟩
  have hsl' : ss'.length = es.length := by
    have := hssl
    rw [hssc,List.length_append] at this
    simp only [List.length_cons,List.length_nil] at this
    omega
  have hstL := hst es.length tL (by rw [hssc,List.getElem?_append_right (by omega),hsl',Nat.sub_self]; rfl)
  rw [List.take_length] at hstL
  obtain ⟨A,f,iL,etL,hLy,hfb,hok,hi30,hsy⟩ := hstL
  generalize hs : ends (As.st L) es = s at *
  have hnl := hok.nl
  repeat (first | walk_at "rd" | refine zC esl (v := .ref tL) (by rw [hssc,List.map_append]; exact C5 _ _) ?_)
  refine xQ ?_
  walk_at "r"
  refine u9 hLy.l hok.up (by omega) fun p4 H4 n4 s4 e4 => ?_
  have hLy4 := hLy.same s4
  walk_at "r"
  refine ⟨p4,rfl,⟨_,SqL.of e4⟩,fun du hO => yS (K := K) (a := p4) (ys := (s.ns.map fun n : Nat => (n : Int)).map V.int) (fun i xs σ' H' => ∃ v : Option V,σ' = [v,some (.ref A)] ∧ xs = ((s.ns.take i).map f).map Cell.v ∧ H' du = some (.lst xs) ∧ SameX du H4 H') ⟨none,rfl,rfl,zq,(fun b o e n => by rw [zv n]; exact e)⟩ (fun i xs σ' H' _ z => by obtain ⟨v,_,_,_,z⟩ := z; exact SqL.of (z _ _ e4 (zf e4 hO))) ?_ ?_⟩
  · rintro i x xs σ' H' hi ⟨v,rfl,rfl,eO,sx⟩
    have hi' := (List.getElem?_eq_some_iff.mp hi).1
    rw [List.getElem?_map,List.getElem?_map] at hi
    obtain ⟨z,hz,rfl⟩ := Option.map_eq_some_iff.mp hi
    obtain ⟨n,hn,rfl⟩ := Option.map_eq_some_iff.mp hz
    have s' : Same H4 H' := fun b o e => sx b o e (zf e hO)
    have hL' := hLy4.same s'
    have hn' := List.mem_of_getElem? hn
    walk_at "r"
    refine ⟨A,_,rfl,DGet.k (k := .inl (n : Int)) hL'.l |> (fun z => by rw [z7 hn'] at z; exact z),?_⟩
    walk_at "r"
    refine zG eO (by simp only [List.length_map,List.length_take] at hi' ⊢; omega) fun H5 x5 e5 => ?_
    refine yX hi' ⟨_,rfl,rfl,?_,sx.trans x5⟩
    rw [List.take_succ,hn,List.map_append,List.map_append]
    exact e5
  rintro xs σ' H5 ⟨v,rfl,rfl,edu,sx⟩
  have s5 : Same H4 H5 := fun b o e => sx b o e (zf e hO)
  rw [List.length_map,List.length_map,List.take_length] at edu
  have z35 := s4.trans s5
  have hAdu : ∀ c ∈ s.ns.map f,c.At H5 := fun c hc => by
    obtain ⟨n,hn,rfl⟩ := List.mem_map.mp hc
    exact (hLy.at' n hn).same z35
  have bdu : (s.ns.map f).map Cell.b = s.ns.map s.g := Gx hfb
  clear sx
  walk_at "r"
  refine u4 (z35 _ _ hl3) fun h0 H6 n6 s6 e6 => ?_
  walk_at "r"
  refine u4 (s6 _ _ (z35 _ _ epl)) fun h1 H7 n7 s7 e7 => ?_
  walk_at "r"
  refine zw (by simp) fun hd H8 n8 s8 e8 => ?_
  have z38 := ((z35.trans s6).trans s7).trans s8
  have z58 := (s6.trans s7).trans s8
  have e6 := s8 _ _ (s7 _ _ e6)
  have e7 := s8 _ _ e7
  have hA8 : ∀ c ∈ L,c.At H8 := fun c hc => (hA3 c hc).same z38
  have hrun8 := hrun.same z38
  have epl8 := z38 _ _ epl
  have hl8 := z38 _ _ hl3
  have edu8 := z58 _ _ edu
  have hAd8 : ∀ c ∈ s.ns.map f,c.At H8 := fun c hc => (hAdu c hc).same z58
  have hwt := Ba hwalk
  have pnil : (ps ++ []).map V.ref = ps.map V.ref := by rw [List.append_nil]
  walk_at "r"
  refine uj (T := fun σ' H9 => ∃ (r : Addr) (C : List Cell),σ' = [some (.ref a),some (.int d),some (.ref qa),some (.ref l),some (.bl tn),some (.ref pl),some (.ref sl),some (.ref A),some (.ref du),some (.ref hd),some (.ref r),none] ∧ Same H8 H9 ∧ H8 r = none ∧ H9 r = some (.lst (C.map Cell.v)) ∧ (∀ c ∈ C,c.At H9) ∧ C.map Cell.b = s.ns.map s.g) ?_ ?_
  · walk_at "r"
    cases htn2 : tn with
    | true =>
      subst htn2
      repeat (first | walk_at "rd" | refine zC e8 (v := .ref h0) (i := 0) rfl ?_ | refine zC e8 (v := .ref h1) (i := 1) rfl ?_)
      show sp_walked cs ([.int d,.ref h0,.ref h1,.bl true] ++ []) _ _ _
      refine yI (tl := []) e6 hA8 l6 (by rw [pnil]; exact e7) plen hd64 hrun8 hwalk (.inl ⟨rfl,fun r C H9 s9 nr e9 aC bC => ?_⟩)
      rw [hs] at bC
      walk_at "r"
      exact ⟨r,C,rfl,s9,nr,e9,aC,bC⟩
    | false =>
      subst htn2
      repeat (first | walk_at "rd" | refine zC e8 (v := .ref h0) (i := 0) rfl ?_ | refine zC e8 (v := .ref h1) (i := 1) rfl ?_)
      refine yI (tl := []) e6 hA8 l6 (by rw [pnil]; exact e7) plen hd64 hrun8 hwalk (.inl ⟨rfl,fun r C H9 s9 nr e9 aC bC => ?_⟩)
      rw [hs] at bC
      walk_at "r"
      show sp_walked cs ([.int d,.ref l,.ref pl,.bl false] ++ []) _ _ _
      refine yI (tl := []) (s9 _ _ hl8) (fun c hc => (hA8 c hc).same s9) l6 (by rw [pnil]; exact s9 _ _ epl8) plen hd64 (hrun8.same s9) hwalk (.inl ⟨rfl,fun ra Ca Ha sa na ea aCa bCa => ?_⟩)
      rw [hs] at bCa
      have t9a := s9.trans sa
      walk_at "r"
      refine ut ea (t9a _ _ edu8) aCa (fun c hc => (hAd8 c hc).same t9a) (bCa.trans bdu.symm) ?_
      walk_at "r"
      refine yI (tl := []) (t9a _ _ hl8) (fun c hc => (hA8 c hc).same t9a) l6 (by rw [pnil]; exact t9a _ _ epl8) plen hd64 (hrun8.same t9a) hwt (.inl ⟨rfl,fun rb Cb Hb sb nb eb aCb bCb => ?_⟩)
      rw [hs] at bCb
      have t9b := t9a.trans sb
      walk_at "r"
      refine ut eb (t9b _ _ edu8) aCb (fun c hc => (hAd8 c hc).same t9b) (bCb.trans bdu.symm) ?_
      walk_at "r"
      exact ⟨r,C,rfl,t9b,nr,(sa.trans sb) _ _ e9,fun c hc => (aC c hc).same (sa.trans sb),bC⟩
  rintro σ' H9 ⟨r,C,rfl,s9,nr,e9,aC,bC⟩
  walk_at "r"
  refine wX e9 (s9 _ _ edu8) aC (fun c hc => (hAd8 c hc).same s9) (bC.trans bdu.symm) ?_
  walk_at "r"
  refine zw (by simp) fun ha Ha na ta ya => ?_
  have T8a := s9.trans ta
  refine FS (T8a _ _ e8) ya (T8a _ _ e6) (T8a _ _ hl8) (T8a _ _ e7) (T8a _ _ epl8) (fun v hv => by
    obtain ⟨c,_,e⟩ := List.mem_map.mp hv
    exact ⟨c.p,e.symm⟩) (fun v hv => by
    obtain ⟨p,_,e⟩ := List.mem_map.mp hv
    exact ⟨p,e.symm⟩) ?_
  have e9a := ta _ _ e9
  walk_at "r"
  have hCl : C.length ≤ 100 := by
    have := congrArg List.length bC
    rw [List.length_map,List.length_map] at this
    omega
  refine zG e9a (by rw [List.length_map]; omega) fun Hb xb eb => ?_
  have T8b : Same H8 Hb := fun b o e => xb _ _ (T8a _ _ e) (zf e nr)
  have hAb : ∀ c ∈ L,c.At Hb := fun c hc => (hA8 c hc).same T8b
  walk_at "r"
  refine yI (tl := []) (T8b _ _ hl8) hAb l6 (by rw [pnil]; exact T8b _ _ epl8) plen hd64 (hrun8.same T8b) hwalk (.inl ⟨rfl,fun rc Cc Hc sc nc ec aCc bCc => ?_⟩)
  rw [hs] at bCc
  have T8c := T8b.trans sc
  walk_at "r"
  refine ut ec (T8c _ _ edu8) aCc (fun c hc => (hAd8 c hc).same T8c) (bCc.trans bdu.symm) ?_
  walk_at "r"
  refine zw (by simp) fun ne' Hd nd td yd => ?_
  have T8d := T8c.trans td
  walk_at "r"
  refine yI (ps := []) (tl := []) (es := []) (T8d _ _ hl8) (fun c hc => (hA8 c hc).same T8d) l6 yd (by simp) hd64 ⟨rfl,fun i p x h => by simp at h⟩ (fun i x h => by simp at h) (.inl ⟨rfl,fun re Ce He se ne'' ee aCe bCe => ?_⟩)
  have T8e := T8d.trans se
  walk_at "r"
  refine ut ee (T8e _ _ hl8) aCe (fun c hc => (hA8 c hc).same T8e) (bCe.trans st_b) ?_
  have T3e := z38.trans T8e
  walk_at "r"
  refine wW ?_
  walk_at "r"
  obtain ⟨w4,hw4,w40⟩ : ∃ w4 : Int,(3 + if (!tn) = true then 1 else 0) = w4 ∧ (w4 = 3 ∨ (w4 = 4 ∧ tn = false)) := by
    cases tn with
    | true => exact ⟨_,rfl,.inl rfl⟩
    | false => exact ⟨_,rfl,.inr ⟨rfl,rfl⟩⟩
  rw [hw4]
  refine ⟨w4,rfl,by omega,by omega,xc (lo := 0) (n := w4.toNat) (fun i σ H' => ∃ v,σ = [some (.ref a),some (.int d),some (.ref qa),some (.ref l),some (.bl tn),some (.ref pl),some (.ref sl),some (.ref A),some (.ref du),some (.ref hd),some (.ref r),v] ∧ Same He H') ⟨_,rfl,Same.refl _⟩ ?_ ?_⟩
  · rintro i σ H' hi ⟨v,rfl,s'⟩
    have T3' := T3e.trans s'
    walk_at "r"
    refine yo (T3'.seq hS3) (by decide) hbd fun c4 hc4 => ?_
    walk_at "r"
    refine vR (cs := cs) (d := d) (tn := tn) (L := L) hc4 (T3' _ _ epl) (T3' _ _ esl) (hrun.same T3') el30 hssl (fun j t hj => (hst j t hj).same T3') ?_ fun rs p C k G t y hk hbad hdue => ?_
    · rcases w40 with h | ⟨h,h'⟩
      · omega
      · by_cases c : i = 3
        · exact .inr (.inr (.inr ⟨by omega,h'⟩))
        · omega
    walk_at "r"
    refine vh (ps := ps.take k) (rs := ps.drop k) (es := es.take k) ((T3'.trans t) _ _ hl3) (fun c hc => (hA3 c hc).same (T3'.trans t)) l6 y (by rw [List.length_take]; omega) hd64 (BZ ((hrun.same T3').same t) k) (A1 hwalk k) hbad hdue fun G2 t2 => ?_
    walk_at "r"
    exact ⟨_,rfl,(s'.trans t).trans t2⟩
  rintro σ H' ⟨v,rfl,s'⟩
  walk_at "r"
  exact q _
end
end Bk
noncomputable section
set_option linter.all false
namespace Hd
open PySem PySem.W PySem.Calls PyProof.Rows
abbrev lf0 : Life := @PySem.Life.mk (@List.nil.{0} @Nat) (@List.nil.{0} @Nat) (@List.nil.{0} @Nat) (@OfNat.ofNat.{0} @Nat (nat_lit 0) (@instOfNatNat (nat_lit 0))) (@List.nil.{0} (@Prod.{0,0} @Nat @Nat)) (@List.nil.{0} @Nat) @Bool.false (@List.toArray.{0} @Nat (@List.nil.{0} @Nat)) (@List.nil.{0} @Nat) (@OfNat.ofNat.{0} @Nat (nat_lit 0) (@instOfNatNat (nat_lit 0))) @Bool.false @Bool.false @Bool.false (@OfNat.ofNat.{0} @Int (nat_lit 0) (@instOfNat (nat_lit 0))) (@List.cons.{0} @Int (@OfNat.ofNat.{0} @Int (nat_lit 2000) (@instOfNat (nat_lit 2000))) (@List.cons.{0} @Int (@OfNat.ofNat.{0} @Int (nat_lit 10) (@instOfNat (nat_lit 10))) (@List.cons.{0} @Int (@OfNat.ofNat.{0} @Int (nat_lit 10) (@instOfNat (nat_lit 10))) (@List.nil.{0} @Int)))) @Bool.false (@OfNat.ofNat.{0} @Nat (nat_lit 0) (@instOfNatNat (nat_lit 0))) @Bool.true (@List.nil.{0} @Nat) (@List.nil.{0} @Nat) (@OfNat.ofNat.{0} @Nat (nat_lit 0) (@instOfNatNat (nat_lit 0))) @Bool.false
abbrev dr1 : Drawn := @PySem.Drawn.mk (@OfNat.ofNat.{0} @Nat (nat_lit 0) (@instOfNatNat (nat_lit 0))) (@OfNat.ofNat.{0} @Nat (nat_lit 0) (@instOfNatNat (nat_lit 0))) (@OfNat.ofNat.{0} @Nat (nat_lit 0) (@instOfNatNat (nat_lit 0))) (@OfNat.ofNat.{0} @Nat (nat_lit 0) (@instOfNatNat (nat_lit 0)))
abbrev p : Program := PySem.Challenge.pw_boardglue_k34_plans_walked
def top (i : Nat) : Stmt := p.main.body.getD i (.Pass ⟨0,0,0,0⟩)
def sub (s : Stmt) (j : Nat) : Stmt := match s with | .ClassDef (body := b) .. => b.getD j (.Pass ⟨0,0,0,0⟩) | _ => s
def fn (x q : Str) (s : Stmt) (g : Addr) (cl : List (Str × Addr)) (dV kV doc pm : Value) (an : Option Addr) (cd ct : Value) (bl : Addr) : FuncData := { name := x,qualname := q,params := L2.defArgs s,body := .stmts (L2.defBody s),scope := L2.defScope s,globals := g,closure := cl,defaults := dV,kwdefaults := kV,doc := doc,pyModule := pm,annotations := an,code := cd,closureTuple := ct,builtins := bl }
def z0 : Value := .int 0 0
def cp (n : Tok) : Value := .str "/claim/cut.py" n
def co (a : Array Value) : Obj := ⟨.type "code",none,.fields a,#[]⟩
def fo (f : FuncData) : Obj := ⟨.type "function",none,.func f,#[]⟩
def en (P : Params) (x : String) (t : Tok) (v : Value) : DictEntry := ⟨PyData.keyHash P x,.str x t,v⟩
def env : Env := { scope := p.main.scope,locals := mainNs,globals := mainNs,cells := [],code := (.ref 13),frame := some 14 }
abbrev b : List Stmt := behindTheImports p
abbrev cE : Code := .body b env
abbrev q : Pos := ⟨0,0,0,0⟩
abbrev B : List Frame := [topFrame q]
abbrev m0 : Nat := nat_lit 11
abbrev ann : Option Value := (some (.ref 6))
def o0 : Obj := ⟨(.type "tuple"),none,(.seq #[] 0),#[]⟩
def o1 : Obj := ⟨.none,none,(.fields #[]),#[]⟩
def o2 : Obj := co #[(.str "<module>" 182),(.str "<module>" 183),(cp 184),(.int (1) 0),z0,z0,z0,z0,(.ref 11),(.bool false),(.int (181) 0),(.ref 12),.none,.none,.none,.none,(.int (185) 0),(.int (1) 0),(cp 186)]
def o3 : Obj := ⟨(.type "frame"),none,.plain,#[(some (.ref 13)),(some (.ref 3)),(some (.ref 3)),none,(some (.str "__main__" 164)),none,(some (.ref 0))]⟩
def Ha (P : Params) : Heap := ⟨⟨[boot_o_0 P,boot_o_1 P,boot_o_2 P,boot_o_3 P,boot_o_4 P,boot_o_5 P,boot_o_6 P,boot_o_7 P,boot_o_8 P,boot_o_9 P,boot_o_10 P,o0,o1,o2,o3]⟩,lf0⟩
def T0 (P : Params) : BT := (.node (boot_o_0 P) (.node (boot_o_1 P) (.node (boot_o_3 P) (.node (boot_o_7 P) .nil .nil) (.node (o0) .nil .nil)) (.node (boot_o_5 P) (.node (boot_o_9 P) .nil .nil) (.node (o2) .nil .nil))) (.node (boot_o_2 P) (.node (boot_o_4 P) (.node (boot_o_8 P) .nil .nil) (.node (o1) .nil .nil)) (.node (boot_o_6 P) (.node (boot_o_10 P) .nil .nil) (.node (o3) .nil .nil))))
theorem pre' (w : World) : (fun os => PySem.W.Fast.tw15667345088766844465 PySem.W.Fast.tw14364793385576792824 p w m0 ann (nat_lit 12) (⟨boot_heap w.params,⟨[]⟩,boot_drawn,boot_toks,os⟩ : Shared) (PySem.W.topStub p)) = fun os => some ((⟨Ha w.params,⟨[]⟩,dr1,nat_lit 187,os⟩ : Shared),Thread.mk (PySem.W.Fast.tw11892475500146522536 PySem.W.Fast.tw14364793385576792824 cE) cE ⟨0,0,0,0⟩ B) := by kernel_rfl
theorem pre (w : World) (os : OsState) : topGo treeTable p w m0 ann (nat_lit 12) (⟨boot_heap w.params,⟨[]⟩,boot_drawn,boot_toks,os⟩ : Shared) (topStub p) = some ((⟨Ha w.params,⟨[]⟩,dr1,nat_lit 187,os⟩ : Shared),Thread.mk (denote treeTable cE) cE ⟨0,0,0,0⟩ B) := by
  rw [PySem.W.Fast.te15667345088766844465,PySem.W.Fast.te14364793385576792824,PySem.W.Fast.te11892475500146522536]
  exact congrFun (pre' w) os
theorem blk' (w : World) : (fun os => PySem.W.Fast.tw14374325043358763698 PySem.W.Fast.tw14364793385576792824 p w m0 ann (nat_lit 1) (nat_lit 1) (⟨Ha w.params,⟨[]⟩,dr1,nat_lit 187,os⟩ : Shared) (PySem.W.blockOf b env cE ⟨0,0,0,0⟩ B)) = fun os => some (Flow.next,SharedT.abs (⟨T0 w.params,nat_lit 15,lf0,⟨[]⟩,dr1,nat_lit 187,os⟩ : SharedT),cE,⟨0,0,0,0⟩) := by kernel_rfl
theorem blk (w : World) (os : OsState) : segRun treeTable p w m0 ann (nat_lit 1) (nat_lit 1) (⟨Ha w.params,⟨[]⟩,dr1,nat_lit 187,os⟩ : Shared) (blockOf b env cE ⟨0,0,0,0⟩ B) = some (Flow.next,SharedT.abs (⟨T0 w.params,nat_lit 15,lf0,⟨[]⟩,dr1,nat_lit 187,os⟩ : SharedT),cE,⟨0,0,0,0⟩) := by
  rw [PySem.W.Fast.te14374325043358763698,PySem.W.Fast.te14364793385576792824]
  exact congrFun (blk' w) os
def o4 (P : Params) : Obj := ⟨(.type "dict"),none,(.dict #[en P "__name__" 165 (.str "law_boardglue_k34_plans_walked" 656),en P "__doc__" 166 .none,en P "__package__" 167 .none,en P "__loader__" 168 (.builtin "__main__.__loader__#opaque"),en P "__spec__" 169 .none,en P "__annotations__" 170 (.ref 6),en P "__builtins__" 171 (.ref 4),en P "__file__" 173 (cp 172),en P "__cached__" 174 .none,en P "_wall" 193 (.ref 21),en P "YardError" 213 (.ref 31),en P "NoLength" 229 (.ref 44),en P "NoBoard" 245 (.ref 56),en P "NoText" 261 (.ref 68),en P "NoDeed" 277 (.ref 80),en P "NoName" 293 (.ref 92),en P "Grain" 309 (.ref 104),en P "Unfit" 325 (.ref 116),en P "TooMany" 341 (.ref 128),en P "NoRow" 357 (.ref 140),en P "Apart" 373 (.ref 152),en P "NOUGHT" 379 (.ref 155),en P "GREAT_BITS" 381 (.int (8192) 380),en P "HEAD_BITS" 383 (.int (64) 382),en P "is_whole" 390 (.ref 162),en P "common_divisor" 400 (.ref 169),en P "far_rests" 410 (.ref 176),en P "sure_steps" 423 (.ref 183),en P "with_sign_of" 431 (.ref 190),en P "length" 443 (.ref 198),en P "added" 457 (.ref 205),en P "taken" 465 (.ref 212),en P "is_above_nought" 474 (.ref 219),en P "under" 483 (.ref 226),en P "is_length" 491 (.ref 231),en P "CUTS" 496 (.ref 232),en P "GLUINGS" 499 (.ref 233),en P "SHIFTS" 502 (.ref 234),en P "TURN" 504 (.str "turn" 503),en P "is_deed" 511 (.ref 241),en P "names_taken" 518 (.ref 248),en P "turned" 525 (.ref 255),en P "cut_across" 534 (.ref 262),en P "glued_beside" 542 (.ref 269),en P "stacked" 552 (.ref 276),en P "Yard" 631 (.ref 333),en P "yard_behind" 645 (.ref 344),en P "walked" 655 (.ref 352),en P "_law_cell" 665 (.ref 359),en P "_law_whole" 672 (.ref 366),en P "_law_great" 681 (.ref 373),en P "_law_digits" 692 (.ref 380),en P "_law_divisor" 700 (.ref 387),en P "_law_lowest" 710 (.ref 394),en P "_law_sign" 719 (.ref 401),en P "_law_plus" 730 (.ref 408),en P "_law_share" 739 (.ref 415),en P "_law_below" 749 (.ref 422),en P "_law_root" 755 (.ref 427),en P "_law_side" 769 (.ref 434),en P "_law_heap" 775 (.ref 439),en P "_law_new" 785 (.ref 446),en P "_law_at" 797 (.ref 453),en P "_law_deed" 803 (.ref 458),en P "_law_done" 809 (.ref 463),en P "_law_begin" 818 (.ref 470),en P "_law_is_length" 825 (.ref 477),en P "_law_is_heap" 834 (.ref 484),en P "_law_alone" 842 (.ref 491),en P "_law_plan" 859 (.ref 498),en P "_law_refused" 872 (.ref 505),en P "_law_spoilt" 878 (.ref 510),en P "law" 884 (.ref 515)] 73),#[]⟩
def o5 : Obj := ⟨.none,none,(.fields #[(.int (1) 0),z0,(.ref 20),(.int (5) 0),z0,(.ref 27),(.int (7) 0),z0,(.ref 40),(.int (9) 0),z0,(.ref 52),(.int (11) 0),z0,(.ref 64),(.int (13) 0),z0,(.ref 76),(.int (15) 0),z0,(.ref 88),(.int (17) 0),z0,(.ref 100),(.int (19) 0),z0,(.ref 112),(.int (21) 0),z0,(.ref 124),(.int (23) 0),z0,(.ref 136),(.int (25) 0),z0,(.ref 148),(.int (31) 0),z0,(.ref 161),(.int (33) 0),z0,(.ref 168),(.int (45) 0),z0,(.ref 175),(.int (51) 0),z0,(.ref 182),(.int (65) 0),z0,(.ref 189),(.int (67) 0),z0,(.ref 197),(.int (74) 0),z0,(.ref 204),(.int (82) 0),z0,(.ref 211),(.int (84) 0),z0,(.ref 218),(.int (92) 0),z0,(.ref 225),(.int (95) 0),z0,(.ref 230),(.int (106) 0),z0,(.ref 240),(.int (118) 0),z0,(.ref 247),(.int (120) 0),z0,(.ref 254),(.int (122) 0),z0,(.ref 261),(.int (126) 0),z0,(.ref 268),(.int (130) 0),z0,(.ref 275),(.int (134) 0),z0,(.ref 282),(.int (193) 0),z0,(.ref 343),(.int (198) 0),z0,(.ref 351),(.int (201) 0),z0,(.ref 358),(.int (205) 0),z0,(.ref 365),(.int (207) 0),z0,(.ref 372),(.int (211) 0),z0,(.ref 379),(.int (221) 0),z0,(.ref 386),(.int (227) 0),z0,(.ref 393),(.int (232) 0),z0,(.ref 400),(.int (240) 0),z0,(.ref 407),(.int (244) 0),z0,(.ref 414),(.int (246) 0),z0,(.ref 421),(.int (249) 0),z0,(.ref 426),(.int (252) 0),z0,(.ref 433),(.int (265) 0),z0,(.ref 438),(.int (279) 0),z0,(.ref 445),(.int (294) 0),z0,(.ref 452),(.int (300) 0),z0,(.ref 457),(.int (313) 0),z0,(.ref 462),(.int (324) 0),z0,(.ref 469),(.int (329) 0),z0,(.ref 476),(.int (333) 0),z0,(.ref 483),(.int (340) 0),z0,(.ref 490),(.int (346) 0),z0,(.ref 497),(.int (358) 0),z0,(.ref 504),(.int (370) 0),z0,(.ref 509),(.int (378) 0),z0,(.ref 514)]),#[]⟩
def o6 : Obj := ⟨(.type "tuple"),none,(.seq #[(.str "k" 190)] 0),#[]⟩
def o7 : Obj := ⟨.none,none,(.func (fn "_wall" "_wall" (top 0) 0 [] .none .none .none .none none .none .none 0)),#[]⟩
def o8 : Obj := co #[(.str "_wall" 187),(.str "_wall" 188),(cp 189),(.int (1) 0),(.int (1) 0),z0,z0,(.int (3) 0),(.ref 15),(.bool true),(.int (181) 0),(.ref 16),.none,(.ref 17),(.ref 18),(.ref 19),(.int (191) 0),(.int (1) 0),(cp 192)]
def o9 : Obj := fo (fn "_wall" "_wall" (top 0) 3 [] .none .none .none (.str "__main__" 164) none (.ref 20) .none 0)
def o10 : Obj := ⟨(.type "tuple"),none,(.seq #[(.type "ValueError")] 0),#[]⟩
def o11 : Obj := ⟨(.type "builtin_function_or_method"),none,(.fields #[(.builtin "type.__prepare__"),(.type "type")]),#[]⟩
def o12 (P : Params) : Obj := ⟨(.type "dict"),none,(.dict #[en P "__module__" 203 (.str "boardglue.errors" 194),en P "__qualname__" 205 (.str "YardError" 204),en P "__firstlineno__" 207 (.int (5) 206),en P "__static_attributes__" 208 (.ref 29)] 4),#[]⟩
def o13 : Obj := co #[(.str "YardError" 198),(.str "YardError" 199),(cp 200),(.int (5) 0),z0,z0,z0,z0,(.ref 25),(.bool false),(.int (181) 0),(.ref 26),.none,.none,.none,.none,(.int (201) 0),(.int (5) 0),(cp 202)]
def o14 : Obj := ⟨(.type "frame"),none,.plain,#[(some (.ref 27)),(some (.ref 3)),(some (.ref 24)),none,(some (.str "boardglue.errors" 194)),none,(some (.ref 0))]⟩
def o15 (P : Params) : Obj := ⟨(.type "dict"),none,(.dict #[en P "__module__" 203 (.str "boardglue.errors" 194),en P "__firstlineno__" 207 (.int (5) 206),en P "__static_attributes__" 208 (.ref 29),en P "__weakref__" 210 (.ref 32),en P "__doc__" 211 .none] 3),#[]⟩
def o16 : Obj := ⟨(.type "type"),none,(.cls ⟨"YardError",[(.type "ValueError")],[(.ref 31),(.type "ValueError"),(.type "Exception"),(.type "BaseException"),(.type "object")],30,"YardError",true,[],[(.ref 44),(.ref 56),(.ref 68),(.ref 80),(.ref 92),(.ref 104),(.ref 116),(.ref 128),(.ref 140),(.ref 152)],false,none,false⟩),#[(some (.ref 22)),none,(some (.str "YardError" 196)),(some (.str "YardError" 204)),(some (.builtin "ValueError.__new__")),(some (.bool true))]⟩
def o17 : Obj := ⟨(.type "getset_descriptor"),none,(.fields #[(.str "__weakref__" 209),(.ref 31),(.builtin "ExceptionGroup.__weakref__"),.none]),#[]⟩
def o18 : Obj := ⟨(.type "super"),none,(.fields #[(.ref 31),(.ref 31),(.ref 31)]),#[]⟩
def o19 : Obj := ⟨(.type "builtin_function_or_method"),none,(.fields #[(.builtin "object.__init_subclass__"),(.ref 31)]),#[]⟩
def o20 : Obj := ⟨(.type "tuple"),none,(.seq #[(.ref 31)] 0),#[]⟩
def o21 (P : Params) : Obj := ⟨(.type "dict"),none,(.dict #[en P "__module__" 221 (.str "boardglue.errors" 194),en P "__qualname__" 223 (.str "NoLength" 222),en P "__firstlineno__" 225 (.int (7) 224),en P "__static_attributes__" 226 (.ref 42)] 4),#[]⟩
def o22 : Obj := co #[(.str "NoLength" 216),(.str "NoLength" 217),(cp 218),(.int (7) 0),z0,z0,z0,z0,(.ref 38),(.bool false),(.int (181) 0),(.ref 39),.none,.none,.none,.none,(.int (219) 0),(.int (7) 0),(cp 220)]
def o23 : Obj := ⟨(.type "frame"),none,.plain,#[(some (.ref 40)),(some (.ref 3)),(some (.ref 37)),none,(some (.str "boardglue.errors" 194)),none,(some (.ref 0))]⟩
def o24 (P : Params) : Obj := ⟨(.type "dict"),none,(.dict #[en P "__module__" 221 (.str "boardglue.errors" 194),en P "__firstlineno__" 225 (.int (7) 224),en P "__static_attributes__" 226 (.ref 42),en P "__doc__" 227 .none] 2),#[]⟩
def o25 : Obj := ⟨(.type "type"),none,(.cls ⟨"NoLength",[(.ref 31)],[(.ref 44),(.ref 31),(.type "ValueError"),(.type "Exception"),(.type "BaseException"),(.type "object")],43,"NoLength",true,[],[],false,none,false⟩),#[(some (.ref 35)),none,(some (.str "NoLength" 214)),(some (.str "NoLength" 222)),(some (.builtin "ValueError.__new__")),(some (.bool true))]⟩
def o26 : Obj := ⟨(.type "super"),none,(.fields #[(.ref 44),(.ref 44),(.ref 44)]),#[]⟩
def o27 : Obj := ⟨(.type "builtin_function_or_method"),none,(.fields #[(.builtin "object.__init_subclass__"),(.ref 44)]),#[]⟩
def o28 (P : Params) : Obj := ⟨(.type "dict"),none,(.dict #[en P "__module__" 237 (.str "boardglue.errors" 194),en P "__qualname__" 239 (.str "NoBoard" 238),en P "__firstlineno__" 241 (.int (9) 240),en P "__static_attributes__" 242 (.ref 54)] 4),#[]⟩
def o29 : Obj := co #[(.str "NoBoard" 232),(.str "NoBoard" 233),(cp 234),(.int (9) 0),z0,z0,z0,z0,(.ref 50),(.bool false),(.int (181) 0),(.ref 51),.none,.none,.none,.none,(.int (235) 0),(.int (9) 0),(cp 236)]
def o30 : Obj := ⟨(.type "frame"),none,.plain,#[(some (.ref 52)),(some (.ref 3)),(some (.ref 49)),none,(some (.str "boardglue.errors" 194)),none,(some (.ref 0))]⟩
def o31 (P : Params) : Obj := ⟨(.type "dict"),none,(.dict #[en P "__module__" 237 (.str "boardglue.errors" 194),en P "__firstlineno__" 241 (.int (9) 240),en P "__static_attributes__" 242 (.ref 54),en P "__doc__" 243 .none] 2),#[]⟩
def o32 : Obj := ⟨(.type "type"),none,(.cls ⟨"NoBoard",[(.ref 31)],[(.ref 56),(.ref 31),(.type "ValueError"),(.type "Exception"),(.type "BaseException"),(.type "object")],55,"NoBoard",true,[],[],false,none,false⟩),#[(some (.ref 47)),none,(some (.str "NoBoard" 230)),(some (.str "NoBoard" 238)),(some (.builtin "ValueError.__new__")),(some (.bool true))]⟩
def o33 : Obj := ⟨(.type "super"),none,(.fields #[(.ref 56),(.ref 56),(.ref 56)]),#[]⟩
def o34 : Obj := ⟨(.type "builtin_function_or_method"),none,(.fields #[(.builtin "object.__init_subclass__"),(.ref 56)]),#[]⟩
def o35 (P : Params) : Obj := ⟨(.type "dict"),none,(.dict #[en P "__module__" 253 (.str "boardglue.errors" 194),en P "__qualname__" 255 (.str "NoText" 254),en P "__firstlineno__" 257 (.int (11) 256),en P "__static_attributes__" 258 (.ref 66)] 4),#[]⟩
def o36 : Obj := co #[(.str "NoText" 248),(.str "NoText" 249),(cp 250),(.int (11) 0),z0,z0,z0,z0,(.ref 62),(.bool false),(.int (181) 0),(.ref 63),.none,.none,.none,.none,(.int (251) 0),(.int (11) 0),(cp 252)]
def o37 : Obj := ⟨(.type "frame"),none,.plain,#[(some (.ref 64)),(some (.ref 3)),(some (.ref 61)),none,(some (.str "boardglue.errors" 194)),none,(some (.ref 0))]⟩
def o38 (P : Params) : Obj := ⟨(.type "dict"),none,(.dict #[en P "__module__" 253 (.str "boardglue.errors" 194),en P "__firstlineno__" 257 (.int (11) 256),en P "__static_attributes__" 258 (.ref 66),en P "__doc__" 259 .none] 2),#[]⟩
def o39 : Obj := ⟨(.type "type"),none,(.cls ⟨"NoText",[(.ref 31)],[(.ref 68),(.ref 31),(.type "ValueError"),(.type "Exception"),(.type "BaseException"),(.type "object")],67,"NoText",true,[],[],false,none,false⟩),#[(some (.ref 59)),none,(some (.str "NoText" 246)),(some (.str "NoText" 254)),(some (.builtin "ValueError.__new__")),(some (.bool true))]⟩
def o40 : Obj := ⟨(.type "super"),none,(.fields #[(.ref 68),(.ref 68),(.ref 68)]),#[]⟩
def o41 : Obj := ⟨(.type "builtin_function_or_method"),none,(.fields #[(.builtin "object.__init_subclass__"),(.ref 68)]),#[]⟩
def o42 (P : Params) : Obj := ⟨(.type "dict"),none,(.dict #[en P "__module__" 269 (.str "boardglue.errors" 194),en P "__qualname__" 271 (.str "NoDeed" 270),en P "__firstlineno__" 273 (.int (13) 272),en P "__static_attributes__" 274 (.ref 78)] 4),#[]⟩
def o43 : Obj := co #[(.str "NoDeed" 264),(.str "NoDeed" 265),(cp 266),(.int (13) 0),z0,z0,z0,z0,(.ref 74),(.bool false),(.int (181) 0),(.ref 75),.none,.none,.none,.none,(.int (267) 0),(.int (13) 0),(cp 268)]
def o44 : Obj := ⟨(.type "frame"),none,.plain,#[(some (.ref 76)),(some (.ref 3)),(some (.ref 73)),none,(some (.str "boardglue.errors" 194)),none,(some (.ref 0))]⟩
def o45 (P : Params) : Obj := ⟨(.type "dict"),none,(.dict #[en P "__module__" 269 (.str "boardglue.errors" 194),en P "__firstlineno__" 273 (.int (13) 272),en P "__static_attributes__" 274 (.ref 78),en P "__doc__" 275 .none] 2),#[]⟩
def o46 : Obj := ⟨(.type "type"),none,(.cls ⟨"NoDeed",[(.ref 31)],[(.ref 80),(.ref 31),(.type "ValueError"),(.type "Exception"),(.type "BaseException"),(.type "object")],79,"NoDeed",true,[],[],false,none,false⟩),#[(some (.ref 71)),none,(some (.str "NoDeed" 262)),(some (.str "NoDeed" 270)),(some (.builtin "ValueError.__new__")),(some (.bool true))]⟩
def o47 : Obj := ⟨(.type "super"),none,(.fields #[(.ref 80),(.ref 80),(.ref 80)]),#[]⟩
def o48 : Obj := ⟨(.type "builtin_function_or_method"),none,(.fields #[(.builtin "object.__init_subclass__"),(.ref 80)]),#[]⟩
def o49 (P : Params) : Obj := ⟨(.type "dict"),none,(.dict #[en P "__module__" 285 (.str "boardglue.errors" 194),en P "__qualname__" 287 (.str "NoName" 286),en P "__firstlineno__" 289 (.int (15) 288),en P "__static_attributes__" 290 (.ref 90)] 4),#[]⟩
def o50 : Obj := co #[(.str "NoName" 280),(.str "NoName" 281),(cp 282),(.int (15) 0),z0,z0,z0,z0,(.ref 86),(.bool false),(.int (181) 0),(.ref 87),.none,.none,.none,.none,(.int (283) 0),(.int (15) 0),(cp 284)]
def o51 : Obj := ⟨(.type "frame"),none,.plain,#[(some (.ref 88)),(some (.ref 3)),(some (.ref 85)),none,(some (.str "boardglue.errors" 194)),none,(some (.ref 0))]⟩
def o52 (P : Params) : Obj := ⟨(.type "dict"),none,(.dict #[en P "__module__" 285 (.str "boardglue.errors" 194),en P "__firstlineno__" 289 (.int (15) 288),en P "__static_attributes__" 290 (.ref 90),en P "__doc__" 291 .none] 2),#[]⟩
def o53 : Obj := ⟨(.type "type"),none,(.cls ⟨"NoName",[(.ref 31)],[(.ref 92),(.ref 31),(.type "ValueError"),(.type "Exception"),(.type "BaseException"),(.type "object")],91,"NoName",true,[],[],false,none,false⟩),#[(some (.ref 83)),none,(some (.str "NoName" 278)),(some (.str "NoName" 286)),(some (.builtin "ValueError.__new__")),(some (.bool true))]⟩
def o54 : Obj := ⟨(.type "super"),none,(.fields #[(.ref 92),(.ref 92),(.ref 92)]),#[]⟩
def o55 : Obj := ⟨(.type "builtin_function_or_method"),none,(.fields #[(.builtin "object.__init_subclass__"),(.ref 92)]),#[]⟩
def o56 (P : Params) : Obj := ⟨(.type "dict"),none,(.dict #[en P "__module__" 301 (.str "boardglue.errors" 194),en P "__qualname__" 303 (.str "Grain" 302),en P "__firstlineno__" 305 (.int (17) 304),en P "__static_attributes__" 306 (.ref 102)] 4),#[]⟩
def o57 : Obj := co #[(.str "Grain" 296),(.str "Grain" 297),(cp 298),(.int (17) 0),z0,z0,z0,z0,(.ref 98),(.bool false),(.int (181) 0),(.ref 99),.none,.none,.none,.none,(.int (299) 0),(.int (17) 0),(cp 300)]
def o58 : Obj := ⟨(.type "frame"),none,.plain,#[(some (.ref 100)),(some (.ref 3)),(some (.ref 97)),none,(some (.str "boardglue.errors" 194)),none,(some (.ref 0))]⟩
def o59 (P : Params) : Obj := ⟨(.type "dict"),none,(.dict #[en P "__module__" 301 (.str "boardglue.errors" 194),en P "__firstlineno__" 305 (.int (17) 304),en P "__static_attributes__" 306 (.ref 102),en P "__doc__" 307 .none] 2),#[]⟩
def o60 : Obj := ⟨(.type "type"),none,(.cls ⟨"Grain",[(.ref 31)],[(.ref 104),(.ref 31),(.type "ValueError"),(.type "Exception"),(.type "BaseException"),(.type "object")],103,"Grain",true,[],[],false,none,false⟩),#[(some (.ref 95)),none,(some (.str "Grain" 294)),(some (.str "Grain" 302)),(some (.builtin "ValueError.__new__")),(some (.bool true))]⟩
def o61 : Obj := ⟨(.type "super"),none,(.fields #[(.ref 104),(.ref 104),(.ref 104)]),#[]⟩
def o62 : Obj := ⟨(.type "builtin_function_or_method"),none,(.fields #[(.builtin "object.__init_subclass__"),(.ref 104)]),#[]⟩
def o63 (P : Params) : Obj := ⟨(.type "dict"),none,(.dict #[en P "__module__" 317 (.str "boardglue.errors" 194),en P "__qualname__" 319 (.str "Unfit" 318),en P "__firstlineno__" 321 (.int (19) 320),en P "__static_attributes__" 322 (.ref 114)] 4),#[]⟩
def o64 : Obj := co #[(.str "Unfit" 312),(.str "Unfit" 313),(cp 314),(.int (19) 0),z0,z0,z0,z0,(.ref 110),(.bool false),(.int (181) 0),(.ref 111),.none,.none,.none,.none,(.int (315) 0),(.int (19) 0),(cp 316)]
def o65 : Obj := ⟨(.type "frame"),none,.plain,#[(some (.ref 112)),(some (.ref 3)),(some (.ref 109)),none,(some (.str "boardglue.errors" 194)),none,(some (.ref 0))]⟩
def o66 (P : Params) : Obj := ⟨(.type "dict"),none,(.dict #[en P "__module__" 317 (.str "boardglue.errors" 194),en P "__firstlineno__" 321 (.int (19) 320),en P "__static_attributes__" 322 (.ref 114),en P "__doc__" 323 .none] 2),#[]⟩
def o67 : Obj := ⟨(.type "type"),none,(.cls ⟨"Unfit",[(.ref 31)],[(.ref 116),(.ref 31),(.type "ValueError"),(.type "Exception"),(.type "BaseException"),(.type "object")],115,"Unfit",true,[],[],false,none,false⟩),#[(some (.ref 107)),none,(some (.str "Unfit" 310)),(some (.str "Unfit" 318)),(some (.builtin "ValueError.__new__")),(some (.bool true))]⟩
def o68 : Obj := ⟨(.type "super"),none,(.fields #[(.ref 116),(.ref 116),(.ref 116)]),#[]⟩
def o69 : Obj := ⟨(.type "builtin_function_or_method"),none,(.fields #[(.builtin "object.__init_subclass__"),(.ref 116)]),#[]⟩
def o70 (P : Params) : Obj := ⟨(.type "dict"),none,(.dict #[en P "__module__" 333 (.str "boardglue.errors" 194),en P "__qualname__" 335 (.str "TooMany" 334),en P "__firstlineno__" 337 (.int (21) 336),en P "__static_attributes__" 338 (.ref 126)] 4),#[]⟩
def o71 : Obj := co #[(.str "TooMany" 328),(.str "TooMany" 329),(cp 330),(.int (21) 0),z0,z0,z0,z0,(.ref 122),(.bool false),(.int (181) 0),(.ref 123),.none,.none,.none,.none,(.int (331) 0),(.int (21) 0),(cp 332)]
def o72 : Obj := ⟨(.type "frame"),none,.plain,#[(some (.ref 124)),(some (.ref 3)),(some (.ref 121)),none,(some (.str "boardglue.errors" 194)),none,(some (.ref 0))]⟩
def o73 (P : Params) : Obj := ⟨(.type "dict"),none,(.dict #[en P "__module__" 333 (.str "boardglue.errors" 194),en P "__firstlineno__" 337 (.int (21) 336),en P "__static_attributes__" 338 (.ref 126),en P "__doc__" 339 .none] 2),#[]⟩
def o74 : Obj := ⟨(.type "type"),none,(.cls ⟨"TooMany",[(.ref 31)],[(.ref 128),(.ref 31),(.type "ValueError"),(.type "Exception"),(.type "BaseException"),(.type "object")],127,"TooMany",true,[],[],false,none,false⟩),#[(some (.ref 119)),none,(some (.str "TooMany" 326)),(some (.str "TooMany" 334)),(some (.builtin "ValueError.__new__")),(some (.bool true))]⟩
def o75 : Obj := ⟨(.type "super"),none,(.fields #[(.ref 128),(.ref 128),(.ref 128)]),#[]⟩
def o76 : Obj := ⟨(.type "builtin_function_or_method"),none,(.fields #[(.builtin "object.__init_subclass__"),(.ref 128)]),#[]⟩
def o77 (P : Params) : Obj := ⟨(.type "dict"),none,(.dict #[en P "__module__" 349 (.str "boardglue.errors" 194),en P "__qualname__" 351 (.str "NoRow" 350),en P "__firstlineno__" 353 (.int (23) 352),en P "__static_attributes__" 354 (.ref 138)] 4),#[]⟩
def o78 : Obj := co #[(.str "NoRow" 344),(.str "NoRow" 345),(cp 346),(.int (23) 0),z0,z0,z0,z0,(.ref 134),(.bool false),(.int (181) 0),(.ref 135),.none,.none,.none,.none,(.int (347) 0),(.int (23) 0),(cp 348)]
def o79 : Obj := ⟨(.type "frame"),none,.plain,#[(some (.ref 136)),(some (.ref 3)),(some (.ref 133)),none,(some (.str "boardglue.errors" 194)),none,(some (.ref 0))]⟩
def o80 (P : Params) : Obj := ⟨(.type "dict"),none,(.dict #[en P "__module__" 349 (.str "boardglue.errors" 194),en P "__firstlineno__" 353 (.int (23) 352),en P "__static_attributes__" 354 (.ref 138),en P "__doc__" 355 .none] 2),#[]⟩
def o81 : Obj := ⟨(.type "type"),none,(.cls ⟨"NoRow",[(.ref 31)],[(.ref 140),(.ref 31),(.type "ValueError"),(.type "Exception"),(.type "BaseException"),(.type "object")],139,"NoRow",true,[],[],false,none,false⟩),#[(some (.ref 131)),none,(some (.str "NoRow" 342)),(some (.str "NoRow" 350)),(some (.builtin "ValueError.__new__")),(some (.bool true))]⟩
def o82 : Obj := ⟨(.type "super"),none,(.fields #[(.ref 140),(.ref 140),(.ref 140)]),#[]⟩
def o83 : Obj := ⟨(.type "builtin_function_or_method"),none,(.fields #[(.builtin "object.__init_subclass__"),(.ref 140)]),#[]⟩
def o84 (P : Params) : Obj := ⟨(.type "dict"),none,(.dict #[en P "__module__" 365 (.str "boardglue.errors" 194),en P "__qualname__" 367 (.str "Apart" 366),en P "__firstlineno__" 369 (.int (25) 368),en P "__static_attributes__" 370 (.ref 150)] 4),#[]⟩
def o85 : Obj := co #[(.str "Apart" 360),(.str "Apart" 361),(cp 362),(.int (25) 0),z0,z0,z0,z0,(.ref 146),(.bool false),(.int (181) 0),(.ref 147),.none,.none,.none,.none,(.int (363) 0),(.int (25) 0),(cp 364)]
def o86 : Obj := ⟨(.type "frame"),none,.plain,#[(some (.ref 148)),(some (.ref 3)),(some (.ref 145)),none,(some (.str "boardglue.errors" 194)),none,(some (.ref 0))]⟩
def o87 (P : Params) : Obj := ⟨(.type "dict"),none,(.dict #[en P "__module__" 365 (.str "boardglue.errors" 194),en P "__firstlineno__" 369 (.int (25) 368),en P "__static_attributes__" 370 (.ref 150),en P "__doc__" 371 .none] 2),#[]⟩
def o88 : Obj := ⟨(.type "type"),none,(.cls ⟨"Apart",[(.ref 31)],[(.ref 152),(.ref 31),(.type "ValueError"),(.type "Exception"),(.type "BaseException"),(.type "object")],151,"Apart",true,[],[],false,none,false⟩),#[(some (.ref 143)),none,(some (.str "Apart" 358)),(some (.str "Apart" 366)),(some (.builtin "ValueError.__new__")),(some (.bool true))]⟩
def o89 : Obj := ⟨(.type "super"),none,(.fields #[(.ref 152),(.ref 152),(.ref 152)]),#[]⟩
def o90 : Obj := ⟨(.type "builtin_function_or_method"),none,(.fields #[(.builtin "object.__init_subclass__"),(.ref 152)]),#[]⟩
def o91 : Obj := ⟨(.type "tuple"),none,(.seq #[(.int (0) 376),(.int (0) 377),(.int (1) 378)] 0),#[]⟩
def o92 : Obj := ⟨(.type "tuple"),none,(.seq #[(.str "thing" 387)] 0),#[]⟩
def o93 : Obj := ⟨.none,none,(.func (fn "is_whole" "is_whole" (top 17) 0 [] .none .none .none .none none .none .none 0)),#[]⟩
def o94 : Obj := co #[(.str "is_whole" 384),(.str "is_whole" 385),(cp 386),(.int (31) 0),(.int (1) 0),z0,z0,(.int (3) 0),(.ref 156),(.bool true),(.int (181) 0),(.ref 157),.none,(.ref 158),(.ref 159),(.ref 160),(.int (388) 0),(.int (31) 0),(cp 389)]
def o95 : Obj := fo (fn "is_whole" "is_whole" (top 17) 3 [] .none .none .none (.str "boardglue.lengths" 374) none (.ref 161) .none 0)
def o96 : Obj := ⟨(.type "tuple"),none,(.seq #[(.str "one" 394),(.str "other" 395),(.str "pair" 396),(.str "rest" 397)] 0),#[]⟩
def o97 : Obj := ⟨.none,none,(.func (fn "common_divisor" "common_divisor" (top 18) 0 [] .none .none .none .none none .none .none 0)),#[]⟩
def o98 : Obj := co #[(.str "common_divisor" 391),(.str "common_divisor" 392),(cp 393),(.int (33) 0),(.int (2) 0),z0,z0,(.int (3) 0),(.ref 163),(.bool true),(.int (181) 0),(.ref 164),.none,(.ref 165),(.ref 166),(.ref 167),(.int (398) 0),(.int (33) 0),(cp 399)]
def o99 : Obj := fo (fn "common_divisor" "common_divisor" (top 18) 3 [] .none .none .none (.str "boardglue.lengths" 374) none (.ref 168) .none 0)
def o100 : Obj := ⟨(.type "tuple"),none,(.seq #[(.str "one" 404),(.str "other" 405),(.str "beyond" 406),(.str "steps" 407)] 0),#[]⟩
def o101 : Obj := ⟨.none,none,(.func (fn "far_rests" "far_rests" (top 19) 0 [] .none .none .none .none none .none .none 0)),#[]⟩
def o102 : Obj := co #[(.str "far_rests" 401),(.str "far_rests" 402),(cp 403),(.int (45) 0),(.int (2) 0),z0,z0,(.int (3) 0),(.ref 170),(.bool true),(.int (181) 0),(.ref 171),.none,(.ref 172),(.ref 173),(.ref 174),(.int (408) 0),(.int (45) 0),(cp 409)]
def o103 : Obj := fo (fn "far_rests" "far_rests" (top 19) 3 [] .none .none .none (.str "boardglue.lengths" 374) none (.ref 175) .none 0)
def o104 : Obj := ⟨(.type "tuple"),none,(.seq #[(.str "one" 414),(.str "other" 415),(.str "ahead" 416),(.str "last" 417),(.str "many" 418),(.str "rest" 419),(.str "left" 420)] 0),#[]⟩
def o105 : Obj := ⟨.none,none,(.func (fn "sure_steps" "sure_steps" (top 20) 0 [] .none .none .none .none none .none .none 0)),#[]⟩
def o106 : Obj := co #[(.str "sure_steps" 411),(.str "sure_steps" 412),(cp 413),(.int (51) 0),(.int (2) 0),z0,z0,(.int (3) 0),(.ref 177),(.bool true),(.int (181) 0),(.ref 178),.none,(.ref 179),(.ref 180),(.ref 181),(.int (421) 0),(.int (51) 0),(cp 422)]
def o107 : Obj := fo (fn "sure_steps" "sure_steps" (top 20) 3 [] .none .none .none (.str "boardglue.lengths" 374) none (.ref 182) .none 0)
def o108 : Obj := ⟨(.type "tuple"),none,(.seq #[(.str "divisor" 427),(.str "bottom" 428)] 0),#[]⟩
def o109 : Obj := ⟨.none,none,(.func (fn "with_sign_of" "with_sign_of" (top 21) 0 [] .none .none .none .none none .none .none 0)),#[]⟩
def o110 : Obj := co #[(.str "with_sign_of" 424),(.str "with_sign_of" 425),(cp 426),(.int (65) 0),(.int (2) 0),z0,z0,(.int (3) 0),(.ref 184),(.bool true),(.int (181) 0),(.ref 185),.none,(.ref 186),(.ref 187),(.ref 188),(.int (429) 0),(.int (65) 0),(cp 430)]
def o111 : Obj := fo (fn "with_sign_of" "with_sign_of" (top 21) 3 [] .none .none .none (.str "boardglue.lengths" 374) none (.ref 189) .none 0)
def o112 : Obj := ⟨(.type "tuple"),none,(.seq #[(.int (0) 432),(.int (1) 433)] 0),#[]⟩
def o113 : Obj := ⟨(.type "tuple"),none,(.seq #[(.str "a" 437),(.str "b" 438),(.str "n" 439),(.str "divisor" 440)] 0),#[]⟩
def o114 : Obj := ⟨.none,none,(.func (fn "length" "length" (top 22) 0 [] .none .none .none .none none .none .none 0)),#[]⟩
def o115 : Obj := co #[(.str "length" 434),(.str "length" 435),(cp 436),(.int (67) 0),(.int (3) 0),z0,z0,(.int (3) 0),(.ref 192),(.bool true),(.int (181) 0),(.ref 193),.none,(.ref 194),(.ref 195),(.ref 196),(.int (441) 0),(.int (67) 0),(cp 442)]
def o116 : Obj := fo (fn "length" "length" (top 22) 3 [] (.ref 191) .none .none (.str "boardglue.lengths" 374) none (.ref 197) .none 0)
def o117 : Obj := ⟨(.type "tuple"),none,(.seq #[(.str "one" 447),(.str "other" 448),(.str "shared" 449),(.str "ahead" 450),(.str "behind" 451),(.str "a" 452),(.str "b" 453),(.str "left" 454)] 0),#[]⟩
def o118 : Obj := ⟨.none,none,(.func (fn "added" "added" (top 23) 0 [] .none .none .none .none none .none .none 0)),#[]⟩
def o119 : Obj := co #[(.str "added" 444),(.str "added" 445),(cp 446),(.int (74) 0),(.int (2) 0),z0,z0,(.int (3) 0),(.ref 199),(.bool true),(.int (181) 0),(.ref 200),.none,(.ref 201),(.ref 202),(.ref 203),(.int (455) 0),(.int (74) 0),(cp 456)]
def o120 : Obj := fo (fn "added" "added" (top 23) 3 [] .none .none .none (.str "boardglue.lengths" 374) none (.ref 204) .none 0)
def o121 : Obj := ⟨(.type "tuple"),none,(.seq #[(.str "one" 461),(.str "other" 462)] 0),#[]⟩
def o122 : Obj := ⟨.none,none,(.func (fn "taken" "taken" (top 24) 0 [] .none .none .none .none none .none .none 0)),#[]⟩
def o123 : Obj := co #[(.str "taken" 458),(.str "taken" 459),(cp 460),(.int (82) 0),(.int (2) 0),z0,z0,(.int (3) 0),(.ref 206),(.bool true),(.int (181) 0),(.ref 207),.none,(.ref 208),(.ref 209),(.ref 210),(.int (463) 0),(.int (82) 0),(cp 464)]
def o124 : Obj := fo (fn "taken" "taken" (top 24) 3 [] .none .none .none (.str "boardglue.lengths" 374) none (.ref 211) .none 0)
def o125 : Obj := ⟨(.type "tuple"),none,(.seq #[(.str "d" 469),(.str "a" 470),(.str "b" 471)] 0),#[]⟩
def o126 : Obj := ⟨.none,none,(.func (fn "is_above_nought" "is_above_nought" (top 25) 0 [] .none .none .none .none none .none .none 0)),#[]⟩
def o127 : Obj := co #[(.str "is_above_nought" 466),(.str "is_above_nought" 467),(cp 468),(.int (84) 0),(.int (3) 0),z0,z0,(.int (3) 0),(.ref 213),(.bool true),(.int (181) 0),(.ref 214),.none,(.ref 215),(.ref 216),(.ref 217),(.int (472) 0),(.int (84) 0),(cp 473)]
def o128 : Obj := fo (fn "is_above_nought" "is_above_nought" (top 25) 3 [] .none .none .none (.str "boardglue.lengths" 374) none (.ref 218) .none 0)
def o129 : Obj := ⟨(.type "tuple"),none,(.seq #[(.str "d" 478),(.str "one" 479),(.str "other" 480)] 0),#[]⟩
def o130 : Obj := ⟨.none,none,(.func (fn "under" "under" (top 26) 0 [] .none .none .none .none none .none .none 0)),#[]⟩
def o131 : Obj := co #[(.str "under" 475),(.str "under" 476),(cp 477),(.int (92) 0),(.int (3) 0),z0,z0,(.int (3) 0),(.ref 220),(.bool true),(.int (181) 0),(.ref 221),.none,(.ref 222),(.ref 223),(.ref 224),(.int (481) 0),(.int (92) 0),(cp 482)]
def o132 : Obj := fo (fn "under" "under" (top 26) 3 [] .none .none .none (.str "boardglue.lengths" 374) none (.ref 225) .none 0)
def o133 : Obj := ⟨.none,none,(.func (fn "is_length" "is_length" (top 28) 0 [] .none .none .none .none none .none .none 0)),#[]⟩
def o134 : Obj := co #[(.str "is_length" 486),(.str "is_length" 487),(cp 488),(.int (95) 0),(.int (1) 0),z0,z0,(.int (3) 0),(.ref 227),(.bool true),(.int (181) 0),(.ref 228),.none,.none,.none,(.ref 229),(.int (489) 0),(.int (95) 0),(cp 490)]
def o135 : Obj := fo (fn "is_length" "is_length" (top 28) 3 [] .none .none .none (.str "boardglue.boards" 484) none (.ref 230) .none 0)
def o136 : Obj := ⟨(.type "tuple"),none,(.seq #[(.str "across" 494),(.str "along" 495)] 0),#[]⟩
def o137 : Obj := ⟨(.type "tuple"),none,(.seq #[(.str "beside" 497),(.str "atop" 498)] 0),#[]⟩
def o138 : Obj := ⟨(.type "tuple"),none,(.seq #[(.str "stack" 500),(.str "spread" 501)] 0),#[]⟩
def o139 : Obj := ⟨(.type "tuple"),none,(.seq #[(.str "thing" 508)] 0),#[]⟩
def o140 : Obj := ⟨.none,none,(.func (fn "is_deed" "is_deed" (top 34) 0 [] .none .none .none .none none .none .none 0)),#[]⟩
def o141 : Obj := co #[(.str "is_deed" 505),(.str "is_deed" 506),(cp 507),(.int (106) 0),(.int (1) 0),z0,z0,(.int (3) 0),(.ref 235),(.bool true),(.int (181) 0),(.ref 236),.none,(.ref 237),(.ref 238),(.ref 239),(.int (509) 0),(.int (106) 0),(cp 510)]
def o142 : Obj := fo (fn "is_deed" "is_deed" (top 34) 3 [] .none .none .none (.str "boardglue.yard" 492) none (.ref 240) .none 0)
def o143 : Obj := ⟨(.type "tuple"),none,(.seq #[(.str "deed" 515)] 0),#[]⟩
def o144 : Obj := ⟨.none,none,(.func (fn "names_taken" "names_taken" (top 35) 0 [] .none .none .none .none none .none .none 0)),#[]⟩
def o145 : Obj := co #[(.str "names_taken" 512),(.str "names_taken" 513),(cp 514),(.int (118) 0),(.int (1) 0),z0,z0,(.int (3) 0),(.ref 242),(.bool true),(.int (181) 0),(.ref 243),.none,(.ref 244),(.ref 245),(.ref 246),(.int (516) 0),(.int (118) 0),(cp 517)]
def o146 : Obj := fo (fn "names_taken" "names_taken" (top 35) 3 [] .none .none .none (.str "boardglue.yard" 492) none (.ref 247) .none 0)
def o147 : Obj := ⟨(.type "tuple"),none,(.seq #[(.str "one" 522)] 0),#[]⟩
def o148 : Obj := ⟨.none,none,(.func (fn "turned" "turned" (top 36) 0 [] .none .none .none .none none .none .none 0)),#[]⟩
def o149 : Obj := co #[(.str "turned" 519),(.str "turned" 520),(cp 521),(.int (120) 0),(.int (1) 0),z0,z0,(.int (3) 0),(.ref 249),(.bool true),(.int (181) 0),(.ref 250),.none,(.ref 251),(.ref 252),(.ref 253),(.int (523) 0),(.int (120) 0),(cp 524)]
def o150 : Obj := fo (fn "turned" "turned" (top 36) 3 [] .none .none .none (.str "boardglue.yard" 492) none (.ref 254) .none 0)
def o151 : Obj := ⟨(.type "tuple"),none,(.seq #[(.str "d" 529),(.str "one" 530),(.str "at" 531)] 0),#[]⟩
def o152 : Obj := ⟨.none,none,(.func (fn "cut_across" "cut_across" (top 37) 0 [] .none .none .none .none none .none .none 0)),#[]⟩
def o153 : Obj := co #[(.str "cut_across" 526),(.str "cut_across" 527),(cp 528),(.int (122) 0),(.int (3) 0),z0,z0,(.int (3) 0),(.ref 256),(.bool true),(.int (181) 0),(.ref 257),.none,(.ref 258),(.ref 259),(.ref 260),(.int (532) 0),(.int (122) 0),(cp 533)]
def o154 : Obj := fo (fn "cut_across" "cut_across" (top 37) 3 [] .none .none .none (.str "boardglue.yard" 492) none (.ref 261) .none 0)
def o155 : Obj := ⟨(.type "tuple"),none,(.seq #[(.str "one" 538),(.str "other" 539)] 0),#[]⟩
def o156 : Obj := ⟨.none,none,(.func (fn "glued_beside" "glued_beside" (top 38) 0 [] .none .none .none .none none .none .none 0)),#[]⟩
def o157 : Obj := co #[(.str "glued_beside" 535),(.str "glued_beside" 536),(cp 537),(.int (126) 0),(.int (2) 0),z0,z0,(.int (3) 0),(.ref 263),(.bool true),(.int (181) 0),(.ref 264),.none,(.ref 265),(.ref 266),(.ref 267),(.int (540) 0),(.int (126) 0),(cp 541)]
def o158 : Obj := fo (fn "glued_beside" "glued_beside" (top 38) 3 [] .none .none .none (.str "boardglue.yard" 492) none (.ref 268) .none 0)
def o159 : Obj := ⟨(.type "tuple"),none,(.seq #[(.str "one" 546),(.str "many" 547),(.str "width" 548),(.str "height" 549)] 0),#[]⟩
def o160 : Obj := ⟨.none,none,(.func (fn "stacked" "stacked" (top 39) 0 [] .none .none .none .none none .none .none 0)),#[]⟩
def o161 : Obj := co #[(.str "stacked" 543),(.str "stacked" 544),(cp 545),(.int (130) 0),(.int (2) 0),z0,z0,(.int (3) 0),(.ref 270),(.bool true),(.int (181) 0),(.ref 271),.none,(.ref 272),(.ref 273),(.ref 274),(.int (550) 0),(.int (130) 0),(cp 551)]
def o162 : Obj := fo (fn "stacked" "stacked" (top 39) 3 [] .none .none .none (.str "boardglue.yard" 492) none (.ref 275) .none 0)
def o163 (P : Params) : Obj := ⟨(.type "dict"),none,(.dict #[en P "__module__" 560 (.str "boardglue.yard" 492),en P "__qualname__" 562 (.str "Yard" 561),en P "__firstlineno__" 564 (.int (134) 563),en P "__init__" 570 (.ref 289),en P "do" 576 (.ref 294),en P "check_names" 585 (.ref 301),en P "put_by" 591 (.ref 306),en P "board_ever" 599 (.ref 313),en P "boards" 605 (.ref 318),en P "heap" 611 (.ref 323),en P "log" 618 (.ref 330),en P "__static_attributes__" 624 (.ref 331)] 12),#[]⟩
def o164 : Obj := ⟨.none,none,(.fields #[(.int (136) 0),(.int (4) 0),(.ref 288),(.int (143) 0),(.int (4) 0),(.ref 293),(.int (158) 0),(.int (4) 0),(.ref 300),(.int (165) 0),(.int (4) 0),(.ref 305),(.int (181) 0),(.int (4) 0),(.ref 312),(.int (184) 0),(.int (4) 0),(.ref 317),(.int (187) 0),(.int (4) 0),(.ref 322),(.int (190) 0),(.int (4) 0),(.ref 329)]),#[]⟩
def o165 : Obj := co #[(.str "Yard" 555),(.str "Yard" 556),(cp 557),(.int (134) 0),z0,z0,z0,z0,(.ref 280),(.bool false),(.int (181) 0),(.ref 281),.none,.none,.none,.none,(.int (558) 0),(.int (134) 0),(cp 559)]
def o166 : Obj := ⟨(.type "frame"),none,.plain,#[(some (.ref 282)),(some (.ref 3)),(some (.ref 279)),none,(some (.str "boardglue.yard" 492)),none,(some (.ref 0))]⟩
def o167 : Obj := ⟨(.type "tuple"),none,(.seq #[(.bool false)] 0),#[]⟩
def o168 : Obj := ⟨.none,none,(.func (fn "__init__" "Yard.__init__" (sub (top 40) 0) 0 [] .none .none .none .none none .none .none 0)),#[]⟩
def o169 : Obj := co #[(.str "__init__" 565),(.str "Yard.__init__" 566),(cp 567),(.int (136) 0),(.int (4) 0),z0,z0,(.int (3) 0),(.ref 285),(.bool true),(.int (181) 0),(.ref 286),.none,.none,.none,(.ref 287),(.int (568) 0),(.int (136) 0),(cp 569)]
def o170 : Obj := fo (fn "__init__" "Yard.__init__" (sub (top 40) 0) 3 [] (.ref 284) .none .none (.str "boardglue.yard" 492) none (.ref 288) .none 0)
def o171 : Obj := ⟨.none,none,(.func (fn "do" "Yard.do" (sub (top 40) 1) 0 [] .none .none .none .none none .none .none 0)),#[]⟩
def o172 : Obj := co #[(.str "do" 571),(.str "Yard.do" 572),(cp 573),(.int (143) 0),(.int (2) 0),z0,z0,(.int (3) 0),(.ref 290),(.bool true),(.int (181) 0),(.ref 291),.none,.none,.none,(.ref 292),(.int (574) 0),(.int (143) 0),(cp 575)]
def o173 : Obj := fo (fn "do" "Yard.do" (sub (top 40) 1) 3 [] .none .none .none (.str "boardglue.yard" 492) none (.ref 293) .none 0)
def o174 : Obj := ⟨(.type "tuple"),none,(.seq #[(.str "self" 580),(.str "names" 581),(.str "name" 582)] 0),#[]⟩
def o175 : Obj := ⟨.none,none,(.func (fn "check_names" "Yard.check_names" (sub (top 40) 2) 0 [] .none .none .none .none none .none .none 0)),#[]⟩
def o176 : Obj := co #[(.str "check_names" 577),(.str "Yard.check_names" 578),(cp 579),(.int (158) 0),(.int (2) 0),z0,z0,(.int (3) 0),(.ref 295),(.bool true),(.int (181) 0),(.ref 296),.none,(.ref 297),(.ref 298),(.ref 299),(.int (583) 0),(.int (158) 0),(cp 584)]
def o177 : Obj := fo (fn "check_names" "Yard.check_names" (sub (top 40) 2) 3 [] .none .none .none (.str "boardglue.yard" 492) none (.ref 300) .none 0)
def o178 : Obj := ⟨.none,none,(.func (fn "put_by" "Yard.put_by" (sub (top 40) 3) 0 [] .none .none .none .none none .none .none 0)),#[]⟩
def o179 : Obj := co #[(.str "put_by" 586),(.str "Yard.put_by" 587),(cp 588),(.int (165) 0),(.int (3) 0),z0,z0,(.int (3) 0),(.ref 302),(.bool true),(.int (181) 0),(.ref 303),.none,.none,.none,(.ref 304),(.int (589) 0),(.int (165) 0),(cp 590)]
def o180 : Obj := fo (fn "put_by" "Yard.put_by" (sub (top 40) 3) 3 [] .none .none .none (.str "boardglue.yard" 492) none (.ref 305) .none 0)
def o181 : Obj := ⟨(.type "tuple"),none,(.seq #[(.str "self" 595),(.str "name" 596)] 0),#[]⟩
def o182 : Obj := ⟨.none,none,(.func (fn "board_ever" "Yard.board_ever" (sub (top 40) 4) 0 [] .none .none .none .none none .none .none 0)),#[]⟩
def o183 : Obj := co #[(.str "board_ever" 592),(.str "Yard.board_ever" 593),(cp 594),(.int (181) 0),(.int (2) 0),z0,z0,(.int (3) 0),(.ref 307),(.bool true),(.int (181) 0),(.ref 308),.none,(.ref 309),(.ref 310),(.ref 311),(.int (597) 0),(.int (181) 0),(cp 598)]
def o184 : Obj := fo (fn "board_ever" "Yard.board_ever" (sub (top 40) 4) 3 [] .none .none .none (.str "boardglue.yard" 492) none (.ref 312) .none 0)
def o185 : Obj := ⟨.none,none,(.func (fn "boards" "Yard.boards" (sub (top 40) 5) 0 [] .none .none .none .none none .none .none 0)),#[]⟩
def o186 : Obj := co #[(.str "boards" 600),(.str "Yard.boards" 601),(cp 602),(.int (184) 0),(.int (1) 0),z0,z0,(.int (3) 0),(.ref 314),(.bool true),(.int (181) 0),(.ref 315),.none,.none,.none,(.ref 316),(.int (603) 0),(.int (184) 0),(cp 604)]
def o187 : Obj := fo (fn "boards" "Yard.boards" (sub (top 40) 5) 3 [] .none .none .none (.str "boardglue.yard" 492) none (.ref 317) .none 0)
def o188 : Obj := ⟨.none,none,(.func (fn "heap" "Yard.heap" (sub (top 40) 6) 0 [] .none .none .none .none none .none .none 0)),#[]⟩
def o189 : Obj := co #[(.str "heap" 606),(.str "Yard.heap" 607),(cp 608),(.int (187) 0),(.int (1) 0),z0,z0,(.int (3) 0),(.ref 319),(.bool true),(.int (181) 0),(.ref 320),.none,.none,.none,(.ref 321),(.int (609) 0),(.int (187) 0),(cp 610)]
def o190 : Obj := fo (fn "heap" "Yard.heap" (sub (top 40) 6) 3 [] .none .none .none (.str "boardglue.yard" 492) none (.ref 322) .none 0)
def o191 : Obj := ⟨(.type "tuple"),none,(.seq #[(.str "self" 615)] 0),#[]⟩
def o192 : Obj := ⟨.none,none,(.func (fn "log" "Yard.log" (sub (top 40) 7) 0 [] .none .none .none .none none .none .none 0)),#[]⟩
def o193 : Obj := co #[(.str "log" 612),(.str "Yard.log" 613),(cp 614),(.int (190) 0),(.int (1) 0),z0,z0,(.int (3) 0),(.ref 324),(.bool true),(.int (181) 0),(.ref 325),.none,(.ref 326),(.ref 327),(.ref 328),(.int (616) 0),(.int (190) 0),(cp 617)]
def o194 : Obj := fo (fn "log" "Yard.log" (sub (top 40) 7) 3 [] .none .none .none (.str "boardglue.yard" 492) none (.ref 329) .none 0)
def o195 : Obj := ⟨(.type "tuple"),none,(.seq #[(.str "done" 619),(.str "known" 620),(.str "lying" 621),(.str "root" 622),(.str "turning" 623)] 0),#[]⟩
def o196 (P : Params) : Obj := ⟨(.type "dict"),none,(.dict #[en P "__module__" 560 (.str "boardglue.yard" 492),en P "__firstlineno__" 564 (.int (134) 563),en P "__init__" 570 (.ref 289),en P "do" 576 (.ref 294),en P "check_names" 585 (.ref 301),en P "put_by" 591 (.ref 306),en P "board_ever" 599 (.ref 313),en P "boards" 605 (.ref 318),en P "heap" 611 (.ref 323),en P "log" 618 (.ref 330),en P "__static_attributes__" 624 (.ref 331),en P "__dict__" 626 (.ref 334),en P "__weakref__" 628 (.ref 335),en P "__doc__" 629 .none] 4),#[]⟩
def o197 : Obj := ⟨(.type "type"),none,(.cls ⟨"Yard",[(.type "object")],[(.ref 333),(.type "object")],332,"Yard",true,[],[],false,none,false⟩),#[none,none,(some (.str "Yard" 553)),(some (.str "Yard" 561)),(some (.builtin "object.__new__")),(some (.bool true))]⟩
def o198 : Obj := ⟨(.type "getset_descriptor"),none,(.fields #[(.str "__dict__" 625),(.ref 333),(.builtin "function.__dict__"),(.builtin "function.__dict__#set")]),#[]⟩
def o199 : Obj := ⟨(.type "getset_descriptor"),none,(.fields #[(.str "__weakref__" 627),(.ref 333),(.builtin "ExceptionGroup.__weakref__"),.none]),#[]⟩
def o200 : Obj := ⟨(.type "super"),none,(.fields #[(.ref 333),(.ref 333),(.ref 333)]),#[]⟩
def o201 : Obj := ⟨(.type "builtin_function_or_method"),none,(.fields #[(.builtin "object.__init_subclass__"),(.ref 333)]),#[]⟩
def o202 : Obj := ⟨(.type "tuple"),none,(.seq #[(.str "d" 637),(.str "heap" 638),(.str "plan" 639),(.str "turning" 640),(.str "yard" 641),(.str "deed" 642)] 0),#[]⟩
def o203 : Obj := ⟨.none,none,(.func (fn "yard_behind" "yard_behind" (top 42) 0 [] .none .none .none .none none .none .none 0)),#[]⟩
def o204 : Obj := co #[(.str "yard_behind" 634),(.str "yard_behind" 635),(cp 636),(.int (193) 0),(.int (4) 0),z0,z0,(.int (3) 0),(.ref 338),(.bool true),(.int (181) 0),(.ref 339),.none,(.ref 340),(.ref 341),(.ref 342),(.int (643) 0),(.int (193) 0),(cp 644)]
def o205 : Obj := fo (fn "yard_behind" "yard_behind" (top 42) 3 [] .none .none .none (.str "boardglue.plans" 632) none (.ref 343) .none 0)
def o206 : Obj := ⟨(.type "tuple"),none,(.seq #[(.str "d" 649),(.str "heap" 650),(.str "plan" 651),(.str "turning" 652)] 0),#[]⟩
def o207 : Obj := ⟨.none,none,(.func (fn "walked" "walked" (top 43) 0 [] .none .none .none .none none .none .none 0)),#[]⟩
def o208 : Obj := co #[(.str "walked" 646),(.str "walked" 647),(cp 648),(.int (198) 0),(.int (4) 0),z0,z0,(.int (3) 0),(.ref 346),(.bool true),(.int (181) 0),(.ref 347),.none,(.ref 348),(.ref 349),(.ref 350),(.int (653) 0),(.int (198) 0),(cp 654)]
def o209 : Obj := fo (fn "walked" "walked" (top 43) 3 [] (.ref 345) .none .none (.str "boardglue.plans" 632) none (.ref 351) .none 0)
def o210 : Obj := ⟨(.type "tuple"),none,(.seq #[(.str "_law_script" 661),(.str "_law_k" 662)] 0),#[]⟩
def o211 : Obj := ⟨.none,none,(.func (fn "_law_cell" "_law_cell" (top 45) 0 [] .none .none .none .none none .none .none 0)),#[]⟩
def o212 : Obj := co #[(.str "_law_cell" 658),(.str "_law_cell" 659),(cp 660),(.int (201) 0),(.int (2) 0),z0,z0,(.int (3) 0),(.ref 353),(.bool true),(.int (181) 0),(.ref 354),.none,(.ref 355),(.ref 356),(.ref 357),(.int (663) 0),(.int (201) 0),(cp 664)]
def o213 : Obj := fo (fn "_law_cell" "_law_cell" (top 45) 3 [] .none .none .none (.str "law_boardglue_k34_plans_walked" 656) none (.ref 358) .none 0)
def o214 : Obj := ⟨(.type "tuple"),none,(.seq #[(.str "_law_found" 669)] 0),#[]⟩
def o215 : Obj := ⟨.none,none,(.func (fn "_law_whole" "_law_whole" (top 46) 0 [] .none .none .none .none none .none .none 0)),#[]⟩
def o216 : Obj := co #[(.str "_law_whole" 666),(.str "_law_whole" 667),(cp 668),(.int (205) 0),(.int (1) 0),z0,z0,(.int (3) 0),(.ref 360),(.bool true),(.int (181) 0),(.ref 361),.none,(.ref 362),(.ref 363),(.ref 364),(.int (670) 0),(.int (205) 0),(cp 671)]
def o217 : Obj := fo (fn "_law_whole" "_law_whole" (top 46) 3 [] .none .none .none (.str "law_boardglue_k34_plans_walked" 656) none (.ref 365) .none 0)
def o218 : Obj := ⟨(.type "tuple"),none,(.seq #[(.str "_law_cell_here" 676),(.str "_law_k" 677),(.str "_law_number" 678)] 0),#[]⟩
def o219 : Obj := ⟨.none,none,(.func (fn "_law_great" "_law_great" (top 47) 0 [] .none .none .none .none none .none .none 0)),#[]⟩
def o220 : Obj := co #[(.str "_law_great" 673),(.str "_law_great" 674),(cp 675),(.int (207) 0),(.int (2) 0),z0,z0,(.int (3) 0),(.ref 367),(.bool true),(.int (181) 0),(.ref 368),.none,(.ref 369),(.ref 370),(.ref 371),(.int (679) 0),(.int (207) 0),(cp 680)]
def o221 : Obj := fo (fn "_law_great" "_law_great" (top 47) 3 [] .none .none .none (.str "law_boardglue_k34_plans_walked" 656) none (.ref 372) .none 0)
def o222 : Obj := ⟨(.type "tuple"),none,(.seq #[(.str "_law_cell_here" 685),(.str "_law_many" 686),(.str "_law_found" 687),(.str "_law_number" 688),(.str "_law_k" 689)] 0),#[]⟩
def o223 : Obj := ⟨.none,none,(.func (fn "_law_digits" "_law_digits" (top 48) 0 [] .none .none .none .none none .none .none 0)),#[]⟩
def o224 : Obj := co #[(.str "_law_digits" 682),(.str "_law_digits" 683),(cp 684),(.int (211) 0),(.int (2) 0),z0,z0,(.int (3) 0),(.ref 374),(.bool true),(.int (181) 0),(.ref 375),.none,(.ref 376),(.ref 377),(.ref 378),(.int (690) 0),(.int (211) 0),(cp 691)]
def o225 : Obj := fo (fn "_law_digits" "_law_digits" (top 48) 3 [] .none .none .none (.str "law_boardglue_k34_plans_walked" 656) none (.ref 379) .none 0)
def o226 : Obj := ⟨(.type "tuple"),none,(.seq #[(.str "_law_one" 696),(.str "_law_other" 697)] 0),#[]⟩
def o227 : Obj := ⟨.none,none,(.func (fn "_law_divisor" "_law_divisor" (top 49) 0 [] .none .none .none .none none .none .none 0)),#[]⟩
def o228 : Obj := co #[(.str "_law_divisor" 693),(.str "_law_divisor" 694),(cp 695),(.int (221) 0),(.int (2) 0),z0,z0,(.int (3) 0),(.ref 381),(.bool true),(.int (181) 0),(.ref 382),.none,(.ref 383),(.ref 384),(.ref 385),(.int (698) 0),(.int (221) 0),(cp 699)]
def o229 : Obj := fo (fn "_law_divisor" "_law_divisor" (top 49) 3 [] .none .none .none (.str "law_boardglue_k34_plans_walked" 656) none (.ref 386) .none 0)
def o230 : Obj := ⟨(.type "tuple"),none,(.seq #[(.str "_law_a" 704),(.str "_law_b" 705),(.str "_law_n" 706),(.str "_law_share_here" 707)] 0),#[]⟩
def o231 : Obj := ⟨.none,none,(.func (fn "_law_lowest" "_law_lowest" (top 50) 0 [] .none .none .none .none none .none .none 0)),#[]⟩
def o232 : Obj := co #[(.str "_law_lowest" 701),(.str "_law_lowest" 702),(cp 703),(.int (227) 0),(.int (3) 0),z0,z0,(.int (3) 0),(.ref 388),(.bool true),(.int (181) 0),(.ref 389),.none,(.ref 390),(.ref 391),(.ref 392),(.int (708) 0),(.int (227) 0),(cp 709)]
def o233 : Obj := fo (fn "_law_lowest" "_law_lowest" (top 50) 3 [] .none .none .none (.str "law_boardglue_k34_plans_walked" 656) none (.ref 393) .none 0)
def o234 : Obj := ⟨(.type "tuple"),none,(.seq #[(.str "_law_d" 714),(.str "_law_a" 715),(.str "_law_b" 716)] 0),#[]⟩
def o235 : Obj := ⟨.none,none,(.func (fn "_law_sign" "_law_sign" (top 51) 0 [] .none .none .none .none none .none .none 0)),#[]⟩
def o236 : Obj := co #[(.str "_law_sign" 711),(.str "_law_sign" 712),(cp 713),(.int (232) 0),(.int (3) 0),z0,z0,(.int (3) 0),(.ref 395),(.bool true),(.int (181) 0),(.ref 396),.none,(.ref 397),(.ref 398),(.ref 399),(.int (717) 0),(.int (232) 0),(cp 718)]
def o237 : Obj := fo (fn "_law_sign" "_law_sign" (top 51) 3 [] .none .none .none (.str "law_boardglue_k34_plans_walked" 656) none (.ref 400) .none 0)
def o238 : Obj := ⟨(.type "tuple"),none,(.seq #[(.str "_law_one" 723),(.str "_law_other" 724),(.str "_law_sign_here" 725),(.str "_law_a" 726),(.str "_law_b" 727)] 0),#[]⟩
def o239 : Obj := ⟨.none,none,(.func (fn "_law_plus" "_law_plus" (top 52) 0 [] .none .none .none .none none .none .none 0)),#[]⟩
def o240 : Obj := co #[(.str "_law_plus" 720),(.str "_law_plus" 721),(cp 722),(.int (240) 0),(.int (3) 0),z0,z0,(.int (3) 0),(.ref 402),(.bool true),(.int (181) 0),(.ref 403),.none,(.ref 404),(.ref 405),(.ref 406),(.int (728) 0),(.int (240) 0),(cp 729)]
def o241 : Obj := fo (fn "_law_plus" "_law_plus" (top 52) 3 [] .none .none .none (.str "law_boardglue_k34_plans_walked" 656) none (.ref 407) .none 0)
def o242 : Obj := ⟨(.type "tuple"),none,(.seq #[(.str "_law_one" 734),(.str "_law_top" 735),(.str "_law_bottom" 736)] 0),#[]⟩
def o243 : Obj := ⟨.none,none,(.func (fn "_law_share" "_law_share" (top 53) 0 [] .none .none .none .none none .none .none 0)),#[]⟩
def o244 : Obj := co #[(.str "_law_share" 731),(.str "_law_share" 732),(cp 733),(.int (244) 0),(.int (3) 0),z0,z0,(.int (3) 0),(.ref 409),(.bool true),(.int (181) 0),(.ref 410),.none,(.ref 411),(.ref 412),(.ref 413),(.int (737) 0),(.int (244) 0),(cp 738)]
def o245 : Obj := fo (fn "_law_share" "_law_share" (top 53) 3 [] .none .none .none (.str "law_boardglue_k34_plans_walked" 656) none (.ref 414) .none 0)
def o246 : Obj := ⟨(.type "tuple"),none,(.seq #[(.str "_law_d" 743),(.str "_law_one" 744),(.str "_law_other" 745),(.str "_law_left" 746)] 0),#[]⟩
def o247 : Obj := ⟨.none,none,(.func (fn "_law_below" "_law_below" (top 54) 0 [] .none .none .none .none none .none .none 0)),#[]⟩
def o248 : Obj := co #[(.str "_law_below" 740),(.str "_law_below" 741),(cp 742),(.int (246) 0),(.int (3) 0),z0,z0,(.int (3) 0),(.ref 416),(.bool true),(.int (181) 0),(.ref 417),.none,(.ref 418),(.ref 419),(.ref 420),(.int (747) 0),(.int (246) 0),(cp 748)]
def o249 : Obj := fo (fn "_law_below" "_law_below" (top 54) 3 [] .none .none .none (.str "law_boardglue_k34_plans_walked" 656) none (.ref 421) .none 0)
def o250 : Obj := ⟨.none,none,(.func (fn "_law_root" "_law_root" (top 55) 0 [] .none .none .none .none none .none .none 0)),#[]⟩
def o251 : Obj := co #[(.str "_law_root" 750),(.str "_law_root" 751),(cp 752),(.int (249) 0),(.int (2) 0),z0,z0,(.int (3) 0),(.ref 423),(.bool true),(.int (181) 0),(.ref 424),.none,.none,.none,(.ref 425),(.int (753) 0),(.int (249) 0),(cp 754)]
def o252 : Obj := fo (fn "_law_root" "_law_root" (top 55) 3 [] .none .none .none (.str "law_boardglue_k34_plans_walked" 656) none (.ref 426) .none 0)
def o253 : Obj := ⟨(.type "tuple"),none,(.seq #[(.str "_law_d" 759),(.str "_law_cell_here" 760),(.str "_law_at_here" 761),(.str "_law_digits_here" 762),(.str "_law_a" 763),(.str "_law_b" 764),(.str "_law_n" 765),(.str "_law_sign_here" 766)] 0),#[]⟩
def o254 : Obj := ⟨.none,none,(.func (fn "_law_side" "_law_side" (top 56) 0 [] .none .none .none .none none .none .none 0)),#[]⟩
def o255 : Obj := co #[(.str "_law_side" 756),(.str "_law_side" 757),(cp 758),(.int (252) 0),(.int (3) 0),z0,z0,(.int (3) 0),(.ref 428),(.bool true),(.int (181) 0),(.ref 429),.none,(.ref 430),(.ref 431),(.ref 432),(.int (767) 0),(.int (252) 0),(cp 768)]
def o256 : Obj := fo (fn "_law_side" "_law_side" (top 56) 3 [] .none .none .none (.str "law_boardglue_k34_plans_walked" 656) none (.ref 433) .none 0)
def o257 : Obj := ⟨.none,none,(.func (fn "_law_heap" "_law_heap" (top 57) 0 [] .none .none .none .none none .none .none 0)),#[]⟩
def o258 : Obj := co #[(.str "_law_heap" 770),(.str "_law_heap" 771),(cp 772),(.int (265) 0),(.int (3) 0),z0,z0,(.int (3) 0),(.ref 435),(.bool true),(.int (181) 0),(.ref 436),.none,.none,.none,(.ref 437),(.int (773) 0),(.int (265) 0),(cp 774)]
def o259 : Obj := fo (fn "_law_heap" "_law_heap" (top 57) 3 [] .none .none .none (.str "law_boardglue_k34_plans_walked" 656) none (.ref 438) .none 0)
def o260 : Obj := ⟨(.type "tuple"),none,(.seq #[(.str "_law_deed_here" 779),(.str "_law_some" 780),(.str "_law_width" 781),(.str "_law_height" 782)] 0),#[]⟩
def o261 : Obj := ⟨.none,none,(.func (fn "_law_new" "_law_new" (top 58) 0 [] .none .none .none .none none .none .none 0)),#[]⟩
def o262 : Obj := co #[(.str "_law_new" 776),(.str "_law_new" 777),(cp 778),(.int (279) 0),(.int (2) 0),z0,z0,(.int (3) 0),(.ref 440),(.bool true),(.int (181) 0),(.ref 441),.none,(.ref 442),(.ref 443),(.ref 444),(.int (783) 0),(.int (279) 0),(cp 784)]
def o263 : Obj := fo (fn "_law_new" "_law_new" (top 58) 3 [] .none .none .none (.str "law_boardglue_k34_plans_walked" 656) none (.ref 445) .none 0)
def o264 : Obj := ⟨(.type "tuple"),none,(.seq #[(.str "_law_d" 789),(.str "_law_digits_here" 790),(.str "_law_side_here" 791),(.str "_law_pool" 792),(.str "_law_at_here" 793),(.str "_law_bottom" 794)] 0),#[]⟩
def o265 : Obj := ⟨.none,none,(.func (fn "_law_at" "_law_at" (top 59) 0 [] .none .none .none .none none .none .none 0)),#[]⟩
def o266 : Obj := co #[(.str "_law_at" 786),(.str "_law_at" 787),(cp 788),(.int (294) 0),(.int (4) 0),z0,z0,(.int (3) 0),(.ref 447),(.bool true),(.int (181) 0),(.ref 448),.none,(.ref 449),(.ref 450),(.ref 451),(.int (795) 0),(.int (294) 0),(cp 796)]
def o267 : Obj := fo (fn "_law_at" "_law_at" (top 59) 3 [] .none .none .none (.str "law_boardglue_k34_plans_walked" 656) none (.ref 452) .none 0)
def o268 : Obj := ⟨.none,none,(.func (fn "_law_deed" "_law_deed" (top 60) 0 [] .none .none .none .none none .none .none 0)),#[]⟩
def o269 : Obj := co #[(.str "_law_deed" 798),(.str "_law_deed" 799),(cp 800),(.int (300) 0),(.int (4) 0),z0,z0,(.int (3) 0),(.ref 454),(.bool true),(.int (181) 0),(.ref 455),.none,.none,.none,(.ref 456),(.int (801) 0),(.int (300) 0),(cp 802)]
def o270 : Obj := fo (fn "_law_deed" "_law_deed" (top 60) 3 [] .none .none .none (.str "law_boardglue_k34_plans_walked" 656) none (.ref 457) .none 0)
def o271 : Obj := ⟨.none,none,(.func (fn "_law_done" "_law_done" (top 61) 0 [] .none .none .none .none none .none .none 0)),#[]⟩
def o272 : Obj := co #[(.str "_law_done" 804),(.str "_law_done" 805),(cp 806),(.int (313) 0),(.int (3) 0),z0,z0,(.int (3) 0),(.ref 459),(.bool true),(.int (181) 0),(.ref 460),.none,.none,.none,(.ref 461),(.int (807) 0),(.int (313) 0),(cp 808)]
def o273 : Obj := fo (fn "_law_done" "_law_done" (top 61) 3 [] .none .none .none (.str "law_boardglue_k34_plans_walked" 656) none (.ref 462) .none 0)
def o274 : Obj := ⟨(.type "tuple"),none,(.seq #[(.str "_law_heap_here" 813),(.str "_law_lying" 814),(.str "_law_k" 815)] 0),#[]⟩
def o275 : Obj := ⟨.none,none,(.func (fn "_law_begin" "_law_begin" (top 62) 0 [] .none .none .none .none none .none .none 0)),#[]⟩
def o276 : Obj := co #[(.str "_law_begin" 810),(.str "_law_begin" 811),(cp 812),(.int (324) 0),(.int (1) 0),z0,z0,(.int (3) 0),(.ref 464),(.bool true),(.int (181) 0),(.ref 465),.none,(.ref 466),(.ref 467),(.ref 468),(.int (816) 0),(.int (324) 0),(cp 817)]
def o277 : Obj := fo (fn "_law_begin" "_law_begin" (top 62) 3 [] .none .none .none (.str "law_boardglue_k34_plans_walked" 656) none (.ref 469) .none 0)
def o278 : Obj := ⟨(.type "tuple"),none,(.seq #[(.str "_law_found" 822)] 0),#[]⟩
def o279 : Obj := ⟨.none,none,(.func (fn "_law_is_length" "_law_is_length" (top 63) 0 [] .none .none .none .none none .none .none 0)),#[]⟩
def o280 : Obj := co #[(.str "_law_is_length" 819),(.str "_law_is_length" 820),(cp 821),(.int (329) 0),(.int (1) 0),z0,z0,(.int (3) 0),(.ref 471),(.bool true),(.int (181) 0),(.ref 472),.none,(.ref 473),(.ref 474),(.ref 475),(.int (823) 0),(.int (329) 0),(cp 824)]
def o281 : Obj := fo (fn "_law_is_length" "_law_is_length" (top 63) 3 [] .none .none .none (.str "law_boardglue_k34_plans_walked" 656) none (.ref 476) .none 0)
def o282 : Obj := ⟨(.type "tuple"),none,(.seq #[(.str "_law_found" 829),(.str "_law_due" 830),(.str "_law_one" 831)] 0),#[]⟩
def o283 : Obj := ⟨.none,none,(.func (fn "_law_is_heap" "_law_is_heap" (top 64) 0 [] .none .none .none .none none .none .none 0)),#[]⟩
def o284 : Obj := co #[(.str "_law_is_heap" 826),(.str "_law_is_heap" 827),(cp 828),(.int (333) 0),(.int (2) 0),z0,z0,(.int (3) 0),(.ref 478),(.bool true),(.int (181) 0),(.ref 479),.none,(.ref 480),(.ref 481),(.ref 482),(.int (832) 0),(.int (333) 0),(cp 833)]
def o285 : Obj := fo (fn "_law_is_heap" "_law_is_heap" (top 64) 3 [] .none .none .none (.str "law_boardglue_k34_plans_walked" 656) none (.ref 483) .none 0)
def o286 : Obj := ⟨(.type "tuple"),none,(.seq #[(.str "_law_error" 838),(.str "_law_many" 839)] 0),#[]⟩
def o287 : Obj := ⟨.none,none,(.func (fn "_law_alone" "_law_alone" (top 65) 0 [] .none .none .none .none none .none .none 0)),#[]⟩
def o288 : Obj := co #[(.str "_law_alone" 835),(.str "_law_alone" 836),(cp 837),(.int (340) 0),(.int (1) 0),z0,z0,(.int (3) 0),(.ref 485),(.bool true),(.int (181) 0),(.ref 486),.none,(.ref 487),(.ref 488),(.ref 489),(.int (840) 0),(.int (340) 0),(cp 841)]
def o289 : Obj := fo (fn "_law_alone" "_law_alone" (top 65) 3 [] .none .none .none (.str "law_boardglue_k34_plans_walked" 656) none (.ref 490) .none 0)
def o290 : Obj := ⟨(.type "tuple"),none,(.seq #[(.str "_law_d" 846),(.str "_law_script" 847),(.str "_law_heap_here" 848),(.str "_law_pool" 849),(.str "_law_freed" 850),(.str "_law_lying" 851),(.str "_law_used" 852),(.str "_law_plan_here" 853),(.str "_law_states" 854),(.str "_law_cell_here" 855),(.str "_law_deed_here" 856)] 0),#[]⟩
def o291 : Obj := ⟨.none,none,(.func (fn "_law_plan" "_law_plan" (top 66) 0 [] .none .none .none .none none .none .none 0)),#[]⟩
def o292 : Obj := co #[(.str "_law_plan" 843),(.str "_law_plan" 844),(cp 845),(.int (346) 0),(.int (5) 0),z0,z0,(.int (3) 0),(.ref 492),(.bool true),(.int (181) 0),(.ref 493),.none,(.ref 494),(.ref 495),(.ref 496),(.int (857) 0),(.int (346) 0),(cp 858)]
def o293 : Obj := fo (fn "_law_plan" "_law_plan" (top 66) 3 [] .none .none .none (.str "law_boardglue_k34_plans_walked" 656) none (.ref 497) .none 0)
def o294 : Obj := ⟨(.type "tuple"),none,(.seq #[(.str "_law_d" 863),(.str "_law_heap_here" 864),(.str "_law_plan_here" 865),(.str "_law_freed" 866),(.str "_law_due" 867),(.str "_law_kept" 868),(.str "_law_error" 869)] 0),#[]⟩
def o295 : Obj := ⟨.none,none,(.func (fn "_law_refused" "_law_refused" (top 67) 0 [] .none .none .none .none none .none .none 0)),#[]⟩
def o296 : Obj := co #[(.str "_law_refused" 860),(.str "_law_refused" 861),(cp 862),(.int (358) 0),(.int (5) 0),z0,z0,(.int (3) 0),(.ref 499),(.bool true),(.int (181) 0),(.ref 500),.none,(.ref 501),(.ref 502),(.ref 503),(.int (870) 0),(.int (358) 0),(cp 871)]
def o297 : Obj := fo (fn "_law_refused" "_law_refused" (top 67) 3 [] .none .none .none (.str "law_boardglue_k34_plans_walked" 656) none (.ref 504) .none 0)
def o298 : Obj := ⟨.none,none,(.func (fn "_law_spoilt" "_law_spoilt" (top 68) 0 [] .none .none .none .none none .none .none 0)),#[]⟩
def o299 : Obj := co #[(.str "_law_spoilt" 873),(.str "_law_spoilt" 874),(cp 875),(.int (370) 0),(.int (4) 0),z0,z0,(.int (3) 0),(.ref 506),(.bool true),(.int (181) 0),(.ref 507),.none,.none,.none,(.ref 508),(.int (876) 0),(.int (370) 0),(cp 877)]
def o300 : Obj := fo (fn "_law_spoilt" "_law_spoilt" (top 68) 3 [] .none .none .none (.str "law_boardglue_k34_plans_walked" 656) none (.ref 509) .none 0)
def o301 : Obj := ⟨.none,none,(.func (fn "law" "law" (top 69) 0 [] .none .none .none .none none .none .none 0)),#[]⟩
def o302 : Obj := co #[(.str "law" 879),(.str "law" 880),(cp 881),(.int (378) 0),(.int (1) 0),z0,z0,(.int (3) 0),(.ref 511),(.bool true),(.int (181) 0),(.ref 512),.none,.none,.none,(.ref 513),(.int (882) 0),(.int (378) 0),(cp 883)]
def o303 : Obj := fo (fn "law" "law" (top 69) 3 [] .none .none .none (.str "law_boardglue_k34_plans_walked" 656) none (.ref 514) .none 0)
def T1 (P : Params) : BT := (.node (boot_o_0 P) (.node (boot_o_1 P) (.node (o4 P) (.node (boot_o_7 P) (.node (o0) (.node (o16) (.node (o1) (.node (o73 P) (.node (o150) (.node (o0) .nil .nil) .nil) (.node (o226) .nil .nil)) (.node (o112) (.node (o0) .nil .nil) (.node (o0) .nil .nil))) (.node (o20) (.node (o0) (.node (o168) .nil .nil) (.node (o245) .nil .nil)) (.node (o0) (.node (o208) .nil .nil) (.node (o1) .nil .nil)))) (.node (o20) (.node (o45 P) (.node (o20) (.node (o1) .nil .nil) (.node (o235) .nil .nil)) (.node (o1) (.node (o199) .nil .nil) (.node (o273) .nil .nil))) (.node (o1) (.node (o102) (.node (o1) .nil .nil) (.node (o0) .nil .nil)) (.node (o140) (.node (o0) .nil .nil) (.node (o0) .nil .nil))))) (.node (o11) (.node (o1) (.node (o20) (.node (o1) (.node (o0) .nil .nil) (.node (o0) .nil .nil)) (.node (o0) (.node (o0) .nil .nil) (.node (o1) .nil .nil))) (.node (o59 P) (.node (o97) (.node (o0) .nil .nil) (.node (o0) .nil .nil)) (.node (o135) (.node (o213) .nil .nil) (.node (o286) .nil .nil)))) (.node (o31 P) (.node (o1) (.node (o87 P) (.node (o163 P) .nil .nil) (.node (o240) .nil .nil)) (.node (o125) (.node (o204) .nil .nil) (.node (o0) .nil .nil))) (.node (o20) (.node (o107) (.node (o182) .nil .nil) (.node (o259) .nil .nil)) (.node (o145) (.node (o1) .nil .nil) (.node (o295) .nil .nil)))))) (.node (o0) (.node (o7) (.node (o20) (.node (o38 P) (.node (o20) (.node (o0) (.node (o303) .nil .nil) .nil) (.node (o229) .nil .nil)) (.node (o0) (.node (o190) .nil .nil) (.node (o265) .nil .nil))) (.node (o1) (.node (o0) (.node (o1) .nil .nil) (.node (o0) .nil .nil)) (.node (o0) (.node (o210) .nil .nil) (.node (o284) .nil .nil)))) (.node (o1) (.node (o20) (.node (o1) (.node (o161) .nil .nil) (.node (o1) .nil .nil)) (.node (o123) (.node (o1) .nil .nil) (.node (o0) .nil .nil))) (.node (o66 P) (.node (o104) (.node (o0) .nil .nil) (.node (o0) .nil .nil)) (.node (o1) (.node (o219) .nil .nil) (.node (o0) .nil .nil))))) (.node (o13) (.node (o24 P) (.node (o1) (.node (o80 P) (.node (o156) .nil .nil) (.node (o0) .nil .nil)) (.node (o118) (.node (o195) .nil .nil) (.node (o0) .nil .nil))) (.node (o20) (.node (o1) (.node (o175) .nil .nil) (.node (o252) .nil .nil)) (.node (o0) (.node (o0) .nil .nil) (.node (o289) .nil .nil)))) (.node (o20) (.node (o52 P) (.node (o91) (.node (o166) .nil .nil) (.node (o242) .nil .nil)) (.node (o128) (.node (o1) .nil .nil) (.node (o279) .nil .nil))) (.node (o1) (.node (o0) (.node (o1) .nil .nil) (.node (o0) .nil .nil)) (.node (o147) (.node (o224) .nil .nil) (.node (o1) .nil .nil))))))) (.node (boot_o_5 P) (.node (boot_o_9 P) (.node (o6) (.node (o18) (.node (o37) (.node (o75) (.node (o1) (.node (o301) .nil .nil) .nil) (.node (o227) .nil .nil)) (.node (o1) (.node (o188) .nil .nil) (.node (o264) .nil .nil))) (.node (o56 P) (.node (o94) (.node (o170) .nil .nil) (.node (o1) .nil .nil)) (.node (o131) (.node (o0) .nil .nil) (.node (o0) .nil .nil)))) (.node (o28 P) (.node (o47) (.node (o84 P) (.node (o0) .nil .nil) (.node (o237) .nil .nil)) (.node (o0) (.node (o201) .nil .nil) (.node (o1) .nil .nil))) (.node (o65) (.node (o0) (.node (o179) .nil .nil) (.node (o255) .nil .nil)) (.node (o142) (.node (o218) .nil .nil) (.node (o292) .nil .nil))))) (.node (o0) (.node (o23) (.node (o42 P) (.node (o79) (.node (o155) .nil .nil) (.node (o232) .nil .nil)) (.node (o117) (.node (o193) .nil .nil) (.node (o269) .nil .nil))) (.node (o61) (.node (o99) (.node (o174) .nil .nil) (.node (o250) .nil .nil)) (.node (o137) (.node (o1) .nil .nil) (.node (o287) .nil .nil)))) (.node (o33) (.node (o51) (.node (o89) (.node (o164) .nil .nil) (.node (o0) .nil .nil)) (.node (o126) (.node (o167) .nil .nil) (.node (o278) .nil .nil))) (.node (o70 P) (.node (o1) (.node (o184) .nil .nil) (.node (o1) .nil .nil)) (.node (o0) (.node (o0) .nil .nil) (.node (o297) .nil .nil)))))) (.node (o2) (.node (o9) (.node (o21 P) (.node (o40) (.node (o77 P) (.node (o153) .nil .nil) (.node (o1) .nil .nil)) (.node (o115) (.node (o1) .nil .nil) (.node (o267) .nil .nil))) (.node (o58) (.node (o96) (.node (o172) .nil .nil) (.node (o248) .nil .nil)) (.node (o133) (.node (o211) .nil .nil) (.node (o0) .nil .nil)))) (.node (o30) (.node (o49 P) (.node (o86) (.node (o0) .nil .nil) (.node (o0) .nil .nil)) (.node (o0) (.node (o0) .nil .nil) (.node (o276) .nil .nil))) (.node (o68) (.node (o105) (.node (o181) .nil .nil) (.node (o257) .nil .nil)) (.node (o0) (.node (o221) .nil .nil) (.node (o294) .nil .nil))))) (.node (o0) (.node (o26) (.node (o44) (.node (o82) (.node (o158) .nil .nil) (.node (o234) .nil .nil)) (.node (o120) (.node (o197) .nil .nil) (.node (o271) .nil .nil))) (.node (o63 P) (.node (o0) (.node (o177) .nil .nil) (.node (o1) .nil .nil)) (.node (o139) (.node (o216) .nil .nil) (.node (o1) .nil .nil)))) (.node (o35 P) (.node (o54) (.node (o1) (.node (o0) .nil .nil) (.node (o243) .nil .nil)) (.node (o1) (.node (o0) .nil .nil) (.node (o281) .nil .nil))) (.node (o72) (.node (o110) (.node (o186) .nil .nil) (.node (o262) .nil .nil)) (.node (o148) (.node (o0) .nil .nil) (.node (o299) .nil .nil)))))))) (.node (boot_o_2 P) (.node (boot_o_4 P) (.node (boot_o_8 P) (.node (o1) (.node (o17) (.node (o36) (.node (o74) (.node (o0) (.node (o1) .nil .nil) .nil) (.node (o0) .nil .nil)) (.node (o0) (.node (o1) .nil .nil) (.node (o1) .nil .nil))) (.node (o11) (.node (o93) (.node (o169) .nil .nil) (.node (o0) .nil .nil)) (.node (o130) (.node (o209) .nil .nil) (.node (o282) .nil .nil)))) (.node (o11) (.node (o46) (.node (o11) (.node (o159) .nil .nil) (.node (o236) .nil .nil)) (.node (o121) (.node (o200) .nil .nil) (.node (o0) .nil .nil))) (.node (o64) (.node (o103) (.node (o178) .nil .nil) (.node (o254) .nil .nil)) (.node (o141) (.node (o1) .nil .nil) (.node (o291) .nil .nil))))) (.node (o12 P) (.node (o22) (.node (o11) (.node (o78) (.node (o1) .nil .nil) (.node (o231) .nil .nil)) (.node (o1) (.node (o192) .nil .nil) (.node (o268) .nil .nil))) (.node (o60) (.node (o98) (.node (o1) .nil .nil) (.node (o1) .nil .nil)) (.node (o136) (.node (o0) .nil .nil) (.node (o0) .nil .nil)))) (.node (o32) (.node (o50) (.node (o88) (.node (o0) .nil .nil) (.node (o241) .nil .nil)) (.node (o0) (.node (o205) .nil .nil) (.node (o1) .nil .nil))) (.node (o11) (.node (o0) (.node (o183) .nil .nil) (.node (o0) .nil .nil)) (.node (o146) (.node (o222) .nil .nil) (.node (o296) .nil .nil)))))) (.node (o5) (.node (o8) (.node (o11) (.node (o39) (.node (o11) (.node (o152) .nil .nil) (.node (o0) .nil .nil)) (.node (o114) (.node (o0) .nil .nil) (.node (o266) .nil .nil))) (.node (o57) (.node (o1) (.node (o171) .nil .nil) (.node (o247) .nil .nil)) (.node (o1) (.node (o0) .nil .nil) (.node (o285) .nil .nil)))) (.node (o29) (.node (o11) (.node (o85) (.node (o162) .nil .nil) (.node (o238) .nil .nil)) (.node (o124) (.node (o202) .nil .nil) (.node (o275) .nil .nil))) (.node (o67) (.node (o0) (.node (o1) .nil .nil) (.node (o1) .nil .nil)) (.node (o143) (.node (o220) .nil .nil) (.node (o1) .nil .nil))))) (.node (o14) (.node (o25) (.node (o43) (.node (o81) (.node (o157) .nil .nil) (.node (o1) .nil .nil)) (.node (o119) (.node (o196 P) .nil .nil) (.node (o1) .nil .nil))) (.node (o11) (.node (o100) (.node (o176) .nil .nil) (.node (o0) .nil .nil)) (.node (o1) (.node (o215) .nil .nil) (.node (o0) .nil .nil)))) (.node (o11) (.node (o53) (.node (o0) (.node (o167) .nil .nil) (.node (o0) .nil .nil)) (.node (o0) (.node (o206) .nil .nil) (.node (o280) .nil .nil))) (.node (o71) (.node (o109) (.node (o185) .nil .nil) (.node (o261) .nil .nil)) (.node (o0) (.node (o225) .nil .nil) (.node (o298) .nil .nil))))))) (.node (boot_o_6 P) (.node (boot_o_10 P) (.node (o0) (.node (o19) (.node (o0) (.node (o76) (.node (o151) (.node (o302) .nil .nil) .nil) (.node (o228) .nil .nil)) (.node (o113) (.node (o189) .nil .nil) (.node (o0) .nil .nil))) (.node (o0) (.node (o95) (.node (o0) .nil .nil) (.node (o246) .nil .nil)) (.node (o132) (.node (o1) .nil .nil) (.node (o283) .nil .nil)))) (.node (o0) (.node (o48) (.node (o0) (.node (o160) .nil .nil) (.node (o0) .nil .nil)) (.node (o122) (.node (o0) .nil .nil) (.node (o274) .nil .nil))) (.node (o0) (.node (o1) (.node (o180) .nil .nil) (.node (o256) .nil .nil)) (.node (o0) (.node (o0) .nil .nil) (.node (o293) .nil .nil))))) (.node (o1) (.node (o0) (.node (o0) (.node (o0) (.node (o0) .nil .nil) (.node (o233) .nil .nil)) (.node (o0) (.node (o194) .nil .nil) (.node (o270) .nil .nil))) (.node (o62) (.node (o0) (.node (o0) .nil .nil) (.node (o251) .nil .nil)) (.node (o138) (.node (o214) .nil .nil) (.node (o288) .nil .nil)))) (.node (o34) (.node (o0) (.node (o90) (.node (o165) .nil .nil) (.node (o1) .nil .nil)) (.node (o127) (.node (o0) .nil .nil) (.node (o0) .nil .nil))) (.node (o0) (.node (o108) (.node (o0) .nil .nil) (.node (o260) .nil .nil)) (.node (o1) (.node (o223) .nil .nil) (.node (o0) .nil .nil)))))) (.node (o3) (.node (o10) (.node (o0) (.node (o41) (.node (o0) (.node (o154) .nil .nil) (.node (o230) .nil .nil)) (.node (o116) (.node (o191) .nil .nil) (.node (o0) .nil .nil))) (.node (o0) (.node (o0) (.node (o173) .nil .nil) (.node (o249) .nil .nil)) (.node (o134) (.node (o212) .nil .nil) (.node (o1) .nil .nil)))) (.node (o0) (.node (o0) (.node (o0) (.node (o11) .nil .nil) (.node (o239) .nil .nil)) (.node (o1) (.node (o203) .nil .nil) (.node (o277) .nil .nil))) (.node (o69) (.node (o106) (.node (o0) .nil .nil) (.node (o258) .nil .nil)) (.node (o144) (.node (o0) .nil .nil) (.node (o0) .nil .nil))))) (.node (o15 P) (.node (o27) (.node (o0) (.node (o83) (.node (o0) .nil .nil) (.node (o0) .nil .nil)) (.node (o0) (.node (o198) .nil .nil) (.node (o272) .nil .nil))) (.node (o0) (.node (o101) (.node (o0) .nil .nil) (.node (o253) .nil .nil)) (.node (o0) (.node (o217) .nil .nil) (.node (o290) .nil .nil)))) (.node (o0) (.node (o55) (.node (o92) (.node (o1) .nil .nil) (.node (o244) .nil .nil)) (.node (o129) (.node (o207) .nil .nil) (.node (o0) .nil .nil))) (.node (o0) (.node (o111) (.node (o187) .nil .nil) (.node (o263) .nil .nil)) (.node (o149) (.node (o1) .nil .nil) (.node (o300) .nil .nil)))))))))
theorem pc0' (w : World) : (fun os => PySem.W.Fast.tw10110043849684766642 PySem.W.Fast.tw14364793385576792824 p w m0 ann (nat_lit 1) (nat_lit 4266) (⟨T0 w.params,nat_lit 15,lf0,⟨[]⟩,dr1,nat_lit 187,os⟩ : SharedT) (PySem.W.piecesOf ((b.drop 0).take 70) env cE ⟨0,0,0,0⟩ B)) = fun os => some (Flow.next,(⟨T1 w.params,nat_lit 516,lf0,⟨[]⟩,dr1,nat_lit 885,os⟩ : SharedT),cE,⟨378,0,400,15⟩) := by kernel_rfl
theorem pc0 (w : World) (os : OsState) : segRun treeTable p w m0 ann (nat_lit 1) (nat_lit 4266) (SharedT.abs (⟨T0 w.params,nat_lit 15,lf0,⟨[]⟩,dr1,nat_lit 187,os⟩ : SharedT)) (piecesOf ((b.drop 0).take 70) env cE ⟨0,0,0,0⟩ B) = some (Flow.next,SharedT.abs (⟨T1 w.params,nat_lit 516,lf0,⟨[]⟩,dr1,nat_lit 885,os⟩ : SharedT),cE,⟨378,0,400,15⟩) := by
  refine segRun_of ?_
  rw [PySem.W.Fast.te10110043849684766642,PySem.W.Fast.te14364793385576792824]
  exact congrFun (pc0' w) os
def H1 (P : Params) : Heap := ⟨⟨[boot_o_0 P,boot_o_1 P,boot_o_2 P,o4 P,boot_o_4 P,boot_o_5 P,boot_o_6 P,boot_o_7 P,boot_o_8 P,boot_o_9 P,boot_o_10 P,o0,o5,o2,o3,o0,o1,o6,o0,o7,o8,o9,o10,o11,o12 P,o0,o1,o13,o14,o0,o15 P,o16,o17,o18,o19,o20,o11,o21 P,o0,o1,o22,o23,o0,o24 P,o25,o26,o27,o20,o11,o28 P,o0,o1,o29,o30,o0,o31 P,o32,o33,o34,o20,o11,o35 P,o0,o1,o36,o37,o0,o38 P,o39,o40,o41,o20,o11,o42 P,o0,o1,o43,o44,o0,o45 P,o46,o47,o48,o20,o11,o49 P,o0,o1,o50,o51,o0,o52 P,o53,o54,o55,o20,o11,o56 P,o0,o1,o57,o58,o0,o59 P,o60,o61,o62,o20,o11,o63 P,o0,o1,o64,o65,o0,o66 P,o67,o68,o69,o20,o11,o70 P,o0,o1,o71,o72,o0,o73 P,o74,o75,o76,o20,o11,o77 P,o0,o1,o78,o79,o0,o80 P,o81,o82,o83,o20,o11,o84 P,o0,o1,o85,o86,o0,o87 P,o88,o89,o90,o91,o0,o1,o92,o0,o93,o94,o95,o0,o1,o96,o0,o97,o98,o99,o0,o1,o100,o0,o101,o102,o103,o0,o1,o104,o0,o105,o106,o107,o0,o1,o108,o0,o109,o110,o111,o112,o0,o1,o113,o0,o114,o115,o116,o0,o1,o117,o0,o118,o119,o120,o0,o1,o121,o0,o122,o123,o124,o0,o1,o125,o0,o126,o127,o128,o0,o1,o129,o0,o130,o131,o132,o0,o1,o133,o134,o135,o136,o137,o138,o0,o1,o139,o0,o140,o141,o142,o0,o1,o143,o0,o144,o145,o146,o0,o1,o147,o0,o148,o149,o150,o0,o1,o151,o0,o152,o153,o154,o0,o1,o155,o0,o156,o157,o158,o0,o1,o159,o0,o160,o161,o162,o0,o11,o163 P,o0,o164,o165,o166,o167,o0,o1,o168,o169,o170,o0,o1,o171,o172,o173,o0,o1,o174,o0,o175,o176,o177,o0,o1,o178,o179,o180,o0,o1,o181,o0,o182,o183,o184,o0,o1,o185,o186,o187,o0,o1,o188,o189,o190,o0,o1,o191,o0,o192,o193,o194,o195,o196 P,o197,o198,o199,o200,o201,o0,o1,o202,o0,o203,o204,o205,o167,o0,o1,o206,o0,o207,o208,o209,o0,o1,o210,o0,o211,o212,o213,o0,o1,o214,o0,o215,o216,o217,o0,o1,o218,o0,o219,o220,o221,o0,o1,o222,o0,o223,o224,o225,o0,o1,o226,o0,o227,o228,o229,o0,o1,o230,o0,o231,o232,o233,o0,o1,o234,o0,o235,o236,o237,o0,o1,o238,o0,o239,o240,o241,o0,o1,o242,o0,o243,o244,o245,o0,o1,o246,o0,o247,o248,o249,o0,o1,o250,o251,o252,o0,o1,o253,o0,o254,o255,o256,o0,o1,o257,o258,o259,o0,o1,o260,o0,o261,o262,o263,o0,o1,o264,o0,o265,o266,o267,o0,o1,o268,o269,o270,o0,o1,o271,o272,o273,o0,o1,o274,o0,o275,o276,o277,o0,o1,o278,o0,o279,o280,o281,o0,o1,o282,o0,o283,o284,o285,o0,o1,o286,o0,o287,o288,o289,o0,o1,o290,o0,o291,o292,o293,o0,o1,o294,o0,o295,o296,o297,o0,o1,o298,o299,o300,o0,o1,o301,o302,o303]⟩,lf0⟩
theorem fin' (w : World) : (fun os => PySem.W.Fast.tw14082659384304107361 PySem.W.Fast.tw14364793385576792824 p w m0 ann (nat_lit 2) (SharedT.abs (⟨T1 w.params,nat_lit 516,lf0,⟨[]⟩,dr1,nat_lit 885,os⟩ : SharedT)) (Thread.mk (PySem.W.doneF Flow.next) cE ⟨378,0,400,15⟩ B)) = fun os => some (⟨H1 w.params,⟨[]⟩,dr1,nat_lit 885,os⟩ : Shared) := by kernel_rfl
theorem fin (w : World) (os : OsState) : topRun treeTable p w m0 ann (nat_lit 2) (SharedT.abs (⟨T1 w.params,nat_lit 516,lf0,⟨[]⟩,dr1,nat_lit 885,os⟩ : SharedT)) (Thread.mk (doneF Flow.next) cE ⟨378,0,400,15⟩ B) = some (⟨H1 w.params,⟨[]⟩,dr1,nat_lit 885,os⟩ : Shared) := by
  rw [PySem.W.Fast.te14082659384304107361,PySem.W.Fast.te14364793385576792824]
  exact congrFun (fin' w) os
def as : List Addr := [2,3,15,17,18,20,21,22,29,30,31,32,35,42,43,44,47,54,55,56,59,66,67,68,71,78,79,80,83,90,91,92,95,102,103,104,107,114,115,116,119,126,127,128,131,138,139,140,143,150,151,152,155,156,158,159,161,162,163,165,166,168,169,170,172,173,175,176,177,179,180,182,183,184,186,187,189,190,191,192,194,195,197,198,199,201,202,204,205,206,208,209,211,212,213,215,216,218,219,220,222,223,225,226,227,230,231,232,233,234,235,237,238,240,241,242,244,245,247,248,249,251,252,254,255,256,258,259,261,262,263,265,266,268,269,270,272,273,275,276,284,285,288,289,290,293,294,295,297,298,300,301,302,305,306,307,309,310,312,313,314,317,318,319,322,323,324,326,327,329,330,331,332,333,334,335,338,340,341,343,344,345,346,348,349,351,352,353,355,356,358,359,360,362,363,365,366,367,369,370,372,373,374,376,377,379,380,381,383,384,386,387,388,390,391,393,394,395,397,398,400,401,402,404,405,407,408,409,411,412,414,415,416,418,419,421,422,423,426,427,428,430,431,433,434,435,438,439,440,442,443,445,446,447,449,450,452,453,454,457,458,459,462,463,464,466,467,469,470,471,473,474,476,477,478,480,481,483,484,485,487,488,490,491,492,494,495,497,498,499,501,502,504,505,506,509,510,511,514,515]
def K (P : Params) : Frag := [(2,boot_o_2 P),(3,o4 P),(15,o0),(17,o6),(18,o0),(20,o8),(21,o9),(22,o10),(29,o0),(30,o15 P),(31,o16),(32,o17),(35,o20),(42,o0),(43,o24 P),(44,o25),(47,o20),(54,o0),(55,o31 P),(56,o32),(59,o20),(66,o0),(67,o38 P),(68,o39),(71,o20),(78,o0),(79,o45 P),(80,o46),(83,o20),(90,o0),(91,o52 P),(92,o53),(95,o20),(102,o0),(103,o59 P),(104,o60),(107,o20),(114,o0),(115,o66 P),(116,o67),(119,o20),(126,o0),(127,o73 P),(128,o74),(131,o20),(138,o0),(139,o80 P),(140,o81),(143,o20),(150,o0),(151,o87 P),(152,o88),(155,o91),(156,o0),(158,o92),(159,o0),(161,o94),(162,o95),(163,o0),(165,o96),(166,o0),(168,o98),(169,o99),(170,o0),(172,o100),(173,o0),(175,o102),(176,o103),(177,o0),(179,o104),(180,o0),(182,o106),(183,o107),(184,o0),(186,o108),(187,o0),(189,o110),(190,o111),(191,o112),(192,o0),(194,o113),(195,o0),(197,o115),(198,o116),(199,o0),(201,o117),(202,o0),(204,o119),(205,o120),(206,o0),(208,o121),(209,o0),(211,o123),(212,o124),(213,o0),(215,o125),(216,o0),(218,o127),(219,o128),(220,o0),(222,o129),(223,o0),(225,o131),(226,o132),(227,o0),(230,o134),(231,o135),(232,o136),(233,o137),(234,o138),(235,o0),(237,o139),(238,o0),(240,o141),(241,o142),(242,o0),(244,o143),(245,o0),(247,o145),(248,o146),(249,o0),(251,o147),(252,o0),(254,o149),(255,o150),(256,o0),(258,o151),(259,o0),(261,o153),(262,o154),(263,o0),(265,o155),(266,o0),(268,o157),(269,o158),(270,o0),(272,o159),(273,o0),(275,o161),(276,o162),(284,o167),(285,o0),(288,o169),(289,o170),(290,o0),(293,o172),(294,o173),(295,o0),(297,o174),(298,o0),(300,o176),(301,o177),(302,o0),(305,o179),(306,o180),(307,o0),(309,o181),(310,o0),(312,o183),(313,o184),(314,o0),(317,o186),(318,o187),(319,o0),(322,o189),(323,o190),(324,o0),(326,o191),(327,o0),(329,o193),(330,o194),(331,o195),(332,o196 P),(333,o197),(334,o198),(335,o199),(338,o0),(340,o202),(341,o0),(343,o204),(344,o205),(345,o167),(346,o0),(348,o206),(349,o0),(351,o208),(352,o209),(353,o0),(355,o210),(356,o0),(358,o212),(359,o213),(360,o0),(362,o214),(363,o0),(365,o216),(366,o217),(367,o0),(369,o218),(370,o0),(372,o220),(373,o221),(374,o0),(376,o222),(377,o0),(379,o224),(380,o225),(381,o0),(383,o226),(384,o0),(386,o228),(387,o229),(388,o0),(390,o230),(391,o0),(393,o232),(394,o233),(395,o0),(397,o234),(398,o0),(400,o236),(401,o237),(402,o0),(404,o238),(405,o0),(407,o240),(408,o241),(409,o0),(411,o242),(412,o0),(414,o244),(415,o245),(416,o0),(418,o246),(419,o0),(421,o248),(422,o249),(423,o0),(426,o251),(427,o252),(428,o0),(430,o253),(431,o0),(433,o255),(434,o256),(435,o0),(438,o258),(439,o259),(440,o0),(442,o260),(443,o0),(445,o262),(446,o263),(447,o0),(449,o264),(450,o0),(452,o266),(453,o267),(454,o0),(457,o269),(458,o270),(459,o0),(462,o272),(463,o273),(464,o0),(466,o274),(467,o0),(469,o276),(470,o277),(471,o0),(473,o278),(474,o0),(476,o280),(477,o281),(478,o0),(480,o282),(481,o0),(483,o284),(484,o285),(485,o0),(487,o286),(488,o0),(490,o288),(491,o289),(492,o0),(494,o290),(495,o0),(497,o292),(498,o293),(499,o0),(501,o294),(502,o0),(504,o296),(505,o297),(506,o0),(509,o299),(510,o300),(511,o0),(514,o302),(515,o303)]
theorem asK (P : Params) : as = (K P).map (·.1) := by kernel_rfl
theorem at_ {w : World} {n N : Nat} {s s' r : Shared} {i k : Nat} {pos p' : Pos} (h : segRun treeTable p w m0 ann 1 n s (piecesOf ((b.drop i).take k) env cE pos B) = some (.next,s',cE,p')) (g : topRun treeTable p w m0 ann N s' (restOf (b.drop (i + k)) env cE p' B) = some r) : topRun treeTable p w m0 ann (n + N) s (restOf (b.drop i) env cE pos B) = some r := by
  have z := piece_app h g
  rwa [← List.drop_drop,List.take_append_drop] at z
theorem bend : b.drop 70 = [] := by kernel_rfl
theorem run (w : World) (os : OsState) : topRun treeTable p w m0 ann (12 + (1 + (4266 + 2))) (⟨boot_heap w.params,⟨[]⟩,boot_drawn,boot_toks,os⟩ : Shared) (topStub p) = some (⟨H1 w.params,⟨[]⟩,dr1,nat_lit 885,os⟩ : Shared) := go_top (pre w os) (piece_block (blk w os) (show topRun treeTable p w m0 ann _ _ (restOf (b.drop 0) env cE _ B) = _ from (at_ (i := 0) (k := 70) (pc0 w os) (by rw [show b.drop 70 = [] from bend]; exact piece_nil (fin w os)))))
theorem size (w : World) : ((boot_heap w.params).isNs mainGlobals && (⟨[]⟩ : Array GenState).size == 0,(boot_heap w.params).objs.size,(boot_heap w.params).nsMap mainGlobals "__annotations__") = (true,m0,ann) := by kernel_rfl
def qv : Program := view p [69]
def loose : List Str := [Str.ofString "_wall",Str.ofString "YardError",Str.ofString "NoLength",Str.ofString "NoBoard",Str.ofString "NoText",Str.ofString "NoDeed",Str.ofString "NoName",Str.ofString "Grain",Str.ofString "Unfit",Str.ofString "TooMany",Str.ofString "NoRow",Str.ofString "Apart",Str.ofString "NOUGHT",Str.ofString "GREAT_BITS",Str.ofString "HEAD_BITS",Str.ofString "is_whole",Str.ofString "common_divisor",Str.ofString "far_rests",Str.ofString "sure_steps",Str.ofString "with_sign_of",Str.ofString "length",Str.ofString "added",Str.ofString "taken",Str.ofString "is_above_nought",Str.ofString "under",Str.ofString "is_length",Str.ofString "CUTS",Str.ofString "GLUINGS",Str.ofString "SHIFTS",Str.ofString "TURN",Str.ofString "is_deed",Str.ofString "names_taken",Str.ofString "turned",Str.ofString "cut_across",Str.ofString "glued_beside",Str.ofString "stacked",Str.ofString "Yard",Str.ofString "yard_behind",Str.ofString "walked",Str.ofString "_law_cell",Str.ofString "_law_whole",Str.ofString "_law_great",Str.ofString "_law_digits",Str.ofString "_law_divisor",Str.ofString "_law_lowest",Str.ofString "_law_sign",Str.ofString "_law_plus",Str.ofString "_law_share",Str.ofString "_law_below",Str.ofString "_law_root",Str.ofString "_law_side",Str.ofString "_law_heap",Str.ofString "_law_new",Str.ofString "_law_at",Str.ofString "_law_deed",Str.ofString "_law_done",Str.ofString "_law_begin",Str.ofString "_law_is_length",Str.ofString "_law_is_heap",Str.ofString "_law_alone",Str.ofString "_law_plan",Str.ofString "_law_refused",Str.ofString "_law_spoilt"]
def Xt (s : Shared) : Bool := xlAt qv [] s && recOk [] s
def Yf (s : Shared) : List (Option Obj) := as.map s.heap.get?
def Ya (w : World) : List (Option Obj) := (K w.params).map fun p => some p.2
theorem FD (w : World) : (fun os : OsState => (staticsOk (importedModules p.main.body) (boot_heap w.params) (H1 w.params) && namesBound p (H1 w.params) && gensDone (⟨H1 w.params,⟨[]⟩,dr1,nat_lit 885,os⟩ : Shared) && laidKept (boot_heap w.params) (H1 w.params))) = fun _ => true := by kernel_rfl
theorem Fz (w : World) : (fun os : OsState => openSeen qv loose (importedModules p.main.body) Xt true (⟨H1 w.params,⟨[]⟩,dr1,nat_lit 885,os⟩ : Shared)) = fun _ => openGood qv loose := by kernel_rfl
theorem F5 (w : World) : (fun os : OsState => Yf (⟨H1 w.params,⟨[]⟩,dr1,nat_lit 885,os⟩ : Shared)) = fun _ => Ya w := by kernel_rfl
theorem left : LeftO p qv loose Xt Yf Ya 8656 := by
  refine LeftO.of_pieces (H₀ := boot_heap) (H₁ := H1) (gs₀ := ⟨[]⟩) (gs₁ := ⟨[]⟩) (d₀ := boot_drawn) (d₁ := dr1) (k₀ := boot_toks) (k₁ := nat_lit 885) (m₀ := m0) (ann := ann) (M := (12 + (1 + (4266 + 2)))) (boot_open (by kernel_rfl) (by decide) (fun s => by kernel_rfl)) size run (by decide) (fun w => funext fun os => ?_)
  exact looks_pair (congrFun (FD w) os) (looks_pair (congrFun (Fz w) os) (congrFun (F5 w) os))
end Hd
end
noncomputable section
namespace Hd
open PySem PySem.W PySem.Calls PyProof.Rows
abbrev pm0 : Value := (.str "boardglue.lengths" 374)
abbrev pm1 : Value := (.str "boardglue.yard" 492)
abbrev pm2 : Value := (.str "law_boardglue_k34_plans_walked" 656)
abbrev pm3 : Value := (.str "boardglue.boards" 484)
abbrev pm4 : Value := (.str "boardglue.plans" 632)
def cs : Bk.Cs := ⟨31,44,56,68,80,92,104,116,128,140,152,333⟩
section
variable {w : World} {mg : Str → Option Value} {h : Heap} (KX : (K w.params).In h) (G : h.Ns mainGlobals mg)
include KX G
theorem tp {x : Str} {st : Stmt} (f cd : Addr) (pm : Value) (a : nsIn (K w.params) mainGlobals x = some (some (.ref f))) (l : (K w.params).lookup f = some ⟨.type "function",none,.func (fnOf x x (L2.defArgs st) (L2.defBody st) (L2.defScope st) .none .none .none pm none (.ref cd) .none),#[]⟩) (c : codeIn (K w.params) (.ref cd) x = true) (k : keepIn (K w.params) (.ref f) = true) : L2.Top (K w.params) mg x st := L2.top_mk KX G a l c k
theorem tm {C : Addr} {m q : Str} {st : Stmt} (f cd : Addr) (pm : Value) (l : (K w.params).lookup f = some ⟨.type "function",none,.func (fnOf m q (L2.defArgs st) (L2.defBody st) (L2.defScope st) .none .none .none pm none (.ref cd) .none),#[]⟩) (c : codeIn (K w.params) (.ref cd) q = true) (k : keepIn (K w.params) (.ref f) = true) (a : findIn (K w.params) (.ref C) m = some (some (.ref f))) (n : isFn (K w.params) (.ref f) = true) : L2.TopM (K w.params) C m q st := L2.topM_mk l c k a n
theorem bl  : Bk.Bl mg := ⟨mg_none_of KX G (by kernel_rfl),mg_none_of KX G (by kernel_rfl),mg_none_of KX G (by kernel_rfl),mg_none_of KX G (by kernel_rfl),mg_none_of KX G (by kernel_rfl),mg_none_of KX G (by kernel_rfl),mg_none_of KX G (by kernel_rfl),mg_none_of KX G (by kernel_rfl),mg_none_of KX G (by kernel_rfl),mg_none_of KX G (by kernel_rfl),mg_none_of KX G (by kernel_rfl),mg_none_of KX G (by kernel_rfl),mg_none_of KX G (by kernel_rfl)⟩
theorem t_is_whole : L2.Top (K w.params) mg "is_whole" Bk.s_is_whole := tp KX G 162 161 pm0 (by kernel_rfl) (by kernel_rfl) (by kernel_rfl) (by kernel_rfl)
theorem t_common_divisor : L2.Top (K w.params) mg "common_divisor" Bk.s_common_divisor := tp KX G 169 168 pm0 (by kernel_rfl) (by kernel_rfl) (by kernel_rfl) (by kernel_rfl)
theorem t_with_sign_of : L2.Top (K w.params) mg "with_sign_of" Bk.s_with_sign_of := tp KX G 190 189 pm0 (by kernel_rfl) (by kernel_rfl) (by kernel_rfl) (by kernel_rfl)
theorem t_is_above_nought : L2.Top (K w.params) mg "is_above_nought" Bk.s_is_above_nought := tp KX G 219 218 pm0 (by kernel_rfl) (by kernel_rfl) (by kernel_rfl) (by kernel_rfl)
theorem t_names_taken : L2.Top (K w.params) mg "names_taken" Bk.s_names_taken := tp KX G 248 247 pm1 (by kernel_rfl) (by kernel_rfl) (by kernel_rfl) (by kernel_rfl)
theorem t_turned : L2.Top (K w.params) mg "turned" Bk.s_turned := tp KX G 255 254 pm1 (by kernel_rfl) (by kernel_rfl) (by kernel_rfl) (by kernel_rfl)
theorem t__law_cell : L2.Top (K w.params) mg "_law_cell" Bk.s__law_cell := tp KX G 359 358 pm2 (by kernel_rfl) (by kernel_rfl) (by kernel_rfl) (by kernel_rfl)
theorem t__law_whole : L2.Top (K w.params) mg "_law_whole" Bk.s__law_whole := tp KX G 366 365 pm2 (by kernel_rfl) (by kernel_rfl) (by kernel_rfl) (by kernel_rfl)
theorem t__law_great : L2.Top (K w.params) mg "_law_great" Bk.s__law_great := tp KX G 373 372 pm2 (by kernel_rfl) (by kernel_rfl) (by kernel_rfl) (by kernel_rfl)
theorem t__law_divisor : L2.Top (K w.params) mg "_law_divisor" Bk.s__law_divisor := tp KX G 387 386 pm2 (by kernel_rfl) (by kernel_rfl) (by kernel_rfl) (by kernel_rfl)
theorem t__law_sign : L2.Top (K w.params) mg "_law_sign" Bk.s__law_sign := tp KX G 401 400 pm2 (by kernel_rfl) (by kernel_rfl) (by kernel_rfl) (by kernel_rfl)
theorem t__law_begin : L2.Top (K w.params) mg "_law_begin" Bk.s__law_begin := tp KX G 470 469 pm2 (by kernel_rfl) (by kernel_rfl) (by kernel_rfl) (by kernel_rfl)
theorem t__law_alone : L2.Top (K w.params) mg "_law_alone" Bk.s__law_alone := tp KX G 491 490 pm2 (by kernel_rfl) (by kernel_rfl) (by kernel_rfl) (by kernel_rfl)
theorem t_Yard___init__  : L2.TopIn (K w.params) mg 333 "Yard" "Yard.__init__" Bk.s_Yard___init__ [(.bool false)] := L2.topIn_mk (f := 289) (T := 284) (its := [(.bool false)]) (n := 0) (to := o167) (oc := (.type "function")) (od := none) (osl := #[]) (kV := .none) (doc := .none) (pm := (.str "boardglue.yard" 492)) (an := none) (cdv := (.ref 288)) (ct := .none) KX G (by kernel_rfl) (by kernel_rfl) (by kernel_rfl) (by kernel_rfl) rfl (by kernel_rfl) (by kernel_rfl) (by kernel_rfl) (by kernel_rfl) (by kernel_rfl)
theorem t_Yard_heap : L2.TopM (K w.params) 333 "heap" "Yard.heap" Bk.s_Yard_heap := tm KX G 323 322 pm1 (by kernel_rfl) (by kernel_rfl) (by kernel_rfl) (by kernel_rfl) (by kernel_rfl)
theorem t_length  : L2.TopD (K w.params) mg "length" Bk.s_length [(.int (0) 432),(.int (1) 433)] := L2.topD_mk (f := 198) (T := 191) (its := [(.int (0) 432),(.int (1) 433)]) (n := 0) (to := o112) (oc := (.type "function")) (od := none) (osl := #[]) (kV := .none) (doc := .none) (pm := (.str "boardglue.lengths" 374)) (an := none) (cdv := (.ref 197)) (ct := .none) KX G (by kernel_rfl) (by kernel_rfl) (by kernel_rfl) (by kernel_rfl) (by kernel_rfl) rfl
theorem t_added : L2.Top (K w.params) mg "added" Bk.s_added := tp KX G 205 204 pm0 (by kernel_rfl) (by kernel_rfl) (by kernel_rfl) (by kernel_rfl)
theorem t_under : L2.Top (K w.params) mg "under" Bk.s_under := tp KX G 226 225 pm0 (by kernel_rfl) (by kernel_rfl) (by kernel_rfl) (by kernel_rfl)
theorem t__law_digits : L2.Top (K w.params) mg "_law_digits" Bk.s__law_digits := tp KX G 380 379 pm2 (by kernel_rfl) (by kernel_rfl) (by kernel_rfl) (by kernel_rfl)
theorem t__law_lowest : L2.Top (K w.params) mg "_law_lowest" Bk.s__law_lowest := tp KX G 394 393 pm2 (by kernel_rfl) (by kernel_rfl) (by kernel_rfl) (by kernel_rfl)
theorem t__law_root : L2.Top (K w.params) mg "_law_root" Bk.s__law_root := tp KX G 427 426 pm2 (by kernel_rfl) (by kernel_rfl) (by kernel_rfl) (by kernel_rfl)
theorem t__law_is_length : L2.Top (K w.params) mg "_law_is_length" Bk.s__law_is_length := tp KX G 477 476 pm2 (by kernel_rfl) (by kernel_rfl) (by kernel_rfl) (by kernel_rfl)
theorem t__law_spoilt : L2.Top (K w.params) mg "_law_spoilt" Bk.s__law_spoilt := tp KX G 510 509 pm2 (by kernel_rfl) (by kernel_rfl) (by kernel_rfl) (by kernel_rfl)
theorem t_Yard_check_names : L2.TopM (K w.params) 333 "check_names" "Yard.check_names" Bk.s_Yard_check_names := tm KX G 301 300 pm1 (by kernel_rfl) (by kernel_rfl) (by kernel_rfl) (by kernel_rfl) (by kernel_rfl)
theorem t_taken : L2.Top (K w.params) mg "taken" Bk.s_taken := tp KX G 212 211 pm0 (by kernel_rfl) (by kernel_rfl) (by kernel_rfl) (by kernel_rfl)
theorem t_is_length : L2.Top (K w.params) mg "is_length" Bk.s_is_length := tp KX G 231 230 pm3 (by kernel_rfl) (by kernel_rfl) (by kernel_rfl) (by kernel_rfl)
theorem t_glued_beside : L2.Top (K w.params) mg "glued_beside" Bk.s_glued_beside := tp KX G 269 268 pm1 (by kernel_rfl) (by kernel_rfl) (by kernel_rfl) (by kernel_rfl)
theorem t_stacked : L2.Top (K w.params) mg "stacked" Bk.s_stacked := tp KX G 276 275 pm1 (by kernel_rfl) (by kernel_rfl) (by kernel_rfl) (by kernel_rfl)
theorem t__law_plus : L2.Top (K w.params) mg "_law_plus" Bk.s__law_plus := tp KX G 408 407 pm2 (by kernel_rfl) (by kernel_rfl) (by kernel_rfl) (by kernel_rfl)
theorem t__law_share : L2.Top (K w.params) mg "_law_share" Bk.s__law_share := tp KX G 415 414 pm2 (by kernel_rfl) (by kernel_rfl) (by kernel_rfl) (by kernel_rfl)
theorem t__law_side : L2.Top (K w.params) mg "_law_side" Bk.s__law_side := tp KX G 434 433 pm2 (by kernel_rfl) (by kernel_rfl) (by kernel_rfl) (by kernel_rfl)
theorem t__law_is_heap : L2.Top (K w.params) mg "_law_is_heap" Bk.s__law_is_heap := tp KX G 484 483 pm2 (by kernel_rfl) (by kernel_rfl) (by kernel_rfl) (by kernel_rfl)
theorem t_is_deed : L2.Top (K w.params) mg "is_deed" Bk.s_is_deed := tp KX G 241 240 pm1 (by kernel_rfl) (by kernel_rfl) (by kernel_rfl) (by kernel_rfl)
theorem t_cut_across : L2.Top (K w.params) mg "cut_across" Bk.s_cut_across := tp KX G 262 261 pm1 (by kernel_rfl) (by kernel_rfl) (by kernel_rfl) (by kernel_rfl)
theorem t__law_below : L2.Top (K w.params) mg "_law_below" Bk.s__law_below := tp KX G 422 421 pm2 (by kernel_rfl) (by kernel_rfl) (by kernel_rfl) (by kernel_rfl)
theorem t__law_heap : L2.Top (K w.params) mg "_law_heap" Bk.s__law_heap := tp KX G 439 438 pm2 (by kernel_rfl) (by kernel_rfl) (by kernel_rfl) (by kernel_rfl)
theorem t__law_new : L2.Top (K w.params) mg "_law_new" Bk.s__law_new := tp KX G 446 445 pm2 (by kernel_rfl) (by kernel_rfl) (by kernel_rfl) (by kernel_rfl)
theorem t__law_at : L2.Top (K w.params) mg "_law_at" Bk.s__law_at := tp KX G 453 452 pm2 (by kernel_rfl) (by kernel_rfl) (by kernel_rfl) (by kernel_rfl)
theorem t__law_done : L2.Top (K w.params) mg "_law_done" Bk.s__law_done := tp KX G 463 462 pm2 (by kernel_rfl) (by kernel_rfl) (by kernel_rfl) (by kernel_rfl)
theorem t_Yard_put_by : L2.TopM (K w.params) 333 "put_by" "Yard.put_by" Bk.s_Yard_put_by := tm KX G 306 305 pm1 (by kernel_rfl) (by kernel_rfl) (by kernel_rfl) (by kernel_rfl) (by kernel_rfl)
theorem t__law_deed : L2.Top (K w.params) mg "_law_deed" Bk.s__law_deed := tp KX G 458 457 pm2 (by kernel_rfl) (by kernel_rfl) (by kernel_rfl) (by kernel_rfl)
theorem t_Yard_do : L2.TopM (K w.params) 333 "do" "Yard.do" Bk.s_Yard_do := tm KX G 294 293 pm1 (by kernel_rfl) (by kernel_rfl) (by kernel_rfl) (by kernel_rfl) (by kernel_rfl)
theorem t_yard_behind : L2.Top (K w.params) mg "yard_behind" Bk.s_yard_behind := tp KX G 344 343 pm4 (by kernel_rfl) (by kernel_rfl) (by kernel_rfl) (by kernel_rfl)
theorem t__law_plan : L2.Top (K w.params) mg "_law_plan" Bk.s__law_plan := tp KX G 498 497 pm2 (by kernel_rfl) (by kernel_rfl) (by kernel_rfl) (by kernel_rfl)
theorem t_walked  : L2.TopD (K w.params) mg "walked" Bk.s_walked [(.bool false)] := L2.topD_mk (f := 352) (T := 345) (its := [(.bool false)]) (n := 0) (to := o167) (oc := (.type "function")) (od := none) (osl := #[]) (kV := .none) (doc := .none) (pm := (.str "boardglue.plans" 632)) (an := none) (cdv := (.ref 351)) (ct := .none) KX G (by kernel_rfl) (by kernel_rfl) (by kernel_rfl) (by kernel_rfl) (by kernel_rfl) rfl
theorem t__law_refused : L2.Top (K w.params) mg "_law_refused" Bk.s__law_refused := tp KX G 505 504 pm2 (by kernel_rfl) (by kernel_rfl) (by kernel_rfl) (by kernel_rfl)
theorem t_law : L2.Top (K w.params) mg "law" Bk.s_law := tp KX G 515 514 pm2 (by kernel_rfl) (by kernel_rfl) (by kernel_rfl) (by kernel_rfl)
theorem g_NOUGHT  : L2.TopT (K w.params) mg "NOUGHT" [.int 0,.int 0,.int 1] := L2.topT_mk (a := 155) (o := o91) (its := #[(.int (0) 376),(.int (0) 377),(.int (1) 378)]) (n := 0) KX G (by kernel_rfl) (by kernel_rfl) rfl rfl (by decide) (.cons ⟨_,rfl⟩ (.cons ⟨_,rfl⟩ (.cons ⟨_,rfl⟩ .nil)))
theorem g_GREAT_BITS  : L2.TopI mg "GREAT_BITS" (8192) := L2.topI_mk (t := 380) KX G (by kernel_rfl)
theorem g_CUTS  : L2.TopT (K w.params) mg "CUTS" [.str "across",.str "along"] := L2.topT_mk (a := 232) (o := o136) (its := #[(.str "across" 494),(.str "along" 495)]) (n := 0) KX G (by kernel_rfl) (by kernel_rfl) rfl rfl (by decide) (.cons ⟨_,rfl⟩ (.cons ⟨_,rfl⟩ .nil))
theorem g_GLUINGS  : L2.TopT (K w.params) mg "GLUINGS" [.str "beside",.str "atop"] := L2.topT_mk (a := 233) (o := o137) (its := #[(.str "beside" 497),(.str "atop" 498)]) (n := 0) KX G (by kernel_rfl) (by kernel_rfl) rfl rfl (by decide) (.cons ⟨_,rfl⟩ (.cons ⟨_,rfl⟩ .nil))
theorem g_SHIFTS  : L2.TopT (K w.params) mg "SHIFTS" [.str "stack",.str "spread"] := L2.topT_mk (a := 234) (o := o138) (its := #[(.str "stack" 500),(.str "spread" 501)]) (n := 0) KX G (by kernel_rfl) (by kernel_rfl) rfl rfl (by decide) (.cons ⟨_,rfl⟩ (.cons ⟨_,rfl⟩ .nil))
theorem g_TURN  : L2.TopS mg "TURN" (Str.ofString "turn") := L2.topS_mk (t := 503) KX G (by kernel_rfl)
theorem xs  : Bk.Xs (K w.params) mg cs := ⟨(mg_of KX G (by kernel_rfl)),(mg_of KX G (by kernel_rfl)),(mg_of KX G (by kernel_rfl)),(mg_of KX G (by kernel_rfl)),(mg_of KX G (by kernel_rfl)),(mg_of KX G (by kernel_rfl)),(mg_of KX G (by kernel_rfl)),(mg_of KX G (by kernel_rfl)),(mg_of KX G (by kernel_rfl)),(mg_of KX G (by kernel_rfl)),(mg_of KX G (by kernel_rfl)),(mg_of KX G (by kernel_rfl)),⟨(by kernel_rfl),(by kernel_rfl),(by kernel_rfl),(by kernel_rfl),(by kernel_rfl),(by kernel_rfl),(by kernel_rfl)⟩,⟨(by kernel_rfl),(by kernel_rfl),(by kernel_rfl),(by kernel_rfl),(by kernel_rfl),(by kernel_rfl),(by kernel_rfl)⟩,⟨(by kernel_rfl),(by kernel_rfl),(by kernel_rfl),(by kernel_rfl),(by kernel_rfl),(by kernel_rfl),(by kernel_rfl)⟩,⟨(by kernel_rfl),(by kernel_rfl),(by kernel_rfl),(by kernel_rfl),(by kernel_rfl),(by kernel_rfl),(by kernel_rfl)⟩,⟨(by kernel_rfl),(by kernel_rfl),(by kernel_rfl),(by kernel_rfl),(by kernel_rfl),(by kernel_rfl),(by kernel_rfl)⟩,(by kernel_rfl),(by kernel_rfl),(by kernel_rfl),(by kernel_rfl),(by kernel_rfl),(by kernel_rfl),(by kernel_rfl),(by kernel_rfl),(by kernel_rfl),(by kernel_rfl),(by kernel_rfl),(by kernel_rfl),(by kernel_rfl),(by kernel_rfl),(by kernel_rfl),(by kernel_rfl),(by kernel_rfl),(by kernel_rfl),(by kernel_rfl),(by kernel_rfl),(by kernel_rfl),(by kernel_rfl),(by kernel_rfl),(by kernel_rfl),(by kernel_rfl),(by kernel_rfl),(by kernel_rfl),(by kernel_rfl),(by kernel_rfl),(by kernel_rfl),(by kernel_rfl),(by kernel_rfl),(by kernel_rfl),(by kernel_rfl),(by kernel_rfl),(by kernel_rfl),(by kernel_rfl),(by kernel_rfl),(by kernel_rfl),(by kernel_rfl),(by kernel_rfl),(by kernel_rfl),(by kernel_rfl),(by kernel_rfl),(by kernel_rfl),(by kernel_rfl),(by kernel_rfl),(by kernel_rfl),(by kernel_rfl),(by kernel_rfl),(by kernel_rfl),(by kernel_rfl),(by kernel_rfl),(by kernel_rfl),(by kernel_rfl),(by kernel_rfl),⟨(by kernel_rfl),(by kernel_rfl),(by kernel_rfl),(by kernel_rfl)⟩,(by unfold L2.NoAttr; kernel_rfl),(by unfold L2.NoAttr; kernel_rfl),(by unfold L2.NoAttr; kernel_rfl),(by unfold L2.NoAttr; kernel_rfl),(by unfold L2.NoAttr; kernel_rfl)⟩
end
end Hd
end
open PySem PySem.W PyProof.Rows
set_option maxRecDepth 100000 in
set_option maxHeartbeats 0 in
theorem PySem.Challenge.cw_boardglue_k34_plans_walked_holds : PySem.Challenge.rw_boardglue_k34_plans_walked.Holds := by
  w_on; o_law
  rename_i said
  refine holds_open (r := PySem.Challenge.rw_boardglue_k34_plans_walked.row) (q := Hd.qv) (loose := Hd.loose) (Xt := Hd.Xt) (XP := XL Hd.qv []) (Yf := Hd.Yf) (Ya := Hd.Ya) (YP := InK Hd.K) (N := 8656) Hd.left (InK.of Hd.asK) InK.keeps (fun s e => xl_of s (Bool.and_eq_true_iff.mp e).1) XL.keeps (by rfl) (by rfl) (by rfl) (fun s e => recFacts_of (Bool.and_eq_true_iff.mp e).2) (by rfl) said (by decide +kernel) ⟨rfl,rfl,rfl,rfl,rfl,by decide +kernel⟩ ?hw ?hc
  case hw => w_witness2
  refine L2.walk_B (l := PySem.Challenge.rw_boardglue_k34_plans_walked) (k := 10) (x := "_law_script") rfl rfl ⟨rfl,by decide,by decide⟩ (fun w h Y => Y) ?F
  case F =>
    intro w mg fa h KX G hmg
    have B : Bk.Bl mg := Hd.bl KX G
    have T_is_whole := Hd.t_is_whole KX G
    have T_common_divisor := Hd.t_common_divisor KX G
    have T_with_sign_of := Hd.t_with_sign_of KX G
    have T_is_above_nought := Hd.t_is_above_nought KX G
    have T_names_taken := Hd.t_names_taken KX G
    have T_turned := Hd.t_turned KX G
    have T__law_cell := Hd.t__law_cell KX G
    have T__law_whole := Hd.t__law_whole KX G
    have T__law_great := Hd.t__law_great KX G
    have T__law_divisor := Hd.t__law_divisor KX G
    have T__law_sign := Hd.t__law_sign KX G
    have T__law_begin := Hd.t__law_begin KX G
    have T__law_alone := Hd.t__law_alone KX G
    have T_Yard___init__ := Hd.t_Yard___init__ KX G
    have T_Yard_heap := Hd.t_Yard_heap KX G
    have T_length := Hd.t_length KX G
    have T_added := Hd.t_added KX G
    have T_under := Hd.t_under KX G
    have T__law_digits := Hd.t__law_digits KX G
    have T__law_lowest := Hd.t__law_lowest KX G
    have T__law_root := Hd.t__law_root KX G
    have T__law_is_length := Hd.t__law_is_length KX G
    have T__law_spoilt := Hd.t__law_spoilt KX G
    have T_Yard_check_names := Hd.t_Yard_check_names KX G
    have T_taken := Hd.t_taken KX G
    have T_is_length := Hd.t_is_length KX G
    have T_glued_beside := Hd.t_glued_beside KX G
    have T_stacked := Hd.t_stacked KX G
    have T__law_plus := Hd.t__law_plus KX G
    have T__law_share := Hd.t__law_share KX G
    have T__law_side := Hd.t__law_side KX G
    have T__law_is_heap := Hd.t__law_is_heap KX G
    have T_is_deed := Hd.t_is_deed KX G
    have T_cut_across := Hd.t_cut_across KX G
    have T__law_below := Hd.t__law_below KX G
    have T__law_heap := Hd.t__law_heap KX G
    have T__law_new := Hd.t__law_new KX G
    have T__law_at := Hd.t__law_at KX G
    have T__law_done := Hd.t__law_done KX G
    have T_Yard_put_by := Hd.t_Yard_put_by KX G
    have T__law_deed := Hd.t__law_deed KX G
    have T_Yard_do := Hd.t_Yard_do KX G
    have T_yard_behind := Hd.t_yard_behind KX G
    have T__law_plan := Hd.t__law_plan KX G
    have T_walked := Hd.t_walked KX G
    have T__law_refused := Hd.t__law_refused KX G
    have T_law := Hd.t_law KX G
    have g_NOUGHT := Hd.g_NOUGHT KX G
    have g_GREAT_BITS := Hd.g_GREAT_BITS KX G
    have g_CUTS := Hd.g_CUTS KX G
    have g_GLUINGS := Hd.g_GLUINGS KX G
    have g_SHIFTS := Hd.g_SHIFTS KX G
    have g_TURN := Hd.g_TURN KX G
    have X := Hd.xs KX G
    refine L2.law_mk T_law hmg (fun _ _ _ _ _ _ _ => rfl) fun base f fd F => ?_
    have o_is_whole : L2.Own Hd.p w (Hd.K w.params) mg base 1 "is_whole" ["thing"] [] Bk.sp_is_whole := T_is_whole.own (fun _ _ _ _ _ _ us hl => match us,hl with | [_],_ => rfl) (fun f fd F => Bk.ok_is_whole F B )
    have o_common_divisor : L2.Own Hd.p w (Hd.K w.params) mg base 1 "common_divisor" ["one","other"] [] Bk.sp_common_divisor := T_common_divisor.own (fun _ _ _ _ _ _ us hl => match us,hl with | [_,_],_ => rfl) (fun f fd F => Bk.ok_common_divisor F B g_GREAT_BITS)
    have o_with_sign_of : L2.Own Hd.p w (Hd.K w.params) mg base 1 "with_sign_of" ["divisor","bottom"] [] Bk.sp_with_sign_of := T_with_sign_of.own (fun _ _ _ _ _ _ us hl => match us,hl with | [_,_],_ => rfl) (fun f fd F => Bk.ok_with_sign_of F B )
    have o_is_above_nought : L2.Own Hd.p w (Hd.K w.params) mg base 1 "is_above_nought" ["d","a","b"] [] Bk.sp_is_above_nought := T_is_above_nought.own (fun _ _ _ _ _ _ us hl => match us,hl with | [_,_,_],_ => rfl) (fun f fd F => Bk.ok_is_above_nought F B )
    have o_names_taken : L2.Own Hd.p w (Hd.K w.params) mg base 1 "names_taken" ["deed"] [] Bk.sp_names_taken := T_names_taken.own (fun _ _ _ _ _ _ us hl => match us,hl with | [_],_ => rfl) (fun f fd F => Bk.ok_names_taken F B g_GLUINGS)
    have o_turned : L2.Own Hd.p w (Hd.K w.params) mg base 1 "turned" ["one"] [] Bk.sp_turned := T_turned.own (fun _ _ _ _ _ _ us hl => match us,hl with | [_],_ => rfl) (fun f fd F => Bk.ok_turned F B )
    have o__law_cell : L2.Own Hd.p w (Hd.K w.params) mg base 1 "_law_cell" ["_law_script","_law_k"] [] (Bk.sp__law_cell (Hd.K w.params)) := T__law_cell.own (fun _ _ _ _ _ _ us hl => match us,hl with | [_,_],_ => rfl) (fun f fd F => Bk.ok__law_cell F B )
    have o__law_whole : L2.Own Hd.p w (Hd.K w.params) mg base 1 "_law_whole" ["_law_found"] [] Bk.sp__law_whole := T__law_whole.own (fun _ _ _ _ _ _ us hl => match us,hl with | [_],_ => rfl) (fun f fd F => Bk.ok__law_whole F B )
    have o__law_great : L2.Own Hd.p w (Hd.K w.params) mg base 1 "_law_great" ["_law_cell_here","_law_k"] [] Bk.sp__law_great := T__law_great.own (fun _ _ _ _ _ _ us hl => match us,hl with | [_,_],_ => rfl) (fun f fd F => Bk.ok__law_great F B )
    have o__law_divisor : L2.Own Hd.p w (Hd.K w.params) mg base 1 "_law_divisor" ["_law_one","_law_other"] [] Bk.sp__law_divisor := T__law_divisor.own (fun _ _ _ _ _ _ us hl => match us,hl with | [_,_],_ => rfl) (fun f fd F => Bk.ok__law_divisor F B )
    have o__law_sign : L2.Own Hd.p w (Hd.K w.params) mg base 1 "_law_sign" ["_law_d","_law_a","_law_b"] [] Bk.sp__law_sign := T__law_sign.own (fun _ _ _ _ _ _ us hl => match us,hl with | [_,_,_],_ => rfl) (fun f fd F => Bk.ok__law_sign F B )
    have o__law_begin : L2.Own Hd.p w (Hd.K w.params) mg base 1 "_law_begin" ["_law_heap_here"] [] Bk.sp__law_begin := T__law_begin.own (fun _ _ _ _ _ _ us hl => match us,hl with | [_],_ => rfl) (fun f fd F => Bk.ok__law_begin F B )
    have o__law_alone : L2.Own Hd.p w (Hd.K w.params) mg base 1 "_law_alone" ["_law_error"] [] (Bk.sp__law_alone Hd.cs) := T__law_alone.own (fun _ _ _ _ _ _ us hl => match us,hl with | [_],_ => rfl) (fun f fd F => Bk.ok__law_alone F B X)
    have o_Yard___init__ : L2.OwnI Hd.p w (Hd.K w.params) mg base L2.CX0 Hd.cs.Yard 1 "Yard" ["self","d","heap","turning"] [] (Bk.sp_Yard___init__ Hd.cs) := T_Yard___init__.own (ds := []) (fun T _ _ _ _ _ _ us hl => by have hl' : us.length = 4 := (by simpa using hl); match us,hl' with | [_,_,_,_],_ => exact ⟨_,rfl,rfl⟩) .nil (fun f fd F => Bk.ok_Yard___init__ F B X)
    have o_Yard_heap : L2.OwnM Hd.p w (Hd.K w.params) mg base L2.CX0 Hd.cs.Yard 1 "heap" ["self"] [] (Bk.sp_Yard_heap Hd.cs) := T_Yard_heap.own X.c_Yard (fun _ _ _ _ _ _ us hl => match us,hl with | [_],_ => rfl) (fun f fd F => Bk.ok_Yard_heap F B X)
    have o_length : L2.Own Hd.p w (Hd.K w.params) mg base 2 "length" ["a","b","n"] [] Bk.sp_length := T_length.own (ds := []) (fun T _ _ _ _ _ _ us hl => by have hl' : us.length = 3 := (by simpa using hl); match us,hl' with | [_,_,_],_ => exact ⟨_,rfl,rfl⟩) .nil (fun f fd F => Bk.ok_length F B o_with_sign_of o_common_divisor o_is_whole)
    have o_added : L2.Own Hd.p w (Hd.K w.params) mg base 2 "added" ["one","other"] [] Bk.sp_added := T_added.own (fun _ _ _ _ _ _ us hl => match us,hl with | [_,_],_ => rfl) (fun f fd F => Bk.ok_added F B o_common_divisor)
    have o_under : L2.Own Hd.p w (Hd.K w.params) mg base 2 "under" ["d","one","other"] [] (Bk.sp_under (Hd.K w.params)) := T_under.own (fun _ _ _ _ _ _ us hl => match us,hl with | [_,_,_],_ => rfl) (fun f fd F => Bk.ok_under F B o_is_above_nought)
    have o__law_digits : L2.Own Hd.p w (Hd.K w.params) mg base 2 "_law_digits" ["_law_cell_here","_law_many"] [] Bk.sp__law_digits := T__law_digits.own (fun _ _ _ _ _ _ us hl => match us,hl with | [_,_],_ => rfl) (fun f fd F => Bk.ok__law_digits F B o__law_great)
    have o__law_lowest : L2.Own Hd.p w (Hd.K w.params) mg base 2 "_law_lowest" ["_law_a","_law_b","_law_n"] [] Bk.sp__law_lowest := T__law_lowest.own (fun _ _ _ _ _ _ us hl => match us,hl with | [_,_,_],_ => rfl) (fun f fd F => Bk.ok__law_lowest F B o__law_divisor)
    have o__law_root : L2.Own Hd.p w (Hd.K w.params) mg base 2 "_law_root" ["_law_cell_here","_law_k"] [] Bk.sp__law_root := T__law_root.own (fun _ _ _ _ _ _ us hl => match us,hl with | [_,_],_ => rfl) (fun f fd F => Bk.ok__law_root F B o__law_great)
    have o__law_is_length : L2.Own Hd.p w (Hd.K w.params) mg base 2 "_law_is_length" ["_law_found"] [] Bk.sp__law_is_length := T__law_is_length.own (fun _ _ _ _ _ _ us hl => match us,hl with | [_],_ => rfl) (fun f fd F => Bk.ok__law_is_length F B o__law_whole)
    have o__law_spoilt : L2.Own Hd.p w (Hd.K w.params) mg base 2 "_law_spoilt" ["_law_plan_here","_law_states","_law_cell_here","_law_due"] [] (Bk.sp__law_spoilt Hd.cs) := T__law_spoilt.own (fun _ _ _ _ _ _ us hl => match us,hl with | [_,_,_,_],_ => rfl) (fun f fd F => Bk.ok__law_spoilt F B o__law_great)
    have o_Yard_check_names : L2.OwnM Hd.p w (Hd.K w.params) mg base (L2.CXe Hd.p w) Hd.cs.Yard 2 "check_names" ["self","names"] [] (Bk.sp_Yard_check_names Hd.cs) := T_Yard_check_names.own X.c_Yard (fun _ _ _ _ _ _ us hl => match us,hl with | [_,_],_ => rfl) (fun f fd F => Bk.ok_Yard_check_names F B X o_is_whole)
    have o_taken : L2.Own Hd.p w (Hd.K w.params) mg base 3 "taken" ["one","other"] [] Bk.sp_taken := T_taken.own (fun _ _ _ _ _ _ us hl => match us,hl with | [_,_],_ => rfl) (fun f fd F => Bk.ok_taken F B o_added)
    have o_is_length : L2.Own Hd.p w (Hd.K w.params) mg base 3 "is_length" ["thing"] [] Bk.sp_is_length := T_is_length.own (fun _ _ _ _ _ _ us hl => match us,hl with | [_],_ => rfl) (fun f fd F => Bk.ok_is_length F B o_length o_is_whole)
    have o_glued_beside : L2.OwnX Hd.p w (Hd.K w.params) mg base 3 "glued_beside" ["one","other"] [] (Bk.sp_glued_beside Hd.cs) := T_glued_beside.ownX (fun _ _ _ _ _ _ us hl => match us,hl with | [_,_],_ => rfl) (fun f fd F => Bk.ok_glued_beside F B X o_added)
    have o_stacked : L2.Own Hd.p w (Hd.K w.params) mg base 3 "stacked" ["one","many"] [] Bk.sp_stacked := T_stacked.own (fun _ _ _ _ _ _ us hl => match us,hl with | [_,_],_ => rfl) (fun f fd F => Bk.ok_stacked F B o_length)
    have o__law_plus : L2.Own Hd.p w (Hd.K w.params) mg base 3 "_law_plus" ["_law_one","_law_other","_law_sign_here"] [] Bk.sp__law_plus := T__law_plus.own (fun _ _ _ _ _ _ us hl => match us,hl with | [_,_,_],_ => rfl) (fun f fd F => Bk.ok__law_plus F B o__law_lowest)
    have o__law_share : L2.Own Hd.p w (Hd.K w.params) mg base 3 "_law_share" ["_law_one","_law_top","_law_bottom"] [] Bk.sp__law_share := T__law_share.own (fun _ _ _ _ _ _ us hl => match us,hl with | [_,_,_],_ => rfl) (fun f fd F => Bk.ok__law_share F B o__law_lowest)
    have o__law_side : L2.Own Hd.p w (Hd.K w.params) mg base 3 "_law_side" ["_law_d","_law_cell_here","_law_at_here"] [] Bk.sp__law_side := T__law_side.own (fun _ _ _ _ _ _ us hl => match us,hl with | [_,_,_],_ => rfl) (fun f fd F => Bk.ok__law_side F B o__law_sign o__law_lowest o__law_digits)
    have o__law_is_heap : L2.Own Hd.p w (Hd.K w.params) mg base 3 "_law_is_heap" ["_law_found","_law_due"] [] Bk.sp__law_is_heap := T__law_is_heap.own (fun _ _ _ _ _ _ us hl => match us,hl with | [_,_],_ => rfl) (fun f fd F => Bk.ok__law_is_heap F B o__law_is_length)
    have o_is_deed : L2.Own Hd.p w (Hd.K w.params) mg base 4 "is_deed" ["thing"] [] Bk.sp_is_deed := T_is_deed.own (fun _ _ _ _ _ _ us hl => match us,hl with | [_],_ => rfl) (fun f fd F => Bk.ok_is_deed F B g_CUTS g_SHIFTS g_GLUINGS g_TURN o_is_length o_is_whole)
    have o_cut_across : L2.OwnX Hd.p w (Hd.K w.params) mg base 4 "cut_across" ["d","one","at"] [] (Bk.sp_cut_across Hd.cs) := T_cut_across.ownX (fun _ _ _ _ _ _ us hl => match us,hl with | [_,_,_],_ => rfl) (fun f fd F => Bk.ok_cut_across F B X g_NOUGHT o_under o_taken)
    have o__law_below : L2.Own Hd.p w (Hd.K w.params) mg base 4 "_law_below" ["_law_d","_law_one","_law_other"] [] Bk.sp__law_below := T__law_below.own (fun _ _ _ _ _ _ us hl => match us,hl with | [_,_,_],_ => rfl) (fun f fd F => Bk.ok__law_below F B o__law_plus o__law_sign)
    have o__law_heap : L2.Own Hd.p w (Hd.K w.params) mg base 4 "_law_heap" ["_law_script","_law_d","_law_first"] [] (Bk.sp__law_heap (Hd.K w.params)) := T__law_heap.own (fun _ _ _ _ _ _ us hl => match us,hl with | [_,_,_],_ => rfl) (fun f fd F => Bk.ok__law_heap F B o__law_side o__law_cell o__law_digits)
    have o__law_new : L2.Own Hd.p w (Hd.K w.params) mg base 4 "_law_new" ["_law_deed_here","_law_some"] [] Bk.sp__law_new := T__law_new.own (fun _ _ _ _ _ _ us hl => match us,hl with | [_,_],_ => rfl) (fun f fd F => Bk.ok__law_new F B o__law_plus o__law_share)
    have o__law_at : L2.Own Hd.p w (Hd.K w.params) mg base 5 "_law_at" ["_law_d","_law_digits_here","_law_side_here","_law_pool"] [] Bk.sp__law_at := T__law_at.own (fun _ _ _ _ _ _ us hl => match us,hl with | [_,_,_,_],_ => rfl) (fun f fd F => Bk.ok__law_at F B o__law_share o__law_below)
    have o__law_done : L2.Own Hd.p w (Hd.K w.params) mg base 5 "_law_done" ["_law_lying","_law_used","_law_deed_here"] [] Bk.sp__law_done := T__law_done.own (fun _ _ _ _ _ _ us hl => match us,hl with | [_,_,_],_ => rfl) (fun f fd F => Bk.ok__law_done F B o__law_new)
    have o_Yard_put_by : L2.OwnM Hd.p w (Hd.K w.params) mg base (L2.CXe Hd.p w) Hd.cs.Yard 5 "put_by" ["self","deed","boards"] [] (Bk.sp_Yard_put_by Hd.cs) := T_Yard_put_by.own X.c_Yard (fun _ _ _ _ _ _ us hl => match us,hl with | [_,_,_],_ => rfl) (fun f fd F => Bk.ok_Yard_put_by F B X o_cut_across o_turned o_glued_beside o_stacked)
    have o__law_deed : L2.Own Hd.p w (Hd.K w.params) mg base 6 "_law_deed" ["_law_d","_law_cell_here","_law_lying","_law_pool"] [] (Bk.sp__law_deed (Hd.K w.params)) := T__law_deed.own (fun _ _ _ _ _ _ us hl => match us,hl with | [_,_,_,_],_ => rfl) (fun f fd F => Bk.ok__law_deed F B o__law_digits o__law_at)
    have o_Yard_do : L2.OwnM Hd.p w (Hd.K w.params) mg base (L2.CXe Hd.p w) Hd.cs.Yard 6 "do" ["self","deed"] [] (Bk.sp_Yard_do Hd.cs) := T_Yard_do.own X.c_Yard (fun _ _ _ _ _ _ us hl => match us,hl with | [_,_],_ => rfl) (fun f fd F => Bk.ok_Yard_do F B X g_TURN o_names_taken o_Yard_check_names o_Yard_put_by o_is_deed)
    have o_yard_behind : L2.OwnX Hd.p w (Hd.K w.params) mg base 7 "yard_behind" ["d","heap","plan","turning"] [] (Bk.sp_yard_behind Hd.cs) := T_yard_behind.ownX (fun _ _ _ _ _ _ us hl => match us,hl with | [_,_,_,_],_ => rfl) (fun f fd F => Bk.ok_yard_behind F B X o_Yard___init__ o_Yard_do)
    have o__law_plan : L2.Own Hd.p w (Hd.K w.params) mg base 7 "_law_plan" ["_law_d","_law_script","_law_heap_here","_law_pool","_law_freed"] [] (Bk.sp__law_plan (Hd.K w.params)) := T__law_plan.own (fun _ _ _ _ _ _ us hl => match us,hl with | [_,_,_,_,_],_ => rfl) (fun f fd F => Bk.ok__law_plan F B o__law_begin o__law_deed o__law_done o__law_digits)
    have o_walked : L2.OwnX Hd.p w (Hd.K w.params) mg base 8 "walked" ["d","heap","plan","turning"] [] (Bk.sp_walked Hd.cs) := T_walked.ownX (ds := []) (fun T _ _ _ _ _ _ us hl => by have hl' : us.length = 4 := (by simpa using hl); match us,hl' with | [_,_,_,_],_ => exact ⟨_,rfl,rfl⟩) .nil (fun f fd F => Bk.ok_walked F B o_Yard_heap o_yard_behind)
    have o_walked_3 : L2.OwnX Hd.p w (Hd.K w.params) mg base 8 "walked" ["d","heap","plan","turning"] [.bl false] (Bk.sp_walked Hd.cs) := T_walked.ownX (ds := [.bool false]) (fun T _ _ _ _ _ _ us hl => by have hl' : us.length = 3 := (by simpa using hl); match us,hl' with | [_,_,_],_ => exact ⟨_,rfl,rfl⟩) (.cons rfl .nil) (fun f fd F => Bk.ok_walked F B o_Yard_heap o_yard_behind)
    have o_walked_3_k_turning : Bk.OwnKX Hd.p w (Hd.K w.params) mg base 8 "walked" ["d","heap","plan","turning"] ["turning"] Bk.gV_walked_3_k_turning (Bk.sp_walked Hd.cs) := by
      refine Bk.topD_ownKX T_walked (g := Bk.g_walked_3_k_turning (.bool false)) (fun T _ _ _ _ _ _ us ws hl => ?_) (fun {vs us zs ws} r r' => ?_) (fun f fd F => Bk.ok_walked F B o_Yard_heap o_yard_behind)
      · match us,ws,hl with
        | [_,_,_],[_],_ => exact ⟨_,rfl,rfl⟩
      · rcases r with _ | ⟨a0,_ | ⟨a1,_ | ⟨a2,_ | ⟨_,_⟩⟩⟩⟩ <;> rcases r' with _ | ⟨z0,_ | ⟨_,_⟩⟩ <;> first | exact (.cons a0 (.cons a1 (.cons a2 (.cons z0 .nil)))) | exact .nil
    have o__law_refused : L2.Own Hd.p w (Hd.K w.params) mg base 9 "_law_refused" ["_law_d","_law_heap_here","_law_plan_here","_law_freed","_law_due"] [] (Bk.sp__law_refused Hd.cs) := T__law_refused.own (fun _ _ _ _ _ _ us hl => match us,hl with | [_,_,_,_,_],_ => rfl) (fun f fd F => Bk.ok__law_refused F B X o_walked o_walked_3 o__law_alone)
    exact Bk.ok_law F B o__law_root o__law_heap o__law_plan o__law_cell o_walked_3_k_turning o_walked_3 o__law_great o__law_is_heap o_walked o__law_refused o__law_spoilt
