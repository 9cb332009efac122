import PyProof.Rows.All
import Wide.All
import OpenK.AllK
import Wide.FinOn
import Lean
import PyProof.EqAt
import PyProof.EqKinds
import PyProof.TupleCall
import PySem.Challenge.RW_boardglue_k54_one_table_one_normal
set_option Elab.async false
set_option linter.all false
set_option maxRecDepth 100000
namespace L2
open PySem PySem.Spec PyProof.Rows
abbrev Key := Sum Int Str
def Aa : Key → Value → Bool
  | .inl k, v => Value.isInt k v
  | .inr x, v => Value.isStrOf x v
def keyH (w : World) : Key → Int
  | .inl k => hashInt k
  | .inr x => hashStr w x
theorem keyIs_shape : ∀ {k : Key} {v : Value}, Aa k v = true → (∃ i t, k = Sum.inl i ∧ v = Value.int i t) ∨ (∃ x t, k = Sum.inr x ∧ v = Value.str x t)
  | .inl i, v, h => by
    obtain ⟨t, e⟩ := Value.isInt_shape (k := i) (v := v) h
    exact .inl ⟨i, t, rfl, e⟩
  | .inr x, v, h => by
    obtain ⟨t, e⟩ := Value.isStrOf_shape (x := x) (v := v) h
    exact .inr ⟨x, t, rfl, e⟩
theorem BM (i : Int) (t : Tok) : Aa (.inl i) (.int i t) = true := by simp [Aa, Value.isInt]
theorem Ai (x : Str) (t : Tok) : Aa (.inr x) (.str x t) = true := by simp [Aa, Value.isStrOf]
theorem E9 (a b : Int) : decide ((Sum.inl a : Key) = Sum.inl b) = (a == b) := by
  by_cases e : a = b
  · subst e; simp
  · have h : ¬ (Sum.inl a : Key) = Sum.inl b := fun q => e (Sum.inl.inj q)
    rw [decide_eq_false h]
    exact (beq_eq_false_iff_ne.mpr e).symm
theorem EO (a b : Str) : decide ((Sum.inr a : Key) = Sum.inr b) = decide (a = b) := by
  by_cases e : a = b
  · subst e; simp
  · have h : ¬ (Sum.inr a : Key) = Sum.inr b := fun q => e (Sum.inr.inj q)
    rw [decide_eq_false h, decide_eq_false e]
theorem EN (a : Int) (b : Str) : decide ((Sum.inl a : Key) = Sum.inr b) = false := decide_eq_false (fun q => nomatch q)
theorem EZ (a : Str) (b : Int) : decide ((Sum.inr a : Key) = Sum.inl b) = false := decide_eq_false (fun q => nomatch q)
def zK (prog : Program) (w : World) : PySem.KeyKind prog w Key where
  is := Aa
  hash := keyH w
  inj := fun v a b ha hb => by
    rcases keyIs_shape ha with ⟨i, t, rfl, rfl⟩ | ⟨x, t, rfl, rfl⟩
    · rcases keyIs_shape hb with ⟨j, u, rfl, e⟩ | ⟨y, u, rfl, e⟩
      · injection e with e1 _; rw [e1]
      · exact nomatch e
    · rcases keyIs_shape hb with ⟨j, u, rfl, e⟩ | ⟨y, u, rfl, e⟩
      · exact nomatch e
      · injection e with e1 _; rw [e1]
  byValue := fun k v h => by
    rcases keyIs_shape h with ⟨i, t, rfl, rfl⟩ | ⟨x, t, rfl, rfl⟩ <;> rfl
  pyHash := fun hv h => by
    rcases keyIs_shape hv with ⟨i, t, rfl, rfl⟩ | ⟨x, t, rfl, rfl⟩
    · exact wpAny_pyHash_int h
    · exact wpAny_pyHash_str h
  eqBool := fun hu hv h => by
    rcases keyIs_shape hu with ⟨i, t, rfl, rfl⟩ | ⟨x, t, rfl, rfl⟩
    · rcases keyIs_shape hv with ⟨j, u, rfl, rfl⟩ | ⟨y, u, rfl, rfl⟩
      · rw [E9] at h; exact wpAny_eqBool_int h
      · rw [EN] at h; exact SeqAt.EqAt.int_str i t y u _ _ _ _ h
    · rcases keyIs_shape hv with ⟨j, u, rfl, rfl⟩ | ⟨y, u, rfl, rfl⟩
      · rw [EZ] at h; exact SeqAt.EqAt.str_int x t j u _ _ _ _ h
      · rw [EO] at h; exact wpAny_eqBool_str h
  «strs» := fun k x t v h => by
    rcases keyIs_shape h with ⟨i, u, rfl, e⟩ | ⟨y, u, rfl, e⟩
    · exact nomatch e
    · injection e with e1 _
      subst e1
      cases v <;> rfl
theorem ug (prog : Program) (w : World) (i : Int) (t : Tok) : (zK prog w).is (.inl i) (.int i t) = true := BM i t
theorem ui (prog : Program) (w : World) (x : Str) (t : Tok) : (zK prog w).is (.inr x) (.str x t) = true := Ai x t
end L2
namespace L2
open PySem PySem.Spec PyProof.Rows
inductive V where
  | non | bl (b : Bool) | int (i : Int) | str (x : Str) | byt (b : Array UInt8) | flt (b : UInt64) | ref (a : Addr) | ty (n : String)
  deriving DecidableEq
def RelV : V → Value → Prop
  | .non, u => u = Value.none
  | .bl b, u => u = Value.bool b
  | .int i, u => ∃ t, u = Value.int i t
  | .str x, u => ∃ t, u = Value.str x t
  | .byt b, u => ∃ t, u = Value.bytes b t
  | .flt b, u => ∃ t, u = Value.float b t
  | .ref a, u => u = Value.ref a
  | .ty n, u => u = Value.type n
abbrev Vals : List V → List Value → Prop := Paired RelV
theorem Vals.length {xs : List V} {us : List Value} (r : Vals xs us) : xs.length = us.length := Paired.length r
theorem Vals.get : ∀ {xs : List V} {us : List Value} {i : Nat} {x : V}, Vals xs us → xs[i]? = some x → ∃ u, us[i]? = some u ∧ RelV x u
  | _, _, _, _, .nil, e => by simp at e
  | _, _, 0, _, .cons r _, e => by simp at e; subst e; exact ⟨_, rfl, r⟩
  | _, _, i + 1, x, .cons _ t, e => by
    obtain ⟨u, h1, h2⟩ := Vals.get (i := i) (x := x) t (by simpa using e)
    exact ⟨u, by simpa using h1, h2⟩
theorem Vals.set {x : V} {u : Value} (r : RelV x u) : ∀ {xs : List V} {us : List Value} (i : Nat), Vals xs us → Vals (xs.set i x) (us.set i u)
  | _, _, _, .nil => .nil
  | _, _, 0, .cons _ t => .cons r t
  | _, _, i + 1, .cons q t => .cons q (Vals.set r i t)
theorem Vals.append : ∀ {xs ys : List V} {us ws : List Value}, Vals xs us → Vals ys ws → Vals (xs ++ ys) (us ++ ws)
  | _, _, _, _, .nil, s => s
  | _, _, _, _, .cons r t, s => .cons r (Vals.append t s)
theorem Vals.take : ∀ {xs : List V} {us : List Value} (n : Nat), Vals xs us → Vals (xs.take n) (us.take n)
  | _, _, 0, _ => .nil
  | _, _, _ + 1, .nil => .nil
  | _, _, n + 1, .cons r t => .cons r (Vals.take n t)
theorem Vals.drop : ∀ {xs : List V} {us : List Value} (n : Nat), Vals xs us → Vals (xs.drop n) (us.drop n)
  | _, _, 0, r => r
  | _, _, _ + 1, .nil => .nil
  | _, _, n + 1, .cons _ t => Vals.drop n t
def RelO : Option V → Option Value → Prop
  | some v, some u => RelV v u
  | none, none => True
  | _, _ => False
def KV {κ : Type} : List (κ × V) → List (κ × Value) → Prop := Paired fun (p : κ × V) (q : κ × Value) => p.1 = q.1 ∧ RelV p.2 q.2
def kV : Key → V
  | .inl i => .int i
  | .inr x => .str x
inductive HO where
  | lst (xs : List V)
  | tup (xs : List V)
  | dK (kvs : List (Key × V)) | dT (kvs : List (List Key × V))
  | set (S : Int → Bool) (n : Nat)
  | ins (C dx : Addr) (fs : List (Str × V))
  | own (x : Addr)
  | xd (fs : List (Str × V))
  | met (f x : Addr)
  | rng (lo hi : Int)
  | frz (o : Obj) (u : HO)
  | tbl (ps : Array Value)
  | ext (φ : Heap → Prop)
abbrev Hp := Addr → Option HO
def upd (H : Hp) (a : Addr) (o : HO) : Hp := fun b => if b = a then some o else H b
theorem zm {H : Hp} {a : Addr} {o : HO} : upd H a o a = some o := by unfold upd; rw [if_pos rfl]
theorem zt {H : Hp} {a b : Addr} {o : HO} (h : b ≠ a) : upd H a o b = H b := by unfold upd; rw [if_neg h]
theorem yb {H : Hp} {a b : Addr} {o u : HO} (h : H a = some o) (h' : H b = some u) (d : o ≠ u) : a ≠ b := by
  intro e; subst e; rw [h] at h'; exact d (Option.some.inj h')
theorem zj {H : Hp} {a b : Addr} {o : HO} (h : H a = some o) (h' : H b = none) : a ≠ b := by
  intro e; subst e; rw [h] at h'; cases h'
section
variable (P : Program) (w : World)
def ObjOk (H : Hp) (h : Heap) (a : Addr) : HO → Prop
  | .lst xs => xs.length ≤ sizeLine ∧ ∃ (its : List Value) (n : Nat), Vals xs its ∧ h.get? a = some { cls := .type "list", data := .seq its.toArray n }
  | .tup xs => xs.length ≤ sizeLine ∧ ∃ its : List Value, Vals xs its ∧ IsTup h a its.toArray
  | .dK kvs => kvs.length ≤ sizeLine ∧ (a == sysModules) = false ∧ ∃ vs, KV kvs vs ∧ h.DictOf (zK P w) a vs
  | .dT kvs => kvs.length ≤ sizeLine ∧ (a == sysModules) = false ∧ ∃ xs : List (List Key × Addr × Value),
      Paired (fun (p : List Key × V) (q : List Key × Addr × Value) => p.1 = q.1 ∧ H q.2.1 = some (.tup (p.1.map kV)) ∧ RelV p.2 q.2.2) kvs xs ∧
      ∃ o es ep, h.get? a = some o ∧ o.ExactDict ∧ o.data = .dict es ep ∧ es.toList = xs.map (entryOfKey (tupleKind (zK P w))) ∧ (xs.map (·.1)).Nodup
  | .set S n => h.SetOf (intKind P w) a S n
  | .ins C dx fs => H dx = some (.own a) ∧ fs.length ≤ 1000 ∧ dx ≠ a ∧ h.get? a = some (PySem.W.instObj C dx) ∧
      ∃ mA, h.Ns1 dx mA ∧ (∀ f, RelO (fs.lookup f) (mA f)) ∧ PySem.Within mA (fs.map (·.1))
  | .own _ => ∃ o, h.get? a = some o
  | .xd fs => ∃ mA, h.Ns1 a mA ∧ ∀ f, RelO (fs.lookup f) (mA f)
  | .rng lo hi => ∃ t u v, h.get? a = some { cls := .type "range", data := .fields #[.int lo t, .int hi u, .int 1 v] }
  | .frz o u => h.get? a = some o ∧ ObjOk H h a u
  | .tbl ps => h.get? a = some { cls := .none, data := .fields ps }
  | .met f x => h.get? a = some (PySem.W.methodObj (.ref f) (.ref x))
  | .ext φ => φ h ∧ (∃ o, h.get? a = some o) ∧ ∀ h1 h2 : Heap, φ h1 → (∀ o, h1.get? a = some o → h2.get? a = some o) → φ h2
def HOk (H : Hp) (h : Heap) : Prop := ∀ a o, H a = some o → ObjOk P w H h a o
end
section
variable {P : Program} {w : World} {H H' : Hp} {h h' : Heap} {a : Addr} {o : HO}
theorem ObjOk.lt (x : ObjOk P w H h a o) : a < h.objs.size := by
  cases o with
  | lst xs => obtain ⟨_, _, _, _, e⟩ := x; exact Heap.lt_size e
  | tup xs => obtain ⟨_, _, _, p⟩ := x; exact p.lt
  | dK kvs => obtain ⟨_, _, _, _, o, _, _, e, _⟩ := x; exact Heap.lt_size e
  | dT kvs => obtain ⟨_, _, _, _, o, _, _, e, _⟩ := x; exact Heap.lt_size e
  | set S n => obtain ⟨o, _, _, _, e, _⟩ := x; exact Heap.lt_size e
  | ins C dx fs => obtain ⟨_, _, _, e, _⟩ := x; exact Heap.lt_size e
  | own y => obtain ⟨_, e⟩ := x; exact Heap.lt_size e
  | xd fs => obtain ⟨_, ⟨_, _, _, e, _⟩, _⟩ := x; exact Heap.lt_size e
  | rng lo hi => obtain ⟨_, _, _, e⟩ := x; exact Heap.lt_size e
  | frz ob u => obtain ⟨e, _⟩ := x; exact Heap.lt_size e
  | tbl ps => exact Heap.lt_size (show h.get? a = some _ from x)
  | met f y => exact Heap.lt_size (show h.get? a = some _ from x)
  | ext φ => obtain ⟨_, ⟨_, e⟩, _⟩ := x; exact Heap.lt_size e
theorem Paired.mapP {α β : Type} {F G : α → β → Prop} : ∀ {l₁ : List α} {l₂ : List β}, Paired F l₁ l₂ → (∀ a b, F a b → G a b) → Paired G l₁ l₂
  | _, _, .nil, _ => .nil
  | _, _, .cons r t, f => .cons (f _ _ r) (Paired.mapP t f)
theorem ObjOk.stay (x : ObjOk P w H h a o) (k : ∀ b u, (b = a ∨ H b = some (.own a)) → h.get? b = some u → h'.get? b = some u)
    (ho : ∀ b, H b = some (.own a) → H' b = some (.own a)) (ht : ∀ b xs, H b = some (.tup xs) → H' b = some (.tup xs)) : ObjOk P w H' h' a o := by
  induction o with
  | lst xs => obtain ⟨z, its, n, r, e⟩ := x; exact ⟨z, its, n, r, k _ _ (.inl rfl) e⟩
  | tup xs => obtain ⟨z, its, r, ob, e, c⟩ := x; exact ⟨z, its, r, ob, k _ _ (.inl rfl) e, c⟩
  | dK kvs => obtain ⟨z, y, vs, r, ob, es, ep, e, c⟩ := x; exact ⟨z, y, vs, r, ob, es, ep, k _ _ (.inl rfl) e, c⟩
  | dT kvs =>
    obtain ⟨z, y, xs, r, ob, es, ep, e, c⟩ := x
    exact ⟨z, y, xs, Paired.mapP r fun p q z => ⟨z.1, ht _ _ z.2.1, z.2.2⟩, ob, es, ep, k _ _ (.inl rfl) e, c⟩
  | set S n => obtain ⟨ob, es, ep, t, e, c⟩ := x; exact ⟨ob, es, ep, t, k _ _ (.inl rfl) e, c⟩
  | ins C dx fs =>
    obtain ⟨d, z, ne, e, mA, ⟨od, es, ep, e2, c⟩, r⟩ := x
    exact ⟨ho _ d, z, ne, k _ _ (.inl rfl) e, mA, ⟨od, es, ep, k _ _ (.inr d) e2, c⟩, r⟩
  | own y => obtain ⟨ob, e⟩ := x; exact ⟨ob, k _ _ (.inl rfl) e⟩
  | xd fs => obtain ⟨mA, ⟨od, es, ep, e, c⟩, r⟩ := x; exact ⟨mA, ⟨od, es, ep, k _ _ (.inl rfl) e, c⟩, r⟩
  | rng lo hi => obtain ⟨t, u, v, e⟩ := x; exact ⟨t, u, v, k _ _ (.inl rfl) e⟩
  | frz ob u ih => obtain ⟨e, q⟩ := x; exact ⟨k _ _ (.inl rfl) e, ih q⟩
  | tbl ps =>
    have e : h.get? a = some { cls := .none, data := .fields ps } := x
    show h'.get? a = some { cls := .none, data := .fields ps }
    exact k a _ (.inl rfl) e
  | met f y =>
    have e : h.get? a = some (PySem.W.methodObj (.ref f) (.ref y)) := x
    show h'.get? a = some (PySem.W.methodObj (.ref f) (.ref y))
    exact k a _ (.inl rfl) e
  | ext φ => obtain ⟨p, ⟨o, e⟩, st⟩ := x; exact ⟨st _ _ p fun o q => k _ _ (.inl rfl) q, ⟨o, k _ _ (.inl rfl) e⟩, st⟩
theorem HOk.lt (x : HOk P w H h) (e : H a = some o) : a < h.objs.size := (x a o e).lt
theorem HOk.fresh (x : HOk P w H h) (e : h.objs.size ≤ a) : H a = none := by
  cases q : H a with
  | none => rfl
  | some u => exact absurd (Nat.lt_of_lt_of_le (x.lt q) e) (Nat.lt_irrefl _)
theorem HOk.kept (x : HOk P w H h) (k : ∀ b u, h.get? b = some u → h'.get? b = some u) : HOk P w H h' := fun a o e =>
  (x a o e).stay (fun b u _ q => k b u q) (fun _ q => q) fun _ _ q => q
theorem HOk.laid (x : HOk P w H h) (k : ∀ b u, h.get? b = some u → h'.get? b = some u) (hp : h.objs.size ≤ a) (new : ObjOk P w (upd H a o) h' a o) : HOk P w (upd H a o) h' := fun b u e => by
  have hn := x.fresh hp
  by_cases hb : b = a
  · subst hb; rw [zm] at e; cases e; exact new
  · rw [zt hb] at e
    exact (x b u e).stay (fun c v _ q => k c v q) (fun c q => by rw [zt (zj q hn)]; exact q) fun c xs q => by rw [zt (zj q hn)]; exact q
end
def Rd (H : Hp) (a : Addr) (u : HO) : Prop := H a = some u ∨ ∃ o, H a = some (.frz o u)
theorem Rd.ok {P : Program} {w : World} {H : Hp} {h : Heap} {a : Addr} {u : HO} (r : Rd H a u) (x : HOk P w H h) : ObjOk P w H h a u := by
  rcases r with r | ⟨o, r⟩
  · exact x a u r
  · obtain ⟨_, q⟩ := x a _ r
    exact q
def Mut : Option HO → Prop
  | some (.lst _) => True
  | some (.dK _) => True
  | some (.dT _) => True
  | some (.set _ _) => True
  | some (.ins _ _ _) => True
  | some (.ext _) => True
  | _ => False
section
variable {P : Program} {w : World} {H : Hp} {h h' : Heap} {x e : Addr} {o' : HO}
theorem HOk.write (ok : HOk P w H h) (mu : Mut (H x)) (he : e = x ∨ H e = some (.own x)) (k : ∀ b u, b ≠ e → h.get? b = some u → h'.get? b = some u) (heo : ∃ u, h'.get? e = some u)
    (new : ObjOk P w (upd H x o') h' x o') : HOk P w (upd H x o') h' := fun b u q => by
  have nown : ∀ c y, H c = some (.own y) → c ≠ x := fun c y r z => by subst z; rw [r] at mu; exact mu
  have ntup : ∀ c xs, H c = some (.tup xs) → c ≠ x := fun c xs r z => by subst z; rw [r] at mu; exact mu
  by_cases hb : b = x
  · subst hb; rw [zm] at q; cases q; exact new
  · rw [zt hb] at q
    by_cases hbe : b = e
    · have q' : H b = some (.own x) := by
        rcases he with z | z
        · exact absurd (hbe.trans z) hb
        · rw [hbe]; exact z
      rw [q] at q'; cases q'
      obtain ⟨v, hv⟩ := heo
      exact ⟨v, by rw [hbe]; exact hv⟩
    · refine (ok b u q).stay (fun c v hc r => k c v ?_ r) (fun c r => by rw [zt (nown c b r)]; exact r) fun c xs r => by rw [zt (ntup c xs r)]; exact r
      rcases hc with rfl | hc
      · exact hbe
      · rintro rfl
        rcases he with z | z
        · exact nown c b hc z
        · rw [hc] at z; cases z; exact hb rfl
end
structure Un (fs ex : List Addr) (H H' : Hp) (h h' : Heap) : Prop where
  keep : ∀ b o, h.get? b = some o → H b = none → b ∉ fs → b ∉ ex → h'.get? b = some o
  slot : ∀ b o, h.get? b = some o → H b = none → b ∈ fs → b ∉ ex → ∃ sl, h'.get? b = some { o with slots := sl }
  free : ∀ b o, h.get? b = some o → H b = none → b ∉ ex → H' b = none
  there : ∀ b o, h.get? b = some o → b ∉ ex → ∃ o', h'.get? b = some o'
  tups : ∀ b xs, H b = some (.tup xs) → H' b = some (.tup xs)
  frzs : ∀ b o u, H b = some (.frz o u) → H' b = some (.frz o u)
  tbls : ∀ b ps, H b = some (.tbl ps) → ∃ more, H' b = some (.tbl (ps ++ more))
section
variable {fs fs' ex ex' : List Addr} {H H1 H2 : Hp} {h h1 h2 h' : Heap} {a x e : Addr} {o : HO}
theorem Un.any (u : Un fs ex H H1 h h1) {b : Addr} {ob : Obj} (q : h.get? b = some ob) (n : H b = none) (hx : b ∉ ex) : ∃ sl, h1.get? b = some { ob with slots := sl } := by
  by_cases hb : b ∈ fs
  · exact u.slot b ob q n hb hx
  · exact ⟨ob.slots, u.keep b ob q n hb hx⟩
theorem Un.kept (k : ∀ b u, h.get? b = some u → h'.get? b = some u) : Un fs ex H H h h' :=
  ⟨fun b ob q _ _ _ => k b ob q, fun b ob q _ _ _ => ⟨ob.slots, k b ob q⟩, fun _ _ _ n _ => n, fun b ob q _ => ⟨ob, k b ob q⟩, fun _ _ q => q, fun _ _ _ q => q, fun _ ps q => ⟨#[], by rw [q]; simp⟩⟩
theorem Un.refl : Un fs ex H H h h := Un.kept fun _ _ q => q
theorem Un.laid (k : ∀ b u, h.get? b = some u → h'.get? b = some u) (hp : h.objs.size ≤ a) (hn : H a = none) : Un fs ex H (upd H a o) h h' where
  keep := fun b u q _ _ _ => k b u q
  slot := fun b u q _ _ _ => ⟨u.slots, k b u q⟩
  free := fun b u q n _ => by rw [zt (Nat.ne_of_lt (Nat.lt_of_lt_of_le (Heap.lt_size q) hp))]; exact n
  there := fun b u q _ => ⟨u, k b u q⟩
  tups := fun b xs q => by rw [zt (zj q hn)]; exact q
  frzs := fun b u xs q => by rw [zt (zj q hn)]; exact q
  tbls := fun b ps q => ⟨#[], by rw [zt (zj q hn), q]; simp⟩
theorem Un.write (mu : Mut (H x)) (he : e = x ∨ H e = some (.own x)) (k : ∀ b u, b ≠ e → h.get? b = some u → h'.get? b = some u) (heo : ∃ u, h'.get? e = some u) : Un fs ex H (upd H x o) h h' := by
  have hx : ∀ b, H b = none → b ≠ x := fun b n z => by subst z; rw [n] at mu; exact mu
  have hb : ∀ b, H b = none → b ≠ e := fun b n z => by
    subst z
    rcases he with r | r
    · exact hx b n r
    · rw [n] at r; cases r
  have hm : ∀ b u, H b = some u → ¬ Mut (some u) → b ≠ x := fun b u q nm z => by subst z; rw [q] at mu; exact nm mu
  refine ⟨fun b u q n _ _ => k b u (hb b n) q, fun b u q n _ _ => ⟨u.slots, k b u (hb b n) q⟩, fun b u q n _ => by rw [zt (hx b n)]; exact n, fun b u q _ => ?_,
    fun b xs q => by rw [zt (hm b _ q fun z => z)]; exact q, fun b u xs q => by rw [zt (hm b _ q fun z => z)]; exact q, fun b ps q => ⟨#[], by rw [zt (hm b _ q fun z => z), q]; simp⟩⟩
  by_cases hbe : b = e
  · subst hbe; exact heo
  · exact ⟨u, k b u hbe q⟩
end
def trk (h : Heap) (H : Hp) : List Addr := (List.range h.objs.size).filter fun a => (H a).isSome
def hidT (h : Heap) (H : Hp) : Heap := PySem.W.hideAll h (trk h H)
theorem AH (h : Heap) (H : Hp) : (hidT h H).objs.size = h.objs.size := PySem.W.hideAll_size _ _
theorem CF {h : Heap} {H : Hp} {b : Addr} {o : Obj} (e : h.get? b = some o) (n : H b = none) : (hidT h H).get? b = some o :=
  PySem.W.hideAll_get _ e fun hm => by
    have q : (H b).isSome = true := (List.mem_filter.mp hm).2
    rw [n] at q; simp at q
theorem Dr {h : Heap} {H : Hp} {b : Addr} {o : Obj} (e : (hidT h H).get? b = some o) : h.get? b = some o ∧ H b = none := by
  have e' : h.get? b = some o := PySem.W.of_hideAll (trk h H) e
  refine ⟨e', ?_⟩
  cases q : H b with
  | none => rfl
  | some x =>
    have hm : b ∈ trk h H := List.mem_filter.mpr ⟨List.mem_range.mpr (Heap.lt_size e'), by simp [q]⟩
    have z : (hidT h H).get? b = none := PySem.W.hideAll_none (trk h H) hm
    rw [z] at e; cases e
def D5 (g h : Heap) (L : Addr) : List (Addr × Obj) := (List.range h.objs.size).filterMap fun a => if a = L ∨ (g.get? a).isSome = true then none else (h.get? a).map fun o => (a, o)
def rest (g h : Heap) (L d : Addr) : List (Addr × Obj) := (D5 g h L).filter fun p => decide (p.1 ≠ d)
end L2
namespace L2
open PySem PySem.Spec PyProof.Rows
structure Mod (K : PySem.W.Frag) (mg : Str → Option Value) (base : Heap) : Prop where
  kin : K.In base
  glob : base.Ns mainGlobals mg
  blt : ∃ mb, base.Ns builtinsNs mb ∧ ∀ x : Str, x ≠ "__name__" → mb x = bootBuiltins x
  nolimit : base.NoLimit
structure Cx where
  prog : Program
  w : World
  K : PySem.W.Frag
  mg : Str → Option Value
  base : Heap
  A : Around
  N : List Str
  s₀ : Shared
  H₀ : Hp
  env : Env
  outer : List Env
  stack : List Env
  ex : List Addr
  fn : Str → Bool
  calm : Bool
  pn : List (Addr × Obj)
  xe : Value → Shared → Prop
def frs (l : List Env) : List Addr := l.filterMap (·.frame)
abbrev Cx.fs (X : Cx) : List Addr := frs X.outer
def Vis (sc : Scope) (x : Str) : Prop := sc.names.lookup x = some .local ∨ sc.names.lookup x = some .cell ∨ sc.names.lookup x = some .free
def Loc (sc : Scope) (x : Str) : Prop := sc.names.lookup x = some .local ∨ sc.names.lookup x = some .cell
def Look (env : Env) (h : Heap) (m : Str → Option Value) (x : Str) (u : Value) : Prop :=
  (env.kindOf x = some .local ∧ m x = some u) ∨ ((env.kindOf x = some .cell ∨ env.kindOf x = some .free) ∧ ∃ c, env.cells.lookup x = some c ∧ h.IsCell c (some u))
structure Cx.Ok (X : Cx) : Prop where
  mod : Mod X.K X.mg X.base
  kind : X.env.scope.kind = .function
  glob : X.env.globals = mainGlobals
  blt : X.env.builtins = builtinsNs
  above : X.s₀.heap.objs.size ≤ X.env.locals
  inj : ∀ x y c, X.env.cells.lookup x = some c → X.env.cells.lookup y = some c → x = y
  has : ∀ x, (X.env.kindOf x = some .cell ∨ X.env.kindOf x = some .free) → ∃ c, X.env.cells.lookup x = some c
  cab : ∀ x c, X.fn x = true → X.env.cells.lookup x = some c → X.s₀.heap.objs.size ≤ c
  hd : X.calm = true → X.A.handled = none
  frames : X.A.frames = some X.stack
  stk : X.stack = X.outer ∨ (X.stack = X.env :: X.outer ∧ X.env.frame = some X.env.locals)
  exf : ∀ b ∈ X.ex, b ≠ X.env.locals ∧ ∀ x c, X.env.cells.lookup x = some c → c ≠ b
  bs : ∀ b o, X.base.get? b = some o → X.s₀.heap.get? b = some o ∧ X.H₀ b = none
  bsz : X.base.objs.size ≤ X.s₀.heap.objs.size
  noex : ∀ b o, X.base.get? b = some o → b ∉ X.ex
  exfs : ∀ b ∈ X.ex, b ∉ X.fs
  funs : X.s₀.heap.FunFrames X.base X.outer
  frf : ∀ b ∈ X.fs, X.H₀ b = none
structure Inv (X : Cx) (pins : List (Addr × Obj)) (σ : List (Option V)) (H : Hp) (s : Shared) : Prop where
  ok : X.Ok
  os : s.os = X.s₀.os
  bare : AllBare s.gens
  base : Un X.fs X.ex X.H₀ H X.s₀.heap s.heap
  loc : ∃ m, s.heap.Ns X.env.locals m ∧ ∀ (i : Nat) (x : Str) (v : V), X.N[i]? = some x → σ[i]? = some (some v) → Vis X.env.scope x → ∃ u, RelV v u ∧ Look X.env s.heap m x u
  cell : ∀ x c, X.env.cells.lookup x = some c → ∃ v, s.heap.IsCell c v
  free : H X.env.locals = none
  freeC : ∀ x c, X.env.cells.lookup x = some c → H c = none
  pin : ∀ p ∈ X.pn ++ pins, s.heap.get? p.1 = some p.2 ∧ H p.1 = none ∧ p.1 ≠ X.env.locals ∧ p.1 ∉ X.fs ∧ ∀ v, p.2.data ≠ .cell v
  hok : HOk X.prog X.w H s.heap
  len : σ.length = X.N.length
section
variable {X : Cx} {pins : List (Addr × Obj)} {σ : List (Option V)} {H H' : Hp} {s : Shared} {h' : Heap}
theorem Cx.Ok.nofr (ok : X.Ok) {b : Addr} {o : Obj} (e : X.base.get? b = some o) : b ∉ X.fs := fun hb => by
  have := (ok.funs.mem hb).1
  rw [e] at this; cases this
theorem Inv.bs (I : Inv X pins σ H s) : ∀ b o, X.base.get? b = some o → s.heap.get? b = some o ∧ H b = none := fun b o e =>
  ⟨I.base.keep b o (I.ok.bs b o e).1 (I.ok.bs b o e).2 (I.ok.nofr e) (I.ok.noex b o e), I.base.free b o (I.ok.bs b o e).1 (I.ok.bs b o e).2 (I.ok.noex b o e)⟩
theorem Inv.bk (I : Inv X pins σ H s) : ∀ b o, X.base.get? b = some o → s.heap.get? b = some o := fun b o e => (I.bs b o e).1
theorem Inv.mod (I : Inv X pins σ H s) : Mod X.K X.mg X.base := I.ok.mod
theorem Inv.kIn (I : Inv X pins σ H s) : X.K.In s.heap := I.ok.mod.kin.keeps I.bk
theorem Inv.lt (I : Inv X pins σ H s) : X.env.locals < s.heap.objs.size := let ⟨_, hn, _⟩ := I.loc; hn.lt
theorem Inv.sz (I : Inv X pins σ H s) : X.s₀.heap.objs.size ≤ s.heap.objs.size := Nat.le_trans I.ok.above (Nat.le_of_lt I.lt)
theorem Inv.nofs (I : Inv X pins σ H s) {a : Addr} (h : s.heap.objs.size ≤ a) : a ∉ X.fs := fun hb => by
  obtain ⟨_, o, ho, _⟩ := I.ok.funs.mem hb
  exact absurd (Nat.lt_of_lt_of_le (Heap.lt_size ho) (Nat.le_trans I.sz h)) (Nat.lt_irrefl _)
theorem Inv.cne (I : Inv X pins σ H s) : ∀ x c, X.env.cells.lookup x = some c → c ≠ X.env.locals := fun x c e z => by
  obtain ⟨v, o, ho, hd⟩ := I.cell x c e
  obtain ⟨m, ⟨o', es, ep, ho', hd', _⟩, _⟩ := I.loc
  rw [z, ho'] at ho; cases ho; rw [hd'] at hd; cases hd
theorem Inv.funs (I : Inv X pins σ H s) : s.heap.FunFrames X.base X.outer := by
  have all : ∀ (l : List Env), (∀ b ∈ frs l, b ∈ X.fs) → X.s₀.heap.FunFrames X.base l → s.heap.FunFrames X.base l := by
    intro l
    induction l with
    | nil => intro _ _; trivial
    | cons env r ih =>
      intro hs hl
      obtain ⟨hk, ⟨L, o, hf, hn, ho, hd⟩, hr⟩ := hl
      have hL : L ∈ X.fs := hs L (by unfold frs; rw [List.filterMap_cons, hf]; exact List.mem_cons_self)
      obtain ⟨sl, e⟩ := I.base.slot L o ho (I.ok.frf L hL) hL fun z => I.ok.exfs L z hL
      exact ⟨hk, ⟨L, _, hf, hn, e, hd⟩, ih (fun b hb => hs b (by unfold frs; rw [List.filterMap_cons, hf]; exact List.mem_cons_of_mem _ hb)) hr⟩
  exact all X.outer (fun _ hb => hb) I.ok.funs
theorem Inv.stack (I : Inv X pins σ H s) : s.heap.FunFrames X.base X.stack := by
  rcases I.ok.stk with e | ⟨e, hf⟩
  · rw [e]; exact I.funs
  · rw [e]
    obtain ⟨m, hn, _⟩ := I.loc
    refine .cons (by rw [I.ok.kind]; decide) hf hn ?_ I.funs
    exact Heap.get?_none_of_le (Nat.le_trans I.ok.bsz I.ok.above)
theorem Inv.stkSub (I : Inv X pins σ H s) : ∀ b ∈ frs X.stack, b ∈ X.env.locals :: X.fs := fun b hb => by
  rcases I.ok.stk with e | ⟨e, hf⟩
  · rw [e] at hb; exact List.mem_cons_of_mem _ hb
  · rw [e] at hb
    unfold frs at hb
    rw [List.filterMap_cons, hf] at hb
    exact hb
theorem Inv.stkFree (I : Inv X pins σ H s) : ∀ b ∈ frs X.stack, H b = none := fun b hb => by
  rcases List.mem_cons.mp (I.stkSub b hb) with e | hb
  · rw [e]; exact I.free
  · obtain ⟨_, o, ho, _⟩ := I.ok.funs.mem hb
    exact I.base.free b o ho (I.ok.frf b hb) fun z => I.ok.exfs b z hb
theorem Inv.step {g' : Array GenState} {t' : Nat} {d' : Drawn} {ch : List Addr} (I : Inv X pins σ H s)
    (hch : ∀ b ∈ ch, (b ∈ X.ex ∨ X.s₀.heap.objs.size ≤ b) ∧ b ≠ X.env.locals ∧ (∀ x c, X.env.cells.lookup x = some c → c ≠ b) ∧ ∀ p ∈ X.pn ++ pins, p.1 ≠ b)
    (keep : ∀ b o, b ≠ X.env.locals → b ∉ X.fs → b ∉ ch → s.heap.get? b = some o → H b = none → h'.get? b = some o)
    (slot : ∀ b o, b ≠ X.env.locals → b ∈ X.fs → b ∉ ch → s.heap.get? b = some o → H b = none → ∃ sl, h'.get? b = some { o with slots := sl }) (free : ∀ b o, b ∉ ch → s.heap.get? b = some o → H b = none → H' b = none)
    (there : ∀ b o, b ∉ ch → s.heap.get? b = some o → ∃ o', h'.get? b = some o')
    (tups : ∀ b xs, H b = some (.tup xs) → H' b = some (.tup xs)) (frzs : ∀ b o u, H b = some (.frz o u) → H' b = some (.frz o u)) (tbls : ∀ b ps, H b = some (.tbl ps) → ∃ more, H' b = some (.tbl (ps ++ more)))
    (ns : ∀ m, s.heap.Ns X.env.locals m → h'.Ns X.env.locals m) (hok : HOk X.prog X.w H' h') (hg : AllBare g') :
    Inv X pins σ H' { s with heap := h', gens := g', drawn := d', toks := t' } := by
  have neL : ∀ b o, X.s₀.heap.get? b = some o → b ≠ X.env.locals := fun b o e => Nat.ne_of_lt (Nat.lt_of_lt_of_le (Heap.lt_size e) I.ok.above)
  have neC : ∀ b o, X.s₀.heap.get? b = some o → b ∉ X.ex → b ∉ ch := fun b o e hx hb => by
    rcases (hch b hb).1 with z | z
    · exact hx z
    · exact absurd (Nat.lt_of_lt_of_le (Heap.lt_size e) z) (Nat.lt_irrefl _)
  have cellK : ∀ x c, X.env.cells.lookup x = some c → ∀ v, s.heap.IsCell c v → h'.IsCell c v := fun x c e v ⟨o, ho, hd⟩ => by
    have nch : c ∉ ch := fun z => (hch c z).2.2.1 x c e rfl
    by_cases hc : c ∈ X.fs
    · obtain ⟨sl, q⟩ := slot c o (I.cne x c e) hc nch ho (I.freeC x c e)
      exact ⟨_, q, hd⟩
    · exact ⟨o, keep c o (I.cne x c e) hc nch ho (I.freeC x c e), hd⟩
  refine ⟨I.ok, I.os, hg, ⟨fun b o e n hb hx => ?_, fun b o e n hb hx => ?_, fun b o e n hx => ?_, fun b o e hx => ?_, fun b xs e => tups b xs (I.base.tups b xs e), fun b o xs e => frzs b o xs (I.base.frzs b o xs e), fun b ps e => ?_⟩, ?_, fun x c e => ?_, ?_, fun x c e => ?_, fun p hp => ?_, hok, I.len⟩
  · exact keep b o (neL b o e) hb (neC b o e hx) (I.base.keep b o e n hb hx) (I.base.free b o e n hx)
  · obtain ⟨sl, e1⟩ := I.base.slot b o e n hb hx
    obtain ⟨sl', e2⟩ := slot b _ (neL b o e) hb (neC b o e hx) e1 (I.base.free b o e n hx)
    exact ⟨sl', e2⟩
  · obtain ⟨o', e1⟩ := I.base.there b o e hx
    exact free b o' (neC b o e hx) e1 (I.base.free b o e n hx)
  · obtain ⟨o', e1⟩ := I.base.there b o e hx
    exact there b o' (neC b o e hx) e1
  · obtain ⟨m1, e1⟩ := I.base.tbls b ps e
    obtain ⟨m2, e2⟩ := tbls b _ e1
    exact ⟨m1 ++ m2, by rw [e2, Array.append_assoc]⟩
  · obtain ⟨m, hn, hl⟩ := I.loc
    refine ⟨m, ns m hn, fun i x v e1 e2 e3 => ?_⟩
    obtain ⟨u, r, l⟩ := hl i x v e1 e2 e3
    refine ⟨u, r, ?_⟩
    rcases l with l | ⟨k, c, e, z⟩
    · exact .inl l
    · exact .inr ⟨k, c, e, cellK x c e _ z⟩
  · obtain ⟨v, z⟩ := I.cell x c e
    exact ⟨v, cellK x c e v z⟩
  · obtain ⟨m, ⟨o, _, _, ho, _⟩, _⟩ := I.loc
    exact free _ o (fun z => (hch _ z).2.1 rfl) ho I.free
  · obtain ⟨v, o, ho, hd⟩ := I.cell x c e
    exact free c o (fun z => (hch c z).2.2.1 x c e rfl) ho (I.freeC x c e)
  · obtain ⟨e, n, ne, nf, d⟩ := I.pin p hp
    have nch : p.1 ∉ ch := fun z => (hch p.1 z).2.2.2 p hp rfl
    exact ⟨keep p.1 p.2 ne nf nch e n, free p.1 p.2 nch e n, ne, nf, d⟩
theorem Inv.un {t' : Nat} (I : Inv X pins σ H s) (u : Un X.fs [] H H' s.heap h') (hok : HOk X.prog X.w H' h') : Inv X pins σ H' { s with heap := h', toks := t' } := by
  obtain ⟨m, ⟨o, es, ep, ho, r⟩, _⟩ := id I.loc
  obtain ⟨sl, hL⟩ := u.any ho I.free (by simp)
  exact I.step (g' := s.gens) (d' := s.drawn) (ch := []) (fun _ z => nomatch z) (fun b o _ hb _ e n => u.keep b o e n hb (by simp)) (fun b o _ hb _ e n => u.slot b o e n hb (by simp)) (fun b o _ e n => u.free b o e n (by simp)) (fun b o _ e => u.there b o e (by simp)) u.tups u.frzs u.tbls (fun m' hm => by
    obtain ⟨o', es', ep', ho', r'⟩ := hm
    rw [ho] at ho'; cases ho'
    exact ⟨_, es', ep', hL, r'⟩) hok I.bare
theorem Inv.call {g' : Array GenState} {t' : Nat} {d' : Drawn} {ch : List Addr} (I : Inv X pins σ H s) (u : Un (frs X.stack) ch H H' s.heap h') (hok : HOk X.prog X.w H' h') (hg : AllBare g')
    (hch : ∀ b ∈ ch, (b ∈ X.ex ∨ X.s₀.heap.objs.size ≤ b) ∧ b ≠ X.env.locals ∧ (∀ x c, X.env.cells.lookup x = some c → c ≠ b) ∧ ∀ p ∈ X.pn ++ pins, p.1 ≠ b) :
    Inv X pins σ H' { s with heap := h', gens := g', drawn := d', toks := t' } := by
  obtain ⟨m, ⟨o, es, ep, ho, r⟩, _⟩ := id I.loc
  obtain ⟨sl, hL⟩ := u.any ho I.free fun z => (hch _ z).2.1 rfl
  exact I.step (ch := ch) hch (fun b o hL hb hc e n => u.keep b o e n (fun z => (List.mem_cons.mp (I.stkSub b z)).elim hL hb) hc) (fun b o _ _ hc e n => u.any e n hc) (fun b o hc e n => u.free b o e n hc) (fun b o hc e => u.there b o e hc) u.tups u.frzs u.tbls (fun m' hm => by
    obtain ⟨o', es', ep', ho', r'⟩ := hm
    rw [ho] at ho'; cases ho'
    exact ⟨_, es', ep', hL, r'⟩) hok hg
theorem Inv.turned {t' : Nat} {it : Addr} (I : Inv X pins σ H s) (k : ∀ b o, b ≠ it → s.heap.get? b = some o → h'.get? b = some o) (hn : H it = none) (hL : it ≠ X.env.locals)
    (h1 : it ∈ X.ex ∨ X.s₀.heap.objs.size ≤ it) (h2 : ∀ x c, X.env.cells.lookup x = some c → c ≠ it) (h3 : ∀ p ∈ X.pn ++ pins, p.1 ≠ it) : Inv X pins σ H { s with heap := h', toks := t' } := by
  have nit : ∀ b u, H b = some u → b ≠ it := fun b u e z => by rw [z, hn] at e; cases e
  refine I.step (g' := s.gens) (d' := s.drawn) (ch := [it]) (fun b hb => ?_) (fun b o _ _ hc e _ => k b o (fun z => hc (by simp [z])) e) (fun b o _ _ hc e _ => ⟨o.slots, k b o (fun z => hc (by simp [z])) e⟩) (fun _ _ _ _ n => n)
    (fun b o hc e => ⟨o, k b o (fun z => hc (by simp [z])) e⟩) (fun _ _ e => e) (fun _ _ _ e => e) (fun b ps e => ⟨#[], by rw [e]; simp⟩) (fun m hm => ?_) (fun b u e => ?_) I.bare
  · have e : b = it := by simpa using hb
    subst e
    exact ⟨h1, hL, h2, h3⟩
  · obtain ⟨o, es, ep, ho, r⟩ := hm
    exact ⟨o, es, ep, k _ o (Ne.symm hL) ho, r⟩
  · refine (I.hok b u e).stay (fun c v hc q => k c v ?_ q) (fun _ q => q) fun _ _ q => q
    rcases hc with z | z
    · rw [z]; exact nit b u e
    · exact nit c _ z
theorem Inv.tok (I : Inv X pins σ H s) (t : Nat) : Inv X pins σ H { s with toks := t } := I.un (h' := s.heap) (t' := t) Un.refl I.hok
theorem Inv.kept {t' : Nat} (I : Inv X pins σ H s) (k : ∀ b u, s.heap.get? b = some u → h'.get? b = some u) : Inv X pins σ H { s with heap := h', toks := t' } := I.un (Un.kept k) (I.hok.kept k)
theorem Inv.laid {a : Addr} {o : HO} {t' : Nat} (I : Inv X pins σ H s) (k : ∀ b u, s.heap.get? b = some u → h'.get? b = some u) (hp : s.heap.objs.size ≤ a) (new : ObjOk X.prog X.w (upd H a o) h' a o) :
    Inv X pins σ (upd H a o) { s with heap := h', toks := t' } := I.un (Un.laid k hp (I.hok.fresh hp)) (I.hok.laid k hp new)
theorem Inv.write {x e : Addr} {o : HO} {t' : Nat} (I : Inv X pins σ H s) (mu : Mut (H x)) (he : e = x ∨ H e = some (.own x)) (k : ∀ b u, b ≠ e → s.heap.get? b = some u → h'.get? b = some u) (heo : ∃ u, h'.get? e = some u)
    (new : ObjOk X.prog X.w (upd H x o) h' x o) : Inv X pins σ (upd H x o) { s with heap := h', toks := t' } := I.un (Un.write mu he k heo) (I.hok.write mu he k heo new)
theorem Inv.pins_of {pins' : List (Addr × Obj)} (I : Inv X pins σ H s) (h : ∀ p ∈ pins', s.heap.get? p.1 = some p.2 ∧ H p.1 = none ∧ p.1 ≠ X.env.locals ∧ p.1 ∉ X.fs ∧ ∀ v, p.2.data ≠ .cell v) : Inv X pins' σ H s :=
  ⟨I.ok, I.os, I.bare, I.base, I.loc, I.cell, I.free, I.freeC, fun p hp => (List.mem_append.mp hp).elim (fun z => I.pin p (List.mem_append_left _ z)) (h p), I.hok, I.len⟩
theorem uL {N : List Str} (hN : N.Nodup) {i j : Nat} {x : Str} (a : N[i]? = some x) (b : N[j]? = some x) : i = j := by
  obtain ⟨h1, e1⟩ := List.getElem?_eq_some_iff.mp a
  obtain ⟨h2, e2⟩ := List.getElem?_eq_some_iff.mp b
  exact (List.getElem_inj hN).mp (e1.trans e2.symm)
theorem AL {M : Model} {A : Around} {E : Value → Shared → Prop} {i : Nat} {x : Str} {v : V} {u : Value} {Q : Unit → Shared → Prop} (I : Inv X pins σ H s) (hN : X.N.Nodup) (hi : X.N[i]? = some x) (hx : Loc X.env.scope x) (r : RelV v u)
    (h : ∀ s', Inv X pins (σ.set i (some v)) H s' → (∃ a, Heap.SameBut a s.heap s'.heap ∧ (a = X.env.locals ∨ X.env.cells.lookup x = some a)) → Q () s') (hf : X.fn x = true ∨ X.env.scope.names.lookup x = some .local := by first | exact .inl rfl | exact .inr rfl | assumption) : wpAny M A (storeName X.env x u) Q E s := by
  obtain ⟨m, hn, hl⟩ := id I.loc
  have hcls : (X.env.scope.kind == .class || (X.env.scope.kind == .module && X.env.locals != X.env.globals)) = false := by rw [I.ok.kind]; rfl
  have hiσ : i < σ.length := by rw [I.len]; exact (List.getElem?_eq_some_iff.mp hi).1
  have cne := I.cne
  have tracked : ∀ {a : Addr} {h' : Heap}, (∃ o, s.heap.get? a = some o ∧ H a = none) → Heap.SameBut a s.heap h' → HOk X.prog X.w H h' := fun {a h'} ha hs b ob e => by
    obtain ⟨_, _, hfree⟩ := ha
    refine (I.hok b ob e).stay (fun c w' hc q => (hs.2 c ?_).trans q) (fun _ q => q) fun _ _ q => q
    rintro rfl
    rcases hc with rfl | hc
    · rw [hfree] at e; cases e
    · rw [hfree] at hc; cases hc
  rcases hx with hk | hk
  · refine wpAny_storeName_local hk hn (fun h' hn' hs => ?_) hcls
    obtain ⟨oL, _, _, hoL, _⟩ := id hn
    refine h _ ⟨I.ok, I.os, I.bare, ⟨fun b o e n hb hx => ?_, fun b o e n hb hx => ?_, I.base.free, fun b o e hx => ?_, I.base.tups, I.base.frzs, I.base.tbls⟩, ⟨_, hn', fun j y v' e1 e2 e3 => ?_⟩, fun y c e => ?_, I.free, I.freeC, fun p hp => ?_, tracked ⟨oL, hoL, I.free⟩ hs, by simpa using I.len⟩ ⟨_, hs, .inl rfl⟩
    · exact (hs.2 b (Nat.ne_of_lt (Nat.lt_of_lt_of_le (Heap.lt_size e) I.ok.above))).trans (I.base.keep b o e n hb hx)
    · obtain ⟨sl, e1⟩ := I.base.slot b o e n hb hx
      exact ⟨sl, (hs.2 b (Nat.ne_of_lt (Nat.lt_of_lt_of_le (Heap.lt_size e) I.ok.above))).trans e1⟩
    · obtain ⟨o', e1⟩ := I.base.there b o e hx
      exact ⟨o', (hs.2 b (Nat.ne_of_lt (Nat.lt_of_lt_of_le (Heap.lt_size e) I.ok.above))).trans e1⟩
    · by_cases hj : j = i
      · subst hj
        rw [hi] at e1; cases e1
        rw [List.getElem?_set_self hiσ] at e2
        cases e2
        exact ⟨u, r, .inl ⟨hk, by simp⟩⟩
      · rw [List.getElem?_set_ne (Ne.symm hj)] at e2
        obtain ⟨u', r', q⟩ := hl j y v' e1 e2 e3
        refine ⟨u', r', ?_⟩
        rcases q with ⟨k, e⟩ | ⟨k, c, e, z⟩
        · refine .inl ⟨k, ?_⟩
          have : y ≠ x := fun e => hj (uL hN e1 (e ▸ hi))
          simp [this, e]
        · exact .inr ⟨k, c, e, z.sameBut hs (cne y c e)⟩
    · obtain ⟨w', z⟩ := I.cell y c e
      exact ⟨w', z.sameBut hs (cne y c e)⟩
    · obtain ⟨e, n, ne, nf, d⟩ := I.pin p hp
      exact ⟨(hs.2 p.1 ne).trans e, n, ne, nf, d⟩
  · have hfn : X.fn x = true := by
      rcases hf with z | z
      · exact z
      · rw [z] at hk; cases hk
    obtain ⟨c, hc⟩ := I.ok.has x (.inl hk)
    obtain ⟨w', z⟩ := I.cell x c hc
    refine wpAny_storeName_cell I.ok.kind hk hc z (fun h' hc' hs => ?_)
    obtain ⟨oc, hoc, hocd⟩ := id z
    refine h { s with heap := h' } ⟨I.ok, I.os, I.bare, ⟨fun b o e n hb hx => ?_, fun b o e n hb hx => ?_, I.base.free, fun b o e hx => ?_, I.base.tups, I.base.frzs, I.base.tbls⟩, ⟨m, hn.sameBut hs (Ne.symm (cne x c hc)), fun j y v' e1 e2 e3 => ?_⟩, fun y c' e => ?_, I.free, I.freeC, fun p hp => ?_, tracked ⟨oc, hoc, I.freeC x c hc⟩ hs, by simpa using I.len⟩ ⟨c, hs, .inr hc⟩
    · exact (hs.2 b (Nat.ne_of_lt (Nat.lt_of_lt_of_le (Heap.lt_size e) (I.ok.cab x c hfn hc)))).trans (I.base.keep b o e n hb hx)
    · obtain ⟨sl, e1⟩ := I.base.slot b o e n hb hx
      exact ⟨sl, (hs.2 b (Nat.ne_of_lt (Nat.lt_of_lt_of_le (Heap.lt_size e) (I.ok.cab x c hfn hc)))).trans e1⟩
    · obtain ⟨o', e1⟩ := I.base.there b o e hx
      exact ⟨o', (hs.2 b (Nat.ne_of_lt (Nat.lt_of_lt_of_le (Heap.lt_size e) (I.ok.cab x c hfn hc)))).trans e1⟩
    · by_cases hj : j = i
      · subst hj
        rw [hi] at e1; cases e1
        rw [List.getElem?_set_self hiσ] at e2
        cases e2
        exact ⟨u, r, .inr ⟨.inl hk, c, hc, hc'⟩⟩
      · rw [List.getElem?_set_ne (Ne.symm hj)] at e2
        obtain ⟨u', r', q⟩ := hl j y v' e1 e2 e3
        refine ⟨u', r', ?_⟩
        rcases q with q | ⟨k, c', e, z'⟩
        · exact .inl q
        · refine .inr ⟨k, c', e, z'.sameBut hs ?_⟩
          rintro rfl
          exact hj (uL hN e1 (I.ok.inj _ _ _ e hc ▸ hi))
    · by_cases hcc : c' = c
      · subst hcc; exact ⟨_, hc'⟩
      · obtain ⟨w2, z2⟩ := I.cell y c' e
        exact ⟨w2, z2.sameBut hs hcc⟩
    · obtain ⟨e, n, ne, nf, d⟩ := I.pin p hp
      refine ⟨(hs.2 p.1 ?_).trans e, n, ne, nf, d⟩
      intro q
      rw [q, hoc] at e
      have q' : oc = p.2 := Option.some.inj e
      exact d w' (by rw [← q']; exact hocd)
theorem xB {M : Model} {A : Around} {E : Value → Shared → Prop} {i : Nat} {x : Str} {v : V} {u : Value} {Q : Unit → Shared → Prop} (I : Inv X pins σ H s) (hN : X.N.Nodup) (hi : X.N[i]? = some x) (hx : Loc X.env.scope x) (r : RelV v u)
    (h : ∀ s', Inv X pins (σ.set i (some v)) H s' → Q () s') (hf : X.fn x = true ∨ X.env.scope.names.lookup x = some .local := by first | exact .inl rfl | exact .inr rfl | assumption) : wpAny M A (storeName X.env x u) Q E s :=
  AL I hN hi hx r (fun s' I' _ => h s' I') hf
theorem Inv.call' {s' : Shared} {ch : List Addr} (I : Inv X pins σ H s) (ho : s'.os = s.os) (u : Un (frs X.stack) ch H H' s.heap s'.heap) (hok : HOk X.prog X.w H' s'.heap) (hg : AllBare s'.gens)
    (hch : ∀ b ∈ ch, (b ∈ X.ex ∨ X.s₀.heap.objs.size ≤ b) ∧ b ≠ X.env.locals ∧ (∀ x c, X.env.cells.lookup x = some c → c ≠ b) ∧ ∀ p ∈ X.pn ++ pins, p.1 ≠ b) : Inv X pins σ H' s' := by
  obtain ⟨h', g', d', t', o'⟩ := s'
  have e : o' = s.os := ho
  subst e
  exact I.call (g' := g') (t' := t') (d' := d') u hok hg hch
end
abbrev XK := Value → Option Addr → Hp → Prop
abbrev St := List (Option V)
abbrev VK := V → Hp → Prop
abbrev TE := St → Hp → VK → Prop
abbrev TT := St → Hp → (Bool → Hp → Prop) → Prop
abbrev TA := St → Hp → (List V → Hp → Prop) → Prop
structure Ends where
  nx : St → Hp → Prop
  rt : VK
  bk : St → Hp → Prop := fun _ _ => False
  ct : St → Hp → Prop := fun _ _ => False
abbrev TS := Ends → St → Hp → Prop
def EP (X : Cx) (pins : List (Addr × Obj)) (σ : St) (Q : VK) (u : Value) (s' : Shared) : Prop := ∃ v H', Inv X pins σ H' s' ∧ RelV v u ∧ Q v H'
def TP (X : Cx) (pins : List (Addr × Obj)) (σ : St) (Q : Bool → Hp → Prop) (b : Bool) (s' : Shared) : Prop := ∃ H', Inv X pins σ H' s' ∧ Q b H'
def AP (X : Cx) (pins : List (Addr × Obj)) (σ : St) (Q : List V → Hp → Prop) (us : List Value) (s' : Shared) : Prop := ∃ vs H', Inv X pins σ H' s' ∧ Vals vs us ∧ Q vs H'
def SP (X : Cx) (pins : List (Addr × Obj)) (D : Ends) (f : Flow) (s' : Shared) : Prop :=
  match f with
  | .next => ∃ σ' H', Inv X pins σ' H' s' ∧ D.nx σ' H'
  | .brk => ∃ σ' H', Inv X pins σ' H' s' ∧ D.bk σ' H'
  | .cont => ∃ σ' H', Inv X pins σ' H' s' ∧ D.ct σ' H'
  | .ret u => ∃ v σ' H', Inv X pins σ' H' s' ∧ RelV v u ∧ D.rt v H'
def PE (X : Cx) (e : Expr) (t : TE) : Prop :=
  ∀ (pins : List (Addr × Obj)) (s : Shared) (σ : St) (H : Hp) (Q : VK), Inv X pins σ H s → t σ H Q → wpAny (model X.prog X.w) X.A (eval e X.env) (EP X pins σ Q) X.xe s
def PT (X : Cx) (e : Expr) (t : TT) : Prop :=
  ∀ (pins : List (Addr × Obj)) (s : Shared) (σ : St) (H : Hp) (Q : Bool → Hp → Prop), Inv X pins σ H s → t σ H Q → wpAny (model X.prog X.w) X.A (isTrue e X.env (eval e X.env)) (TP X pins σ Q) X.xe s
def PW (X : Cx) (e : Expr) (t : TT) : Prop :=
  ∀ (whole : Sem Value) (pins : List (Addr × Obj)) (s : Shared) (σ : St) (H : Hp) (Q : Bool → Hp → Prop), Inv X pins σ H s → t σ H Q → wpAny (model X.prog X.w) X.A (isTrue e X.env whole) (TP X pins σ Q) X.xe s
theorem PW.pt {X : Cx} {e : Expr} {t : TT} (h : PW X e t) : PT X e t := h _
def PA (X : Cx) (es : List Expr) (t : TA) : Prop :=
  ∀ (pos : Pos) (pins : List (Addr × Obj)) (s : Shared) (σ : St) (H : Hp) (Q : List V → Hp → Prop), Inv X pins σ H s → t σ H Q → wpAny (model X.prog X.w) X.A (spliced (backTo pos (starEach es X.env))) (AP X pins σ Q) X.xe s
def PS (X : Cx) (st : Stmt) (t : TS) : Prop :=
  ∀ (pins : List (Addr × Obj)) (s : Shared) (σ : St) (H : Hp) (D : Ends), Inv X pins σ H s → t D σ H → wpAny (model X.prog X.w) X.A (exec st X.env) (SP X pins D) X.xe s
def PSs (X : Cx) (st : List Stmt) (t : TS) : Prop :=
  ∀ (pins : List (Addr × Obj)) (s : Shared) (σ : St) (H : Hp) (D : Ends), Inv X pins σ H s → t D σ H → wpAny (model X.prog X.w) X.A (execs st X.env) (SP X pins D) X.xe s
theorem thn {α : Type} {t : Sem α} {Q Q' : α → Shared → Prop} {M : Model} {A : Around} {E : Value → Shared → Prop} {s : Shared} (h : wpAny M A t Q E s) (hQ : ∀ a s, Q a s → Q' a s) : wpAny M A t Q' E s := wpAny_mono h hQ fun _ _ x => x
end L2
namespace L2
open PySem PySem.Spec PyProof.Rows
section
variable {X : Cx}
def tVar (i : Nat) : TE := fun σ H Q => ∃ v, σ[i]? = some (some v) ∧ Q v H
def tC (v : V) : TE := fun _ H Q => Q v H
theorem E5 {i : Nat} {x : Str} {pos : Pos} (hN : X.N[i]? = some x) (hv : Vis X.env.scope x) (hd : (x == ("__debug__" : Str)) = false := by decide) (hcd : (x == ("__classdict__" : Str)) = false := by decide) : PE X (.Name x pos) (tVar i) := by
  intro pins s σ H Q I h
  obtain ⟨v, e, h⟩ := h
  obtain ⟨m, hn, hl⟩ := I.loc
  obtain ⟨u, r, l⟩ := hl i x v hN e hv
  have fin : EP X pins σ Q u s := ⟨v, H, I, r, h⟩
  rcases l with ⟨hk, hm⟩ | ⟨hk, c, hc, hcell⟩
  · exact wpAny_Name (wpAny_loadName_local I.ok.kind hk hn hm fin) hd
  · rcases hk with hk | hk
    · exact wpAny_Name (wpAny_loadName_cell I.ok.kind hk hc hcell fin) hd
    · exact wpAny_Name (wpAny_loadName_free I.ok.kind hk hc hcell fin hcd) hd
theorem zc {i j pos} : PE X (.Constant (.int i) j pos) (tC (.int i)) := fun _ _ _ H _ I h => wpAny_Constant_int ⟨.int i, H, I.tok _, ⟨_, rfl⟩, h⟩
theorem xS {b j pos} : PE X (.Constant (.bool b) j pos) (tC (.bl b)) := fun _ _ _ H _ I h => Constant_bool ⟨.bl b, H, I, rfl, h⟩
theorem CY {j pos} : PE X (.Constant .none j pos) (tC .non) := fun _ _ _ H _ I h => Constant_none ⟨.non, H, I, rfl, h⟩
theorem yD {x j pos} : PE X (.Constant (.str x) j pos) (tC (.str x)) := fun _ _ _ H _ I h => Calls.Constant_str ⟨.str x, H, I.tok _, ⟨_, rfl⟩, h⟩
def Gl (X : Cx) (x : Str) : Prop := X.env.kindOf x = some .globalImplicit
theorem uA {E : Value → Shared → Prop} {pins : List (Addr × Obj)} {s : Shared} {σ : St} {H : Hp} {x : Str} {u : Value} {pos : Pos} {Q : Value → Shared → Prop} (I : Inv X pins σ H s) (hg : Gl X x) (hm : X.mg x = some u) (h : Q u s)
    (hd : (x == ("__debug__" : Str)) = false := by decide) : wpAny (model X.prog X.w) X.A (eval (.Name x pos) X.env) Q E s :=
  Calls.Name_function_global I.ok.kind hg (Calls.loadGlobal_global (by rw [I.ok.glob]; exact I.mod.glob.keeps I.bk) hm h) hd
theorem vF {E : Value → Shared → Prop} {pins : List (Addr × Obj)} {s : Shared} {σ : St} {H : Hp} {x : Str} {u : Value} {pos : Pos} {Q : Value → Shared → Prop} (I : Inv X pins σ H s) (hg : Gl X x) (hm : X.mg x = none) (hv : bootBuiltins x = some u) (h : Q u s)
    (hn : x ≠ "__name__" := by decide) (hd : (x == ("__debug__" : Str)) = false := by decide) : wpAny (model X.prog X.w) X.A (eval (.Name x pos) X.env) Q E s := by
  obtain ⟨mb, h1, h2⟩ := I.mod.blt
  exact Calls.Name_function_global I.ok.kind hg (Calls.loadGlobal_builtin (by rw [I.ok.glob]; exact I.mod.glob.keeps I.bk) hm (by rw [I.ok.blt]; exact h1.keeps I.bk) ((h2 x hn).trans hv) h) hd
theorem yt {x : Str} {v : V} {u : Value} {pos : Pos} (hg : Gl X x) (hm : X.mg x = some u) (r : RelV v u) (hd : (x == ("__debug__" : Str)) = false := by decide) : PE X (.Name x pos) (tC v) :=
  fun _ _ _ H _ I h => uA I hg hm ⟨v, H, I, r, h⟩ hd
theorem xQ {x : Str} {v : V} {u : Value} {pos : Pos} (hg : Gl X x) (hm : X.mg x = none) (hv : bootBuiltins x = some u) (r : RelV v u) (hn : x ≠ "__name__" := by decide) (hd : (x == ("__debug__" : Str)) = false := by decide) : PE X (.Name x pos) (tC v) :=
  fun _ _ _ H _ I h => vF I hg hm hv ⟨v, H, I, r, h⟩ hn hd
variable {a b : Expr} {ta tb : TE} {pos : Pos}
def PC (X : Cx) (op : CmpOp) (a b : Expr) (t : TE) : Prop :=
  ∀ (pins : List (Addr × Obj)) (s : Shared) (σ : St) (H : Hp) (Q : VK), Inv X pins σ H s → t σ H Q →
    wpAny (model X.prog X.w) X.A (eval a X.env) (fun v s₁ => wpAny (model X.prog X.w) X.A (eval b X.env) (fun u s₂ => wpAny (model X.prog X.w) X.A (compareOp op v u) (EP X pins σ Q) X.xe s₂) X.xe s₁) X.xe s
def tB (t : TE) : TT := fun σ H Q => t σ H fun x H1 => ∃ c, x = .bl c ∧ Q c H1
theorem F0 {op : CmpOp} {t : TE} (h : PC X op a b t) (h1 : behindInMarks op b = false := by first | exact nobehind _ (by decide) (by decide) | rfl) : PT X (.Compare a [op] [b] pos) (tB t) := by
  intro pins s σ H Q I hw
  refine wpAny_isTrue_Compare1 (thn (h pins s σ H _ I hw) fun v s1 h1 => thn h1 fun u s2 h2 => thn h2 fun c s3 ⟨x, H1, I1, r1, q1⟩ => ?_) h1
  obtain ⟨d, rfl, q⟩ := q1
  cases r1
  exact wpAny_truthy_bool ⟨H1, I1, q⟩
theorem ya {e : Expr} {t : TE} (h : PE X e t) (he : ∀ whole, isTrue e X.env whole = (do let v ← whole; standAt e.pos; holding [v] (truthy v)) := by intro _; rfl) : PT X e (tB t) := by
  intro pins s σ H Q I hw
  refine isTrue_plain (thn (h pins s σ H _ I hw) fun v s1 ⟨x, H1, I1, r1, q1⟩ => ?_) (he _)
  obtain ⟨d, rfl, q⟩ := q1
  cases r1
  exact wpAny_truthy_bool ⟨H1, I1, q⟩
variable {tA tB' : TT} {rest : List Expr}
def tAnd (t u : TT) : TT := fun σ H Q => t σ H fun c H1 => if c = true then u σ H1 Q else Q false H1
def tOr (t u : TT) : TT := fun σ H Q => t σ H fun c H1 => if c = true then Q true H1 else u σ H1 Q
def tNot (t : TT) : TT := fun σ H Q => t σ H fun c H1 => Q (!c) H1
theorem zX (ha : PT X a tA) : PW X (.BoolOp .And [a] pos) tA := by
  intro wh pins s σ H Q I h
  refine isTrue_and (thn (ha pins s σ H Q I h) fun c s1 e => ?_)
  cases c with
  | true => exact isTrue_and_nil e
  | false => exact e
theorem vK (ha : PT X a tA) : PW X (.BoolOp .Or [a] pos) tA := by
  intro wh pins s σ H Q I h
  refine isTrue_or (thn (ha pins s σ H Q I h) fun c s1 e => ?_)
  cases c with
  | false => exact isTrue_or_nil e
  | true => exact e
theorem ym (ha : PT X a tA) (hb : PW X (.BoolOp .And (b :: rest) pos) tB') : PW X (.BoolOp .And (a :: b :: rest) pos) (tAnd tA tB') := by
  intro wh pins s σ H Q I h
  refine isTrue_and (thn (ha pins s σ H _ I h) fun c s1 ⟨H1, I1, q1⟩ => ?_)
  cases c with
  | true => exact hb wh pins s1 σ H1 Q I1 q1
  | false => exact ⟨H1, I1, q1⟩
theorem tZ (ha : PT X a tA) (hb : PW X (.BoolOp .Or (b :: rest) pos) tB') : PW X (.BoolOp .Or (a :: b :: rest) pos) (tOr tA tB') := by
  intro wh pins s σ H Q I h
  refine isTrue_or (thn (ha pins s σ H _ I h) fun c s1 ⟨H1, I1, q1⟩ => ?_)
  cases c with
  | true => exact ⟨H1, I1, q1⟩
  | false => exact hb wh pins s1 σ H1 Q I1 q1
theorem yF (ha : PT X a tA) : PT X (.UnaryOp .Not a pos) (tNot tA) := by
  intro pins s σ H Q I h
  exact isTrue_not (ha pins s σ H (fun c H1 => Q (!c) H1) I h)
def FG (ta tb : TE) : TE := fun σ H Q => ta σ H fun x H1 => ∃ c, x = .bl c ∧ if c = true then tb σ H1 Q else Q (.bl false) H1
def tOrV (ta tb : TE) : TE := fun σ H Q => ta σ H fun x H1 => ∃ c, x = .bl c ∧ if c = true then Q (.bl true) H1 else tb σ H1 Q
def FI (ta : TE) : TE := fun σ H Q => ta σ H fun x H1 => ∃ c, x = .bl c ∧ Q (.bl (!c)) H1
theorem A9 {op} {t : TE} (h : PE X a t) : PE X (.BoolOp op [a] pos) t := fun pins s σ H Q I hw => BoolOp_one (h pins s σ H Q I hw)
theorem C4 (ha : PE X a ta) (hb : PE X (.BoolOp .And (b :: rest) pos) tb) : PE X (.BoolOp .And (a :: b :: rest) pos) (FG ta tb) := by
  intro pins s σ H Q I h
  refine BoolOp_and (thn (ha pins s σ H _ I h) fun v s1 ⟨x, H1, I1, r1, q1⟩ => ?_)
  obtain ⟨c, rfl, q1⟩ := q1
  cases r1
  refine wpAny_truthy_bool ?_
  cases c with
  | true => exact hb pins s1 σ H1 Q I1 q1
  | false => exact ⟨.bl false, H1, I1, rfl, q1⟩
theorem GI (ha : PE X a ta) (hb : PE X (.BoolOp .Or (b :: rest) pos) tb) : PE X (.BoolOp .Or (a :: b :: rest) pos) (tOrV ta tb) := by
  intro pins s σ H Q I h
  refine BoolOp_or (thn (ha pins s σ H _ I h) fun v s1 ⟨x, H1, I1, r1, q1⟩ => ?_)
  obtain ⟨c, rfl, q1⟩ := q1
  cases r1
  refine wpAny_truthy_bool ?_
  cases c with
  | false => exact hb pins s1 σ H1 Q I1 q1
  | true => exact ⟨.bl true, H1, I1, rfl, q1⟩
theorem E7 (ha : PE X a ta) : PE X (.UnaryOp .Not a pos) (FI ta) := by
  intro pins s σ H Q I h
  refine UnaryOp_ (thn (ha pins s σ H _ I h) fun v s1 ⟨x, H1, I1, r1, q1⟩ => ?_)
  obtain ⟨c, rfl, q1⟩ := q1
  cases r1
  exact not_of (wpAny_truthy_bool ⟨.bl (!c), H1, I1, rfl, q1⟩)
def tIf (t : TT) (ta tb : TE) : TE := fun σ H Q => t σ H fun c H1 => if c = true then ta σ H1 Q else tb σ H1 Q
theorem tu {c : Expr} (hc : PT X c tA) (ha : PE X a ta) (hb : PE X b tb) : PE X (.IfExp c a b pos) (tIf tA ta tb) := by
  intro pins s σ H Q I h
  refine wpAny_IfExp (thn (hc pins s σ H _ I h) fun d s1 ⟨H1, I1, q1⟩ => ?_)
  cases d with
  | true => exact ha pins s1 σ H1 Q I1 q1
  | false => exact hb pins s1 σ H1 Q I1 q1
end
end L2
namespace L2
open PySem PySem.Spec PyProof.Rows
def SqL (K : PySem.W.Frag) (H : Hp) (a : Addr) (xs : List V) : Prop :=
  Rd H a (.lst xs) ∨
    ∃ (o : Obj) (its : Array Value) (n : Nat), K.lookup a = some o ∧ o.cls = .type "list" ∧ o.dict = none ∧ o.data = .seq its n ∧ its.size ≤ sizeLine ∧ Vals xs its.toList
def SqT (K : PySem.W.Frag) (H : Hp) (a : Addr) (xs : List V) : Prop :=
  Rd H a (.tup xs) ∨
    ∃ (o : Obj) (its : Array Value) (n : Nat), K.lookup a = some o ∧ o.cls = .type "tuple" ∧ o.data = .seq its n ∧ its.size ≤ sizeLine ∧ Vals xs its.toList
def absV : Value → Option V
  | .none => some .non
  | .bool b => some (.bl b)
  | .int i _ => some (.int i)
  | .str x _ => some (.str x)
  | .bytes b _ => some (.byt b)
  | .float b _ => some (.flt b)
  | .ref a => some (.ref a)
  | .type n => some (.ty n)
  | _ => none
theorem RelV.abs {x : V} {u : Value} (r : RelV x u) : absV u = some x := by
  cases x with
  | non => cases r; rfl
  | bl _ => cases r; rfl
  | int _ => obtain ⟨t, rfl⟩ := r; rfl
  | str _ => obtain ⟨t, rfl⟩ := r; rfl
  | byt _ => obtain ⟨t, rfl⟩ := r; rfl
  | flt _ => obtain ⟨t, rfl⟩ := r; rfl
  | ref _ => cases r; rfl
  | ty _ => cases r; rfl
theorem RelV.inj {x y : V} {u : Value} (r : RelV x u) (q : RelV y u) : x = y := Option.some.inj (r.abs.symm.trans q.abs)
theorem Vals.inj : ∀ {xs ys : List V} {us : List Value}, Vals xs us → Vals ys us → xs = ys
  | _, _, _, .nil, .nil => rfl
  | _, _, _, .cons r t, .cons r' t' => by rw [r.inj r', Vals.inj t t']
section
variable {X : Cx} {pins : List (Addr × Obj)} {σ : St} {H : Hp} {s : Shared} {a : Addr} {xs ys : List V}
theorem SqL.of {K : PySem.W.Frag} (h : H a = some (.lst xs)) : SqL K H a xs := .inl (.inl h)
theorem SqT.of {K : PySem.W.Frag} (h : H a = some (.tup xs)) : SqT K H a xs := .inl (.inl h)
theorem Inv.list (I : Inv X pins σ H s) (h : SqL X.K H a xs) : ∃ its : List Value, Vals xs its ∧ PlainL s.heap a its.toArray ∧ xs.length ≤ sizeLine := by
  rcases h with h | ⟨o, its, n, hk, hc, hd, hs, hz, r⟩
  · obtain ⟨z, its, n, r, e⟩ := h.ok I.hok
    exact ⟨its, r, ⟨_, n, e, rfl, rfl, rfl⟩, z⟩
  · refine ⟨its.toList, r, ⟨o, n, I.kIn a o hk, hc, hd, by simpa using hs⟩, ?_⟩
    have e := r.length
    simp only [Array.length_toList] at e
    omega
theorem Inv.tuple (I : Inv X pins σ H s) (h : SqT X.K H a xs) : ∃ its : List Value, Vals xs its ∧ IsTup s.heap a its.toArray ∧ xs.length ≤ sizeLine := by
  rcases h with h | ⟨o, its, n, hk, hc, hs, hz, r⟩
  · obtain ⟨z, its, r, p⟩ := h.ok I.hok
    exact ⟨its, r, p, z⟩
  · refine ⟨its.toList, r, ⟨o, I.kIn a o hk, hc, n, by simpa using hs⟩, ?_⟩
    have e := r.length
    simp only [Array.length_toList] at e
    omega
theorem Inv.list_inj (I : Inv X pins σ H s) (h : SqL X.K H a xs) (h' : SqL X.K H a ys) : xs = ys := by
  obtain ⟨its, r, ⟨o, n, e, _, _, d⟩, _⟩ := I.list h
  obtain ⟨its', r', ⟨o', n', e', _, _, d'⟩, _⟩ := I.list h'
  rw [e] at e'; cases e'
  rw [d] at d'
  injection d' with d1 _
  have : its = its' := by simpa using congrArg Array.toList d1
  subst this
  exact r.inj r'
theorem Inv.tuple_inj (I : Inv X pins σ H s) (h : SqT X.K H a xs) (h' : SqT X.K H a ys) : xs = ys := by
  obtain ⟨its, r, ⟨o, e, _, n, d⟩, _⟩ := I.tuple h
  obtain ⟨its', r', ⟨o', e', _, n', d'⟩, _⟩ := I.tuple h'
  rw [e] at e'; cases e'
  rw [d] at d'
  injection d' with d1 _
  have : its = its' := by simpa using congrArg Array.toList d1
  subst this
  exact r.inj r'
end
abbrev Cx.wish (X : Cx) (E : Value → Shared → Prop) : Cx := { X with xe := E }
abbrev Cx.nox (X : Cx) : Cx := X.wish fun _ _ => False
theorem Cx.Ok.wish {X : Cx} (ok : X.Ok) (E : Value → Shared → Prop) : (X.wish E).Ok :=
  ⟨ok.mod, ok.kind, ok.glob, ok.blt, ok.above, ok.inj, ok.has, ok.cab, ok.hd, ok.frames, ok.stk, ok.exf, ok.bs, ok.bsz, ok.noex, ok.exfs, ok.funs, ok.frf⟩
theorem Cx.Ok.unwish {X : Cx} {E : Value → Shared → Prop} (ok : (X.wish E).Ok) : X.Ok :=
  ⟨ok.mod, ok.kind, ok.glob, ok.blt, ok.above, ok.inj, ok.has, ok.cab, ok.hd, ok.frames, ok.stk, ok.exf, ok.bs, ok.bsz, ok.noex, ok.exfs, ok.funs, ok.frf⟩
section
variable {X : Cx} {pins : List (Addr × Obj)} {σ : St} {H : Hp} {s : Shared} {E : Value → Shared → Prop}
theorem Inv.wish (I : Inv X pins σ H s) (E : Value → Shared → Prop) : Inv (X.wish E) pins σ H s := ⟨I.ok.wish E, I.os, I.bare, I.base, I.loc, I.cell, I.free, I.freeC, I.pin, I.hok, I.len⟩
theorem Inv.unwish (I : Inv (X.wish E) pins σ H s) : Inv X pins σ H s := ⟨I.ok.unwish, I.os, I.bare, I.base, I.loc, I.cell, I.free, I.freeC, I.pin, I.hok, I.len⟩
theorem SP.unwish {D : Ends} {f : Flow} {s' : Shared} (h : SP (X.wish E) pins D f s') : SP X pins D f s' := by
  cases f with
  | next => obtain ⟨σ', H', I, q⟩ := h; exact ⟨σ', H', I.unwish, q⟩
  | brk => obtain ⟨σ', H', I, q⟩ := h; exact ⟨σ', H', I.unwish, q⟩
  | cont => obtain ⟨σ', H', I, q⟩ := h; exact ⟨σ', H', I.unwish, q⟩
  | ret u => obtain ⟨v, σ', H', I, r, q⟩ := h; exact ⟨v, σ', H', I.unwish, r, q⟩
theorem PSs.nox {st : List Stmt} {t : TS} (h : PSs X.nox st t) : PSs X st t := fun pins s σ H D I hw =>
  wpAny_mono (h pins s σ H D (I.wish _) hw) (fun _ _ q => q.unwish) fun _ _ z => False.elim z
end
section
variable {X : Cx} {st : Stmt} {rest : List Stmt} {t u : TS} {e : Expr} {te : TE} {pos : Pos}
def Gh : TS := fun D σ H => D.nx σ H
def tSeq (t u : TS) : TS := fun D σ H => t { D with nx := u D } σ H
theorem zv : PSs X [] Gh := fun _ _ σ H _ I h => wpAny_execs_nil ⟨σ, H, I, h⟩
theorem zd (h1 : PS X st t) (h2 : PSs X rest u) : PSs X (st :: rest) (tSeq t u) := by
  intro pins s σ H D I h
  refine wpAny_execs_cons (thn (h1 pins s σ H { D with nx := u D } I h) fun f s1 q => ?_)
  cases f with
  | next =>
    obtain ⟨σ', H', I', q⟩ := q
    exact h2 pins s1 σ' H' D I' q
  | ret v => exact q
  | brk => exact q
  | cont => exact q
theorem zf (h1 : PS X st t) : PSs X [st] t := by
  intro pins s σ H D I h
  refine wpAny_execs_cons (thn (h1 pins s σ H D I h) fun f s1 q => ?_)
  cases f with
  | next => exact wpAny_execs_nil q
  | ret v => exact q
  | brk => exact q
  | cont => exact q
theorem Inv.quiet {pins : List (Addr × Obj)} {σ : St} {H : Hp} {s : Shared} (I : Inv X pins σ H s) : interactive X.env = false := by simp [interactive, I.ok.kind]
def FL (te : TE) : TS := fun D σ H => te σ H fun _ H1 => D.nx σ H1
theorem z9 (he : PE X e te) (hs : swapsWith e none pos.line X.env = pure false := by rfl) : PS X (.Expr e pos) (FL te) := by
  intro pins s σ H D I h
  exact wpAny_Expr_any (thn (he pins s σ H _ I h) fun v s1 ⟨x, H1, I1, r1, q1⟩ => ⟨σ, H1, I1, q1⟩) I.quiet hs
def tRet (te : TE) : TS := fun D σ H => te σ H D.rt
theorem zr (he : PE X e te) : PS X (.Return (some e) pos) (tRet te) := by
  intro pins s σ H D I h
  exact wpAny_Return_some (thn (he pins s σ H _ I h) fun v s1 ⟨x, H1, I1, r1, q1⟩ => ⟨x, σ, H1, I1, r1, q1⟩)
def tIfS (c : TT) (t u : TS) : TS := fun D σ H => c σ H fun b H1 => if b = true then t D σ H1 else u D σ H1
theorem zF {c : Expr} {a b : List Stmt} {tc : TT} (hc : PT X c tc) (ha : PSs X a t) (hb : PSs X b u) : PS X (.If c a b pos) (tIfS tc t u) := by
  intro pins s σ H D I h
  refine wpAny_If (thn (hc pins s σ H _ I h) fun d s1 ⟨H1, I1, q1⟩ => ?_)
  cases d with
  | true => exact ha pins s1 σ H1 D I1 q1
  | false => exact hb pins s1 σ H1 D I1 q1
def CU : TS := fun _ _ _ => False
theorem yj : PS X st CU := fun _ _ _ _ _ _ h => h.elim
theorem AN {sts : List Stmt} : PSs X sts CU := fun _ _ _ _ _ _ h => h.elim
end
abbrev TG := V → St → Hp → (St → Hp → Prop) → Prop
abbrev TGs := List V → St → Hp → (St → Hp → Prop) → Prop
def PG (X : Cx) (target : Expr) (t : TG) : Prop :=
  ∀ (pins : List (Addr × Obj)) (s : Shared) (σ : St) (H : Hp) (v : V) (u : Value) (Q : St → Hp → Prop), Inv X pins σ H s → RelV v u → t v σ H Q →
    wpAny (model X.prog X.w) X.A (assign target X.env u) (fun _ s' => ∃ σ' H', Inv X pins σ' H' s' ∧ Q σ' H') X.xe s
def PGs (X : Cx) (ts : List Expr) (t : TGs) : Prop :=
  ∀ (pins : List (Addr × Obj)) (s : Shared) (σ : St) (H : Hp) (vs : List V) (us : List Value) (Q : St → Hp → Prop), Inv X pins σ H s → Vals vs us → t vs σ H Q →
    wpAny (model X.prog X.w) X.A (assignInOrder ((assignEach ts X.env).map (·.2)) us) (fun _ s' => ∃ σ' H', Inv X pins σ' H' s' ∧ Q σ' H') X.xe s
abbrev TSet := V → V → V → Hp → (Hp → Prop) → Prop
def PSet (X : Cx) (t : TSet) : Prop :=
  ∀ (pins : List (Addr × Obj)) (s : Shared) (σ : St) (H : Hp) (o i v : V) (ov iv u : Value) (Q : Hp → Prop), Inv X pins σ H s → RelV o ov → RelV i iv → RelV v u → t o i v H Q →
    wpAny (model X.prog X.w) X.A (setItem ov iv u) (fun _ s' => ∃ H', Inv X pins σ H' s' ∧ Q H') X.xe s
section
variable {X : Cx} {pos : Pos}
def DB (i : Nat) : TG := fun v σ H Q => Q (σ.set i (some v)) H
theorem zx {i : Nat} {x : Str} (hN : X.N.Nodup) (hi : X.N[i]? = some x) (hx : Loc X.env.scope x) (hf : X.fn x = true ∨ X.env.scope.names.lookup x = some .local := by first | exact .inl rfl | exact .inr rfl | assumption) : PG X (.Name x pos) (DB i) := by
  intro pins s σ H v u Q I r h
  exact wpAny_assign_Name (xB I hN hi hx r (fun s' I' => ⟨_, H, I', h⟩) hf)
def gNil : TGs := fun vs σ H Q => vs = [] ∧ Q σ H
def EW (t : TG) (u : TGs) : TGs := fun vs σ H Q => ∃ v r, vs = v :: r ∧ t v σ H fun σ' H' => u r σ' H' Q
theorem x8 : PGs X [] gNil := by
  intro pins s σ H vs us Q I r h
  obtain ⟨e, h⟩ := h
  subst e
  cases r
  exact assignInOrder_nil ⟨σ, H, I, h⟩
theorem z4 {e : Expr} {es : List Expr} {t : TG} {u : TGs} (h1 : PG X e t) (h2 : PGs X es u)
    (hs : (assignEach (e :: es) X.env).map (·.2) = assign e X.env :: (assignEach es X.env).map (·.2) := by rfl) : PGs X (e :: es) (EW t u) := by
  intro pins s σ H vs us Q I r h
  obtain ⟨v, vr, e1, h⟩ := h
  subst e1
  cases r with
  | cons r rr =>
    rw [hs]
    refine assignInOrder_cons (thn (h1 pins s σ H _ _ _ I r h) fun _ s1 ⟨σ1, H1, I1, q1⟩ => ?_)
    exact h2 pins s1 σ1 H1 _ _ Q I1 rr q1
def gTup (K : PySem.W.Frag) (n : Nat) (t : TGs) : TG := fun v σ H Q => ∃ a xs, v = .ref a ∧ SqT K H a xs ∧ xs.length = n ∧ t xs σ H Q
theorem vO {es : List Expr} {k : Nat} {t : TGs} {n : Nat} (hc : X.calm = true) (h : PGs X es t)
    (hn : (assignEach es X.env).length = n := by rfl) (hst : (assignEach es X.env).findIdx? (·.1) = none := by rfl) : PG X (.Tuple es k pos) (gTup X.K n t) := by
  intro pins s σ H v u Q I r hw
  obtain ⟨a, xs, e1, hq, hl, hw⟩ := hw
  subst e1
  cases r
  obtain ⟨its, rv, ht, hz⟩ := I.tuple hq
  refine assign_Tuple_tuple (I.ok.hd hc) ht (by simp [hn, ← hl, rv.length]) hst fun h' hx => ?_
  have I1 : Inv X pins σ H { s with heap := h' } := I.kept (t' := s.toks) fun b o e => hx b o (Nat.ne_of_lt (Heap.lt_size e)) e
  exact h pins _ σ H xs _ Q I1 (by simpa using rv) hw
def gSub (to ti : TE) (t : TSet) : TG := fun v σ H Q => to σ H fun o H1 => ti σ H1 fun i H2 => t o i v H2 fun H3 => Q σ H3
theorem FV {o i : Expr} {to ti : TE} {t : TSet} (ho : PE X o to) (hi : PE X i ti) (hs : PSet X t)
    (ha : ∀ v, assign (.Subscript o i pos) X.env v = (do
      let ov ← holding [v] (eval o X.env)
      let iv ← holding [v, ov] (eval i X.env)
      standAt pos
      holding [v, ov, iv] (setItem ov iv v)
      release [v, ov, iv] []) := by intro _; rfl) : PG X (.Subscript o i pos) (gSub to ti t) := by
  intro pins s σ H v u Q I r h
  rw [ha]
  refine wpAny_bind (wpAny_holding (thn (ho pins s σ H _ I h) fun ov s1 ⟨x, H1, I1, r1, q1⟩ => ?_))
  refine wpAny_bind (wpAny_holding (thn (hi pins s1 σ H1 _ I1 q1) fun iv s2 ⟨y, H2, I2, r2, q2⟩ => ?_))
  refine wpAny_bind (wpAny_standAt (wpAny_bind (wpAny_holding (thn (hs pins s2 σ H2 x y v ov iv u _ I2 r1 r2 r q2) fun _ s3 ⟨H3, I3, q3⟩ => ?_))))
  exact wpAny_release ⟨σ, H3, I3, q3⟩
def tAsg (te : TE) (g : TG) : TS := fun D σ H => te σ H fun x H1 => g x σ H1 D.nx
theorem Ax {tg e : Expr} {te : TE} {g : TG} (he : PE X e te) (hg : PG X tg g) (hs : swapsWithSole [tg] e pos.line X.env = pure false := by rfl) (hw : swappedStores [tg] e X.env = pure none := by rfl)
    (h1 : (assignEach [tg] X.env).map (·.2) = [assign tg X.env] := by rfl) : PS X (.Assign [tg] e pos) (tAsg te g) := by
  intro pins s σ H D I h
  refine wpAny_Assign_stores (thn (he pins s σ H _ I h) fun v s1 ⟨x, H1, I1, r1, q1⟩ => ?_) hs hw
  rw [h1]
  exact thn (hg pins s1 σ H1 x v _ I1 r1 q1) fun _ s2 q => q
theorem zo {i : Nat} {x : Str} {e : Expr} {te : TE} {pos' : Pos} (hN : X.N.Nodup) (hi : X.N[i]? = some x) (hx : Loc X.env.scope x) (he : PE X e te) (hs : swapsWith e (some (.Name x pos')) pos.line X.env = pure false := by rfl) (hf : X.fn x = true ∨ X.env.scope.names.lookup x = some .local := by first | exact .inl rfl | exact .inr rfl | assumption) :
    PS X (.Assign [.Name x pos'] e pos) (tAsg te (DB i)) := by
  intro pins s σ H D I h
  refine wpAny_Assign_Name (thn (he pins s σ H _ I h) fun v s1 ⟨y, H1, I1, r1, q1⟩ => ?_) hs
  exact xB I1 hN hi hx r1 (fun s2 I2 => ⟨_, H1, I2, q1⟩) hf
def tPar (i j : Nat) (ta : TA) : TS := fun D σ H => ta σ H fun vs H1 => ∃ v w, vs = [v, w] ∧ D.nx ((σ.set i (some v)).set j (some w)) H1
theorem Gb {i j : Nat} {x y : Str} {a b : Expr} {ta : TA} {px py pt : Pos} {kt k2 pt2} (hc : X.calm = true) (hN : X.N.Nodup) (hi : X.N[i]? = some x) (hj : X.N[j]? = some y) (hij : i ≠ j)
    (hx : X.env.scope.names.lookup x = some .local) (hy : X.env.scope.names.lookup y = some .local) (ha : PA X [a, b] ta)
    (hw : swappedStores [.Tuple [.Name x px, .Name y py] kt pt] (.Tuple [a, b] k2 pt2) X.env = pure (some [x, y]))
    (hs : swapsWithSole [.Tuple [.Name x px, .Name y py] kt pt] (.Tuple [a, b] k2 pt2) pos.line X.env = pure false := by rfl) :
    PS X (.Assign [.Tuple [.Name x px, .Name y py] kt pt] (.Tuple [a, b] k2 pt2) pos) (tPar i j ta) := by
  intro pins s σ H D I h
  rw [exec_Assign_arm]
  refine wpAny_bind (wpAny_standAt ?_)
  rw [hs]
  refine wpAny_bind (wpAny_pure ?_)
  rw [if_neg (by decide)]
  refine wpAny_bind (Tuple_ (thn (ha _ pins s σ H _ I h) fun us s1 ⟨vs, H1, I1, r1, q1⟩ => ?_))
  obtain ⟨v, w, e1, q1⟩ := q1
  subst e1
  obtain ⟨u1, u2, rfl, rv, rw'⟩ : ∃ u1 u2, us = [u1, u2] ∧ RelV v u1 ∧ RelV w u2 := by
    cases r1 with
    | cons p q =>
      cases q with
      | cons p' q' =>
        cases q'
        exact ⟨_, _, rfl, p, p'⟩
  refine wpAny_newObj_type ?_ (by show 2 ≤ sizeLine; decide)
  have I2 : Inv X pins σ H1 { s1 with heap := s1.heap.push { cls := .type "tuple", data := .seq [u1, u2].toArray } } := I1.kept (t' := s1.toks) fun b o e => Heap.get?_push_of_some _ e
  rw [hw]
  refine wpAny_bind (wpAny_pure ?_)
  show wpAny (model X.prog X.w) X.A (do rule "assign.swapped-stores"; let items ← unpackItems (.ref s1.heap.objs.size) 2 none; assignInOrder [fun v => bindName X.env y v, fun v => bindName X.env x v] items.reverse; pure Flow.next) _ _ _
  refine wpAny_bind (wpAny_rule (wpAny_bind (unpackItems_tuple (items := #[u1, u2]) (I.ok.hd hc) (IsTup.new s1.heap _) fun h' hx' => ?_)))
  have I3 := I2.kept (h' := h') (t' := s1.toks) fun b o e => hx' b o (Nat.ne_of_lt (Heap.lt_size e)) e
  show wpAny _ _ (assignInOrder [fun v => bindName X.env y v, fun v => bindName X.env x v] [u2, u1] >>= fun _ => pure Flow.next) _ _ _
  refine wpAny_bind (assignInOrder_cons (wpAny_bindName (xB I3 hN hj (.inl hy) rw' (fun s2 I4 => ?_) (.inr hy))))
  refine assignInOrder_cons (wpAny_bindName (xB I4 hN hi (.inl hx) rv (fun s3 I5 => assignInOrder_nil (wpAny_pure ?_)) (.inr hx)))
  rw [List.set_comm _ _ (Ne.symm hij)] at I5
  exact ⟨_, H1, I5, q1⟩
end
section
variable {X : Cx} {pos : Pos}
def uK (c : TT) (tb : TS) : TS := fun D σ H => ∃ W : Nat → St → Hp → Prop, (∃ m, W m σ H) ∧ ∀ m σ H, W m σ H →
  c σ H fun b H1 => if b = true then ∃ N : St → Hp → Prop, (∀ σ' H', N σ' H' → ∃ m', m' < m ∧ W m' σ' H') ∧ tb { D with nx := N, ct := N, bk := D.nx } σ H1 else D.nx σ H1
theorem xv {c : Expr} {body : List Stmt} {tc : TT} {tb : TS} (hp : PassesOwn (model X.prog X.w) X.A X.env X.xe) (hc : PT X c tc) (hb : PSs X body tb) : PS X (.While c body [] pos) (uK tc tb) := by
  intro pins s σ H D I h
  obtain ⟨W, ⟨m0, w0⟩, turn⟩ := h
  refine wpAny_While (codeAny_whileLoop (fun n s' => ∃ σ' H', Inv X pins σ' H' s' ∧ W n σ' H') ?_ m0 ⟨σ, H, I, w0⟩)
  rintro n s1 ⟨σ1, H1, I1, w1⟩
  refine wpAny_passesOwn hp (thn (hc pins s1 σ1 H1 _ I1 (turn n σ1 H1 w1)) fun b s2 ⟨H2, I2, q2⟩ => ?_)
  cases b with
  | true =>
    obtain ⟨N, hN, q2⟩ := q2
    rw [if_pos rfl]
    refine wpAny_passesOwn hp (thn (hb pins s2 σ1 H2 _ I2 q2) fun f s3 q3 => ?_)
    cases f with
    | next =>
      obtain ⟨σ3, H3, I3, n3⟩ := q3
      obtain ⟨m', hm, w3⟩ := hN σ3 H3 n3
      exact ⟨m', hm, σ3, H3, I3, w3⟩
    | cont =>
      obtain ⟨σ3, H3, I3, n3⟩ := q3
      obtain ⟨m', hm, w3⟩ := hN σ3 H3 n3
      exact ⟨m', hm, σ3, H3, I3, w3⟩
    | brk => exact q3
    | ret v => exact q3
  | false =>
    rw [if_neg Bool.false_ne_true]
    exact wpAny_execs_nil ⟨σ1, H2, I2, q2⟩
end
structure It where
  go : Nat → Hp → Prop
  yld : Nat → Hp → V → Hp → Prop
  stop : Nat → Hp → Prop
def FpOk (X : Cx) (pins : List (Addr × Obj)) (H : Hp) (b : Addr) : Prop :=
  H b = none ∧ b ≠ X.env.locals ∧ b ∉ X.fs ∧ (b ∈ X.ex ∨ X.s₀.heap.objs.size ≤ b) ∧ (∀ x c, X.env.cells.lookup x = some c → c ≠ b) ∧ ∀ p ∈ X.pn ++ pins, p.1 ≠ b
theorem Inv.fpOk {X : Cx} {pins : List (Addr × Obj)} {σ : St} {H H' : Hp} {s : Shared} {b : Addr} (I : Inv X pins σ H s) (hb : s.heap.objs.size ≤ b) (hn : H' b = none) : FpOk X pins H' b := by
  refine ⟨hn, Nat.ne_of_gt (Nat.lt_of_lt_of_le I.lt hb), I.nofs hb, .inr (Nat.le_trans I.sz hb), fun x c e z => ?_, fun p hp z => ?_⟩
  · obtain ⟨v, q⟩ := I.cell x c e
    exact absurd (Nat.lt_of_lt_of_le q.lt (by rw [z]; exact hb)) (Nat.lt_irrefl _)
  · exact absurd (Nat.lt_of_lt_of_le (Heap.lt_size (I.pin p hp).1) (by rw [z]; exact hb)) (Nat.lt_irrefl _)
structure Turn (P : Program) (w : World) (K : PySem.W.Frag) (tg : Expr) (J : It) (fp : List Addr) (it : Addr) (tn : Nat → Heap → Prop) : Prop where
  mem : it ∈ fp
  obj : ∀ i h, tn i h → ∀ b ∈ fp, ∃ o, h.get? b = some o ∧ ∀ v, o.data ≠ .cell v
  keep : ∀ i h h', tn i h → (∀ b ∈ fp, ∀ o, h.get? b = some o → h'.get? b = some o) → tn i h'
  item : ∀ (X : Cx), X.prog = P → X.w = w → X.K = K → X.calm = true → ∀ (i : Nat) (pins : List (Addr × Obj)) (s : Shared) (σ : St) (H : Hp) (E : Value → Shared → Prop), Inv X pins σ H s → (∀ b ∈ fp, FpOk X pins H b) → tn i s.heap → J.go i H →
    wpAny (model P w) X.A (pyNext (.ref it)) (fun r s1 => ∃ u, r = some u ∧
      wpAny (model P w) X.A (letOwnedTupleGo tg (.ref it) u) (fun _ s2 => ∃ x H', Inv X pins σ H' s2 ∧ RelV x u ∧ J.yld i H x H' ∧ tn (i + 1) s2.heap ∧ ∀ b ∈ fp, H' b = none) E s1) E s
  done : ∀ (X : Cx), X.prog = P → X.w = w → X.K = K → X.calm = true → ∀ (i : Nat) (pins : List (Addr × Obj)) (s : Shared) (σ : St) (H : Hp) (E : Value → Shared → Prop), Inv X pins σ H s → (∀ b ∈ fp, FpOk X pins H b) → tn i s.heap → J.stop i H →
    wpAny (model P w) X.A (pyNext (.ref it)) (fun r s1 => r = none ∧ Inv X pins σ H s1) E s
  self : ∀ (A : Around) (i : Nat) (s : Shared) (Q : Value → Shared → Prop) (E : Value → Shared → Prop), tn i s.heap → Q (.ref it) s → wpAny (model P w) A (pyIter (.ref it)) Q E s
abbrev TI := St → Hp → (It → Hp → Prop) → Prop
def PIE (X : Cx) (pins : List (Addr × Obj)) (σ : St) (tg : Expr) (R : It → Hp → Prop) (itv : Value) (s2 : Shared) : Prop :=
  ∃ (it : Addr) (fp : List Addr) (tn : Nat → Heap → Prop) (J : It) (H' : Hp), itv = .ref it ∧ Inv X pins σ H' s2 ∧ Turn X.prog X.w X.K tg J fp it tn ∧ tn 0 s2.heap ∧ (∀ b ∈ fp, FpOk X pins H' b) ∧ R J H'
def PI (X : Cx) (tg iter : Expr) (wi : TI) : Prop :=
  ∀ (pins : List (Addr × Obj)) (s : Shared) (σ : St) (H : Hp) (R : It → Hp → Prop), Inv X pins σ H s → wi σ H R →
    wpAny (model X.prog X.w) X.A (eval iter X.env) (fun v s1 => wpAny (model X.prog X.w) X.A (pyIter v) (PIE X pins σ tg R) X.xe s1) X.xe s
theorem CL {M : Model} {A : Around} {E : Value → Shared → Prop} {s : Shared} {tg : Expr} {it : Addr} {u : Value} {o : Obj} {n : String} {vs : Array Value} {Q : Unit → Shared → Prop} (ho : s.heap.get? it = some o) (hc : o.cls = .type n) (hd : o.data = .fields vs)
    (hn : ["enumerate", "zip", "dict_itemiterator", "dict_reverseitemiterator", "odict_iterator", "itertools.zip_longest", "itertools.pairwise"].contains n = false) (hQ : Q () s) : wpAny M A (letOwnedTupleGo tg (.ref it) u) Q E s := by
  unfold letOwnedTupleGo
  cases tg <;> first
    | exact wpAny_pure hQ
    | (cases u <;> first
        | exact wpAny_pure hQ
        | (refine wpAny_bind (wpAny_load ho ?_)
           rw [hc, hd]
           show wpAny M A (if (["enumerate", "zip", "dict_itemiterator", "dict_reverseitemiterator", "odict_iterator", "itertools.zip_longest", "itertools.pairwise"].contains n && vs[0]? == some (rawInt _)) = true then _ else _) Q E s
           rw [if_neg (by intro h; rw [hn, Bool.false_and] at h; cases h)]
           exact wpAny_pure hQ))
def Itl (K : PySem.W.Frag) (a : Addr) : It :=
  ⟨fun i H => ∃ xs x, SqL K H a xs ∧ xs[i]? = some x, fun i H x H' => H' = H ∧ ∀ xs, SqL K H a xs → xs[i]? = some x, fun i H => ∃ xs, SqL K H a xs ∧ xs.length ≤ i⟩
def Itt (K : PySem.W.Frag) (a : Addr) : It :=
  ⟨fun i H => ∃ xs x, SqT K H a xs ∧ xs[i]? = some x, fun i H x H' => H' = H ∧ ∀ xs, SqT K H a xs → xs[i]? = some x, fun i H => ∃ xs, SqT K H a xs ∧ xs.length ≤ i⟩
def Itr (lo : Int) (n : Nat) : It := ⟨fun i _ => i < n, fun i H x H' => H' = H ∧ x = .int (lo + i), fun i _ => n ≤ i⟩
theorem A2 {P : Program} {w : World} {K : PySem.W.Frag} {tg : Expr} (a it : Addr) : Turn P w K tg (Itl K a) [it] it (fun i h => h.IsListIter it a i) where
  mem := by simp
  obj := fun i h st b hb => by
    have e : b = it := by simpa using hb
    subst e
    obtain ⟨o, e, c, d⟩ := st
    exact ⟨o, e, fun v z => by rw [d] at z; cases z⟩
  keep := fun i h h' st k => st.at fun o e => k it (by simp) o e
  item := by
    intro X hP hw hK hc i pins s σ H E I hf st hg
    subst hP hw hK
    obtain ⟨xs, x, hq, hx⟩ := hg
    obtain ⟨its, rv, p, hz⟩ := I.list hq
    obtain ⟨u, hu, ru⟩ := rv.get hx
    obtain ⟨f0, f1, f2, f3, f4, f5⟩ := hf it (by simp)
    refine wpAny_pyNext_list_item st p.isList (x := u) (by simpa using hu) fun h' st' sb => ?_
    have I1 : Inv X pins σ H { s with heap := h' } := I.turned (t' := s.toks) (fun b o hb e => (sb.2 b hb).trans e) f0 f1 f3 f4 f5
    obtain ⟨o, e, c, d⟩ := id st'
    exact ⟨u, rfl, CL (s := { s with heap := h' }) e c d (by decide) ⟨x, H, I1, ru, ⟨rfl, fun ys hy => by rw [I.list_inj hy hq]; exact hx⟩, st', fun b hb => (hf b hb).1⟩⟩
  done := by
    intro X hP hw hK hc i pins s σ H E I hf st hg
    subst hP hw hK
    obtain ⟨xs, hq, hx⟩ := hg
    obtain ⟨its, rv, p, hz⟩ := I.list hq
    obtain ⟨f0, f1, f2, f3, f4, f5⟩ := hf it (by simp)
    have hl := rv.length
    exact wpAny_pyNext_list_end (I.ok.hd hc) st p.isList (by simp; omega) fun h' eb => ⟨rfl, I.turned (t' := s.toks) (fun b o hb e => eb b o hb e) f0 f1 f3 f4 f5⟩
  self := fun _ _ _ _ _ st h => wpAny_pyIter_listiter st h
theorem t8 {P : Program} {w : World} {K : PySem.W.Frag} {tg : Expr} (a it : Addr) : Turn P w K tg (Itt K a) [it] it (fun i h => h.IsTupleIter it a i) where
  mem := by simp
  obj := fun i h st b hb => by
    have e : b = it := by simpa using hb
    subst e
    obtain ⟨o, e, c, d⟩ := st
    exact ⟨o, e, fun v z => by rw [d] at z; cases z⟩
  keep := fun i h h' st k => st.at fun o e => k it (by simp) o e
  item := by
    intro X hP hw hK hc i pins s σ H E I hf st hg
    subst hP hw hK
    obtain ⟨xs, x, hq, hx⟩ := hg
    obtain ⟨its, rv, p, hz⟩ := I.tuple hq
    obtain ⟨u, hu, ru⟩ := rv.get hx
    obtain ⟨f0, f1, f2, f3, f4, f5⟩ := hf it (by simp)
    refine wpAny_pyNext_tuple_item st (show s.heap.IsTuple a its.toArray from p) (x := u) (by simpa using hu) fun h' st' sb => ?_
    have I1 : Inv X pins σ H { s with heap := h' } := I.turned (t' := s.toks) (fun b o hb e => (sb.2 b hb).trans e) f0 f1 f3 f4 f5
    obtain ⟨o, e, c, d⟩ := id st'
    exact ⟨u, rfl, CL (s := { s with heap := h' }) e c d (by decide) ⟨x, H, I1, ru, ⟨rfl, fun ys hy => by rw [I.tuple_inj hy hq]; exact hx⟩, st', fun b hb => (hf b hb).1⟩⟩
  done := by
    intro X hP hw hK hc i pins s σ H E I hf st hg
    subst hP hw hK
    obtain ⟨xs, hq, hx⟩ := hg
    obtain ⟨its, rv, p, hz⟩ := I.tuple hq
    obtain ⟨f0, f1, f2, f3, f4, f5⟩ := hf it (by simp)
    have hl := rv.length
    exact wpAny_pyNext_tuple_end (I.ok.hd hc) st (show s.heap.IsTuple a its.toArray from p) (by simp; omega) fun h' eb => ⟨rfl, I.turned (t' := s.toks) (fun b o hb e => eb b o hb e) f0 f1 f3 f4 f5⟩
  self := fun _ _ _ _ _ st h => wpAny_pyIter_tupleiter st h
theorem tP {P : Program} {w : World} {K : PySem.W.Frag} {tg : Expr} (it : Addr) (lo : Int) (n : Nat) : Turn P w K tg (Itr lo n) [it] it (fun i h => IsRangeIter h it (lo + (i : Nat) * 1) ((n : Int) - (i : Nat)) 1) where
  mem := by simp
  obj := fun i h st b hb => by
    have e : b = it := by simpa using hb
    subst e
    exact ⟨_, st, fun v z => by
      have z' : Data.fields _ = Data.cell v := z
      cases z'⟩
  keep := fun i h h' st k => k it (by simp) _ st
  item := by
    intro X hP hw hK hc i pins s σ H E I hf st hg
    subst hP hw hK
    obtain ⟨f0, f1, f2, f3, f4, f5⟩ := hf it (by simp)
    have W := Walks.range (prog := X.prog) (w := X.w) (I.ok.hd hc) it lo 1 n
    refine W.item i s _ _ hg st fun v h' tk hv st' kk => ?_
    obtain ⟨t, rfl⟩ := hv
    have I1 : Inv X pins σ H { s with heap := h', toks := tk } := I.turned (fun b o hb e => kk b o (by simpa using hb) e) f0 f1 f3 f4 f5
    refine ⟨_, rfl, CL (s := { s with heap := h', toks := tk }) (n := "range_iterator") st' rfl rfl (by decide) ⟨.int (lo + i), H, I1, ⟨t, ?_⟩, ⟨rfl, rfl⟩, st', fun b hb => (hf b hb).1⟩⟩
    rw [Int.mul_one]
  done := by
    intro X hP hw hK hc i pins s σ H E I hf st hg
    subst hP hw hK
    obtain ⟨f0, f1, f2, f3, f4, f5⟩ := hf it (by simp)
    exact wpAny_pyNext_range_end (I.ok.hd hc) st (by have : n ≤ i := hg; omega) fun h' eb => ⟨rfl, I.turned (t' := s.toks) (fun b o hb e => eb b o hb e) f0 f1 f3 f4 f5⟩
  self := fun _ _ _ _ _ st h => wpAny_pyIter_rangeiter st h
end L2
namespace L2
open PySem PySem.Spec PyProof.Rows
section
variable {X : Cx} {tg : Expr}
def Ev (K : PySem.W.Frag) (tl : TE) : TI := fun σ H R => tl σ H fun x H1 => ∃ a, x = .ref a ∧ (∃ xs, SqL K H1 a xs) ∧ R (Itl K a) H1
def iTup (K : PySem.W.Frag) (tl : TE) : TI := fun σ H R => tl σ H fun x H1 => ∃ a, x = .ref a ∧ (∃ xs, SqT K H1 a xs) ∧ R (Itt K a) H1
theorem zZ {l : Expr} {tl : TE} (hl : PE X l tl) : PI X tg l (Ev X.K tl) := by
  intro pins s σ H R I h
  refine thn (hl pins s σ H _ I h) fun v s1 ⟨x, H1, I1, r1, q1⟩ => ?_
  obtain ⟨a, e, ⟨xs, hq⟩, q⟩ := q1
  subst e
  cases r1
  obtain ⟨its, rv, p, hz⟩ := I1.list hq
  refine wpAny_pyIter_list p.isList ?_
  refine ⟨s1.heap.objs.size, [s1.heap.objs.size], _, _, H1, rfl, I1.kept (t' := s1.toks) fun b o e => Heap.get?_push_of_some _ e, A2 a _, ⟨_, Heap.get?_push_size _ rfl, rfl, rfl⟩, fun b hb => ?_, q⟩
  have e : b = s1.heap.objs.size := by simpa using hb
  subst e
  exact I1.fpOk (Nat.le_refl _) (I1.hok.fresh (Nat.le_refl _))
theorem C9 {l : Expr} {tl : TE} (hl : PE X l tl) : PI X tg l (iTup X.K tl) := by
  intro pins s σ H R I h
  refine thn (hl pins s σ H _ I h) fun v s1 ⟨x, H1, I1, r1, q1⟩ => ?_
  obtain ⟨a, e, ⟨xs, hq⟩, q⟩ := q1
  subst e
  cases r1
  obtain ⟨its, rv, p, hz⟩ := I1.tuple hq
  refine wpAny_pyIter_tuple (show s1.heap.IsTuple a its.toArray from p) ?_
  refine ⟨s1.heap.objs.size, [s1.heap.objs.size], _, _, H1, rfl, I1.kept (t' := s1.toks) fun b o e => Heap.get?_push_of_some _ e, t8 a _, ⟨_, Heap.get?_push_size _ rfl, rfl, rfl⟩, fun b hb => ?_, q⟩
  have e : b = s1.heap.objs.size := by simpa using hb
  subst e
  exact I1.fpOk (Nat.le_refl _) (I1.hok.fresh (Nat.le_refl _))
theorem tf {pins : List (Addr × Obj)} {σ : St} {H : Hp} {s : Shared} {R : It → Hp → Prop} {E : Value → Shared → Prop} {lo hi : Int} {t u v : Tok} {tk : Nat} (I : Inv X pins σ H s) (h1 : -(2 ^ 62) ≤ lo) (h2 : lo < 2 ^ 62) (h3 : -(2 ^ 62) ≤ hi) (h4 : hi < 2 ^ 62)
    (q : R (Itr lo (hi - lo).toNat) H) : wpAny (model X.prog X.w) X.A (pyIter (.ref s.heap.objs.size)) (PIE X pins σ tg R) E { s with heap := s.heap.push { cls := .type "range", data := .fields #[.int lo t, .int hi u, .int 1 v] }, toks := tk } := by
  refine wpAny_pyIter_range (IsRange.new ..) (small_one h1 h2 h3 h4) ?_
  have I1 : Inv X pins σ H { s with heap := s.heap.push { cls := .type "range", data := .fields #[.int lo t, .int hi u, .int 1 v] }, toks := tk } := I.kept fun b o e => Heap.get?_push_of_some _ e
  refine ⟨(s.heap.push { cls := .type "range", data := .fields #[.int lo t, .int hi u, .int 1 v] }).objs.size, [(s.heap.push { cls := .type "range", data := .fields #[.int lo t, .int hi u, .int 1 v] }).objs.size], _, _, H, rfl,
    I1.kept (t' := tk) fun b o e => Heap.get?_push_of_some _ e, tP _ lo (hi - lo).toNat, ?_, fun b hb => ?_, q⟩
  · have e1 : lo + ((0 : Nat) : Int) * 1 = lo := by simp
    have e2 : (((hi - lo).toNat : Nat) : Int) - ((0 : Nat) : Int) = Builtin.Range.rangeSize lo hi 1 := by rw [rangeSize_one]; split <;> omega
    show IsRangeIter _ _ (lo + ((0 : Nat) : Int) * 1) ((((hi - lo).toNat : Nat) : Int) - ((0 : Nat) : Int)) 1
    rw [e1, e2]
    exact Heap.get?_push_size _ rfl
  · have e : b = (s.heap.push { cls := .type "range", data := .fields #[.int lo t, .int hi u, .int 1 v] }).objs.size := by simpa using hb
    subst e
    exact I1.fpOk (Nat.le_refl _) (I1.hok.fresh (Nat.le_refl _))
def Du (ta : TA) : TI := fun σ H R => ta σ H fun vs H1 => ∃ j : Int, vs = [.int j] ∧ -(2 ^ 62) ≤ j ∧ j < 2 ^ 62 ∧ R (Itr 0 j.toNat) H1
def FC (ta : TA) : TI := fun σ H R => ta σ H fun vs H1 => ∃ i j : Int, vs = [.int i, .int j] ∧ (-(2 ^ 62) ≤ i ∧ i < 2 ^ 62 ∧ -(2 ^ 62) ≤ j ∧ j < 2 ^ 62) ∧ R (Itr i (j - i).toNat) H1
theorem yw {a : Expr} {ta : TA} {p pos : Pos} (hg : Gl X "range") (hm : X.mg "range" = none) (ha : PA X [a] ta) (hs : starEach [a] X.env = [(false, eval a X.env)] := by rfl) : PI X tg (.Call (.Name "range" p) [a] [] pos) (Du ta) := by
  intro pins s σ H R I h
  refine Call_ (vF I hg hm boot_range (PyProof.Rows.callWith_type1 (thn (ha pos pins s σ H _ I h) fun us s1 ⟨vs, H1, I1, r1, q1⟩ => ?_) hs rfl))
  obtain ⟨j, e, q1, q2, q⟩ := q1
  subst e
  cases r1 with
  | cons r rr =>
    cases rr
    obtain ⟨t, rfl⟩ := r
    exact call_range_1 (tf I1 (by omega) (by omega) q1 q2 (by simpa using q))
theorem vM {a b : Expr} {ta : TA} {p pos : Pos} (hg : Gl X "range") (hm : X.mg "range" = none) (ha : PA X [a, b] ta) (hs : starEach [a, b] X.env = [(false, eval a X.env), (false, eval b X.env)] := by rfl) (hs2 : starEach [b] X.env = [(false, eval b X.env)] := by rfl) :
    PI X tg (.Call (.Name "range" p) [a, b] [] pos) (FC ta) := by
  intro pins s σ H R I h
  refine Call_ (vF I hg hm boot_range (PyProof.Rows.callWith_type1 (thn (ha pos pins s σ H _ I h) fun us s1 ⟨vs, H1, I1, r1, q1⟩ => ?_) (by rw [hs, hs2]) (by rw [hs2]; rfl)))
  obtain ⟨i, j, e, ⟨q1, q2, q3, q4⟩, q⟩ := q1
  subst e
  cases r1 with
  | cons r rr =>
    cases rr with
    | cons r' rr =>
      cases rr
      obtain ⟨t, rfl⟩ := r
      obtain ⟨t', rfl⟩ := r'
      exact call_range_2 (tf I1 q1 q2 q3 q4 q)
def tFor (wi : TI) (g : TG) (tb : TS) : TS := fun D σ H => wi σ H fun J H1 => ∃ W : Nat → Nat → St → Hp → Prop, (∃ m, W 0 m σ H1) ∧ ∀ i m σ H, W i m σ H →
  (J.stop i H ∧ D.nx σ H) ∨ (J.go i H ∧ ∃ N : St → Hp → Prop, (∀ σ' H', N σ' H' → ∃ m', m' < m ∧ W (i + 1) m' σ' H') ∧ ∀ x H', J.yld i H x H' → g x σ H' fun σ2 H2 => tb { D with nx := N, ct := N, bk := D.nx } σ2 H2)
def vS (fp : List Addr) (h : Heap) : List (Addr × Obj) := fp.filterMap fun b => (h.get? b).map fun o => (b, o)
theorem yQ {fp : List Addr} {h : Heap} {b : Addr} {o : Obj} (hb : b ∈ fp) (e : h.get? b = some o) : (b, o) ∈ vS fp h := List.mem_filterMap.mpr ⟨b, hb, by rw [e]; rfl⟩
theorem BN {fp : List Addr} {h : Heap} {p : Addr × Obj} (hp : p ∈ vS fp h) : p.1 ∈ fp ∧ h.get? p.1 = some p.2 := by
  obtain ⟨b, hb, e⟩ := List.mem_filterMap.mp hp
  cases q : h.get? b with
  | none => rw [q] at e; cases e
  | some o =>
    rw [q] at e
    have e' : (b, o) = p := Option.some.inj e
    subst e'
    exact ⟨hb, q⟩
theorem Inv.pinned {pins : List (Addr × Obj)} {σ : St} {H : Hp} {s : Shared} {fp : List Addr} (I : Inv X pins σ H s) (hf : ∀ b ∈ fp, FpOk X pins H b) (ho : ∀ b ∈ fp, ∃ o, s.heap.get? b = some o ∧ ∀ v, o.data ≠ .cell v) : Inv X (pins ++ vS fp s.heap) σ H s :=
  I.pins_of fun p hp => (List.mem_append.mp hp).elim (fun z => I.pin p (List.mem_append_right _ z)) fun z => by
    obtain ⟨hb, e⟩ := BN z
    obtain ⟨f0, f1, f2, _⟩ := hf p.1 hb
    obtain ⟨o, e', d⟩ := ho p.1 hb
    rw [e] at e'; cases e'
    exact ⟨e, f0, f1, f2, d⟩
theorem Inv.unpinned {pins pl : List (Addr × Obj)} {σ : St} {H : Hp} {s : Shared} (I : Inv X (pins ++ pl) σ H s) : Inv X pins σ H s := I.pins_of fun p hp => I.pin p (List.mem_append_right _ (List.mem_append_left _ hp))
theorem ye {iter : Expr} {body : List Stmt} {wi : TI} {g : TG} {tb : TS} {pos : Pos} (hp : PassesOwn (model X.prog X.w) X.A X.env X.xe) (hc : X.calm = true) (hi : PI X tg iter wi) (hg : PG X tg g) (hb : PSs X body tb)
    (hs : ∀ x, foldedSetIterable iter X.env x = pure x := by intro _; rfl) : PS X (.For tg iter body [] pos) (tFor wi g tb) := by
  intro pins s σ H D I h
  refine wpAny_For (thn (hi pins s σ H _ I h) fun v s1 h1 => thn h1 fun itv s2 h2 => ?_) hs
  obtain ⟨it, fp, tn, J, H2, e, I2, T, st2, f2, W, ⟨m0, w0⟩, turn⟩ := h2
  subst e
  have stat : ∀ {H' : Hp}, (∀ b ∈ fp, H' b = none) → ∀ b ∈ fp, FpOk X pins H' b := fun hn b hb => ⟨hn b hb, (f2 b hb).2⟩
  refine codeAny_forLoop_any (fun n s' => ∃ i σ' H', Inv X pins σ' H' s' ∧ tn i s'.heap ∧ (∀ b ∈ fp, H' b = none) ∧ W i n σ' H') ?_ m0 ⟨0, σ, H2, I2, st2, fun b hb => (f2 b hb).1, w0⟩
  rintro n s3 ⟨i, σ3, H3, I3, st3, fr3, w3⟩
  rcases turn i n σ3 H3 w3 with ⟨stop, qn⟩ | ⟨go, N, hN, step⟩
  · refine wpAny_passesOwn hp (thn (T.done X rfl rfl rfl hc i pins s3 σ3 H3 X.xe I3 (stat fr3) st3 stop) fun r s4 ⟨hr, I4⟩ => ?_)
    subst hr
    exact wpAny_execs_nil ⟨σ3, H3, I4, qn⟩
  · refine wpAny_passesOwn hp (thn (T.item X rfl rfl rfl hc i pins s3 σ3 H3 X.xe I3 (stat fr3) st3 go) fun r s4 ⟨u, hr, h4⟩ => ?_)
    subst hr
    refine wpAny_passesOwn hp (thn h4 fun _ s5 ⟨x, H5, I5, r5, y5, st5, fr5⟩ => ?_)
    have I5' := I5.pinned (stat fr5) (T.obj _ _ st5)
    refine wpAny_passesOwn hp (thn (hg _ s5 σ3 H5 x u _ I5' r5 (step x H5 y5)) fun _ s6 ⟨σ6, H6, I6, q6⟩ => ?_)
    refine wpAny_passesOwn hp (thn (hb _ s6 σ6 H6 _ I6 q6) fun f s7 q7 => ?_)
    have again : ∀ {σ7 : St} {H7 : Hp}, Inv X (pins ++ vS fp s5.heap) σ7 H7 s7 → N σ7 H7 → ∃ m, m < n ∧ ∃ i σ' H', Inv X pins σ' H' s7 ∧ tn i s7.heap ∧ (∀ b ∈ fp, H' b = none) ∧ W i m σ' H' := fun {σ7 H7} I7 n7 => by
      obtain ⟨m', hm, w7⟩ := hN σ7 H7 n7
      refine ⟨m', hm, i + 1, σ7, H7, I7.unpinned, T.keep _ _ _ st5 fun b hb o e => (I7.pin (b, o) (List.mem_append_right _ (List.mem_append_right _ (yQ hb e)))).1, fun b hb => ?_, w7⟩
      obtain ⟨o, e, d⟩ := T.obj _ _ st5 b hb
      exact (I7.pin (b, o) (List.mem_append_right _ (List.mem_append_right _ (yQ hb e)))).2.1
    cases f with
    | next => obtain ⟨σ7, H7, I7, n7⟩ := q7; exact again I7 n7
    | cont => obtain ⟨σ7, H7, I7, n7⟩ := q7; exact again I7 n7
    | brk => obtain ⟨σ7, H7, I7, q7⟩ := q7; exact ⟨σ7, H7, I7.unpinned, q7⟩
    | ret v => obtain ⟨x7, σ7, H7, I7, r7, q7⟩ := q7; exact ⟨x7, σ7, H7, I7.unpinned, r7, q7⟩
end
theorem yh {K : PySem.W.Frag} {a : Addr} {xs : List V} {g : TG} {tb : TS} {D : Ends} {σ : St} {H : Hp} (Pv : Nat → St → Hp → Prop) (h0 : Pv 0 σ H) (hl : ∀ i σ H, i ≤ xs.length → Pv i σ H → SqL K H a xs)
    (hs : ∀ i x σ H, xs[i]? = some x → Pv i σ H → g x σ H fun σ2 H2 => tb { D with nx := Pv (i + 1), ct := Pv (i + 1), bk := D.nx } σ2 H2) (hd : ∀ σ H, Pv xs.length σ H → D.nx σ H) :
    ∃ W : Nat → Nat → St → Hp → Prop, (∃ m, W 0 m σ H) ∧ ∀ i m σ H, W i m σ H →
      ((Itl K a).stop i H ∧ D.nx σ H) ∨ ((Itl K a).go i H ∧ ∃ N : St → Hp → Prop, (∀ σ' H', N σ' H' → ∃ m', m' < m ∧ W (i + 1) m' σ' H') ∧ ∀ x H', (Itl K a).yld i H x H' → g x σ H' fun σ2 H2 => tb { D with nx := N, ct := N, bk := D.nx } σ2 H2) := by
  refine ⟨fun i m σ H => m = xs.length - i ∧ i ≤ xs.length ∧ Pv i σ H, ⟨xs.length, by simp, Nat.zero_le _, h0⟩, ?_⟩
  rintro i m σ H ⟨rfl, hi, p⟩
  have q := hl i σ H hi p
  by_cases hlt : i < xs.length
  · refine .inr ⟨⟨xs, xs[i], q, by simp [hlt]⟩, Pv (i + 1), fun σ' H' p' => ⟨xs.length - (i + 1), by omega, rfl, hlt, p'⟩, fun x H' y => ?_⟩
    obtain ⟨e, y⟩ := y
    subst e
    exact hs i x σ _ (y xs q) p
  · have e : i = xs.length := by omega
    subst e
    exact .inl ⟨⟨xs, q, Nat.le_refl _⟩, hd σ H p⟩
theorem z8 {lo : Int} {n : Nat} {g : TG} {tb : TS} {D : Ends} {σ : St} {H : Hp} (Pv : Nat → St → Hp → Prop) (h0 : Pv 0 σ H)
    (hs : ∀ i σ H, i < n → Pv i σ H → g (.int (lo + i)) σ H fun σ2 H2 => tb { D with nx := Pv (i + 1), ct := Pv (i + 1), bk := D.nx } σ2 H2) (hd : ∀ σ H, Pv n σ H → D.nx σ H) :
    ∃ W : Nat → Nat → St → Hp → Prop, (∃ m, W 0 m σ H) ∧ ∀ i m σ H, W i m σ H →
      ((Itr lo n).stop i H ∧ D.nx σ H) ∨ ((Itr lo n).go i H ∧ ∃ N : St → Hp → Prop, (∀ σ' H', N σ' H' → ∃ m', m' < m ∧ W (i + 1) m' σ' H') ∧ ∀ x H', (Itr lo n).yld i H x H' → g x σ H' fun σ2 H2 => tb { D with nx := N, ct := N, bk := D.nx } σ2 H2) := by
  refine ⟨fun i m σ H => m = n - i ∧ i ≤ n ∧ Pv i σ H, ⟨n, by simp, Nat.zero_le _, h0⟩, ?_⟩
  rintro i m σ H ⟨rfl, hi, p⟩
  by_cases hlt : i < n
  · refine .inr ⟨hlt, Pv (i + 1), fun σ' H' p' => ⟨n - (i + 1), by omega, rfl, hlt, p'⟩, fun x H' y => ?_⟩
    obtain ⟨e, y⟩ := y
    subst e y
    exact hs i σ _ hlt p
  · have e : i = n := by omega
    subst e
    exact .inl ⟨Nat.le_refl _, hd σ H p⟩
theorem BX {c : TT} {tb : TS} {D : Ends} {σ : St} {H : Hp} (Pv : St → Hp → Prop) (μ : St → Hp → Nat) (h0 : Pv σ H)
    (hs : ∀ σ H, Pv σ H → c σ H fun b H1 => if b = true then tb { D with nx := fun σ' H' => Pv σ' H' ∧ μ σ' H' < μ σ H, ct := fun σ' H' => Pv σ' H' ∧ μ σ' H' < μ σ H, bk := D.nx } σ H1 else D.nx σ H1)
    (mono : ∀ σ H Q Q', (∀ b H1, Q b H1 → Q' b H1) → c σ H Q → c σ H Q') : uK c tb D σ H := by
  refine ⟨fun m σ H => m = μ σ H ∧ Pv σ H, ⟨_, rfl, h0⟩, ?_⟩
  rintro m σ H ⟨rfl, p⟩
  refine mono σ H _ _ (fun b H1 q => ?_) (hs σ H p)
  cases b with
  | true => exact ⟨_, fun σ' H' ⟨p', l⟩ => ⟨_, l, rfl, p'⟩, q⟩
  | false => exact q
end L2
namespace L2
open PySem PySem.Spec PyProof.Rows
abbrev R2 := V → V → Hp → VK → Prop
def OpR (X : Cx) (f : Value → Value → Sem Value) (r : R2) : Prop :=
  ∀ (pins : List (Addr × Obj)) (s : Shared) (σ : St) (H : Hp) (x y : V) (v u : Value) (Q : VK), Inv X pins σ H s → RelV x v → RelV y u → r x y H Q →
    wpAny (model X.prog X.w) X.A (f v u) (EP X pins σ Q) X.xe s
def UnR (X : Cx) (f : Value → Sem Value) (r : V → Hp → VK → Prop) : Prop :=
  ∀ (pins : List (Addr × Obj)) (s : Shared) (σ : St) (H : Hp) (x : V) (v : Value) (Q : VK), Inv X pins σ H s → RelV x v → r x H Q →
    wpAny (model X.prog X.w) X.A (f v) (EP X pins σ Q) X.xe s
def yE (X : Cx) (f : Value) (r : List V → Hp → VK → Prop) : Prop :=
  ∀ (pins : List (Addr × Obj)) (s : Shared) (σ : St) (H : Hp) (xs : List V) (us : List Value) (Q : VK), Inv X pins σ H s → Vals xs us → r xs H Q →
    wpAny (model X.prog X.w) X.A (call f us) (EP X pins σ Q) X.xe s
def tOp (r : R2) (ta tb : TE) : TE := fun σ H Q => ta σ H fun x H1 => tb σ H1 fun y H2 => r x y H2 Q
def tUn (r : V → Hp → VK → Prop) (ta : TE) : TE := fun σ H Q => ta σ H fun x H1 => r x H1 Q
def rI (C : Int → Int → Prop) (g : Int → Int → V) : R2 := fun x y H Q => ∃ i j, x = .int i ∧ y = .int j ∧ C i j ∧ Q (g i j) H
def rI0 (g : Int → Int → V) : R2 := fun x y H Q => ∃ i j, x = .int i ∧ y = .int j ∧ Q (g i j) H
def rU (g : Int → V) : V → Hp → VK → Prop := fun x H Q => ∃ i, x = .int i ∧ Q (g i) H
section
variable {X : Cx} {a b c : Expr} {ta tb tc : TE} {pos : Pos}
theorem binT (ha : PE X a ta) (hb : PE X b tb) {pins : List (Addr × Obj)} {s : Shared} {σ : St} {H : Hp} {R : V → V → Hp → Prop} (I : Inv X pins σ H s)
    (h : ta σ H fun x H1 => tb σ H1 fun y H2 => R x y H2) {Q : Value → Shared → Prop} {f : Value → Value → Sem Value}
    (hf : ∀ v u s2 x y H2, Inv X pins σ H2 s2 → RelV x v → RelV y u → R x y H2 → wpAny (model X.prog X.w) X.A (f v u) Q X.xe s2) :
    wpAny (model X.prog X.w) X.A (eval a X.env) (fun v s₁ => wpAny (model X.prog X.w) X.A (eval b X.env) (fun u s₂ => wpAny (model X.prog X.w) X.A (f v u) Q X.xe s₂) X.xe s₁) X.xe s := by
  refine thn (ha pins s σ H _ I h) fun v s1 ⟨x, H1, I1, r1, q1⟩ => ?_
  refine thn (hb pins s1 σ H1 _ I1 q1) fun u s2 ⟨y, H2, I2, r2, q2⟩ => ?_
  exact hf v u s2 x y H2 I2 r1 r2 q2
theorem zk {op : Operator} {r : R2} (ho : OpR X (binaryOp op) r) (ha : PE X a ta) (hb : PE X b tb) : PE X (.BinOp a op b pos) (tOp r ta tb) := by
  intro pins s σ H Q I h
  exact wpAny_BinOp (binT ha hb I h fun v u s2 x y H2 I2 rx ry q => ho pins s2 σ H2 x y v u Q I2 rx ry q)
theorem Am {op : UnaryOp} {r : V → Hp → VK → Prop} (ho : UnR X (unaryOp op) r) (ha : PE X a ta) : PE X (.UnaryOp op a pos) (tUn r ta) := by
  intro pins s σ H Q I h
  exact UnaryOp_ (thn (ha pins s σ H _ I h) fun v s1 ⟨x, H1, I1, r1, q1⟩ => ho pins s1 σ H1 x v Q I1 r1 q1)
theorem opI {f : Value → Value → Sem Value} {C : Int → Int → Prop} {g : Int → Int → Int}
    (rule : ∀ (i j : Int) (t u : Tok) (s : Shared) (Q : Value → Shared → Prop) (E : Value → Shared → Prop), C i j → Q (.int (g i j) s.toks) { s with toks := s.toks + 1 } → wpAny (model X.prog X.w) X.A (f (.int i t) (.int j u)) Q E s) :
    OpR X f (rI C fun i j => .int (g i j)) := by
  intro pins s σ H x y v u Q I rx ry h
  obtain ⟨i, j, rfl, rfl, hc, q⟩ := h
  obtain ⟨t, rfl⟩ := rx
  obtain ⟨t', rfl⟩ := ry
  exact rule i j t t' s _ _ hc ⟨.int (g i j), H, I.tok _, ⟨_, rfl⟩, q⟩
theorem opI0 {f : Value → Value → Sem Value} {g : Int → Int → Int}
    (rule : ∀ (i j : Int) (t u : Tok) (s : Shared) (Q : Value → Shared → Prop) (E : Value → Shared → Prop), Q (.int (g i j) s.toks) { s with toks := s.toks + 1 } → wpAny (model X.prog X.w) X.A (f (.int i t) (.int j u)) Q E s) :
    OpR X f (rI0 fun i j => .int (g i j)) := by
  intro pins s σ H x y v u Q I rx ry h
  obtain ⟨i, j, rfl, rfl, q⟩ := h
  obtain ⟨t, rfl⟩ := rx
  obtain ⟨t', rfl⟩ := ry
  exact rule i j t t' s _ _ ⟨.int (g i j), H, I.tok _, ⟨_, rfl⟩, q⟩
theorem opB0 {f : Value → Value → Sem Value} {g : Int → Int → Bool}
    (rule : ∀ (i j : Int) (t u : Tok) (s : Shared) (Q : Value → Shared → Prop) (E : Value → Shared → Prop), Q (.bool (g i j)) s → wpAny (model X.prog X.w) X.A (f (.int i t) (.int j u)) Q E s) :
    OpR X f (rI0 fun i j => .bl (g i j)) := by
  intro pins s σ H x y v u Q I rx ry h
  obtain ⟨i, j, rfl, rfl, q⟩ := h
  obtain ⟨t, rfl⟩ := rx
  obtain ⟨t', rfl⟩ := ry
  exact rule i j t t' s _ _ ⟨.bl (g i j), H, I, rfl, q⟩
theorem zS : OpR X (binaryOp .Add) (rI0 fun i j => .int (i + j)) := opI0 fun _ _ _ _ _ _ _ q => add_int q
theorem yG : OpR X (binaryOp .Sub) (rI0 fun i j => .int (i - j)) := opI0 fun _ _ _ _ _ _ _ q => sub_int q
theorem zG : OpR X (binaryOp .Mod) (rI (fun _ j => 0 < j) fun i j => .int (i % j)) := opI fun i j _ _ _ _ _ hc q => by
  have h1 : (0 : Int) < j := hc
  exact mod_int' (by omega) (by rw [Int.fmod_eq_emod_of_nonneg i (by omega)]; exact q)
theorem Ez : OpR X (binaryOp .Mod) (rI (fun _ j => j ≠ 0) fun i j => .int (i.fmod j)) := opI fun _ _ _ _ _ _ _ hc q => mod_int' hc q
theorem unI {f : Value → Sem Value} {g : Int → Int}
    (rule : ∀ (i : Int) (t : Tok) (s : Shared) (Q : Value → Shared → Prop) (E : Value → Shared → Prop), Q (.int (g i) s.toks) { s with toks := s.toks + 1 } → wpAny (model X.prog X.w) X.A (f (.int i t)) Q E s) :
    UnR X f (rU fun i => .int (g i)) := by
  intro pins s σ H x v Q I rx h
  obtain ⟨i, rfl, q⟩ := h
  obtain ⟨t, rfl⟩ := rx
  exact rule i t s _ _ ⟨.int (g i), H, I.tok _, ⟨_, rfl⟩, q⟩
theorem vn : UnR X (unaryOp .USub) (rU fun i => .int (-i)) := unI fun _ _ _ _ _ q => neg_int q
end
def scal : V → V → Bool
  | .non, .non => true | .non, .int _ => true | .int _, .non => true | .non, .bl _ => true | .bl _, .non => true | .non, .str _ => true | .str _, .non => true
  | .int _, .int _ => true | .bl _, .bl _ => true | .str _, .str _ => true | .byt _, .byt _ => true
  | .int _, .str _ => true | .str _, .int _ => true | .bl _, .str _ => true | .str _, .bl _ => true
  | _, _ => false
def rEq : R2 := fun x y H Q => scal x y = true ∧ Q (.bl (decide (x = y))) H
def rNe : R2 := fun x y H Q => scal x y = true ∧ Q (.bl (!decide (x = y))) H
theorem wU {i j : Int} : decide (V.int i = V.int j) = (i == j) := by
  rw [Bool.eq_iff_iff]
  simp
theorem dec_bl {i j : Bool} : decide (V.bl i = V.bl j) = (i == j) := by
  rw [Bool.eq_iff_iff]
  simp
theorem Bn {i j : Str} : decide (V.str i = V.str j) = (i == j) := by
  rw [Bool.eq_iff_iff]
  simp
theorem AX {i j : Array UInt8} : decide (V.byt i = V.byt j) = (i.toList == j.toList) := by
  rw [Bool.eq_iff_iff]
  cases i
  cases j
  simp
section
variable {X : Cx} {a b c : Expr} {ta tb tc : TE} {pos : Pos}
theorem fin_bl {pins : List (Addr × Obj)} {σ : St} {H : Hp} {s : Shared} {Q : VK} {k k' : Bool} (I : Inv X pins σ H s) (q : Q (.bl k) H) (e : k = k') : EP X pins σ Q (.bool k') s := by
  subst e
  exact ⟨.bl k, H, I, rfl, q⟩
theorem yq : OpR X (compareOp .Eq) rEq := by
  intro pins s σ H x y v u Q I rx ry h
  obtain ⟨hs, q⟩ := h
  cases x with
  | non =>
    cases rx
    cases y with
    | non => cases ry; exact PySem.EqNone.eq_none_none (fin_bl I q (by simp))
    | bl j => cases ry; exact PySem.EqNone.eq_none_bool (fin_bl I q (by simp))
    | int j => obtain ⟨t', rfl⟩ := ry; exact PySem.EqNone.eq_none_int (fin_bl I q (by simp))
    | str j => obtain ⟨t', rfl⟩ := ry; exact PySem.EqNone.eq_none_str (fin_bl I q (by simp))
    | _ => exact absurd (show false = true from hs) Bool.false_ne_true
  | bl i =>
    cases rx
    cases y with
    | non => cases ry; exact PySem.EqNone.eq_bool_none (fin_bl I q (by simp))
    | bl j => cases ry; exact eq_bool (fin_bl I q dec_bl)
    | str j => obtain ⟨t', rfl⟩ := ry; exact PySem.EqMixed.eq_bool_str (fin_bl I q (by simp))
    | _ => exact absurd (show false = true from hs) Bool.false_ne_true
  | int i =>
    obtain ⟨t, rfl⟩ := rx
    cases y with
    | non => cases ry; exact PySem.EqNone.eq_int_none (fin_bl I q (by simp))
    | int j => obtain ⟨t', rfl⟩ := ry; exact eq_int (fin_bl I q wU)
    | str j => obtain ⟨t', rfl⟩ := ry; exact PySem.EqMixed.eq_int_str (fin_bl I q (by simp))
    | _ => exact absurd (show false = true from hs) Bool.false_ne_true
  | str i =>
    obtain ⟨t, rfl⟩ := rx
    cases y with
    | non => cases ry; exact PySem.EqNone.eq_str_none (fin_bl I q (by simp))
    | bl j => cases ry; exact PySem.EqMixed.eq_str_bool (fin_bl I q (by simp))
    | int j => obtain ⟨t', rfl⟩ := ry; exact PySem.EqMixed.eq_str_int (fin_bl I q (by simp))
    | str j => obtain ⟨t', rfl⟩ := ry; exact eq_str (fin_bl I q Bn)
    | _ => exact absurd (show false = true from hs) Bool.false_ne_true
  | byt i =>
    obtain ⟨t, rfl⟩ := rx
    cases y with
    | byt j => obtain ⟨t', rfl⟩ := ry; exact PySem.W.eq_bytes (fin_bl I q AX)
    | _ => exact absurd (show false = true from hs) Bool.false_ne_true
  | _ => cases y <;> exact absurd (show false = true from hs) Bool.false_ne_true
theorem Bs : OpR X (compareOp .NotEq) rNe := by
  intro pins s σ H x y v u Q I rx ry h
  obtain ⟨hs, q⟩ := h
  cases x with
  | non =>
    cases rx
    cases y with
    | non => cases ry; exact PySem.EqNone.ne_none_none (fin_bl I q (by simp))
    | bl j => cases ry; exact PySem.EqNone.ne_none_bool (fin_bl I q (by simp))
    | int j => obtain ⟨t', rfl⟩ := ry; exact PySem.EqNone.ne_none_int (fin_bl I q (by simp))
    | str j => obtain ⟨t', rfl⟩ := ry; exact PySem.EqNone.ne_none_str (fin_bl I q (by simp))
    | _ => exact absurd (show false = true from hs) Bool.false_ne_true
  | bl i =>
    cases rx
    cases y with
    | non => cases ry; exact PySem.EqNone.ne_bool_none (fin_bl I q (by simp))
    | bl j => cases ry; exact ne_bool (fin_bl I q (congrArg not dec_bl))
    | str j => obtain ⟨t', rfl⟩ := ry; exact PySem.EqMixed.ne_bool_str (fin_bl I q (by simp))
    | _ => exact absurd (show false = true from hs) Bool.false_ne_true
  | int i =>
    obtain ⟨t, rfl⟩ := rx
    cases y with
    | non => cases ry; exact PySem.EqNone.ne_int_none (fin_bl I q (by simp))
    | int j => obtain ⟨t', rfl⟩ := ry; exact ne_int (fin_bl I q (congrArg not wU))
    | str j => obtain ⟨t', rfl⟩ := ry; exact PySem.EqMixed.ne_int_str (fin_bl I q (by simp))
    | _ => exact absurd (show false = true from hs) Bool.false_ne_true
  | str i =>
    obtain ⟨t, rfl⟩ := rx
    cases y with
    | non => cases ry; exact PySem.EqNone.ne_str_none (fin_bl I q (by simp))
    | bl j => cases ry; exact PySem.EqMixed.ne_str_bool (fin_bl I q (by simp))
    | int j => obtain ⟨t', rfl⟩ := ry; exact PySem.EqMixed.ne_str_int (fin_bl I q (by simp))
    | str j => obtain ⟨t', rfl⟩ := ry; exact ne_str (fin_bl I q (congrArg not Bn))
    | _ => exact absurd (show false = true from hs) Bool.false_ne_true
  | byt i =>
    obtain ⟨t, rfl⟩ := rx
    cases y with
    | byt j => obtain ⟨t', rfl⟩ := ry; exact PySem.W.ne_bytes (fin_bl I q (congrArg not AX))
    | _ => exact absurd (show false = true from hs) Bool.false_ne_true
  | _ => cases y <;> exact absurd (show false = true from hs) Bool.false_ne_true
theorem wL : OpR X (compareOp .Lt) (rI0 fun i j => .bl (decide (i < j))) := opB0 fun _ _ _ _ _ _ _ q => lt_int q
theorem Ca : OpR X (compareOp .LtE) (rI0 fun i j => .bl (decide (i ≤ j))) := opB0 fun _ _ _ _ _ _ _ q => le_int q
theorem xI : OpR X (compareOp .Gt) (rI0 fun i j => .bl (decide (j < i))) := opB0 fun _ _ _ _ _ _ _ q => gt_int q
theorem A6 : OpR X (compareOp .GtE) (rI0 fun i j => .bl (decide (j ≤ i))) := opB0 fun _ _ _ _ _ _ _ q => ge_int q
theorem D8 : OpR X (compareOp .IsNot) (fun x y H Q => y = .non ∧ Q (.bl (!decide (x = .non))) H) := by
  intro pins s σ H x y v u Q I rx ry h
  obtain ⟨rfl, q⟩ := h
  cases ry
  refine isnot_none_gen (fin_bl I q ?_)
  cases x <;> first
    | (cases rx; rfl)
    | (obtain ⟨t, rfl⟩ := rx; rfl)
theorem zu (b : Expr) {op : CmpOp} (h : op ≠ .In := by decide) (h2 : op ≠ .NotIn := by decide) : behindInMarks op b = false := by
  have e1 : (op == CmpOp.In) = false := by cases op <;> first | rfl | exact absurd rfl h
  have e2 : (op == CmpOp.NotIn) = false := by cases op <;> first | rfl | exact absurd rfl h2
  cases b <;> simp [behindInMarks, e1, e2]
theorem zP {op : CmpOp} {r : R2} (ho : OpR X (compareOp op) r) (ha : PE X a ta) (hb : PE X b tb) (hm : behindInMarks op b = false) : PE X (.Compare a [op] [b] pos) (tOp r ta tb) := by
  intro pins s σ H Q I h
  exact wpAny_Compare1 (binT ha hb I h fun v u s2 x y H2 I2 rx ry q => ho pins s2 σ H2 x y v u Q I2 rx ry q) hm
def Fm (t : TE) : TT := fun σ H Q => t σ H fun x H' => ∃ k, x = .bl k ∧ Q k H'
theorem zp {op : CmpOp} {r : R2} (ho : OpR X (compareOp op) r) (ha : PE X a ta) (hb : PE X b tb) (hm : behindInMarks op b = false) : PT X (.Compare a [op] [b] pos) (Fm (tOp r ta tb)) := by
  intro pins s σ H Q I h
  refine wpAny_isTrue_Compare1 (thn (ha pins s σ H _ I h) fun v s1 ⟨x, H1, I1, r1, q1⟩ => thn (hb pins s1 σ H1 _ I1 q1) fun u s2 ⟨y, H2, I2, r2, q2⟩ =>
    thn (ho pins s2 σ H2 x y v u _ I2 r1 r2 q2) fun c s3 ⟨z, H3, I3, r3, k, e, q3⟩ => ?_) hm
  subst e
  cases r3
  exact wpAny_truthy_bool ⟨H3, I3, q3⟩
theorem uO : (sizeLine : Nat) < 2 ^ 63 := by rw [sizeLine_eq]; decide
theorem tU {x : V} {us : List Value} (r : Vals [x] us) : ∃ u, us = [u] ∧ RelV x u := by
  cases r with
  | cons r1 r2 => cases r2; exact ⟨_, rfl, r1⟩
theorem Fh {x y : V} {us : List Value} (r : Vals [x, y] us) : ∃ u w', us = [u, w'] ∧ RelV x u ∧ RelV y w' := by
  cases r with
  | cons r1 r2 =>
    cases r2 with
    | cons r3 r4 => cases r4; exact ⟨_, _, rfl, r1, r3⟩
theorem CK : yE X (.builtin "abs") (fun xs H Q => ∃ i, xs = [.int i] ∧ Q (.int (if i < 0 then -i else i)) H) := by
  intro pins s σ H xs us Q I r h
  obtain ⟨i, rfl, q⟩ := h
  obtain ⟨u, rfl, t, rfl⟩ := tU r
  exact call_abs_int fun u tk => ⟨.int (if i < 0 then -i else i), H, I.tok _, ⟨_, rfl⟩, q⟩
theorem Ba (hc : X.calm = true) : yE X (.builtin "min") (fun xs H Q => ∃ i j, xs = [.int i, .int j] ∧ Q (.int (if j < i then j else i)) H) := by
  intro pins s σ H xs us Q I r h
  obtain ⟨i, j, rfl, q⟩ := h
  obtain ⟨u, w', rfl, ⟨t, rfl⟩, ⟨t', rfl⟩⟩ := Fh r
  refine min_two_ints (I.ok.hd hc) fun h' tk k => ⟨_, H, I.kept k, ?_, q⟩
  by_cases hj : j < i
  · rw [if_pos hj, if_pos hj]; exact ⟨_, rfl⟩
  · rw [if_neg hj, if_neg hj]; exact ⟨_, rfl⟩
theorem AV : yE X (.type "int") (fun xs H Q => (∃ i, xs = [.int i] ∧ Q (.int i) H) ∨ ∃ k, xs = [.bl k] ∧ Q (.int (if k then 1 else 0)) H) := by
  intro pins s σ H xs us Q I r h
  rcases h with ⟨i, rfl, q⟩ | ⟨k, rfl, q⟩
  · obtain ⟨u, rfl, t, rfl⟩ := tU r
    exact call_int_int ⟨.int i, H, I, ⟨_, rfl⟩, q⟩
  · obtain ⟨u, rfl, r1⟩ := tU r
    cases r1
    exact call_int_bool ⟨.int (if k then 1 else 0), H, I.tok _, ⟨_, rfl⟩, q⟩
end
end L2
namespace L2
open PySem PySem.Spec PyProof.Rows
structure ObjM (h : Heap) (x dx C : Addr) (mA : Str → Option Value) : Prop where
  obj : h.get? x = some (PySem.W.instObj C dx)
  ns : h.Ns1 dx mA
  ne : dx ≠ x
theorem BO {h : Heap} {dx : Addr} {mA : Str → Option Value} (n : h.Ns1 dx mA) : ∃ od, h.get? dx = some od ∧ ∀ name, PySem.W.lookIn name od = some (mA name) := by
  obtain ⟨o, es, ep, ho, hd, hk, _, hm⟩ := n
  refine ⟨o, ho, fun name => ?_⟩
  have e := hm name
  unfold nsFind findBy at e
  rw [← Array.find?_toList] at e
  unfold PySem.W.lookIn
  rw [hd]
  dsimp only
  split
  · rename_i y q
    rw [q] at e
    exact congrArg some e
  · rename_i q
    rw [q] at e
    have a : es.toList.any (·.refKey) = false := by
      rw [List.any_eq_false]
      intro y hy
      obtain ⟨z, t, hkey⟩ := hk y (Array.mem_toList_iff.mp hy)
      simp [DictEntry.refKey, hkey]
    have a' : ¬ es.toList.any (·.refKey) = true := by rw [a]; exact Bool.false_ne_true
    rw [if_neg a']
    exact congrArg some e
theorem ObjM.look {h : Heap} {x dx C : Addr} {mA : Str → Option Value} (I : ObjM h x dx C mA) : ∃ od, PySem.W.InstAt h x (PySem.W.instObj C dx) C (some od) ∧ ∀ name, PySem.W.lookIn name od = some (mA name) :=
  let ⟨od, ho, hl⟩ := BO I.ns
  ⟨od, ⟨I.obj, rfl, rfl, ho⟩, hl⟩
section
variable {prog : Program} {w : World} {A : Around} {E : Value → Shared → Prop} {s : Shared} {K : PySem.W.Frag} {x dx C f : Addr} {mA : Str → Option Value} {name : Str} {v : Value}
theorem Eo {expr : Bool} {Q : Value → Shared → Prop} (X : K.In s.heap) (I : ObjM s.heap x dx C mA) (hg : PySem.W.plainGet K C name = true) (hh : PySem.W.hasDictIn K C = true)
    (ha : PySem.W.findIn K (.ref C) name = some none) (hv : mA name = some v) (hv' : PySem.W.handedIn v = true) (h : Q v { s with toks := s.toks + 1 }) :
    wpAny (model prog w) A (getAttr (.ref x) name expr) Q E s := by
  obtain ⟨od, J, hl⟩ := I.look
  exact PySem.W.get_value X J (PySem.W.plainGet_of hg).1 (PySem.W.findObj_own hh ha rfl (by rw [hl, hv])) hv' h
theorem Cp {pl : Sem Bool} {Q : Value × List Value → Shared → Prop} (X : K.In s.heap) (I : ObjM s.heap x dx C mA) (hg : PySem.W.plainGet K C name = true)
    (hf : PySem.W.findIn K (.ref C) name = some (some (.ref f))) (ht : PySem.W.isFn K (.ref f) = true) (hv : mA name = none) (h : Q (.ref f, [.ref x]) s) :
    wpAny (model prog w) A (getMethod (.ref x) name pl) Q E s := by
  obtain ⟨od, J, hl⟩ := I.look
  exact PySem.W.method_fn X J (PySem.W.plainGet_of hg).1 (PySem.W.plainGet_of hg).2 hf (beq_iff_eq.mp ht) (by show (PySem.W.lookIn name od).map (·.isSome) = some false; rw [hl, hv]; rfl) h
theorem DM {ns : List Str} {Q : Unit → Shared → Prop} (X : K.In s.heap) (I : ObjM s.heap x dx C mA)
    (hs : PySem.W.findIn K (.ref C) "__setattr__" = some (some (.builtin "object.__setattr__"))) (hp : PySem.W.plainOver K C = true) (ht : PySem.W.takerIn K C name = some none) (hh : PySem.W.hasDictIn K C = true)
    (hw : PySem.Within mA ns) (hsz : ns.length ≤ sizeLine)
    (h : ∀ h', ObjM h' x dx C (fun y => if y = name then some v else mA y) → Heap.SameBut dx s.heap h' → Q () { s with heap := h', toks := s.toks + 2 }) :
    wpAny (model prog w) A (setAttr (.ref x) name v) Q E s := by
  obtain ⟨od, J, hl⟩ := I.look
  refine PySem.W.set_plain X J hs (PySem.W.osa_open (s := { s with toks := s.toks + 1 }) (r := none) X J hp ht fun b => ?_)
  obtain ⟨cd, hc, hd'⟩ := PySem.W.any_some hh
  have hx : s.heap.get? x = some ⟨.ref C, some dx, .plain, #[]⟩ := I.obj
  refine wpAny_bind (wpAny_pure (wpAny_bind (wpAny_bind (wpAny_loadPart hx (wpAny_bind (PySem.W.Looks.here (s := { s with toks := s.toks + 1 }) (PySem.W.looks_clsIn X hc) ?_))))))
  rw [hd']
  refine wpAny_pure (a := some dx) (wpAny_bind (wpAny_pure (wpAny_bind ?_)))
  refine wpAny_nsSet1 (s := { s with toks := s.toks + 1 }) I.ns fun h' hn2 hs2 => ?_
  obtain ⟨oD, esD, epD, hoD, hdD, hcD⟩ := hn2.count (PySem.Within.cons name v hw)
  refine wpAny_bind (wpAny_lookBehind hoD (by rw [hdD]; exact pastItsLine_dict (Nat.le_trans hcD (by rw [List.length_cons]; omega))) ?_)
  exact wpAny_pure (h _ ⟨(hs2.2 _ (Ne.symm I.ne)).trans I.obj, hn2, I.ne⟩ hs2)
theorem CC {R : Result → Shared → Prop} {vs : List Value} {kw : List (Str × Value)} (X : K.In s.heap) (hm : PySem.W.makesIn K C = true)
    (hi : PySem.W.findIn K (.ref C) "__init__" = some (some (.ref f))) (hf : PySem.W.typeIn K (.ref f) = some (.type "function"))
    (h : codeAny (model prog w) (A.under (.builtin "type.__call__" ⟨.ref C :: vs, kw⟩)) (.call (.ref f) ⟨.ref (s.heap.objs.size + 1) :: vs, kw⟩) (PySem.W.InitBack (s.heap.objs.size + 1) R)
      { s with heap := (s.heap.push PySem.W.emptyDict).push (PySem.W.instObj C s.heap.objs.size) }) :
    codeAny (model prog w) A (.call (.ref C) ⟨vs, kw⟩) R s := by
  obtain ⟨hh, g, d, t, os⟩ := s
  exact PySem.W.make_core (PySem.W.makes_of X hm) (PySem.W.looks_findIn X hi) (fun self => PySem.W.bind_fn X self hf) (.inl rfl) h
end
def putF (f : Str) (v : V) : List (Str × V) → List (Str × V)
  | [] => [(f, v)]
  | (g, x) :: r => if g = f then (g, v) :: r else (g, x) :: putF f v r
theorem xY (f g : Str) (v : V) : ∀ fs : List (Str × V), (putF f v fs).lookup g = if g = f then some v else fs.lookup g
  | [] => by
    show List.lookup g [(f, v)] = _
    by_cases h : g = f
    · have hb : (g == f) = true := beq_iff_eq.mpr h
      simp only [List.lookup, hb, if_pos h]
    · have hb : (g == f) = false := beq_eq_false_iff_ne.mpr h
      simp only [List.lookup, hb, if_neg h]
  | (k, x) :: r => by
    have ih := xY f g v r
    rw [show putF f v ((k, x) :: r) = (if k = f then (k, v) :: r else (k, x) :: putF f v r) from rfl]
    by_cases hk : k = f
    · rw [if_pos hk]
      by_cases h : g = k
      · have hb : (g == k) = true := beq_iff_eq.mpr h
        simp only [List.lookup, hb, if_pos (h.trans hk)]
      · have hb : (g == k) = false := beq_eq_false_iff_ne.mpr h
        simp only [List.lookup, hb, if_neg (fun e : g = f => h (e.trans hk.symm))]
    · rw [if_neg hk]
      by_cases h : g = k
      · have hb : (g == k) = true := beq_iff_eq.mpr h
        simp only [List.lookup, hb, if_neg (fun e : g = f => hk (h.symm.trans e))]
      · have hb : (g == k) = false := beq_eq_false_iff_ne.mpr h
        simp only [List.lookup, hb]
        exact ih
theorem xX (f : Str) (v : V) : ∀ fs : List (Str × V), f ∈ (putF f v fs).map (·.1) ∧ ∀ g, g ∈ fs.map (·.1) → g ∈ (putF f v fs).map (·.1)
  | [] => ⟨by simp [putF], fun g h => by simp at h⟩
  | (k, x) :: r => by
    obtain ⟨i1, i2⟩ := xX f v r
    rw [show putF f v ((k, x) :: r) = (if k = f then (k, v) :: r else (k, x) :: putF f v r) from rfl]
    by_cases hk : k = f
    · rw [if_pos hk]
      subst hk
      exact ⟨by simp, fun g h => by simpa using h⟩
    · rw [if_neg hk]
      refine ⟨?_, fun g h => ?_⟩
      · rw [List.map_cons]
        exact List.mem_cons_of_mem _ i1
      · rw [List.map_cons] at h ⊢
        rcases List.mem_cons.mp h with e | e
        · exact List.mem_cons.mpr (.inl e)
        · exact List.mem_cons_of_mem _ (i2 g e)
theorem yY (f : Str) (v : V) : ∀ fs : List (Str × V), (putF f v fs).length ≤ fs.length + 1
  | [] => by simp [putF]
  | (k, x) :: r => by
    have ih := yY f v r
    rw [show putF f v ((k, x) :: r) = (if k = f then (k, v) :: r else (k, x) :: putF f v r) from rfl]
    by_cases hk : k = f
    · rw [if_pos hk, List.length_cons, List.length_cons]; omega
    · rw [if_neg hk, List.length_cons, List.length_cons]; omega
theorem RelO.some_of {v : V} {o : Option Value} (r : RelO (some v) o) : ∃ u, o = some u ∧ RelV v u := by
  cases o with
  | none => exact (show False from r).elim
  | some u => exact ⟨u, rfl, r⟩
theorem RelO.none_of {o : Option Value} (r : RelO none o) : o = none := by
  cases o with
  | none => rfl
  | some u => exact (show False from r).elim
theorem BH {v : V} {u : Value} (r : RelV v u) : PySem.W.handedIn u = true := by
  cases v with
  | non => cases (show u = Value.none from r); rfl
  | bl b => cases (show u = Value.bool b from r); rfl
  | int i => obtain ⟨t, e⟩ := (show ∃ t, u = Value.int i t from r); cases e; rfl
  | str x => obtain ⟨t, e⟩ := (show ∃ t, u = Value.str x t from r); cases e; rfl
  | byt b => obtain ⟨t, e⟩ := (show ∃ t, u = Value.bytes b t from r); cases e; rfl
  | flt b => obtain ⟨t, e⟩ := (show ∃ t, u = Value.float b t from r); cases e; rfl
  | ref a => cases (show u = Value.ref a from r); rfl
  | ty n => cases (show u = Value.type n from r); rfl
section
variable {P : Program} {w : World} {H H' : Hp} {h h' : Heap} {a C dx : Addr} {fs fs' : List (Str × V)}
theorem wX (hok : HOk P w H h) (e : H a = some (.ins C dx fs)) : ∃ mA, ObjM h a dx C mA ∧ (∀ f, RelO (fs.lookup f) (mA f)) ∧ PySem.Within mA (fs.map (·.1)) ∧ fs.length ≤ 1000 ∧ H dx = some (.own a) := by
  obtain ⟨d, z, ne, ob, mA, n, r, q⟩ := (show ObjOk P w H h a (.ins C dx fs) from hok a _ e)
  exact ⟨mA, ⟨ob, n, ne⟩, r, q, z, d⟩
end
structure Cls (K : PySem.W.Frag) (C : Addr) : Prop where
  pg : PySem.W.plainGet K C Str.empty = true
  hd : PySem.W.hasDictIn K C = true
  po : PySem.W.plainOver K C = true
  sa : PySem.W.findIn K (.ref C) "__setattr__" = some (some (.builtin "object.__setattr__"))
theorem Cls.get {K : PySem.W.Frag} {C : Addr} (c : Cls K C) (f : Str) : PySem.W.plainGet K C f = true := c.pg
def NoAttr (K : PySem.W.Frag) (C : Addr) (f : Str) : Prop := PySem.W.findIn K (.ref C) f = some none
theorem NoAttr.taker {K : PySem.W.Frag} {C : Addr} {f : Str} (n : NoAttr K C f) : PySem.W.takerIn K C f = some none := by
  unfold PySem.W.takerIn
  rw [show PySem.W.findIn K (.ref C) f = some none from n]
  rfl
structure Meth (K : PySem.W.Frag) (C : Addr) (m : Str) (f : Addr) : Prop where
  at_ : PySem.W.findIn K (.ref C) m = some (some (.ref f))
  fn : PySem.W.isFn K (.ref f) = true
  kp : PySem.W.keepIn K (.ref f) = true
section
variable {X : Cx} {pins : List (Addr × Obj)} {σ : St} {H : Hp} {s : Shared} {a C dx : Addr} {fs : List (Str × V)} {f : Str} {v : V} {A : Around} {E : Value → Shared → Prop}
theorem t5 {b : Bool} {Q : Value → Shared → Prop} (I : Inv X pins σ H s) (e : H a = some (.ins C dx fs)) (c : Cls X.K C) (n : NoAttr X.K C f) (l : fs.lookup f = some v)
    (h : ∀ u s', Inv X pins σ H s' → RelV v u → Q u s') : wpAny (model X.prog X.w) A (getAttr (.ref a) f b) Q E s := by
  obtain ⟨mA, O, r, _, _, _⟩ := wX I.hok e
  obtain ⟨u, hu, ru⟩ := RelO.some_of (v := v) (o := mA f) (by rw [← l]; exact r f)
  exact Eo I.kIn O (c.get f) c.hd n hu (BH ru) (h u _ (I.tok _) ru)
theorem wt {m : Str} {g : Addr} {pl : Sem Bool} {Q : Value × List Value → Shared → Prop} (I : Inv X pins σ H s) (e : H a = some (.ins C dx fs)) (c : Cls X.K C) (k : Meth X.K C m g) (l : fs.lookup m = none)
    (h : Q (.ref g, [.ref a]) s) : wpAny (model X.prog X.w) A (getMethod (.ref a) m pl) Q E s := by
  obtain ⟨mA, O, r, _, _, _⟩ := wX I.hok e
  have hn : mA m = none := RelO.none_of (by rw [← l]; exact r m)
  exact Cp I.kIn O (c.get m) k.at_ k.fn hn h
theorem tW {y : V} {u : Value} {Q : Unit → Shared → Prop} (I : Inv X pins σ H s) (e : H a = some (.ins C dx fs)) (c : Cls X.K C) (n : NoAttr X.K C f) (hl : fs.length < 1000) (ry : RelV y u)
    (h : ∀ s', Inv X pins σ (upd H a (.ins C dx (putF f y fs))) s' → Q () s') : wpAny (model X.prog X.w) A (setAttr (.ref a) f u) Q E s := by
  obtain ⟨mA, O, r, wi, _, ho⟩ := wX I.hok e
  have hz : (fs.map (·.1)).length ≤ sizeLine := by rw [List.length_map, sizeLine_eq]; omega
  refine DM I.kIn O c.sa c.po n.taker c.hd wi hz fun h' O' sb => h _ ?_
  have hd : ∃ o, h'.get? dx = some o := let ⟨o, _, _, e', _⟩ := O'.ns; ⟨o, e'⟩
  refine I.write (x := a) (e := dx) (by rw [e]; exact True.intro) (.inr ho) (fun b q hb z => (sb.2 b hb).trans z) hd ?_
  refine ⟨by rw [zt O.ne]; exact ho, ?_, O.ne, O'.obj, _, O'.ns, fun g => ?_, fun g hg => ?_⟩
  · have := yY f y fs; omega
  · show RelO ((putF f y fs).lookup g) (if g = f then some u else mA g)
    rw [xY]
    by_cases q : g = f
    · rw [if_pos q, if_pos q]; exact ry
    · rw [if_neg q, if_neg q]; exact r g
  · by_cases q : g = f
    · rw [q]; exact (xX f y fs).1
    · refine (xX f y fs).2 g (wi g fun z => hg ?_)
      show (if g = f then some u else mA g) = none
      rw [if_neg q]; exact z
theorem Inv.made (I : Inv X pins σ H s) : Inv X pins σ (upd (upd H s.heap.objs.size (.own (s.heap.objs.size + 1))) (s.heap.objs.size + 1) (.ins C s.heap.objs.size []))
    { s with heap := (s.heap.push PySem.W.emptyDict).push (PySem.W.instObj C s.heap.objs.size) } := by
  have e1 : (s.heap.push PySem.W.emptyDict).get? s.heap.objs.size = some PySem.W.emptyDict := Heap.get?_push_size s.heap rfl
  have e2 : ((s.heap.push PySem.W.emptyDict).push (PySem.W.instObj C s.heap.objs.size)).get? (s.heap.objs.size + 1) = some (PySem.W.instObj C s.heap.objs.size) := by
    have := Heap.get?_push_size (s.heap.push PySem.W.emptyDict) (o := PySem.W.instObj C s.heap.objs.size) rfl
    rwa [Heap.size_push] at this
  have e3 : (s.heap.push PySem.W.emptyDict).Ns s.heap.objs.size (fun _ => none) := ⟨PySem.W.emptyDict, #[], _, e1, rfl, (fun e he => absurd he (by simp)), fun _ => rfl⟩
  have I1 := I.laid (a := s.heap.objs.size) (o := .own (s.heap.objs.size + 1)) (h' := s.heap.push PySem.W.emptyDict) (t' := s.toks) (fun b u q => Heap.get?_push_of_some _ q) (Nat.le_refl _) ⟨_, e1⟩
  refine I1.laid (a := s.heap.objs.size + 1) (o := .ins C s.heap.objs.size []) (t' := s.toks) (fun b u q => Heap.get?_push_of_some _ q) (Nat.le_of_eq (Heap.size_push _ _)) ?_
  have ne : s.heap.objs.size ≠ s.heap.objs.size + 1 := Nat.ne_of_lt (Nat.lt_succ_self _)
  refine ⟨by rw [zt ne, zm], Nat.zero_le _, ne, e2, fun _ => none, (Heap.Ns1.of_empty e3).at fun o q => Heap.get?_push_of_some _ q, fun _ => True.intro, fun y hy => absurd rfl hy⟩
theorem DX {prog : Program} {w : World} {env : Env} {e : Expr} {f : Str} {pos : Pos} {s : Shared} {Q : Value → Shared → Prop} (hb : attributeBase e f env (eval e env) = eval e env)
    (h : wpAny (model prog w) A (eval e env) (fun o s₁ => wpAny (model prog w) A (getAttr o f true) Q E s₁) E s) : wpAny (model prog w) A (eval (.Attribute e f pos) env) Q E s :=
  Attribute_any_ h (by rw [arm_eval_Attribute, hb])
end
def tFld (K : PySem.W.Frag) (ta : TE) (f : Str) : TE := fun σ H Q => ta σ H fun x H1 => ∃ a C dx fs v, x = .ref a ∧ H1 a = some (.ins C dx fs) ∧ Cls K C ∧ NoAttr K C f ∧ fs.lookup f = some v ∧ Q v H1
def sFld (K : PySem.W.Frag) (ta tv : TE) (f : Str) : TS := fun D σ H => tv σ H fun y H1 => ta σ H1 fun x H2 => ∃ a C dx fs, x = .ref a ∧ H2 a = some (.ins C dx fs) ∧ Cls K C ∧ NoAttr K C f ∧ fs.length < 1000 ∧
  D.nx σ (upd H2 a (.ins C dx (putF f y fs)))
section
variable {X : Cx} {o e value : Expr} {f : Str} {pos pos' tpos : Pos} {ta tv : TE}
theorem ET (he : PE X e ta) (hb : attributeBase e f X.env (eval e X.env) = eval e X.env) : PE X (.Attribute e f pos) (tFld X.K ta f) := by
  intro pins s σ H Q I h
  refine DX hb (thn (he pins s σ H _ I h) fun u s1 ⟨x, H1, I1, rx, a, C, dx, fs, v, ex, ea, c, n, l, q⟩ => ?_)
  subst ex
  obtain rfl : u = Value.ref a := rx
  exact t5 I1 ea c n l fun u' s2 I2 ru => ⟨v, H1, I2, ru, q⟩
theorem vy (ha : PE X o ta) (hv : PE X value tv) (hs : swapsWith value (some (.Attribute o f pos')) pos.line X.env = pure false) : PS X (.Assign [.Attribute o f pos'] value pos) (sFld X.K ta tv f) := by
  intro pins s σ H D I h
  refine plainObj_wpAny_Assign_Attribute (thn (hv pins s σ H _ I h) fun u s1 ⟨y, H1, I1, ry, q⟩ => thn (ha pins s1 σ H1 _ I1 q) fun ov s2 ⟨x, H2, I2, rx, a, C, dx, fs, ex, ea, c, n, l, q2⟩ => ?_) hs
  subst ex
  obtain rfl : ov = Value.ref a := rx
  exact tW I2 ea c n l ry fun s3 I3 => ⟨σ, _, I3, q2⟩
end
section
variable {X : Cx} {pins : List (Addr × Obj)} {σ : St} {H : Hp} {s : Shared} {A : Around} {E : Value → Shared → Prop} {Q : Value → Shared → Prop} {c : Value} {b : Bool}
inductive TyOf (K : PySem.W.Frag) (H : Hp) : V → Value → Prop where
  | non : TyOf K H .non (.type "NoneType")
  | bl (x : Bool) : TyOf K H (.bl x) (.type "bool")
  | int (i : Int) : TyOf K H (.int i) (.type "int")
  | str (x : Str) : TyOf K H (.str x) (.type "str")
  | flt (x : UInt64) : TyOf K H (.flt x) (.type "float")
  | lst {a : Addr} {xs : List V} (e : H a = some (.lst xs)) : TyOf K H (.ref a) (.type "list")
  | frz {a : Addr} {o : Obj} {xs : List V} (e : H a = some (.frz o (.lst xs))) : TyOf K H (.ref a) (.type "list")
  | tup {a : Addr} {xs : List V} (e : H a = some (.tup xs)) : TyOf K H (.ref a) (.type "tuple")
  | dK {a : Addr} {kvs : List (Key × V)} (e : H a = some (.dK kvs)) : TyOf K H (.ref a) (.type "dict")
  | dT {a : Addr} {kvs : List (List Key × V)} (e : H a = some (.dT kvs)) : TyOf K H (.ref a) (.type "dict")
  | ins {a C dx : Addr} {fs : List (Str × V)} (e : H a = some (.ins C dx fs)) (cl : Cls K C) (ha : PySem.W.findIn K (.ref C) "__class__" = some (some (.builtin "object.__class__")))
      (hn : PySem.W.specialIn K (.builtin "object.__class__") "__get__" = some (some (.builtin "getset_descriptor.__get__"))) (htk : PySem.W.takesIn K (.builtin "object.__class__") = some true)
      (hm : PySem.W.mroIn K C (.type "object") = some true) : TyOf K H (.ref a) (.ref C)
theorem Bv {x : V} {u t : Value} (I : Inv X pins σ H s) (rx : RelV x u) (ty : TyOf X.K H x t) (e : PySem.W.kitOne X.K t c = some b) (h : ∀ tk, Q (.bool b) { s with toks := tk }) :
    wpAny (model X.prog X.w) A (call (.builtin "isinstance") [u, c]) Q E s := by
  cases ty with
  | non => cases (show u = Value.none from rx); exact PySem.W.kia_one PySem.W.kitx_none I.kIn True.intro e (fun z => nomatch z) h
  | bl y => cases (show u = Value.bool y from rx); exact PySem.W.kia_one PySem.W.kitx_bool I.kIn True.intro e (fun z => nomatch z) h
  | int i => obtain ⟨t, q⟩ := (show ∃ t, u = Value.int i t from rx); cases q; exact PySem.W.kia_one PySem.W.kitx_int I.kIn True.intro e (fun z => nomatch z) h
  | str y => obtain ⟨t, q⟩ := (show ∃ t, u = Value.str y t from rx); cases q; exact PySem.W.kia_one PySem.W.kitx_str I.kIn True.intro e (fun z => nomatch z) h
  | flt y => obtain ⟨t, q⟩ := (show ∃ t, u = Value.float y t from rx); cases q; exact PySem.W.kia_one PySem.W.kitx_float I.kIn True.intro e (fun z => nomatch z) h
  | @lst a xs ea =>
    cases (show u = Value.ref a from rx)
    obtain ⟨_, _, n, _, h1⟩ := (show ObjOk X.prog X.w H s.heap a (.lst xs) from I.hok a _ ea)
    exact PySem.W.kia_one PySem.W.kitx_list I.kIn ⟨_, h1, rfl⟩ e (fun z => nomatch z) h
  | @frz a ob xs ea =>
    cases (show u = Value.ref a from rx)
    obtain ⟨_, _, _, n, _, h1⟩ := (show ObjOk X.prog X.w H s.heap a (.frz ob (.lst xs)) from I.hok a _ ea)
    exact PySem.W.kia_one PySem.W.kitx_list I.kIn ⟨_, h1, rfl⟩ e (fun z => nomatch z) h
  | @tup a xs ea =>
    cases (show u = Value.ref a from rx)
    obtain ⟨_, _, _, p⟩ := (show ObjOk X.prog X.w H s.heap a (.tup xs) from I.hok a _ ea)
    obtain ⟨o, h1, h2, _⟩ := p
    exact PySem.W.kia_one PySem.W.kitx_tuple I.kIn ⟨o, h1, h2⟩ e (fun z => nomatch z) h
  | @dK a kvs ea =>
    cases (show u = Value.ref a from rx)
    obtain ⟨_, _, vs, _, p⟩ := (show ObjOk X.prog X.w H s.heap a (.dK kvs) from I.hok a _ ea)
    obtain ⟨o, es, ep, h1, h2, _⟩ := p
    exact PySem.W.kia_one PySem.W.kitx_dict I.kIn ⟨o, h1, h2.1⟩ e (fun z => nomatch z) h
  | @dT a kvs ea =>
    cases (show u = Value.ref a from rx)
    obtain ⟨_, _, xs, _, o, es, ep, h1, h2, _⟩ := (show ObjOk X.prog X.w H s.heap a (.dT kvs) from I.hok a _ ea)
    exact PySem.W.kia_one PySem.W.kitx_dict I.kIn ⟨o, h1, h2.1⟩ e (fun z => nomatch z) h
  | @ins a C dx fs ea cl ha hn htk hm =>
    cases (show u = Value.ref a from rx)
    obtain ⟨mA, O, _⟩ := wX I.hok ea
    obtain ⟨od, J, _⟩ := O.look
    exact PySem.W.kia_one (PySem.W.kitx_own (cl.get _) cl.hd ha hn htk hm) I.kIn J e (fun z => nomatch z) h
end
end L2
namespace L2
open PySem PySem.Spec PyProof.Rows
structure Room (k : Nat) (A : Around) : Prop where
  hd : A.handled = none
  dp : A.depth + 3 * k + 5 < recursionLimit
  un : A.units + 16 * k + 200 < cLine
theorem Room.mono {j k : Nat} {A : Around} (r : Room k A) (h : j ≤ k) : Room j A := ⟨r.hd, by have := r.dp; omega, by have := r.un; omega⟩
theorem Room.deeper {k : Nat} {A : Around} (r : Room (k + 1) A) (env : Env) : Room k (A.deeper env) :=
  ⟨r.hd, by have := r.dp; show A.depth + 1 + 3 * k + 5 < _; omega, by have := r.un; show A.units + 3 + 16 * k + 200 < _; omega⟩
theorem Ab {A : Around} {C : Addr} {us : List Value} {kw : List (Str × Value)} : (A.under (.builtin "type.__call__" ⟨.ref C :: us, kw⟩)).depth = A.depth + 1 := by
  first | rfl | simp [Around.under, Code.weight, Code.isCreation, Code.isGuard, Code.isCaller, Code.frames, Code.isFrame, guardIds]
theorem tS {A : Around} {C : Addr} {us : List Value} {kw : List (Str × Value)} : (A.under (.builtin "type.__call__" ⟨.ref C :: us, kw⟩)).units = A.units + 1 := by
  first | rfl | simp [Around.under, Code.cUnits, Code.frames, Code.isFrame]
theorem Room.make {k : Nat} {A : Around} (r : Room (k + 1) A) (C : Addr) (us : List Value) (kw : List (Str × Value)) : Room k (A.under (.builtin "type.__call__" ⟨.ref C :: us, kw⟩)) :=
  ⟨r.hd, by have := r.dp; rw [Ab]; omega, by have := r.un; rw [tS]; omega⟩
theorem Room.depth {k : Nat} {A : Around} (r : Room k A) : A.depth < recursionLimit := by have := r.dp; omega
theorem Room.units {k : Nat} {A : Around} (r : Room k A) : A.units + 64 < cLine := by have := r.un; omega
def tNil : TA := fun _ H Q => Q [] H
def D4 (ta : TE) (tr : TA) : TA := fun σ H Q => ta σ H fun x H1 => tr σ H1 fun xs H2 => Q (x :: xs) H2
section
variable {X : Cx} {e : Expr} {es : List Expr} {te : TE} {t : TA} {pos : Pos}
theorem ze : PA X [] tNil := fun _ _ _ _ H Q I h => Calls.spliced_nil ⟨[], H, I, .nil, h⟩
theorem za (ha : PE X e te) (hr : PA X es t) (hs : starEach (e :: es) X.env = (false, eval e X.env) :: starEach es X.env := by rfl) : PA X (e :: es) (D4 te t) := by
  intro pos pins s σ H Q I h
  rw [hs]
  show wpAny _ _ (spliced ((false, eval e X.env) :: backTo pos (starEach es X.env))) _ _ s
  refine Calls.spliced_cons (thn (ha pins s σ H _ I h) fun u s1 ⟨x, H1, I1, r1, q1⟩ => ?_)
  exact thn (hr pos pins s1 σ H1 _ I1 q1) fun us s2 ⟨xs, H2, I2, r2, q2⟩ => ⟨x :: xs, H2, I2, .cons r1 r2, q2⟩
def tTup (t : TA) : TE := fun σ H Q => t σ H fun xs H1 => xs.length ≤ sizeLine ∧ ∀ p, H1 p = none → Q (.ref p) (upd H1 p (.tup xs))
def tLst (t : TA) : TE := fun σ H Q => t σ H fun xs H1 => xs.length ≤ sizeLine ∧ ∀ p, H1 p = none → Q (.ref p) (upd H1 p (.lst xs))
theorem zA {x1} (h : PA X es t) : PE X (.Tuple es x1 pos) (tTup t) := by
  intro pins s σ H Q I hq
  refine wpAny_Tuple_spliced (thn (h pos pins s σ H _ I hq) fun us s1 ⟨xs, H1, I1, r, z, q⟩ => ⟨by rw [← r.length]; exact z, ?_⟩)
  have hf : H1 s1.heap.objs.size = none := I1.hok.fresh (Nat.le_refl _)
  refine ⟨.ref s1.heap.objs.size, upd H1 s1.heap.objs.size (.tup xs), I1.laid (t' := s1.toks) (fun b u e => Heap.get?_push_of_some _ e) (Nat.le_refl _) ?_, rfl, q _ hf⟩
  exact ⟨z, us, r, ⟨_, Heap.get?_push_size _ rfl, rfl, _, rfl⟩⟩
theorem zM (h : PA X es t) : PE X (.List es pos) (tLst t) := by
  intro pins s σ H Q I hq
  refine wpAny_List_spliced (thn (h pos pins s σ H _ I hq) fun us s1 ⟨xs, H1, I1, r, z, q⟩ => ⟨by rw [← r.length]; exact z, ?_⟩)
  have hf : H1 s1.heap.objs.size = none := I1.hok.fresh (Nat.le_refl _)
  refine ⟨.ref s1.heap.objs.size, upd H1 s1.heap.objs.size (.lst xs), I1.laid (t' := s1.toks) (fun b u e => Heap.get?_push_of_some _ e) (Nat.le_refl _) ?_, rfl, q _ hf⟩
  exact ⟨z, us, 0, r, Heap.get?_push_size _ rfl⟩
end
abbrev Sp := List V → Hp → VK → XK → Prop
abbrev CXT := List Env → Hp → Shared → XK → Value → Shared → Prop
structure Env0 (P : Program) (w : World) (K : PySem.W.Frag) (mg : Str → Option Value) (base : Heap) (A : Around) (outer : List Env) (s : Shared) (H : Hp) : Prop where
  frames : A.frames = some outer
  mod : Mod K mg base
  bs : ∀ b o, base.get? b = some o → s.heap.get? b = some o ∧ H b = none
  bsz : base.objs.size ≤ s.heap.objs.size
  funs : s.heap.FunFrames base outer
  frf : ∀ b ∈ frs outer, H b = none
  hok : HOk P w H s.heap
  bare : AllBare s.gens
def CE (outer : List Env) (P : Program) (w : World) (H : Hp) (s : Shared) (Q : VK) (u : Value) (s' : Shared) : Prop :=
  ∃ v H', s'.os = s.os ∧ AllBare s'.gens ∧ Un (frs outer) [] H H' s.heap s'.heap ∧ HOk P w H' s'.heap ∧ RelV v u ∧ Q v H'
def CR (CX : CXT) (outer : List Env) (P : Program) (w : World) (H : Hp) (s : Shared) (Q : VK) (E : XK) (r : Result) (s' : Shared) : Prop :=
  match r with
  | .ok (.ret u) => CE outer P w H s Q u s'
  | .ok _ => False
  | .error e => CX outer H s E e s'
structure FnOk (P : Program) (w : World) (K : PySem.W.Frag) (mg : Str → Option Value) (base : Heap) (CX : CXT) (k : Nat) (f : Addr) (fd : FuncData) (ps : List Str) (sp : Sp) : Prop where
  len : ∀ vs H Q E, sp vs H Q E → vs.length = ps.length
  run : ∀ (A : Around) (outer : List Env) (s : Shared) (H : Hp) (args : Args) (us : List Value) (vs : List V) (Q : VK) (E : XK), Room k A → Env0 P w K mg base A outer s H → BindsTo s fd args (ps.zip us) → Vals vs us → sp vs H Q E →
    codeAny (model P w) A (.call (.ref f) args) (CR CX outer P w H s Q E) s
theorem Env0.make {P : Program} {w : World} {K : PySem.W.Frag} {mg : Str → Option Value} {base : Heap} {A : Around} {outer : List Env} {s : Shared} {H : Hp} (e : Env0 P w K mg base A outer s H) (C : Addr) (us : List Value) (kw : List (Str × Value)) :
    Env0 P w K mg base (A.under (.builtin "type.__call__" ⟨.ref C :: us, kw⟩)) outer s H := ⟨by first | exact e.frames | (simpa [Around.under, Code.envs, Code.isFrame, pushEnvs] using e.frames), e.mod, e.bs, e.bsz, e.funs, e.frf, e.hok, e.bare⟩
section
variable {X : Cx} {pins : List (Addr × Obj)} {σ : St} {H : Hp} {s s' : Shared}
theorem Inv.env0 (I : Inv X pins σ H s) : Env0 X.prog X.w X.K X.mg X.base X.A X.stack s H :=
  ⟨I.ok.frames, I.ok.mod, I.bs, Nat.le_trans I.ok.bsz I.sz, I.stack, I.stkFree, I.hok, I.bare⟩
theorem Inv.after {Q : VK} {u : Value} (I : Inv X pins σ H s) (h : CE X.stack X.prog X.w H s Q u s') : EP X pins σ Q u s' := by
  obtain ⟨v, H', os, bare, un, hok, r, q⟩ := h
  obtain ⟨hh, g, d, t, os'⟩ := s'
  obtain rfl : os' = s.os := os
  exact ⟨v, H', I.call (h' := hh) (g' := g) (d' := d) (t' := t) (ch := []) un hok bare (fun b z => absurd z (by simp)), r, q⟩
end
def DI (sp : Sp) (dvs : List V) (E : XK) (t : TA) : TE := fun σ H Q => t σ H fun vs H1 => sp (vs ++ dvs) H1 Q E
def Bf (C : Addr) (m : Str) (sp : Sp) (dvs : List V) (E : XK) (ta : TE) (t : TA) : TE := fun σ H Q => ta σ H fun x H1 => ∃ a dx fs, x = .ref a ∧ H1 a = some (.ins C dx fs) ∧ fs.lookup m = none ∧
  t σ H1 fun vs H2 => sp (x :: (vs ++ dvs)) H2 Q E
def Ds (C : Addr) (sp : Sp) (dvs : List V) (E : XK) (t : TA) : TE := fun σ H Q => t σ H fun vs H1 => ∀ x dx, H1 x = none → H1 dx = none → dx ≠ x →
  sp (.ref x :: (vs ++ dvs)) (upd (upd H1 dx (.own x)) x (.ins C dx [])) (fun v H2 => v = .non ∧ Q (.ref x) H2) E
def Binds (K : PySem.W.Frag) (fd : FuncData) (ps : List Str) (ds : List Value) : Prop :=
  ∀ (s : Shared) (us : List Value), K.In s.heap → (us ++ ds).length = ps.length → BindsTo s fd ⟨us, []⟩ (ps.zip (us ++ ds))
theorem Binds.all {K : PySem.W.Frag} {fd : FuncData} {ps : List Str} (h : ∀ us : List Value, us.length = ps.length → bindArgs fd ⟨us, []⟩ = pure (ps.zip us)) : Binds K fd ps [] := fun s us _ hl => by
  rw [List.append_nil] at hl ⊢
  exact .of_eq (h us hl)
def yT (CX : CXT) (X : Cx) (E : XK) : Prop := ∀ (pins : List (Addr × Obj)) (σ : St) (H : Hp) (s : Shared) (e : Value) (s' : Shared), Inv X pins σ H s → CX X.stack H s E e s' → X.xe e s'
section
variable {X : Cx} {CX : CXT} {k : Nat} {f C : Addr} {fd : FuncData} {ps : List Str} {sp : Sp} {dvs : List V} {ds : List Value} {E : XK} {x m : Str} {p pos apos : Pos} {e o : Expr} {es : List Expr} {ta : TE} {t : TA}
theorem AR {pins : List (Addr × Obj)} {σ : St} {H : Hp} {s : Shared} {Q : VK} {us : List Value} {vs : List V} (F : FnOk X.prog X.w X.K X.mg X.base CX k f fd ps sp) (hr : Room k X.A) (hb : Binds X.K fd ps ds) (hd : Vals dvs ds) (hx : yT CX X E)
    (I : Inv X pins σ H s) (r : Vals vs us) (h : sp (vs ++ dvs) H Q E) : wpAny (model X.prog X.w) X.A (call (.ref f) us) (EP X pins σ Q) X.xe s := by
  have r2 : Vals (vs ++ dvs) (us ++ ds) := r.append hd
  have hl : (us ++ ds).length = ps.length := by rw [← r2.length]; exact F.len _ _ _ _ h
  refine wpAny_call (codeAny_mono (F.run X.A X.stack s H ⟨us, []⟩ (us ++ ds) (vs ++ dvs) Q E hr I.env0 (hb s us I.kIn hl) r2 h) fun r s' hq => ?_)
  cases r with
  | error e => exact hx pins σ H s e s' I hq
  | ok fl =>
    cases fl with
    | ret u => exact I.after hq
    | next => exact False.elim hq
    | brk => exact False.elim hq
    | cont => exact False.elim hq
theorem Eg (F : FnOk X.prog X.w X.K X.mg X.base CX k f fd ps sp) (hr : Room k X.A) (hg : Gl X x) (hm : X.mg x = some (.ref f)) (hk : PySem.W.keepIn X.K (.ref f) = true) (hb : Binds X.K fd ps ds) (hd : Vals dvs ds) (hx : yT CX X E)
    (ha : PA X (e :: es) t) (hdb : (x == ("__debug__" : Str)) = false := by decide) (he : starEach (e :: es) X.env = (false, eval e X.env) :: starEach es X.env := by rfl) (hpl : (backTo pos (starEach es X.env)).any (·.1) = false := by rfl) :
    PE X (.Call (.Name x p) (e :: es) [] pos) (DI sp dvs E t) := by
  intro pins s σ H Q I h
  refine wpAny_Call_Name_kw (uA I hg hm ?_ hdb)
  refine PySem.W.callWith_K (h₀ := X.base) I.ok.mod.kin hk (thn (ha pos pins s σ H _ I h) fun us s1 ⟨vs, H1, I1, r, q⟩ => ⟨I1.kIn, ?_⟩) he hpl
  exact AR F hr hb hd hx I1 r q
theorem Er {pl : Sem Bool} (he : PE X o ta) (c : Cls X.K C) (hm : Meth X.K C m f) (F : FnOk X.prog X.w X.K X.mg X.base CX k f fd ps sp) (hr : Room k X.A) (hb : Binds X.K fd ps ds) (hd : Vals dvs ds) (hx : yT CX X E) (ha : PA X (e :: es) t)
    (hst : starEach (e :: es) X.env = (false, eval e X.env) :: starEach es X.env := by rfl) (hpl : (backTo pos (starEach es X.env)).any (·.1) = false := by rfl)
    (ht : eval (.Call (.Attribute o m apos) (e :: es) [] pos) X.env = (do
      let ov ← eval o X.env
      standAt apos.atName
      let (f, first) ← holding [ov] (getMethod ov m pl)
      callWith pos f first (backTo pos (starEach (e :: es) X.env)) (backToKw pos (keywordEach [] X.env))) := by rfl) :
    PE X (.Call (.Attribute o m apos) (e :: es) [] pos) (Bf C m sp dvs E ta t) := by
  intro pins s σ H Q I h
  refine PySem.W.methodCall_KW (pl := pl) (thn (he pins s σ H _ I h) fun u s1 ⟨x, H1, I1, rx, a, dx, fs, ex, ea, l, q⟩ => ?_) ht
  subst ex
  obtain rfl : u = Value.ref a := rx
  refine wt I1 ea c hm l ?_
  refine PySem.W.callWith_K (first := [.ref a]) (h₀ := X.base) I.ok.mod.kin hm.kp (thn (ha pos pins s1 σ H1 _ I1 q) fun us s2 ⟨vs, H2, I2, r, q2⟩ => ⟨I2.kIn, ?_⟩) hst hpl
  exact AR (us := .ref a :: us) (vs := .ref a :: vs) F hr hb hd hx I2 (.cons rfl r) q2
theorem CJ {pl : Sem Bool} (he : PE X o ta) (c : Cls X.K C) (hm : Meth X.K C m f) (F : FnOk X.prog X.w X.K X.mg X.base CX k f fd ps sp) (hr : Room k X.A) (hb : Binds X.K fd ps ds) (hd : Vals dvs ds) (hx : yT CX X E)
    (ht : eval (.Call (.Attribute o m apos) [] [] pos) X.env = (do
      let ov ← eval o X.env
      standAt apos.atName
      let (f, first) ← holding [ov] (getMethod ov m pl)
      callWith pos f first (backTo pos (starEach [] X.env)) (backToKw pos (keywordEach [] X.env))) := by rfl) :
    PE X (.Call (.Attribute o m apos) [] [] pos) (Bf C m sp dvs E ta tNil) := by
  intro pins s σ H Q I h
  refine PySem.W.methodCall_KW (pl := pl) (thn (he pins s σ H _ I h) fun u s1 ⟨x, H1, I1, rx, a, dx, fs, ex, ea, l, q⟩ => ?_) ht
  subst ex
  obtain rfl : u = Value.ref a := rx
  refine wt I1 ea c hm l ?_
  exact PySem.W.callWith_K0 (first := [.ref a]) I1.kIn hm.kp (AR (us := [.ref a]) (vs := [.ref a]) F hr hb hd hx I1 (.cons rfl .nil) q)
structure Mk (K : PySem.W.Frag) (C f : Addr) : Prop where
  makes : PySem.W.makesIn K C = true
  init : PySem.W.findIn K (.ref C) "__init__" = some (some (.ref f))
  fn : PySem.W.isFn K (.ref f) = true
  kp : PySem.W.keepIn K (.ref C) = true
theorem Cm {pins : List (Addr × Obj)} {σ : St} {H : Hp} {s : Shared} {Q : VK} {us : List Value} {vs : List V} (M : Mk X.K C f) (F : FnOk X.prog X.w X.K X.mg X.base CX k f fd ps sp) (hr : Room (k + 1) X.A) (hb : Binds X.K fd ps ds) (hd : Vals dvs ds)
    (hx : yT CX X E) (I : Inv X pins σ H s) (r : Vals vs us)
    (h : ∀ x dx, H x = none → H dx = none → dx ≠ x → sp (.ref x :: (vs ++ dvs)) (upd (upd H dx (.own x)) x (.ins C dx [])) (fun v H2 => v = .non ∧ Q (.ref x) H2) E) :
    wpAny (model X.prog X.w) X.A (call (.ref C) us) (EP X pins σ Q) X.xe s := by
  have hq := h (s.heap.objs.size + 1) s.heap.objs.size (I.hok.fresh (Nat.le_succ _)) (I.hok.fresh (Nat.le_refl _)) (Nat.ne_of_lt (Nat.lt_succ_self _))
  have I2 := Inv.made (C := C) I
  have r2 : Vals (V.ref (s.heap.objs.size + 1) :: (vs ++ dvs)) (Value.ref (s.heap.objs.size + 1) :: (us ++ ds)) := .cons rfl (r.append hd)
  have hl : (Value.ref (s.heap.objs.size + 1) :: us ++ ds).length = ps.length := by
    have e := r2.length
    rw [F.len _ _ _ _ hq] at e
    exact e.symm
  refine wpAny_call (CC (f := f) I.kIn M.makes M.init (beq_iff_eq.mp M.fn) (codeAny_mono (F.run _ X.stack _ _ ⟨Value.ref (s.heap.objs.size + 1) :: us, []⟩ (Value.ref (s.heap.objs.size + 1) :: (us ++ ds)) _ _ E (hr.make C us [])
    (I2.env0.make C us []) (hb _ (Value.ref (s.heap.objs.size + 1) :: us) I2.kIn hl) r2 hq) fun r s' hq' => ?_))
  cases r with
  | error e => exact hx pins σ _ _ e s' I2 hq'
  | ok fl =>
    cases fl with
    | ret u =>
      obtain ⟨v, H', I3, rv, ev, q3⟩ := I2.after hq'
      subst ev
      exact ⟨rv, ⟨V.ref (s.heap.objs.size + 1), H', I3, rfl, q3⟩⟩
    | next => exact False.elim hq'
    | brk => exact False.elim hq'
    | cont => exact False.elim hq'
theorem Ed (M : Mk X.K C f) (F : FnOk X.prog X.w X.K X.mg X.base CX k f fd ps sp) (hr : Room (k + 1) X.A) (hg : Gl X x) (hm : X.mg x = some (.ref C)) (hb : Binds X.K fd ps ds) (hd : Vals dvs ds) (hx : yT CX X E)
    (ha : PA X (e :: es) t) (hdb : (x == ("__debug__" : Str)) = false := by decide) (he : starEach (e :: es) X.env = (false, eval e X.env) :: starEach es X.env := by rfl) (hpl : (backTo pos (starEach es X.env)).any (·.1) = false := by rfl) :
    PE X (.Call (.Name x p) (e :: es) [] pos) (Ds C sp dvs E t) := by
  intro pins s σ H Q I h
  refine wpAny_Call_Name_kw (uA I hg hm ?_ hdb)
  refine PySem.W.callWith_K (h₀ := X.base) I.ok.mod.kin M.kp (thn (ha pos pins s σ H _ I h) fun us s1 ⟨vs, H1, I1, r, q⟩ => ⟨I1.kIn, ?_⟩) he hpl
  exact Cm M F hr hb hd hx I1 r q
end
section
variable {X : Cx} {CX : CXT} {k : Nat} {f C : Addr} {fd : FuncData} {ps ks : List Str} {sp : Sp} {E : XK} {x m : Str} {p pos apos kpos : Pos} {e o : Expr} {es : List Expr} {kws : List Keyword} {te ta : TE} {t tk : TA} {nm : Option Str}
variable {g : List Value → List Value → List Value} {gV : List V → List V → List V}
end
structure FnScope (N P : List Str) (sc : Scope) : Prop where
  kind : sc.kind = .function
  co : sc.isCoroutine = false
  gen : sc.isGenerator = false
  nd : N.Nodup
  pre : N.take P.length = P
  par : ∀ x ∈ P, sc.names.lookup x = some .local ∨ sc.names.lookup x = some .cell
  nofree : ∀ y ∈ sc.names, y.2 ≠ .free
theorem v9 {kindOf : Str → Option NameKind} {x : Str} : ∀ {binds : List (Str × Value)} {m : Str → Option Value}, (∀ v, (x, v) ∉ binds) → bindL kindOf binds m x = m x
  | [], _, _ => rfl
  | (n, v) :: r, m, h => by
    unfold bindL
    rw [v9 fun w hw => h w (List.mem_cons_of_mem _ hw)]
    split
    · have : x ≠ n := by rintro rfl; exact h v List.mem_cons_self
      simp [this]
    · rfl
theorem vx {kindOf : Str → Option NameKind} {x : Str} : ∀ {binds : List (Str × Value)} {m : Str → Option Value}, (∀ v, (x, v) ∉ binds) → bindC kindOf binds m x = m x
  | [], _, _ => rfl
  | (n, v) :: r, m, h => by
    unfold bindC
    rw [vx fun w hw => h w (List.mem_cons_of_mem _ hw)]
    split
    · rfl
    · have : x ≠ n := by rintro rfl; exact h v List.mem_cons_self
      simp [this]
theorem vN {kindOf : Str → Option NameKind} {x : Str} {v : Value} : ∀ {P : List Str} {vs : List Value} {i : Nat} {m : Str → Option Value}, P.Nodup → P[i]? = some x → vs[i]? = some v → kindOf x = some .local →
    bindL kindOf (P.zip vs) m x = some v
  | [], _, _, _, _, h, _, _ => by simp at h
  | _ :: _, [], _, _, _, _, h, _ => by simp at h
  | p :: P, w :: vs, 0, m, nd, h1, h2, hk => by
    simp at h1 h2; subst h1; subst h2
    show bindL kindOf ((p, w) :: P.zip vs) m p = _
    unfold bindL
    rw [v9 fun v hv => (List.nodup_cons.mp nd).1 (List.of_mem_zip hv).1, if_pos hk]
    simp
  | p :: P, w :: vs, i + 1, m, nd, h1, h2, hk => by
    show bindL kindOf ((p, w) :: P.zip vs) m x = _
    unfold bindL
    exact vN (i := i) (List.nodup_cons.mp nd).2 (by simpa using h1) (by simpa using h2) hk
theorem vE {kindOf : Str → Option NameKind} {x : Str} {v : Value} : ∀ {P : List Str} {vs : List Value} {i : Nat} {m : Str → Option Value}, P.Nodup → P[i]? = some x → vs[i]? = some v → kindOf x ≠ some .local →
    bindC kindOf (P.zip vs) m x = some v
  | [], _, _, _, _, h, _, _ => by simp at h
  | _ :: _, [], _, _, _, _, h, _ => by simp at h
  | p :: P, w :: vs, 0, m, nd, h1, h2, hk => by
    simp at h1 h2; subst h1; subst h2
    show bindC kindOf ((p, w) :: P.zip vs) m p = _
    unfold bindC
    rw [vx fun v hv => (List.nodup_cons.mp nd).1 (List.of_mem_zip hv).1, if_neg hk]
    simp
  | p :: P, w :: vs, i + 1, m, nd, h1, h2, hk => by
    show bindC kindOf ((p, w) :: P.zip vs) m x = _
    unfold bindC
    exact vE (i := i) (List.nodup_cons.mp nd).2 (by simpa using h1) (by simpa using h2) hk
def wM (N : List Str) (vs : List V) : St := vs.map some ++ List.replicate (N.length - vs.length) none
def cxOf (CX : CXT) (P : Program) (w : World) (K : PySem.W.Frag) (mg : Str → Option Value) (base : Heap) (N : List Str) (qual : Str) (scope : Scope) (f : Addr) (cd : Value) (A : Around) (outer : List Env) (s : Shared) (H : Hp) (E : XK) : Cx where
  prog := P
  w := w
  K := K
  mg := mg
  base := base
  A := A.deeper (envOfC qual scope s.heap.objs.size f cd)
  N := N
  s₀ := s
  H₀ := H
  env := envOfC qual scope s.heap.objs.size f cd
  outer := outer
  stack := envOfC qual scope s.heap.objs.size f cd :: outer
  ex := []
  calm := true
  fn := fun _ => true
  pn := []
  xe := fun e s' => wpAny (model P w) (A.deeper (envOfC qual scope s.heap.objs.size f cd)) (leaving (envOfC qual scope s.heap.objs.size f cd) e) (fun _ s'' => CX outer H s E e s'') (fun e' s'' => CX outer H s E e' s'') s'
theorem tE {sc : Scope} {n : Nat} {x : Str} (h : sc.names.lookup x = some .cell) : ∃ c, (cellsFrom n sc.names []).lookup x = some c := by
  have q := PySem.W.cellsFrom_some sc.names n [] (.inl h)
  exact Option.isSome_iff_exists.mp q
theorem Ay {CX : CXT} {P : Program} {w : World} {K : PySem.W.Frag} {mg : Str → Option Value} {base : Heap} {N ps : List Str} {qual : Str} {scope : Scope} {f : Addr} {cd : Value} {A : Around} {outer : List Env} {s s1 : Shared} {H : Hp} {E : XK} {us : List Value} {vs : List V}
    (S : FnScope N ps scope) (hd : A.handled = none) (e0 : Env0 P w K mg base A outer s H) (hl : vs.length = ps.length) (r : Vals vs us)
    (x : InCallC s s.heap.objs.size (bindL (envOfC qual scope s.heap.objs.size f cd).kindOf (ps.zip us) fun _ => none) (cellsFrom (s.heap.objs.size + 1) scope.names []) (bindC (envOfC qual scope s.heap.objs.size f cd).kindOf (ps.zip us) fun _ => none) s1) :
    Inv (cxOf CX P w K mg base N qual scope f cd A outer s H E) [] (wM N vs) H s1 := by
  have hpl : ps.length ≤ N.length := by have := congrArg List.length S.pre; rw [List.length_take] at this; omega
  obtain ⟨h1, tk, rfl, hk⟩ := x.done
  have noA : ∀ b : Addr, b ∉ (cxOf CX P w K mg base N qual scope f cd A outer s H E).ex := fun b z => absurd (show b ∈ ([] : List Addr) from z) (by simp)
  refine ⟨⟨e0.mod, S.kind, rfl, rfl, Nat.le_refl _, fun y z c h1 h2 => ?_, fun y hy => ?_, fun y c _ h => ?_, fun _ => hd, Around.frames_deeper e0.frames, .inr ⟨rfl, rfl⟩, fun b z => absurd z (noA b), e0.bs, e0.bsz, fun b _ _ => noA b, fun b z => absurd z (noA b), e0.funs, e0.frf⟩,
    rfl, e0.bare, Un.kept hk, ⟨_, x.toInCall.ns, fun i y v h1 h2 h3 => ?_⟩, fun y c h => ⟨_, x.cell y c h⟩, e0.hok.fresh (Nat.le_refl _), fun y c h => ?_, fun p hp => absurd (show p ∈ ([] : List (Addr × Obj)) from hp) (by simp), e0.hok.kept hk, ?_⟩
  · exact name_of_addr x.apart (PySem.mem_of_lookup h1) (PySem.mem_of_lookup h2)
  · have hy : scope.names.lookup y = some .cell ∨ scope.names.lookup y = some .free := hy
    rcases hy with hy | hy
    · exact tE hy
    · exact absurd rfl (S.nofree _ (PySem.mem_of_lookup hy))
  · exact Nat.le_of_lt (x.above y c (PySem.mem_of_lookup h))
  · have hi : i < vs.length := by
      unfold wM at h2
      by_cases hi : i < vs.length
      · exact hi
      · rw [List.getElem?_append_right (by simpa using hi)] at h2
        rw [List.getElem?_replicate] at h2
        split at h2 <;> cases h2
    have ha : vs[i]? = some v := by
      unfold wM at h2
      rw [List.getElem?_append_left (by simpa using hi), List.getElem?_map] at h2
      cases e : vs[i]? with
      | none => rw [e] at h2; cases h2
      | some a => rw [e] at h2; cases h2; rfl
    obtain ⟨u, hu, rv⟩ := r.get ha
    have hp : ps[i]? = some y := by
      rw [← S.pre, List.getElem?_take_of_lt (by omega)]; exact h1
    have ndP : ps.Nodup := by rw [← S.pre]; exact S.nd.sublist (List.take_sublist _ _)
    refine ⟨u, rv, ?_⟩
    rcases S.par y (List.mem_of_getElem? hp) with k | k
    · exact .inl ⟨k, vN ndP hp hu k⟩
    · obtain ⟨c, e⟩ := tE (n := s.heap.objs.size + 1) k
      refine .inr ⟨.inl k, c, e, ?_⟩
      have q := x.cell y c e
      rw [vE ndP hp hu (by show scope.names.lookup y ≠ _; rw [k]; decide)] at q
      exact q
  · exact e0.hok.fresh (Nat.le_of_lt (x.above y c (PySem.mem_of_lookup h)))
  · unfold wM
    show _ = N.length
    rw [List.length_append, List.length_map, List.length_replicate]
    omega
theorem Fi {CX : CXT} {P : Program} {w : World} {K : PySem.W.Frag} {mg : Str → Option Value} {base : Heap} {k : Nat} {f : Addr} {name qual : Str} {params : Arguments} {body : List Stmt} {scope : Scope} {dV kV doc pm cdv ct oc : Value} {an od : Option Addr}
    {osl : Array (Option Value)} {N ps : List Str} {sp : Sp} (lk : K.lookup f = some ⟨oc, od, .func (PySem.W.fnOf name qual params body scope dV kV doc pm an cdv ct), osl⟩) (hcd : PySem.W.codeIn K cdv qual = true) (S : FnScope N ps scope)
    (len : ∀ vs H Q E, sp vs H Q E → vs.length = ps.length)
    (hbody : ∀ (A : Around) (outer : List Env) (s : Shared) (H : Hp) (vs : List V) (Q : VK) (E : XK), Room k (A.deeper (envOfC qual scope s.heap.objs.size f cdv)) → sp vs H Q E →
      ∃ t, PSs (cxOf CX P w K mg base N qual scope f cdv A outer s H E) body t ∧ t { nx := fun _ H' => Q .non H', rt := Q } (wM N vs) H) :
    FnOk P w K mg base CX (k + 1) f (PySem.W.fnOf name qual params body scope dV kV doc pm an cdv ct) ps sp := by
  refine ⟨len, fun A outer s H args us vs Q E hr e0 hb r hsp => ?_⟩
  have hl := len _ _ _ _ hsp
  have KX : K.In s.heap := e0.mod.kin.keeps fun b o e => (e0.bs b o e).1
  have lim : s.heap.NoLimit := e0.mod.nolimit.keeps fun b o e => (e0.bs b o e).1
  have hkind : ∀ y ∈ ps.zip us, scope.names.lookup y.1 = some .local ∨ (scope.names.lookup y.1 = some .cell ∧ ((cellsFrom (s.heap.objs.size + 1) scope.names []).lookup y.1).isSome = true) := fun ⟨n, v⟩ hy => by
    rcases S.par n (List.of_mem_zip hy).1 with q | q
    · exact .inl q
    · exact .inr ⟨q, PySem.W.cellsFrom_some _ _ _ (.inl q)⟩
  refine codeAny_call_function hr.depth (KX _ _ lk) rfl S.co S.gen rfl (PySem.W.codeRec_of KX hcd) (hb _ _ _ _ ?_)
  refine wpAny_newFunctionEnv_cells S.kind hkind fun env he s1 x => ?_
  subst he
  refine ⟨lim.keeps x.toInCall.keep, codeAny_func ?_⟩
  obtain ⟨t, ht, hq⟩ := hbody A outer s H vs Q E (hr.deeper _) hsp
  have I : Inv (cxOf CX P w K mg base N qual scope f cdv A outer s H E) [] (wM N vs) H s1 := Ay S hr.hd e0 hl r x
  refine wpAny_mono (ht [] s1 (wM N vs) H _ I hq) (fun fl s' hs => ?_) fun e s' hs => hs
  have fin : ∀ {σ' : St} {H' : Hp} {v : V} {u : Value}, Inv (cxOf CX P w K mg base N qual scope f cdv A outer s H E) [] σ' H' s' → RelV v u → Q v H' → CE outer P w H s Q u s' :=
    fun {σ' H' v u} J rv q => ⟨v, H', J.os, J.bare, J.base, J.hok, rv, q⟩
  cases fl with
  | ret u =>
    obtain ⟨v, σ', H', J, rv, q⟩ := hs
    exact fin J rv q
  | next =>
    obtain ⟨σ', H', J, q⟩ := hs
    exact fin (v := V.non) (u := Value.none) J rfl q
  | brk =>
    obtain ⟨_, _, _, q⟩ := hs
    exact False.elim q
  | cont =>
    obtain ⟨_, _, _, q⟩ := hs
    exact False.elim q
end L2
namespace L2
open PySem PySem.Spec PyProof.Rows
section
variable {X : Cx} {x : Str} {p pos : Pos} {e : Expr} {es : List Expr} {t : TA} {id T : String} {r : List V → Hp → VK → Prop}
def tCB (r : List V → Hp → VK → Prop) (t : TA) : TE := fun σ H Q => t σ H fun vs H1 => r vs H1 Q
theorem zw (hc : yE X (.builtin id) r) (hg : Gl X x) (hm : X.mg x = none) (hv : bootBuiltins x = some (.builtin id)) (ha : PA X (e :: es) t) (hn : x ≠ "__name__" := by decide) (hdb : (x == ("__debug__" : Str)) = false := by decide)
    (he : starEach (e :: es) X.env = (false, eval e X.env) :: starEach es X.env := by rfl) (hpl : (backTo pos (starEach es X.env)).any (·.1) = false := by rfl) : PE X (.Call (.Name x p) (e :: es) [] pos) (tCB r t) := by
  intro pins s σ H Q I h
  refine wpAny_Call_Name_kw (vF I hg hm hv ?_ hn hdb)
  exact PyProof.Rows.callWith_builtin1 (thn (ha pos pins s σ H _ I h) fun us s1 ⟨vs, H1, I1, r1, q1⟩ => hc pins s1 σ H1 vs us Q I1 r1 q1) he hpl
theorem y9 (hc : yE X (.type T) r) (hg : Gl X x) (hm : X.mg x = none) (hv : bootBuiltins x = some (.type T)) (ha : PA X (e :: es) t) (hn : x ≠ "__name__" := by decide) (hdb : (x == ("__debug__" : Str)) = false := by decide)
    (he : starEach (e :: es) X.env = (false, eval e X.env) :: starEach es X.env := by rfl) (hpl : (backTo pos (starEach es X.env)).any (·.1) = false := by rfl) : PE X (.Call (.Name x p) (e :: es) [] pos) (tCB r t) := by
  intro pins s σ H Q I h
  refine wpAny_Call_Name_kw (vF I hg hm hv ?_ hn hdb)
  exact PyProof.Rows.callWith_type1 (thn (ha pos pins s σ H _ I h) fun us s1 ⟨vs, H1, I1, r1, q1⟩ => hc pins s1 σ H1 vs us Q I1 r1 q1) he hpl
end
end L2
namespace HT
open PySem PyProof.Rows
section
open PySem.SeqAt
open PySem.AutoSeq1 (wpAny_loadPart')
open PySem.MeetsSeq PySem.MeetsSeq2 PySem.MeetsSeq3
end
section
variable {prog : Program} {w : World} {A : Around} {E : Value → Shared → Prop} {s : Shared}
def sIx (n d : Nat) : Option Int → Nat
  | none => d
  | some v => if v < 0 then (v + (n : Int)).toNat else min v.toNat n
theorem sIx_none (n d : Nat) : sIx n d none = d := rfl
theorem sIx_nat (n d k : Nat) : sIx n d (some (k : Int)) = min k n := by
  show (if (k : Int) < 0 then ((k : Int) + (n : Int)).toNat else min (k : Int).toNat n) = min k n
  rw [if_neg (by omega), Int.toNat_natCast]
end
end HT
namespace L2
open PySem PySem.Spec PyProof.Rows
abbrev TO := St → Hp → (Option Int → Hp → Prop) → Prop
def PO (X : Cx) (e : Option Expr) (t : TO) : Prop :=
  ∀ (pins : List (Addr × Obj)) (s : Shared) (σ : St) (H : Hp) (Q : Option Int → Hp → Prop), Inv X pins σ H s → t σ H Q →
    wpAny (model X.prog X.w) X.A (evalPart e X.env) (fun u s' => ∃ o H', Inv X pins σ H' s' ∧ IsPart u o ∧ Q o H') X.xe s
def Bt : TO := fun _ H Q => Q none H
def Fs (t : TE) : TO := fun σ H Q => t σ H fun x H1 => ∃ i, x = .int i ∧ Q (some i) H1
section
variable {X : Cx} {e : Expr} {te : TE} {lo hi : Option Expr} {tl th : TO} {pos p2 : Pos}
theorem vc : PO X none Bt := by
  intro pins s σ H Q I h
  rw [evalPart_none]
  exact wpAny_pure ⟨none, H, I, .none, h⟩
theorem yL (h : PE X e te) : PO X (some e) (Fs te) := by
  intro pins s σ H Q I hw
  rw [evalPart_some]
  refine thn (h pins s σ H _ I hw) fun u s1 ⟨x, H1, I1, r1, q1⟩ => ?_
  obtain ⟨i, rfl, q⟩ := q1
  obtain ⟨t, rfl⟩ := r1
  exact ⟨some i, H1, I1, .int i t, q⟩
def SlR (X : Cx) (r : V → Option Int → Option Int → Hp → VK → Prop) : Prop :=
  ∀ (pins : List (Addr × Obj)) (s : Shared) (σ : St) (H : Hp) (x : V) (v vl vu : Value) (lo hi : Option Int) (sl : Addr) (Q : VK), Inv X pins σ H s → RelV x v → s.heap.IsSliceOf sl vl vu .none → IsPart vl lo → IsPart vu hi → r x lo hi H Q →
    ∃ T id, typeLookup (.type T) "__getitem__" = pure (some (.builtin id)) ∧ s.TypeIs v T ∧ wpAny (model X.prog X.w) X.A (getItem v (.ref sl)) (EP X pins σ Q) X.xe s
def tSl (r : V → Option Int → Option Int → Hp → VK → Prop) (te : TE) (tl th : TO) : TE := fun σ H Q => te σ H fun x H1 => tl σ H1 fun l H2 => th σ H2 fun u H3 => r x l u H3 Q
theorem yP {r : V → Option Int → Option Int → Hp → VK → Prop} (hr : SlR X r) (he : PE X e te) (hl : PO X lo tl) (hu : PO X hi th) : PE X (.Subscript e (.Slice lo hi none p2) pos) (tSl r te tl th) := by
  intro pins s σ H Q I h
  refine Subscript_ (thn (he pins s σ H _ I h) fun v s1 ⟨x, H1, I1, r1, q1⟩ => ?_)
  refine wpAny_Slice (thn (hl pins s1 σ H1 _ I1 q1) fun vl s2 ⟨l, H2, I2, pl, q2⟩ => thn (hu pins s2 σ H2 _ I2 q2) fun vu s3 ⟨u, H3, I3, pu, q3⟩ => ?_)
  rw [evalPart_none]
  refine wpAny_pure ?_
  have I4 : Inv X pins σ H3 { s3 with heap := s3.heap.push { cls := .type "slice", data := .fields #[vl, vu, .none] } } := I3.kept (t' := s3.toks) fun b ob q => Heap.get?_push_of_some _ q
  obtain ⟨T, id, hT, ht, hg⟩ := hr pins { s3 with heap := s3.heap.push { cls := .type "slice", data := .fields #[vl, vu, .none] } } σ H3 x v vl vu l u s3.heap.objs.size Q I4 r1 (Heap.IsSliceOf.new ..) pl pu q3
  show wpAny (model X.prog X.w) X.A (subscriptTail e (.Slice lo hi none p2) v (.ref s3.heap.objs.size)) (EP X pins σ Q) X.xe { s3 with heap := s3.heap.push { cls := .type "slice", data := .fields #[vl, vu, .none] } }
  exact tail_any (ops := [.ref s3.heap.objs.size, v]) ht hT hg (by with_unfolding_all rfl)
def cutV (xs : List V) (lo hi : Option Int) : List V := (xs.drop (HT.sIx xs.length 0 lo)).take (HT.sIx xs.length xs.length hi - HT.sIx xs.length 0 lo)
theorem ul (xs : List V) (lo hi : Option Int) : (cutV xs lo hi).length ≤ xs.length := by
  unfold cutV
  rw [List.length_take, List.length_drop]
  omega
end
end L2
namespace L2
open PySem PySem.Spec PyProof.Rows
def ixN (n : Nat) (i : Int) : Option Nat := if 0 ≤ i then (if i < n then some i.toNat else none) else if -(n : Int) ≤ i then some (i + n).toNat else none
def atI {α : Type} (xs : List α) (i : Int) : Option α := (ixN xs.length i).bind fun j => xs[j]?
theorem AK {n : Nat} {i : Int} {j : Nat} (h : ixN n i = some j) : seqIndex? i n = some j ∧ j < n ∧ -(n : Int) ≤ i ∧ i < n := by
  unfold ixN at h
  by_cases h0 : 0 ≤ i
  · rw [if_pos h0] at h
    by_cases h1 : i < n
    · rw [if_pos h1] at h
      have e : i.toNat = j := Option.some.inj h
      exact ⟨by rw [seqIndex_of h0 h1, e], by omega, by omega, h1⟩
    · rw [if_neg h1] at h; cases h
  · rw [if_neg h0] at h
    by_cases h1 : -(n : Int) ≤ i
    · rw [if_pos h1] at h
      have e : (i + n).toNat = j := Option.some.inj h
      exact ⟨by rw [seqIndex_neg (by omega) h1, e], by omega, h1, by omega⟩
    · rw [if_neg h1] at h; cases h
theorem Bj {α : Type} {xs : List α} {i : Int} {v : α} (h : atI xs i = some v) : ∃ j, seqIndex? i xs.length = some j ∧ xs[j]? = some v ∧ j < xs.length ∧ -(xs.length : Int) ≤ i ∧ i < xs.length := by
  unfold atI at h
  cases e : ixN xs.length i with
  | none => rw [e] at h; cases h
  | some j =>
    rw [e] at h
    obtain ⟨h1, h2, h3, h4⟩ := AK e
    exact ⟨j, h1, h, h2, h3, h4⟩
theorem yJ {α : Type} {xs : List α} {j : Nat} {v : α} (h : xs[j]? = some v) : atI xs (j : Int) = some v := by
  have hj : j < xs.length := (List.getElem?_eq_some_iff.mp h).1
  have e : ixN xs.length (j : Int) = some j := by
    unfold ixN
    rw [if_pos (by omega), if_pos (by omega)]; simp
  unfold atI; rw [e]; exact h
theorem Cw {α : Type} (xs : List α) (v : α) : atI (xs ++ [v]) (-1) = some v := by
  have hl : (xs ++ [v]).length = xs.length + 1 := by simp
  have e : ixN (xs ++ [v]).length (-1) = some xs.length := by
    unfold ixN
    rw [hl, if_neg (by decide), if_pos (by omega)]
    congr 1
    omega
  unfold atI
  rw [e]
  show (xs ++ [v])[xs.length]? = some v
  simp
def Eu (b : Expr) : Prop := ∀ o i, subscripted b false o i = operate [o, i] (getItem o i)
def IxR (X : Cx) (r : R2) : Prop :=
  ∀ (value slice : Expr) (pins : List (Addr × Obj)) (s : Shared) (σ : St) (H : Hp) (x y : V) (v u : Value) (Q : VK), Inv X pins σ H s → RelV x v → RelV y u → r x y H Q →
    subscripted slice false v u = operate [v, u] (getItem v u) → wpAny (model X.prog X.w) X.A (subscriptTail value slice v u) (EP X pins σ Q) X.xe s
def MtR (X : Cx) (id : String) (r : V → List V → Hp → VK → Prop) : Prop :=
  ∀ (pins : List (Addr × Obj)) (s : Shared) (σ : St) (H : Hp) (x : V) (xs : List V) (v : Value) (us : List Value) (Q : VK), Inv X pins σ H s → RelV x v → Vals xs us → r x xs H Q →
    wpAny (model X.prog X.w) X.A (call (.builtin id) (v :: us)) (EP X pins σ Q) X.xe s
section
variable {X : Cx} {a b : Expr} {ta tb : TE} {pos : Pos}
theorem zh {r : R2} (hr : IxR X r) (ha : PE X a ta) (hb : PE X b tb) (hs : Eu b) : PE X (.Subscript a b pos) (tOp r ta tb) := by
  intro pins s σ H Q I h
  exact Subscript_ (binT ha hb I h fun v u s2 x y H2 I2 rx ry q => hr a b pins s2 σ H2 x y v u Q I2 rx ry q (hs _ _))
def rIxL (K : PySem.W.Frag) : R2 := fun x y H Q => ∃ p xs i v, x = .ref p ∧ y = .int i ∧ SqL K H p xs ∧ atI xs i = some v ∧ Q v H
def rIxT (K : PySem.W.Frag) : R2 := fun x y H Q => ∃ p xs i v, x = .ref p ∧ y = .int i ∧ SqT K H p xs ∧ atI xs i = some v ∧ Q v H
theorem zq : IxR X (rIxL X.K) := by
  intro value slice pins s σ H x y v u Q I rx ry h hs
  obtain ⟨p, xs, i, z, rfl, rfl, hq, he, q⟩ := h
  cases rx
  obtain ⟨t, rfl⟩ := ry
  obtain ⟨its, r, pl, hz⟩ := I.list hq
  obtain ⟨j, h1, h2, h3, h4, h5⟩ := Bj he
  obtain ⟨w, ew, rw'⟩ := r.get h2
  have hl := r.length
  have hn := uO
  have fin : EP X pins σ Q w s := ⟨z, H, I, rw', q⟩
  by_cases h0 : 0 ≤ i
  · have hj : i.toNat = j := by
      rw [seqIndex_of h0 h5] at h1
      exact Option.some.inj h1
    exact item_listR pl.isList h0 (by omega) (by rw [hj]; simpa using ew) fin hs
  · have hj : (i + (its.toArray.size : Int)).toNat = j := by
      rw [seqIndex_neg (by omega) h4] at h1
      rw [List.size_toArray, ← hl]
      exact Option.some.inj h1
    exact subscriptTail_builtinR (x := w) pl.isList.typeIs slot_list_getitem.lookup
      (wpAny_getItem_list_neg (Q := fun r s' => r = w ∧ EP X pins σ Q r s') pl.isList (by omega) (by rw [List.size_toArray] <;> omega) (by omega) (by rw [hj]; simpa using ew) ⟨rfl, fin⟩) hs
theorem zg : IxR X (rIxT X.K) := by
  intro value slice pins s σ H x y v u Q I rx ry h hs
  obtain ⟨p, xs, i, z, rfl, rfl, hq, he, q⟩ := h
  cases rx
  obtain ⟨t, rfl⟩ := ry
  obtain ⟨its, r, pl, hz⟩ := I.tuple hq
  obtain ⟨j, h1, h2, h3, h4, h5⟩ := Bj he
  obtain ⟨w, ew, rw'⟩ := r.get h2
  have hl := r.length
  have hn := uO
  have fin : EP X pins σ Q w s := ⟨z, H, I, rw', q⟩
  exact subscriptTail_builtinR (x := w) pl.typeIs slot_tuple_getitem.lookup
    (getItem_tuple (j := j) (Q := fun r s' => r = w ∧ EP X pins σ Q r s') pl (by omega) (by omega) (by rw [List.size_toArray, ← hl]; exact h1) (by simpa using ew) ⟨rfl, fin⟩) hs
theorem tM (its : List Value) (n j : Nat) (u : Value) : Obj.mapSeq (·.setIfInBounds j u) { cls := .type "list", data := .seq its.toArray n } = { cls := .type "list", data := .seq (its.set j u).toArray n } := by
  simp [Obj.mapSeq]
theorem Inv.lst {pins : List (Addr × Obj)} {σ : St} {H : Hp} {s : Shared} {p : Addr} {xs : List V} (I : Inv X pins σ H s) (h : H p = some (.lst xs)) :
    ∃ (its : List Value) (n : Nat), Vals xs its ∧ s.heap.get? p = some { cls := .type "list", data := .seq its.toArray n } ∧ xs.length ≤ sizeLine := by
  obtain ⟨z, its, n, r, e⟩ := I.hok p _ h
  exact ⟨its, n, r, e, z⟩
theorem Inv.lstUpd {pins : List (Addr × Obj)} {σ : St} {H : Hp} {s : Shared} {p : Addr} {xs ys : List V} {its its' : List Value} {n n' : Nat} {f : Obj → Obj} (I : Inv X pins σ H s) (h : H p = some (.lst xs))
    (ho : s.heap.get? p = some { cls := .type "list", data := .seq its.toArray n }) (hf : f { cls := .type "list", data := .seq its.toArray n } = { cls := .type "list", data := .seq its'.toArray n' }) (r : Vals ys its') (hz : ys.length ≤ sizeLine) (t : Nat) :
    Inv X pins σ (upd H p (.lst ys)) { s with heap := s.heap.update p f, toks := t } := by
  have e : (s.heap.update p f).get? p = some { cls := .type "list", data := .seq its'.toArray n' } := by
    rw [Heap.get?_update_self f ho (by rw [hf] <;> rfl), hf]
  refine I.write (x := p) (e := p) (by rw [h]; trivial) (.inl rfl) (fun b u hb q => (Heap.get?_update_other _ _ (Ne.symm hb)).trans q) ⟨_, e⟩ ?_
  exact ⟨hz, its', n', r, e⟩
def FN : V → V → V → Hp → (Hp → Prop) → Prop := fun o i v H Q => ∃ p xs k j, o = .ref p ∧ i = .int k ∧ H p = some (.lst xs) ∧ ixN xs.length k = some j ∧ Q (upd H p (.lst (xs.set j v)))
theorem Cv : PSet X FN := by
  intro pins s σ H o i v ov iv u Q I ro ri rv h
  obtain ⟨p, xs, k, j, rfl, rfl, hp, hj, q⟩ := h
  cases ro
  obtain ⟨t, rfl⟩ := ri
  obtain ⟨its, n, r, ho, hz⟩ := I.lst hp
  obtain ⟨h1, h2, h3, h4⟩ := AK hj
  have hl := r.length
  have hn := uO
  have I' : Inv X pins σ (upd H p (.lst (xs.set j v))) { s with heap := s.heap.update p (Obj.mapSeq (·.setIfInBounds j u)) } :=
    I.lstUpd hp ho (tM its n j u) (r.set rv j) (by rw [List.length_set]; exact hz) s.toks
  by_cases h0 : 0 ≤ k
  · have hk : k.toNat = j := by
      rw [seqIndex_of h0 h4] at h1
      exact Option.some.inj h1
    exact PySem.W.ki_setAt ho h0 (by omega) (by rw [List.size_toArray, ← hl]; exact h4) (by rw [hk]; exact ⟨_, I', q⟩)
  · have hk : (k + (its.toArray.size : Int)).toNat = j := by
      rw [seqIndex_neg (by omega) h3] at h1
      rw [List.size_toArray, ← hl]
      exact Option.some.inj h1
    exact PySem.W.ki_setBack ho (by omega) (by rw [List.size_toArray, ← hl]; exact h3) (by omega) (by rw [hk]; exact ⟨_, I', q⟩)
theorem vJ (lo hi : Option Int) (n : Nat) : (sliceBounds lo hi none n).1 = ((HT.sIx n 0 lo : Nat) : Int) ∧ (sliceBounds lo hi none n).2.1 = ((HT.sIx n n hi : Nat) : Int) ∧ (sliceBounds lo hi none n).2.2 = 1 := by
  refine ⟨?_, ?_, rfl⟩
  · cases lo with
    | none => simp [sliceBounds, HT.sIx]
    | some i =>
      simp only [sliceBounds, HT.sIx, Option.getD_none, show (1 : Int) > 0 by decide, if_true]
      by_cases h : i < 0
      · simp only [h, if_true] <;> omega
      · simp only [h, if_false] <;> omega
  · cases hi with
    | none => simp [sliceBounds, HT.sIx]
    | some i =>
      simp only [sliceBounds, HT.sIx, Option.getD_none, show (1 : Int) > 0 by decide, if_true]
      by_cases h : i < 0
      · simp only [h, if_true] <;> omega
      · simp only [h, if_false] <;> omega
theorem vm (its : List Value) (lo hi : Option Int) : slicePick its.toArray lo hi none = ((its.drop (HT.sIx its.length 0 lo)).take (HT.sIx its.length its.length hi - HT.sIx its.length 0 lo)).toArray := by
  obtain ⟨h1, h2, h3⟩ := vJ lo hi its.toArray.size
  unfold slicePick
  rw [h1, h2, h3]
  simp only [sliceRange_one, pick_run, List.size_toArray] <;> rfl
def rSlL (K : PySem.W.Frag) : V → Option Int → Option Int → Hp → VK → Prop := fun x lo hi H Q => ∃ a xs, x = .ref a ∧ SqL K H a xs ∧ ∀ p, H p = none → Q (.ref p) (upd H p (.lst (cutV xs lo hi)))
theorem xm : SlR X (rSlL X.K) := by
  intro pins s σ H x v vl vu lo hi sl Q I rx hs pl pu h
  obtain ⟨a, xs, rfl, hx, q⟩ := h
  cases rx
  obtain ⟨its, r, ht, hz⟩ := I.list hx
  have hlen := r.length
  refine ⟨"list", _, slot_list_getitem.lookup, ht.isList.typeIs, ?_⟩
  refine wpAny_getItem_list_slice ht.isList hs pl pu .none (by simp) ?_ (by rw [List.size_toArray] <;> omega)
  rw [vm, ← hlen]
  refine ⟨.ref s.heap.objs.size, _, I.laid (t' := s.toks) (o := .lst (cutV xs lo hi)) (fun b ob q => Heap.get?_push_of_some _ q) (Nat.le_refl _) ?_, rfl, q _ (I.hok.fresh (Nat.le_refl _))⟩
  exact ⟨Nat.le_trans (ul xs lo hi) hz, _, 0, (r.drop (HT.sIx xs.length 0 lo)).take (HT.sIx xs.length xs.length hi - HT.sIx xs.length 0 lo), Heap.get?_push_size _ rfl⟩
def wf : V → Bool
  | .non => true
  | .bl _ => true
  | .int _ => true
  | .str _ => true
  | _ => false
def eqV : V → V → Bool
  | .non, .non => true
  | .bl a, .bl b => a == b
  | .bl a, .int b => (if a then 1 else 0) == b
  | .int a, .bl b => a == (if b then 1 else 0)
  | .int a, .int b => a == b
  | .str a, .str b => a == b
  | _, _ => false
theorem Gg {A : Around} {s : Shared} {y x : V} {u v : Value} (ry : RelV y u) (rx : RelV x v) (fy : wf y = true) (fx : wf x = true) : SeqAt.EqAt A s u v (eqV y x) := by
  cases y with
  | non =>
    cases ry
    cases x with
    | non => cases rx; exact SeqAt.EqAt.same _
    | bl b => cases rx; exact SeqAt.EqAt.none_bool b
    | int b => obtain ⟨t, rfl⟩ := rx; exact SeqAt.EqAt.none_int b t
    | str b => obtain ⟨t, rfl⟩ := rx; exact SeqAt.EqAt.none_str b t
    | _ => exact absurd (show false = true from fx) Bool.false_ne_true
  | bl a =>
    cases ry
    cases x with
    | non => cases rx; exact SeqAt.EqAt.bool_none a
    | bl b => cases rx; exact SeqAt.EqAt.bool_bool a b
    | int b => obtain ⟨t, rfl⟩ := rx; exact SeqAt.EqAt.bool_int a b t
    | str b => obtain ⟨t, rfl⟩ := rx; exact SeqAt.EqAt.bool_str a b t
    | _ => exact absurd (show false = true from fx) Bool.false_ne_true
  | int a =>
    obtain ⟨t', rfl⟩ := ry
    cases x with
    | non => cases rx; exact SeqAt.EqAt.int_none a t'
    | bl b => cases rx; exact SeqAt.EqAt.int_bool a t' b
    | int b => obtain ⟨t, rfl⟩ := rx; exact SeqAt.EqAt.int_int a t' b t
    | str b => obtain ⟨t, rfl⟩ := rx; exact SeqAt.EqAt.int_str a t' b t
    | _ => exact absurd (show false = true from fx) Bool.false_ne_true
  | str a =>
    obtain ⟨t', rfl⟩ := ry
    cases x with
    | non => cases rx; exact SeqAt.EqAt.str_none a t'
    | bl b => cases rx; exact SeqAt.EqAt.str_bool a t' b
    | int b => obtain ⟨t, rfl⟩ := rx; exact SeqAt.EqAt.str_int a t' b t
    | str b => obtain ⟨t, rfl⟩ := rx; exact SeqAt.EqAt.str_str a t' b t
    | _ => exact absurd (show false = true from fx) Bool.false_ne_true
  | _ => exact absurd (show false = true from fy) Bool.false_ne_true
def eqU (x : V) (u : Value) : Bool := match u with
  | .none => eqV .non x
  | .bool b => eqV (.bl b) x
  | .int i _ => eqV (.int i) x
  | .str z _ => eqV (.str z) x
  | _ => false
theorem CQ {x y : V} {u : Value} (r : RelV y u) (f : wf y = true) : eqU x u = eqV y x := by
  cases y with
  | non => cases r; rfl
  | bl b => cases r; rfl
  | int i => obtain ⟨t, rfl⟩ := r; rfl
  | str z => obtain ⟨t, rfl⟩ := r; rfl
  | _ => exact absurd (show false = true from f) Bool.false_ne_true
theorem ut {x : V} : ∀ {xs : List V} {us : List Value}, Vals xs us → xs.all wf = true → us.any (eqU x) = xs.any fun y => eqV y x
  | _, _, .nil, _ => rfl
  | y :: xs, u :: us, .cons r t, f => by
    rw [List.all_cons, Bool.and_eq_true] at f
    rw [List.any_cons, List.any_cons, CQ r f.1, ut t f.2]
theorem vg {A : Around} {s : Shared} {x : V} {v : Value} (rx : RelV x v) (fx : wf x = true) : ∀ {xs : List V} {us : List Value}, Vals xs us → xs.all wf = true → ∀ u ∈ us, SeqAt.EqAt A s u v (eqU x u)
  | _, _, .nil, _ => fun u hu => by cases hu
  | y :: xs, u :: us, .cons r t, f => fun u' hu => by
    rw [List.all_cons, Bool.and_eq_true] at f
    rcases List.mem_cons.mp hu with rfl | hu
    · rw [CQ r f.1]; exact Gg r rx f.1 fx
    · exact vg rx fx t f.2 u' hu
def inV (x : V) (xs : List V) : Bool := xs.any fun y => eqV y x
def rIn (K : PySem.W.Frag) (neg : Bool) : R2 := fun x y H Q => ∃ p xs, y = .ref p ∧ (SqL K H p xs ∨ SqT K H p xs) ∧ wf x = true ∧ xs.all wf = true ∧ Q (.bl (if neg then !inV x xs else inV x xs)) H
theorem yK : OpR X (compareOp .In) (rIn X.K false) := by
  intro pins s σ H x y v u Q I rx ry h
  obtain ⟨p, xs, rfl, hq, fx, fs, q⟩ := h
  cases ry
  rcases hq with hq | hq
  · obtain ⟨its, r, pl, hz⟩ := I.list hq
    refine SeqAt.in_listAt (eqU x) pl.isList (fun w hw => vg rx fx r fs w (by simpa using hw)) ⟨.bl _, H, I, rfl, ?_⟩
    rw [show its.toArray.any (eqU x) = its.any (eqU x) by simp, ut r fs]
    exact q
  · obtain ⟨its, r, pl, hz⟩ := I.tuple hq
    refine SeqAt.in_tupleAt (eqU x) pl (fun w hw => vg rx fx r fs w (by simpa using hw)) ⟨.bl _, H, I, rfl, ?_⟩
    rw [show its.toArray.any (eqU x) = its.any (eqU x) by simp, ut r fs]
    exact q
theorem v8 : yE X (.builtin "len") (fun xs H Q => ∃ p ys, xs = [.ref p] ∧ (SqL X.K H p ys ∨ SqT X.K H p ys) ∧ Q (.int ys.length) H) := by
  intro pins s σ H xs us Q I r h
  obtain ⟨p, ys, rfl, hq, q⟩ := h
  obtain ⟨u, rfl, rx⟩ := tU r
  cases rx
  have hn := uO
  rcases hq with hq | hq
  · obtain ⟨its, r', pl, hz⟩ := I.list hq
    have hlen := r'.length
    exact Calls.call_len_list pl.isList (by simp only [List.size_toArray] <;> omega) ⟨.int ys.length, H, I.tok _, ⟨s.toks + 1, by rw [List.size_toArray, hlen]⟩, q⟩
  · obtain ⟨its, r', pl, hz⟩ := I.tuple hq
    have hlen := r'.length
    exact len_tuple pl (by simp only [List.size_toArray] <;> omega) ⟨.int ys.length, H, I.tok _, ⟨s.toks + 1, by rw [List.size_toArray, hlen]⟩, q⟩
theorem vP : yE X (.type "list") (fun xs H Q => ∃ p ys, xs = [.ref p] ∧ (SqL X.K H p ys ∨ SqT X.K H p ys) ∧ ∀ l, H l = none → Q (.ref l) (upd H l (.lst ys))) := by
  intro pins s σ H xs us Q I r h
  obtain ⟨p, ys, rfl, hq, q⟩ := h
  obtain ⟨u, rfl, rx⟩ := tU r
  cases rx
  have fin : ∀ (its : List Value), Vals ys its → ys.length ≤ sizeLine → ∀ (h' : Heap) (c' : Nat), (∀ b o', s.heap.get? b = some o' → h'.get? b = some o') →
      h'.get? s.heap.objs.size = some { cls := .type "list", dict := none, data := .seq its.toArray c', slots := #[] } → EP X pins σ Q (.ref s.heap.objs.size) { s with heap := h' } := fun its r' hz h' c' kp e =>
    ⟨.ref s.heap.objs.size, _, I.laid (t' := s.toks) kp (Nat.le_refl _) (show ObjOk X.prog X.w _ h' _ (.lst ys) from ⟨hz, its, c', r', e⟩), rfl, q _ (I.hok.fresh (Nat.le_refl _))⟩
  rcases hq with hq | hq
  · obtain ⟨its, r', pl, hz⟩ := I.list hq
    have hlen := r'.length
    obtain ⟨o, ho, hc, n, hd⟩ := pl.isList
    exact call_list_seq p (.inl rfl) ho hc hd (fun h' c' kp e => fin its r' hz h' c' kp e) (by simp only [List.size_toArray] <;> omega)
  · obtain ⟨its, r', pl, hz⟩ := I.tuple hq
    have hlen := r'.length
    obtain ⟨o, ho, hc, n, hd⟩ := pl
    exact call_list_seq p (.inr rfl) ho hc hd (fun h' c' kp e => fin its r' hz h' c' kp e) (by simp only [List.size_toArray] <;> omega)
theorem wJ : yE X (.type "tuple") (fun xs H Q => ∃ p ys, xs = [.ref p] ∧ ((SqL X.K H p ys ∧ ∀ l, H l = none → Q (.ref l) (upd H l (.tup ys))) ∨ (SqT X.K H p ys ∧ Q (.ref p) H))) := by
  intro pins s σ H xs us Q I r h
  obtain ⟨p, ys, rfl, h⟩ := h
  obtain ⟨u, rfl, rx⟩ := tU r
  cases rx
  rcases h with ⟨hq, q⟩ | ⟨hq, q⟩
  · obtain ⟨its, r', pl, hz⟩ := I.list hq
    have hlen := r'.length
    refine call_tuple_list pl.isList (fun h' kp => ?_) (by simp only [List.size_toArray] <;> omega)
    have I1 : Inv X pins σ H { s with heap := h' } := I.kept (t' := s.toks) kp
    have I2 : Inv X pins σ (upd H h'.objs.size (.tup ys)) { s with heap := h'.push { cls := .type "tuple", data := .seq its.toArray } } :=
      I1.laid (t' := s.toks) (fun b o e => Heap.get?_push_of_some _ e) (Nat.le_refl _) (show ObjOk X.prog X.w _ _ _ (.tup ys) from ⟨hz, its, r', IsTup.new _ _⟩)
    exact ⟨.ref h'.objs.size, _, I2, rfl, q _ (I1.hok.fresh (Nat.le_refl _))⟩
  · obtain ⟨its, r', pl, hz⟩ := I.tuple hq
    exact call_tuple_same pl ⟨.ref p, H, I, rfl, q⟩
def tyV (K : PySem.W.Frag) (T : String) (x : V) (H : Hp) : Prop := match x with
  | .str _ => T = "str"
  | .int _ => T = "int"
  | .ref p => (T = "list" ∧ ∃ xs, SqL K H p xs) ∨ (T = "tuple" ∧ ∃ o, K.lookup p = some o ∧ o.cls = .type "tuple" ∧ o.dict = none) ∨
      (T = "dict" ∧ ((∃ kvs, H p = some (.dK kvs)) ∨ ∃ kvs, H p = some (.dT kvs))) ∨ (T = "set" ∧ ∃ S n, H p = some (.set S n))
  | _ => False
theorem Dh {pins : List (Addr × Obj)} {σ : St} {H : Hp} {s : Shared} {T : String} {x : V} {v : Value} (I : Inv X pins σ H s) (r : RelV x v) (ty : tyV X.K T x H) :
    s.TypeIs v T ∧ ∀ a, v = .ref a → ∃ ob, s.heap.get? a = some ob ∧ ob.dict = none := by
  cases x with
  | str z =>
    obtain ⟨t, rfl⟩ := r
    cases (show T = "str" from ty)
    exact ⟨typeIs_str s z t, fun _ e => nomatch e⟩
  | int i =>
    obtain ⟨t, rfl⟩ := r
    cases (show T = "int" from ty)
    exact ⟨typeIs_int s i t, fun _ e => nomatch e⟩
  | ref p =>
    cases r
    rcases ty with ⟨rfl, xs, hq⟩ | ⟨rfl, o, hk, hc, hd⟩ | ⟨rfl, hk⟩ | ⟨rfl, S, n, hk⟩
    · obtain ⟨its, _, pl, _⟩ := I.list hq
      refine ⟨pl.isList.typeIs, fun a e => ?_⟩
      cases e
      obtain ⟨o, n, e, c, hd, _⟩ := pl
      exact ⟨o, e, hd⟩
    · refine ⟨⟨o, I.kIn p o hk, hc⟩, fun a e => ?_⟩
      cases e
      exact ⟨o, I.kIn _ o hk, hd⟩
    · have z : ∃ o, s.heap.get? p = some o ∧ o.ExactDict := by
        rcases hk with ⟨kvs, hk⟩ | ⟨kvs, hk⟩
        · obtain ⟨_, _, _, _, o, _, _, e, ex, _⟩ := I.hok p _ hk
          exact ⟨o, e, ex⟩
        · obtain ⟨_, _, _, _, o, _, _, e, ex, _⟩ := I.hok p _ hk
          exact ⟨o, e, ex⟩
      obtain ⟨o, e, ex⟩ := z
      refine ⟨⟨o, e, ex.1⟩, fun a e2 => ?_⟩
      cases e2
      exact ⟨o, e, ex.2.1⟩
    · obtain ⟨o, _, _, _, e, ex, _⟩ := I.hok p _ hk
      refine ⟨⟨o, e, ex.1⟩, fun a e2 => ?_⟩
      cases e2
      exact ⟨o, e, ex.2.1⟩
  | _ => exact False.elim ty
def tBM0 (K : PySem.W.Frag) (T : String) (r : V → List V → Hp → VK → Prop) (to : TE) : TE := fun σ H Q => to σ H fun x H1 => tyV K T x H1 ∧ r x [] H1 Q
def tBM (K : PySem.W.Frag) (T : String) (r : V → List V → Hp → VK → Prop) (to : TE) (t : TA) : TE := fun σ H Q => to σ H fun x H1 => tyV K T x H1 ∧ t σ H1 fun xs H2 => r x xs H2 Q
variable {o e : Expr} {es : List Expr} {to : TE} {t : TA} {name : Str} {apos cpos : Pos} {T id : String} {r : V → List V → Hp → VK → Prop}
theorem Gf (pa : PlainAttrs T) (slot : Slot T name id) (hty : typeOf (.builtin id) = pure (.type "method_descriptor")) (hm : MtR X id r) (ho : PE X o to)
    (hbase : attributeBase o name X.env (eval o X.env) = eval o X.env := by rfl) (hline : (apos.endLine == cpos.line) = true := by rfl) : PE X (.Call (.Attribute o name apos) [] [] cpos) (tBM0 X.K T r to) := by
  intro pins s σ H Q I h
  refine wpAny_Call_method0_late hbase hline (thn (ho pins s σ H _ I h) fun v s1 ⟨x, H1, I1, r1, ty, q1⟩ => ?_)
  obtain ⟨h1, h2⟩ := Dh I1 r1 ty
  exact ⟨T, id, pa, slot, hty, h1, h2, Calls.callWith_builtin rfl (PySem.evalArgs_none (hm pins s1 σ H1 x [] v [] Q I1 r1 .nil q1))⟩
theorem tJ (pa : PlainAttrs T) (slot : Slot T name id) (hty : typeOf (.builtin id) = pure (.type "method_descriptor")) (hm : MtR X id r) (ho : PE X o to) (ha : PA X (e :: es) t)
    (hbase : attributeBase o name X.env (eval o X.env) = eval o X.env := by rfl)
    (hfew : ((backTo cpos (starEach (e :: es) X.env)).all (fun x => !x.1) && (backToKw cpos (keywordEach [] X.env)).all (fun x => x.1.isSome)
      && decide ((e :: es).length + ([] : List Keyword).length + (if ([] : List Keyword).isEmpty then 0 else 1) < 30)) = true := by rfl)
    (hline : (apos.endLine == cpos.line) = true := by rfl) (hs : starEach (e :: es) X.env = (false, eval e X.env) :: starEach es X.env := by rfl) (hplain : (backTo cpos (starEach es X.env)).any (·.1) = false := by rfl) :
    PE X (.Call (.Attribute o name apos) (e :: es) [] cpos) (tBM X.K T r to t) := by
  intro pins s σ H Q I h
  refine wpAny_Call_method_late hbase hfew hline rfl (thn (ho pins s σ H _ I h) fun v s1 ⟨x, H1, I1, r1, ty, q1⟩ => ?_)
  obtain ⟨h1, h2⟩ := Dh I1 r1 ty
  refine ⟨T, id, pa, slot, hty, h1, h2, ?_⟩
  have hA := ha cpos pins s1 σ H1 _ I1 q1
  rw [hs] at hA ⊢
  refine Calls.callWith_builtin (by show (false || (backTo cpos (starEach es X.env)).any (·.1)) = false; rw [hplain] <;> rfl) (Calls.evalArgs_plain ?_)
  exact thn hA fun us s2 ⟨vs, H2, I2, r2, q2⟩ => hm pins s2 σ H2 x vs v us Q I2 r1 r2 q2
end
end L2
namespace L2
open PySem PySem.Spec PyProof.Rows
def MtM (X : Cx) (id : String) (r : V → List V → Hp → VK → Prop) : Prop :=
  ∀ (pins : List (Addr × Obj)) (s : Shared) (σ : St) (H : Hp) (x : V) (xs : List V) (v : Value) (us : List Value) (Q : VK), Inv X pins σ H s → RelV x v → Vals xs us → r x xs H Q →
    wpAny (model X.prog X.w) X.A (call (.builtin id) (v :: us)) (EP X pins σ Q) X.xe s
theorem Vals.one : ∀ {x : V} {us : List Value}, Vals [x] us → ∃ u, us = [u] ∧ RelV x u
  | _, _, .cons r .nil => ⟨_, rfl, r⟩
theorem Vals.two : ∀ {x y : V} {us : List Value}, Vals [x, y] us → ∃ u v, us = [u, v] ∧ RelV x u ∧ RelV y v
  | _, _, _, .cons r (.cons q .nil) => ⟨_, _, rfl, r, q⟩
theorem Vals.zero : ∀ {us : List Value}, Vals [] us → us = []
  | _, .nil => rfl
theorem Vals.rep {xs : List V} {us : List Value} (h : Vals xs us) : ∀ k : Nat, Vals (List.replicate k xs).flatten (List.replicate k us).flatten
  | 0 => .nil
  | k + 1 => by
    rw [List.replicate_succ, List.replicate_succ, List.flatten_cons, List.flatten_cons]
    exact Vals.append h (Vals.rep h k)
theorem vz (its : List Value) : ∀ (k : Nat) (acc : List Value),
    List.foldl (fun x1 x2 => x1 ++ x2) acc.toArray (List.replicate k its.toArray) = (acc ++ (List.replicate k its).flatten).toArray
  | 0, acc => by simp
  | k + 1, acc => by
    have e : acc.toArray ++ its.toArray = (acc ++ its).toArray := by simp
    have e2 : (acc ++ its) ++ (List.replicate k its).flatten = acc ++ (List.replicate (k + 1) its).flatten := by
      rw [List.replicate_succ, List.flatten_cons, List.append_assoc]
    rw [← e2, ← vz its k (acc ++ its), ← e, List.replicate_succ, List.foldl_cons]
section
variable {X : Cx} {pins : List (Addr × Obj)} {σ : St} {H : Hp} {s : Shared} {l b : Addr} {xs ys zs : List V}
theorem Inv.lset {its its' : List Value} {n : Nat} {f : Array Value → Array Value} {t' : Nat} (I : Inv X pins σ H s) (hH : H l = some (.lst xs))
    (e : s.heap.get? l = some { cls := .type "list", data := .seq its.toArray n }) (hf : f its.toArray = its'.toArray) (hv : Vals ys its') (hz : ys.length ≤ sizeLine) :
    Inv X pins σ (upd H l (.lst ys)) { s with heap := s.heap.update l (Obj.mapSeq f), toks := t' } := by
  have q := PySem.IsL.update e f
  rw [hf] at q
  refine I.write (x := l) (e := l) (by rw [hH]; exact trivial) (.inl rfl) (fun b' u hb hu => (Heap.get?_update_other s.heap (Obj.mapSeq f) (Ne.symm hb)).trans hu) ⟨_, q⟩ ?_
  exact ⟨hz, its', _, hv, q⟩
theorem Inv.lnew {its : List Value} {t' : Nat} (I : Inv X pins σ H s) (hv : Vals ys its) (hz : ys.length ≤ sizeLine) :
    Inv X pins σ (upd H s.heap.objs.size (.lst ys)) { s with heap := s.heap.push { cls := .type "list", data := .seq its.toArray }, toks := t' } :=
  I.laid (fun _ _ q => Heap.get?_push_of_some _ q) (Nat.le_refl _) ⟨hz, its, 0, hv, Heap.get?_push_size _ rfl⟩
theorem Inv.fresh (I : Inv X pins σ H s) : H s.heap.objs.size = none := I.hok.fresh (Nat.le_refl _)
theorem Inv.lstM (I : Inv X pins σ H s) (hH : H l = some (.lst xs)) : xs.length ≤ sizeLine ∧ ∃ (its : List Value) (n : Nat), Vals xs its ∧ xs.length = its.length ∧ s.heap.get? l = some { cls := .type "list", data := .seq its.toArray n } := by
  obtain ⟨z, its, n, r, e⟩ := I.hok l _ hH
  exact ⟨z, its, n, r, r.length, e⟩
theorem Cg {n : Nat} (h : n ≤ sizeLine) : Builtin.List.listTooLong n = false := by
  unfold Builtin.List.listTooLong
  exact decide_eq_false (by omega)
end
section
variable {X : Cx}
def zO : V → List V → Hp → VK → Prop := fun x vs H Q => ∃ l xs y, x = .ref l ∧ vs = [y] ∧ H l = some (.lst xs) ∧ xs.length < sizeLine ∧ Q .non (upd H l (.lst (xs ++ [y])))
theorem yg : MtM X "list.append" zO := by
  intro pins s σ H x vs v us Q I rx rv h
  obtain ⟨l, xs, y, rfl, rfl, hH, hz, q⟩ := h
  cases rx
  obtain ⟨u, rfl, ru⟩ := rv.one
  obtain ⟨z, its, n, r, hl, e⟩ := I.lstM hH
  refine call_meets F.slot_list_append ⟨_, e, rfl⟩ F.entry_list_append (F.args_list_append_2 _ _) (PySem.list_append l its.toArray n u (by rw [List.size_toArray]; omega)) ⟨e, ?_⟩
  refine ⟨.non, _, I.lset (its' := its ++ [u]) hH e (by simp) (r.append (.cons ru .nil)) ?_, rfl, q⟩
  rw [List.length_append, List.length_singleton]
  omega
def rCat : R2 := fun x y H Q => ∃ l b xs zs, x = .ref l ∧ y = .ref b ∧ H l = some (.lst xs) ∧ H b = some (.lst zs) ∧ xs.length + zs.length ≤ sizeLine ∧ ∀ p, H p = none → Q (.ref p) (upd H p (.lst (xs ++ zs)))
theorem Af : OpR X (binaryOp .Add) rCat := by
  intro pins s σ H x y v u Q I rx ry h
  obtain ⟨l, b, xs, zs, rfl, rfl, hH, hB, hz, q⟩ := h
  cases rx
  cases ry
  obtain ⟨z, its, n, r, hl, e⟩ := I.lstM hH
  obtain ⟨z2, its2, n2, r2, hl2, e2⟩ := I.lstM hB
  refine PySem.P.add_list e e2 ?_ (by rw [List.size_toArray, List.size_toArray]; omega)
  have ea : its.toArray ++ its2.toArray = (its ++ its2).toArray := by simp
  rw [ea]
  exact ⟨.ref _, _, I.lnew (t' := s.toks) (r.append r2) (by rw [List.length_append]; omega), rfl, q _ I.fresh⟩
def rRep : R2 := fun x y H Q => ∃ l k xs, x = .ref l ∧ y = .int k ∧ H l = some (.lst xs) ∧ -(2 ^ 63) ≤ k ∧ k < 2 ^ 63 ∧ xs.length * k.toNat ≤ sizeLine ∧
  ∀ p, H p = none → Q (.ref p) (upd H p (.lst (List.replicate k.toNat xs).flatten))
theorem DY {α : Type} (xs : List α) (k : Nat) : (List.replicate k xs).flatten.length = k * xs.length := by
  induction k with
  | zero => simp
  | succ k ih => rw [List.replicate_succ, List.flatten_cons, List.length_append, ih, Nat.succ_mul, Nat.add_comm]
theorem E2 : OpR X (binaryOp .Mult) rRep := by
  intro pins s σ H x y v u Q I rx ry h
  obtain ⟨l, k, xs, rfl, rfl, hH, h1, h2, hz, q⟩ := h
  cases rx
  obtain ⟨t, rfl⟩ := ry
  obtain ⟨z, its, n, r, hl, e⟩ := I.lstM hH
  have hlen : its.toArray.size * k.toNat ≤ sizeLine := by rw [List.size_toArray, ← hl]; exact hz
  have hcap : ¬ its.toArray.size * k.toNat > (2 ^ 63 - 1) / 8 := by
    have : (sizeLine : Nat) ≤ (2 ^ 63 - 1) / 8 := by decide
    omega
  have hfit : ¬ (!Builtin.List.listFitsIndex k) = true := by
    rw [fitsIndex_both h1 h2]
    exact Bool.false_ne_true
  have hlong : ¬ Builtin.List.listTooLong (its.toArray.size * k.toNat) = true := by
    rw [Cg hlen]
    exact Bool.false_ne_true
  have hnew : List.foldl (fun x1 x2 => x1 ++ x2) #[] (List.replicate (if its.toArray.isEmpty = true then 0 else k.toNat) its.toArray) = (List.replicate k.toNat its).flatten.toArray := by
    have f0 : ∀ m : Nat, List.foldl (fun x1 x2 => x1 ++ x2) #[] (List.replicate m its.toArray) = (List.replicate m its).flatten.toArray := fun m => by
      have := vz its m []
      rw [List.nil_append] at this
      exact this
    rw [f0]
    cases its with
    | nil => simp
    | cons a r' => rw [if_neg (by simp)]
  refine wpAny_binaryOp_repeat_ref (T := "list") (U := "int") (by decide) ⟨_, e, rfl⟩ (fun s' => typeIs_int s' k t) noFill_list_mul F.fills_int_mul F.slot_int_rmul repeat_list F.slot_int_index.lookup
    (call_meets F.slot_int_rmul (typeIs_int s k t) F.entry_int_rmul (F.args_int_rmul_2 _ _) (int___rmul___int_list k t l its.toArray n)
      ⟨e, rfl, ⟨_, e, rfl⟩, call_meets F.slot_list_mul ⟨_, e, rfl⟩ F.entry_list_mul (F.args_list_mul_2 _ _) (AutoListH.list___mul___list_int_3 l its.toArray n k t hfit hcap hlong) ⟨e, ?_⟩⟩)
  rw [hnew]
  exact ⟨.ref _, _, I.lnew (t' := s.toks) (r.rep k.toNat) (by rw [DY, Nat.mul_comm]; exact hz), rfl, q _ I.fresh⟩
end
section
variable {prog : Program} {w : World} {A : Around} {E : Value → Shared → Prop} {s : Shared}
end
section
variable {X : Cx}
end
end L2
namespace Att
open PySem PySem.W PySem.Calls PyProof.Rows
theorem xG {P : Params} {h : Heap} : ∀ (ns : List Int) (vs : List Value), WellAll P h vs (ns.map WData.int) → IntsAre vs ns := by
  intro ns
  induction ns with
  | nil =>
    intro vs w
    rw [List.map_nil] at w
    cases w
    exact .nil
  | cons n ns ih =>
    intro vs w
    rw [List.map_cons] at w
    cases w with
    | cons a b =>
      cases a
      exact .cons _ _ (ih _ b)
theorem Al {l : OpenLaw} {n : Nat} (hn : l.most = some n) {P : Params} {h : Heap} {args : List WData} {vals : List Value}
    (hpre : l.row.toRowW.claim.pre args = true) (hwl : WellAll P h vals args) :
    ∃ a vs ns, vals = [Value.ref a] ∧ args = [WData.list (ns.map WData.int)] ∧ h.get? a = some { cls := .type "list", data := .seq vs.toArray } ∧ IntsAre vs ns ∧ ns.length ≤ n := by
  have hsh : WShape.hasAll [] args [.list .int] = true := (pre_splitW hpre).1
  have hc : l.pre.holds [] { args := args } = true := (pre_splitW hpre).2
  obtain ⟨d, r, rfl, h1, h2⟩ := hasAllW_cons hsh
  obtain rfl := hasAllW_nil h2
  obtain ⟨xs, rfl, h3⟩ := hasW_list h1
  obtain ⟨ns, rfl⟩ := items_int h3
  have hlen : ns.length ≤ n := by
    unfold OpenLaw.pre at hc
    have h4 : (WTm.not (.lt (.lit (.int (n : Int))) (.len (.arg 0)))).holds [] { args := [.list (ns.map .int)] } = true := by
      have h4 := (holds_andW hc).1
      rw [hn] at h4
      exact h4
    have h5 := condW_of h4 (w_not (w_lt w_lit (w_len_list (w_arg rfl))))
    rw [List.length_map] at h5
    refine Nat.le_of_not_lt fun q => ?_
    have q' : (n : Int) < ((ns.length : Nat) : Int) := by omega
    first
      | (rw [decide_eq_true q'] at h5; exact absurd h5 (by decide))
      | (simp at h5; omega)
  cases hwl with
  | cons w1 w2 =>
    cases w2
    cases w1 with
    | list ho hall => exact ⟨_, _, ns, rfl, rfl, ho, xG ns _ hall, hlen⟩
theorem Av (l : OpenLaw) (args : List WData) : l.row.toRowW.claim.post args (.bool true) args = true :=
  postW_of (r := l.row.toRowW) (X := (true == true))
    (show WShape.has [] (.bool true) .bool = true by first | rfl | decide | simp [WShape.has, WShape.arms, WShape.armsAll])
    (show (WTm.eq .res (.lit (.bool true))).value [] { args := args, res := some (.bool true), after := args } = some (.bool (true == true)) from w_eq_bool (w_res rfl) w_lit) rfl
section
variable {prog : Program} {w : World} {A : Around} {E : Value → Shared → Prop} {s : Shared} {K : Frag}
end
end Att
namespace L2
open PySem PySem.Spec PyProof.Rows
theorem vZ : ∀ {vs : List Value} {ns : List Int}, IntsAre vs ns → Vals (ns.map V.int) vs
  | _, _, .nil => .nil
  | _, _, .cons n t h => .cons ⟨t, rfl⟩ (vZ h)
def Only (H : Hp) : Prop := ∀ b, H b = none ∨ ∃ o xs, H b = some (.frz o (.lst xs))
theorem Ce {P : Program} {w : World} {K : PySem.W.Frag} {mg mb : Str → Option Value} {CX : CXT} {k : Nat} {fa a : Addr} {fd : FuncData} {x : Str} {sp : Sp} {s₁ : Shared} {vs : List Value} {ns : List Int}
    (KX : K.In s₁.heap) (hns : s₁.heap.Ns mainGlobals mg) (hb : s₁.heap.Ns builtinsNs mb) (hbb : ∀ x : Str, x ≠ "__name__" → mb x = bootBuiltins x) (hlim : s₁.heap.NoLimit) (hg : s₁.gens = #[])
    (ha : s₁.heap.get? a = some { cls := .type "list", data := .seq vs.toArray }) (hi : IntsAre vs ns) (hl : ns.length ≤ sizeLine) (hr : Room k callerA)
    (F : ∀ base : Heap, K.In base → base.Ns mainGlobals mg → FnOk P w K mg base CX k fa fd [x] sp) (hbind : ∀ (s : Shared) (u : Value), BindsTo s fd ⟨[u], []⟩ [(x, u)])
    (hsp : ∀ H : Hp, Only H → SqL K H a (ns.map V.int) → sp [.ref a] H (fun v _ => v = .bl true) fun _ _ _ => False)
    (hCX : ∀ H e s', CX [] H s₁ (fun _ _ _ => False) e s' → False) :
    codeAny (model P w) callerA (.call (.ref fa) ⟨[.ref a], []⟩) (fun r s' => r = .ok (.ret (.bool true)) ∧ OldK s₁.heap s'.heap ∧ s'.os = s₁.os ∧ AllBare s'.gens) s₁ := by
  have rv := vZ hi
  have lenV := hi.length
  have core : ∀ H : Hp, Only H → SqL K H a (ns.map V.int) → HOk P w H s₁.heap → (∀ b, H b ≠ none → b = a) → (H a ≠ none → K.lookup a = none) →
      codeAny (model P w) callerA (.call (.ref fa) ⟨[.ref a], []⟩) (fun r s' => r = .ok (.ret (.bool true)) ∧ OldK s₁.heap s'.heap ∧ s'.os = s₁.os ∧ AllBare s'.gens) s₁ := by
    intro H hO hS hok hA hK
    have base_of : ∀ {b : Addr} {o : Obj}, s₁.heap.get? b = some o → H b = none → (hidT s₁.heap H).get? b = some o := fun e n => CF e n
    have noA : ∀ {b : Addr} {o : Obj} {es : Array DictEntry} {ep : Nat}, s₁.heap.get? b = some o → o.data = .dict es ep → H b = none := fun {b o es ep} e d => by
      cases q : H b with
      | none => rfl
      | some u =>
        have e' : b = a := hA b (by rw [q]; simp)
        subst e'
        rw [ha] at e; cases e
        have d' : Data.seq vs.toArray _ = Data.dict es ep := d
        cases d'
    have nsK : ∀ {b : Addr} {m : Str → Option Value}, s₁.heap.Ns b m → (hidT s₁.heap H).Ns b m := fun {b m} ⟨o, es, ep, e, d, r⟩ => ⟨o, es, ep, base_of e (noA e d), d, r⟩
    have hKb : K.In (hidT s₁.heap H) := fun b o e => base_of (KX b o e) (by
      cases q : H b with
      | none => rfl
      | some u =>
        have e' : b = a := hA b (by rw [q]; simp)
        subst e'
        rw [hK (by rw [q]; simp)] at e; cases e)
    have hM : Mod K mg (hidT s₁.heap H) := ⟨hKb, nsK hns, ⟨mb, nsK hb, hbb⟩, let ⟨mc, h1, h2⟩ := hlim; ⟨mc, nsK h1, h2⟩⟩
    have e0 : Env0 P w K mg (hidT s₁.heap H) callerA [] s₁ H := ⟨rfl, hM, fun b o e => Dr e, Nat.le_of_eq (AH _ _), trivial, fun b hb => absurd (show b ∈ ([] : List Addr) from hb) (by simp), hok, .of_eq hg⟩
    refine codeAny_mono ((F _ hKb (nsK hns)).run callerA [] s₁ H ⟨[.ref a], []⟩ [.ref a] [.ref a] _ _ hr e0 (hbind s₁ (.ref a)) (.cons rfl .nil) (hsp H hO hS)) fun r s' h => ?_
    cases r with
    | error e => exact (hCX H e s' h).elim
    | ok fl =>
      cases fl with
      | next => exact False.elim h
      | brk => exact False.elim h
      | cont => exact False.elim h
      | ret u =>
        obtain ⟨v, H', os, bare, un, hok', r', q⟩ := h
        have q' : v = .bl true := q
        subst q'
        obtain rfl : u = Value.bool true := r'
        refine ⟨rfl, OldK.of_keep fun b o e => ?_, os, bare⟩
        cases q : H b with
        | none => exact un.keep b o e q (by intro z; exact absurd (show b ∈ ([] : List Addr) from z) (by simp)) (by simp)
        | some u =>
          rcases hO b with z | ⟨ob, xs, z⟩
          · rw [q] at z; cases z
          · have z2 := un.frzs b ob _ z
            obtain ⟨e1, _⟩ := hok b _ z
            obtain ⟨e2, _⟩ := hok' b _ z2
            rw [e] at e1; cases e1
            exact e2
  cases hk : K.lookup a with
  | some o =>
    have e := KX a o hk
    rw [ha] at e
    cases e
    refine core (fun _ => none) (fun _ => .inl rfl) (.inr ⟨_, vs.toArray, _, hk, rfl, rfl, rfl, by rw [List.size_toArray, lenV]; exact hl, by simpa using rv⟩) (fun b u z => by have z' : (none : Option HO) = some u := z; cases z') (fun b z => absurd rfl z) fun z => absurd rfl z
  | none =>
    refine core (fun b => if b = a then some (.frz { cls := .type "list", data := .seq vs.toArray } (.lst (ns.map V.int))) else none) (fun b => ?_) (.inl (.inr ⟨{ cls := .type "list", data := .seq vs.toArray }, if_pos rfl⟩)) (fun b u z => ?_) (fun b z => ?_) fun _ => hk
    · by_cases hb : b = a
      · exact .inr ⟨_, _, if_pos hb⟩
      · exact .inl (if_neg hb)
    · by_cases hb : b = a
      · have z' := (if_pos hb).symm.trans z
        cases z'
        subst hb
        exact ⟨ha, by rw [List.length_map]; exact hl, vs, _, rv, ha⟩
      · have z' := (if_neg hb).symm.trans z
        cases z'
    · by_cases hb : b = a
      · exact hb
      · exact absurd (if_neg hb) z
end L2
namespace L2
open PySem PySem.Spec PyProof.Rows
end L2
namespace L2
open PySem PySem.Spec PyProof.Rows
def xi (s : Stmt) (j : Nat) : Stmt := match s with
  | .ClassDef _ _ _ body _ _ _ _ _ _ _ => body.getD j (.Pass ⟨0, 0, 0, 0⟩)
  | _ => .Pass ⟨0, 0, 0, 0⟩
def defArgs (s : Stmt) : Arguments := match s with
  | .FunctionDef _ a _ _ _ _ _ _ _ _ => a
  | _ => { posonlyargs := [], args := [], vararg := none, kwonlyargs := [], kw_defaults := [], kwarg := none, defaults := [] }
def defBody (s : Stmt) : List Stmt := match s with
  | .FunctionDef _ _ b _ _ _ _ _ _ _ => b
  | _ => []
def defScope (s : Stmt) : Scope := match s with
  | .FunctionDef _ _ _ _ _ _ sc _ _ _ => sc
  | _ => { kind := .function, names := [], isGenerator := false, isCoroutine := false }
abbrev CX0 : CXT := fun _ _ _ _ _ _ => False
abbrev E0 : XK := fun _ _ _ => False
theorem vd {X : Cx} : yT CX0 X E0 := fun _ _ _ _ _ _ _ h => h.elim
structure Fun (K : PySem.W.Frag) (x qual : Str) (st : Stmt) (f : Addr) (fd : FuncData) : Prop where
  ex : ∃ (oc : Value) (od : Option Addr) (kV doc pm : Value) (an : Option Addr) (cdv ct : Value) (osl : Array (Option Value)),
    fd = PySem.W.fnOf x qual (defArgs st) (defBody st) (defScope st) .none kV doc pm an cdv ct ∧ K.lookup f = some ⟨oc, od, .func fd, osl⟩ ∧ PySem.W.codeIn K cdv qual = true
  kp : PySem.W.keepIn K (.ref f) = true
section
variable {P : Program} {w : World} {K : PySem.W.Frag} {mg : Str → Option Value} {base : Heap}
theorem Fun.ok {x qual : Str} {st : Stmt} {f : Addr} {fd : FuncData} {N ps : List Str} {k : Nat} {sp : Sp} (F : Fun K x qual st f fd) (S : FnScope N ps (defScope st)) (len : ∀ vs H Q E, sp vs H Q E → vs.length = ps.length)
    (hbody : ∀ (cdv : Value) (A : Around) (outer : List Env) (s : Shared) (H : Hp) (vs : List V) (Q : VK) (E : XK), Room k (A.deeper (envOfC qual (defScope st) s.heap.objs.size f cdv)) → sp vs H Q E →
      ∃ t, PSs (cxOf CX0 P w K mg base N qual (defScope st) f cdv A outer s H E).nox (defBody st) t ∧ t { nx := fun _ H' => Q .non H', rt := Q } (wM N vs) H) : FnOk P w K mg base CX0 (k + 1) f fd ps sp := by
  obtain ⟨oc, od, kV, doc, pm, an, cdv, ct, osl, rfl, lk, hcd⟩ := F.ex
  refine Fi lk hcd S len fun A outer s H vs Q E hr hsp => ?_
  obtain ⟨t, h, q⟩ := hbody cdv A outer s H vs Q E hr hsp
  exact ⟨t, h.nox, q⟩
theorem Fun.binds {x qual : Str} {st : Stmt} {f : Addr} {fd : FuncData} {ps : List Str} (F : Fun K x qual st f fd)
    (h : ∀ (kV doc pm : Value) (an : Option Addr) (cdv ct : Value) (us : List Value), us.length = ps.length → bindArgs (PySem.W.fnOf x qual (defArgs st) (defBody st) (defScope st) .none kV doc pm an cdv ct) ⟨us, []⟩ = pure (ps.zip us)) : Binds K fd ps [] := by
  obtain ⟨oc, od, kV, doc, pm, an, cdv, ct, osl, rfl, lk, hcd⟩ := F.ex
  exact .all (h kV doc pm an cdv ct)
theorem Dj {x qual : Str} {st : Stmt} {f : Addr} {oc : Value} {od an : Option Addr} {osl : Array (Option Value)} {kV doc pm cdv ct : Value} (l : K.lookup f = some ⟨oc, od, .func (PySem.W.fnOf x qual (defArgs st) (defBody st) (defScope st) .none kV doc pm an cdv ct), osl⟩)
    (c : PySem.W.codeIn K cdv qual = true) (k : PySem.W.keepIn K (.ref f) = true) : Fun K x qual st f (PySem.W.fnOf x qual (defArgs st) (defBody st) (defScope st) .none kV doc pm an cdv ct) := ⟨⟨oc, od, kV, doc, pm, an, cdv, ct, osl, rfl, l, c⟩, k⟩
end
theorem EL {A : Around} {k : Nat} (hr : Room k A) : A.units + 1 < cLine := Nat.lt_of_le_of_lt (Nat.add_le_add_left (by decide : 1 ≤ 64) _) hr.units
theorem AF {n : Nat} (h : n ≤ 1000) : n < sizeLine := Nat.lt_of_le_of_lt h (by decide)
section
variable {X : Cx}
theorem pv (i : Nat) {x : Str} {pos : Pos} (hN : X.N[i]? = some x := by rfl) (hv : Vis X.env.scope x := by first | exact Or.inl rfl | exact Or.inr (Or.inl rfl) | exact Or.inr (Or.inr rfl)) (hd : (x == ("__debug__" : Str)) = false := by decide)
    (hcd : (x == ("__classdict__" : Str)) = false := by decide) : PE X (.Name x pos) (tVar i) := E5 hN hv hd hcd
end
def Same (H H' : Hp) : Prop := ∀ b o, H b = some o → H' b = some o
theorem Same.refl (H : Hp) : Same H H := fun _ _ h => h
theorem Same.trans {H H1 H2 : Hp} (a : Same H H1) (b : Same H1 H2) : Same H H2 := fun c o h => b c o (a c o h)
theorem Same.seq {K : PySem.W.Frag} {H H' : Hp} {a : Addr} {xs : List V} (e : Same H H') (h : SqL K H a xs) : SqL K H' a xs := by
  rcases h with (h | ⟨o, h⟩) | h
  · exact .inl (.inl (e _ _ h))
  · exact .inl (.inr ⟨o, e _ _ h⟩)
  · exact .inr h
end L2
namespace L2
open PySem PySem.Spec PyProof.Rows
end L2
namespace L2
open PySem PySem.Spec PyProof.Rows
end L2
namespace L2
open PySem PySem.Spec PyProof.Rows
end L2
namespace L2
open PySem PySem.Spec PyProof.Rows
end L2
namespace L2
open PySem PySem.Spec PyProof.Rows
end L2
namespace L2
open PySem PySem.Spec PyProof.Rows
end L2
namespace L2
open PySem PySem.Spec PyProof.Rows
end L2
namespace L2
open PySem PySem.Spec PyProof.Rows
end L2
namespace L2
open PySem PySem.Spec PyProof.Rows
end L2
namespace L2
open PySem PySem.Spec PyProof.Rows
end L2
namespace L2
open PySem PySem.Spec PyProof.Rows
section
variable {κ : Type} [DecidableEq κ]
def valV (kvs : List (κ × V)) (k : κ) : Option V := (kvs.find? fun kv => decide (kv.1 = k)).map (·.2)
def putK (kvs : List (κ × V)) (k : κ) (v : V) : List (κ × V) :=
  if (kvs.any fun kv => decide (kv.1 = k)) = true then kvs.map (fun kv => if kv.1 = k then (kv.1, v) else kv) else kvs ++ [(k, v)]
def vD (kvs : List (κ × V)) (k : κ) : List (κ × V) := kvs.filter fun kv => decide (kv.1 ≠ k)
theorem xu {p : κ × V} {r : List (κ × V)} {k : κ} (e : p.1 = k) : valV (p :: r) k = some p.2 := by simp [valV, List.find?_cons, e]
theorem xb {p : κ × V} {r : List (κ × V)} {k : κ} (e : ¬ p.1 = k) : valV (p :: r) k = valV r k := by simp [valV, List.find?_cons, e]
theorem wV (k : κ) : ∀ kvs : List (κ × V), (kvs.any fun kv => decide (kv.1 = k)) = (valV kvs k).isSome
  | [] => rfl
  | p :: r => by
    rw [List.any_cons]
    by_cases e : p.1 = k
    · simp only [xu e, decide_eq_true e, Bool.true_or, Option.isSome_some]
    · rw [xb e, decide_eq_false e, Bool.false_or]; exact wV k r
theorem xW (kvs : List (κ × V)) (k : κ) (v : V) : (putK kvs k v).length ≤ kvs.length + 1 := by
  unfold putK
  split
  · rw [List.length_map]; omega
  · rw [List.length_append, List.length_cons, List.length_nil]; omega
theorem Ch {kvs : List (κ × V)} {k : κ} (v : V) (h : valV kvs k = none) : putK kvs k v = kvs ++ [(k, v)] := by
  unfold putK
  rw [wV, h]
  exact if_neg (by decide)
theorem RelO.isSome_eq {o : Option V} {u : Option Value} (r : RelO o u) : o.isSome = u.isSome := by
  cases o with
  | none => cases u with
    | none => rfl
    | some _ => exact (show False from r).elim
  | some _ => cases u with
    | none => exact (show False from r).elim
    | some _ => rfl
theorem KV.val {kvs : List (κ × V)} {vs : List (κ × Value)} (r : KV kvs vs) (k : κ) : RelO (valV kvs k) (valueAt vs k) := by
  unfold KV at r
  induction r with
  | nil => exact True.intro
  | @cons p q ps qs h t ih =>
    obtain ⟨h1, h2⟩ := h
    by_cases e : p.1 = k
    · have e' : q.1 = k := h1.symm.trans e
      have b : valueAt (q :: qs) k = some q.2 := by simp [valueAt, List.find?_cons, e']
      rw [xu e, b]; exact h2
    · have e' : ¬ q.1 = k := fun z => e (h1.trans z)
      have b : valueAt (q :: qs) k = valueAt qs k := by simp [valueAt, List.find?_cons, e']
      rw [xb e, b]; exact ih
theorem KV.any {kvs : List (κ × V)} {vs : List (κ × Value)} (r : KV kvs vs) (k : κ) : (kvs.any fun kv => decide (kv.1 = k)) = vs.any fun kv => decide (kv.1 = k) := by
  unfold KV at r
  induction r with
  | nil => rfl
  | cons h t ih => rw [List.any_cons, List.any_cons, ih, h.1]
theorem KV.repl {kvs : List (κ × V)} {vs : List (κ × Value)} (r : KV kvs vs) (k : κ) {y : V} {u : Value} (ry : RelV y u) :
    KV (kvs.map fun kv => if kv.1 = k then (kv.1, y) else kv) (vs.map fun kv => if kv.1 = k then (kv.1, u) else kv) := by
  unfold KV at r ⊢
  induction r with
  | nil => exact .nil
  | @cons p q ps qs h t ih =>
    rw [List.map_cons, List.map_cons]
    refine .cons ?_ ih
    obtain ⟨h1, h2⟩ := h
    by_cases e : p.1 = k
    · rw [if_pos e, if_pos (h1.symm.trans e)]; exact ⟨h1, ry⟩
    · rw [if_neg e, if_neg (fun z => e (h1.trans z))]; exact ⟨h1, h2⟩
theorem KV.put {kvs : List (κ × V)} {vs : List (κ × Value)} (r : KV kvs vs) (k : κ) {y : V} {u : Value} (ry : RelV y u) : KV (putK kvs k y) (stored vs k u) := by
  unfold putK stored
  rw [r.any k]
  by_cases e : (vs.any fun kv => decide (kv.1 = k)) = true
  · rw [if_pos e, if_pos e]; exact r.repl k ry
  · rw [if_neg e, if_neg e]; exact Paired.snoc r ⟨rfl, ry⟩
theorem KV.drop {kvs : List (κ × V)} {vs : List (κ × Value)} (r : KV kvs vs) (k : κ) : KV (vD kvs k) (without vs k) := by
  unfold KV at r ⊢
  unfold vD without
  induction r with
  | nil => exact .nil
  | @cons p q ps qs h t ih =>
    obtain ⟨h1, h2⟩ := h
    rw [List.filter_cons, List.filter_cons]
    by_cases e : p.1 = k
    · have a : ¬ decide (p.1 ≠ k) = true := by simp [e]
      have b : ¬ decide (q.1 ≠ k) = true := by simp [h1.symm.trans e]
      rw [if_neg a, if_neg b]; exact ih
    · have e' : ¬ q.1 = k := fun z => e (h1.trans z)
      have a : decide (p.1 ≠ k) = true := by simp [e]
      have b : decide (q.1 ≠ k) = true := by simp [e']
      rw [if_pos a, if_pos b]; exact .cons ⟨h1, h2⟩ ih
theorem KV.keys {kvs : List (κ × V)} {vs : List (κ × Value)} (r : KV kvs vs) : kvs.map (·.1) = vs.map (·.1) := by
  unfold KV at r
  induction r with
  | nil => rfl
  | cons h t ih => rw [List.map_cons, List.map_cons, ih, h.1]
theorem KV.length {kvs : List (κ × V)} {vs : List (κ × Value)} (r : KV kvs vs) : kvs.length = vs.length := Paired.length r
theorem Cd (kvs : List (κ × V)) (k : κ) : (vD kvs k).length ≤ kvs.length := List.length_filter_le _ _
end
theorem Bw {P : Program} {w : World} {k : Key} {u : Value} (r : RelV (kV k) u) : (zK P w).is k u = true := by
  cases k with
  | inl i => obtain ⟨t, e⟩ := (show ∃ t, u = Value.int i t from r); subst e; exact ug P w i t
  | inr x => obtain ⟨t, e⟩ := (show ∃ t, u = Value.str x t from r); subst e; exact ui P w x t
theorem vH {P : Program} {w : World} : ∀ {ks : List Key} {us : List Value}, Vals (ks.map kV) us → ItemsAre (zK P w) ks us
  | [], _, r => by rw [List.map_nil] at r; cases r; exact .nil
  | k :: ks, _, r => by
    rw [List.map_cons] at r
    cases r with
    | cons h t => exact .cons (Bw h) (vH t)
abbrev KT (H : Hp) : List (List Key × V) → List (List Key × Addr × Value) → Prop := Paired fun p q => p.1 = q.1 ∧ H q.2.1 = some (.tup (p.1.map kV)) ∧ RelV p.2 q.2.2
theorem KT.val {H : Hp} {kvs : List (List Key × V)} {xs : List (List Key × Addr × Value)} (r : KT H kvs xs) (k : List Key) : RelO (valV kvs k) ((atKey xs k).map (·.2)) := by
  induction r with
  | nil => exact True.intro
  | @cons p q ps qs h t ih =>
    obtain ⟨h1, _, h2⟩ := h
    by_cases e : p.1 = k
    · have e' : q.1 = k := h1.symm.trans e
      have b : atKey (q :: qs) k = some q.2 := by simp [atKey, List.find?_cons, e']
      rw [xu e, b]; exact h2
    · have e' : ¬ q.1 = k := fun z => e (h1.trans z)
      have b : atKey (q :: qs) k = atKey qs k := by simp [atKey, List.find?_cons, e']
      rw [xb e, b]; exact ih
theorem KT.repl {H : Hp} {kvs : List (List Key × V)} {xs : List (List Key × Addr × Value)} (r : KT H kvs xs) (k : List Key) {y : V} {u : Value} (ry : RelV y u) :
    KT H (kvs.map fun kv => if kv.1 = k then (kv.1, y) else kv) (xs.map (putAt k u)) := by
  induction r with
  | nil => exact .nil
  | @cons p q ps qs h t ih =>
    rw [List.map_cons, List.map_cons]
    refine .cons ?_ ih
    obtain ⟨h1, h2, h3⟩ := h
    unfold putAt
    by_cases e : p.1 = k
    · rw [if_pos e, if_pos (h1.symm.trans e)]; exact ⟨h1, h2, ry⟩
    · rw [if_neg e, if_neg (fun z => e (h1.trans z))]; exact ⟨h1, h2, h3⟩
theorem KT.put {H : Hp} {kvs : List (List Key × V)} {xs : List (List Key × Addr × Value)} (r : KT H kvs xs) (k : List Key) {b : Addr} {y : V} {u : Value} (hb : H b = some (.tup (k.map kV))) (ry : RelV y u) :
    KT H (putK kvs k y) (storedH xs k b u) := by
  have e : (kvs.any fun kv => decide (kv.1 = k)) = (atKey xs k).isSome := by
    rw [wV, (r.val k).isSome_eq, Option.isSome_map]
  unfold putK storedH
  rw [e]
  by_cases q : (atKey xs k).isSome = true
  · rw [if_pos q, if_pos q]; exact r.repl k ry
  · rw [if_neg q, if_neg q]; exact Paired.snoc r ⟨rfl, hb, ry⟩
theorem KT.keeps {H H' : Hp} {kvs : List (List Key × V)} {xs : List (List Key × Addr × Value)} (r : KT H kvs xs) (ht : ∀ b ys, H b = some (.tup ys) → H' b = some (.tup ys)) : KT H' kvs xs :=
  Paired.mapP r fun _ _ z => ⟨z.1, ht _ _ z.2.1, z.2.2⟩
section
variable {P : Program} {w : World} {H : Hp} {h : Heap} {a : Addr}
theorem FK {u : HO} (ok : HOk P w H h) (e : Rd H a u) : ObjOk P w H h a u := e.ok ok
theorem Ef {kvs : List (Key × V)} (ok : HOk P w H h) (e : Rd H a (.dK kvs)) : kvs.length ≤ sizeLine ∧ (a == sysModules) = false ∧ ∃ vs, KV kvs vs ∧ h.DictOf (zK P w) a vs :=
  show ObjOk P w H h a (.dK kvs) from FK ok e
theorem Ft {kvs : List (Key × V)} (ok : HOk P w H h) (e : H a = some (.dK kvs)) : kvs.length ≤ sizeLine ∧ (a == sysModules) = false ∧ ∃ vs, KV kvs vs ∧ h.DictOf (zK P w) a vs := Ef ok (.inl e)
theorem Ac {ks : List Key} (ok : HOk P w H h) (e : H a = some (.tup (ks.map kV))) : (tupleKind (zK P w)).is h ks a := by
  obtain ⟨_, its, r, o, h1, h2, n, h3⟩ := (show ObjOk P w H h a (.tup (ks.map kV)) from ok a _ e)
  exact ⟨o, its.toArray, n, h1, h2, h3, by simpa using vH r⟩
theorem Dt {kvs : List (List Key × V)} (ok : HOk P w H h) (e : Rd H a (.dT kvs)) : kvs.length ≤ sizeLine ∧ (a == sysModules) = false ∧
    ∃ xs, KT H kvs xs ∧ h.DictOfH (tupleKind (zK P w)) a xs := by
  obtain ⟨z, y, xs, r, o, es, ep, h1, h2, h3, h4, h5⟩ := (show ObjOk P w H h a (.dT kvs) from FK ok e)
  refine ⟨z, y, xs, r, o, es, ep, h1, h2, h3, h4, fun x hx => ?_, h5⟩
  have all : ∀ {l : List (List Key × V)} {m : List (List Key × Addr × Value)}, KT H l m → ∀ x ∈ m, (tupleKind (zK P w)).is h x.1 x.2.1 := by
    intro l m q
    induction q with
    | nil => intro x hx; exact nomatch hx
    | @cons p q ps qs hq t ih =>
      intro x hx
      rcases List.mem_cons.mp hx with e | hx
      · subst e
        exact Ac ok (by rw [← hq.1]; exact hq.2.1)
      · exact ih x hx
  exact all r x hx
theorem GZ {kvs : List (List Key × V)} (ok : HOk P w H h) (e : H a = some (.dT kvs)) : kvs.length ≤ sizeLine ∧ (a == sysModules) = false ∧
    ∃ xs, KT H kvs xs ∧ h.DictOfH (tupleKind (zK P w)) a xs := Dt ok (.inl e)
end
def DGet (H : Hp) (a : Addr) (y : V) (r : Option V) : Prop :=
  (∃ kvs k, Rd H a (.dK kvs) ∧ y = kV k ∧ r = valV kvs k) ∨ ∃ kvs k b, Rd H a (.dT kvs) ∧ y = .ref b ∧ H b = some (.tup (k.map kV)) ∧ r = valV kvs k
def DPut (H : Hp) (a : Addr) (y v : V) (H' : Hp) : Prop :=
  (∃ kvs k, H a = some (.dK kvs) ∧ y = kV k ∧ kvs.length < sizeLine ∧ H' = upd H a (.dK (putK kvs k v))) ∨
  ∃ kvs k b, H a = some (.dT kvs) ∧ y = .ref b ∧ H b = some (.tup (k.map kV)) ∧ kvs.length < sizeLine ∧ H' = upd H a (.dT (putK kvs k v))
theorem DGet.k {H : Hp} {a : Addr} {kvs : List (Key × V)} {k : Key} (e : H a = some (.dK kvs)) : DGet H a (kV k) (valV kvs k) := .inl ⟨kvs, k, .inl e, rfl, rfl⟩
theorem DPut.k {H : Hp} {a : Addr} {kvs : List (Key × V)} {k : Key} {v : V} (e : H a = some (.dK kvs)) (hl : kvs.length < sizeLine) : DPut H a (kV k) v (upd H a (.dK (putK kvs k v))) := .inl ⟨kvs, k, e, rfl, hl, rfl⟩
section
variable {X : Cx} {pins : List (Addr × Obj)} {σ : St} {H : Hp} {s : Shared} {a : Addr} {y v : V} {u r : Value} {o : Option V} {A : Around} {E : Value → Shared → Prop}
theorem Inv.big (I : Inv X pins σ H s) : sysModules < s.heap.objs.size := by
  have h : mainGlobals < s.heap.objs.size := (I.mod.glob.keeps I.bk).lt
  exact Nat.lt_trans (by decide) h
theorem Ec {Q : Value → Shared → Prop} (hu : A.units + 1 < cLine) (I : Inv X pins σ H s) (g : DGet H a y o) (ry : RelV y u) (h : ∀ s', Inv X pins σ H s' → Q (.bool (!o.isSome)) s') :
    wpAny (model X.prog X.w) A (compareOp .NotIn u (.ref a)) Q E s := by
  rcases g with ⟨kvs, k, e, ey, l⟩ | ⟨kvs, k, b, e, ey, eb, l⟩
  · subst ey
    obtain ⟨z, hd, vs, rel, dd⟩ := Ef I.hok e
    refine wpAny_notIn_of (Bw ry) hd dd.mapOf ?_
    rw [← (rel.val k).isSome_eq, ← l]
    exact h _ (I.tok _)
  · subst ey
    cases (show u = Value.ref b from ry)
    obtain ⟨z, hd, xs, rel, dd⟩ := Dt I.hok e
    refine wpAny_notIn_heap (tupleKind_room_in1 hu) (Ac I.hok eb) hd dd ?_
    have q := (rel.val k).isSome_eq
    rw [Option.isSome_map] at q
    rw [← q, ← l]
    exact h _ (I.tok _)
theorem uu {h' : Heap} {t' : Nat} {ob : HO} (I : Inv X pins σ H s) (mu : Mut (H a)) (hs : Heap.SameBut a s.heap h') (he : ∃ q, h'.get? a = some q) (new : ObjOk X.prog X.w (upd H a ob) h' a ob) :
    Inv X pins σ (upd H a ob) { s with heap := h', toks := t' } :=
  I.write (x := a) (e := a) mu (.inl rfl) (fun b q hb z => (hs.2 b hb).trans z) he new
theorem AU {P : Program} {w : World} {H' : Hp} {h' : Heap} {kvs : List (Key × V)} {vs : List (Key × Value)} (z : kvs.length ≤ sizeLine) (hd : (a == sysModules) = false) (rel : KV kvs vs) (dd : h'.DictOf (zK P w) a vs) :
    ObjOk P w H' h' a (.dK kvs) := ⟨z, hd, vs, rel, dd⟩
theorem AI {H' : Hp} {Q : Unit → Shared → Prop} (hu : A.units + 1 < cLine) (I : Inv X pins σ H s) (g : DPut H a y v H') (ry : RelV y u) (rv : RelV v r) (h : ∀ s', Inv X pins σ H' s' → Q () s') :
    wpAny (model X.prog X.w) A (setItem (.ref a) u r) Q E s := by
  rcases g with ⟨kvs, k, e, ey, l, eH⟩ | ⟨kvs, k, b, e, ey, eb, l, eH⟩
  · subst ey eH
    obtain ⟨z, hd, vs, rel, dd⟩ := Ft I.hok e
    have hz : vs.length ≤ sizeLine := by rw [← rel.length]; exact z
    have hl : (putK kvs k v).length ≤ sizeLine := by have := xW kvs k v; omega
    refine wpAny_setItem_pairs (hsz := hz) (Bw ry) dd fun h' dd' hs => h _ ?_
    have he : ∃ q, h'.get? a = some q := let ⟨q, _, _, hq, _⟩ := dd'; ⟨q, hq⟩
    exact uu I (by rw [e]; exact True.intro) hs he (AU hl hd (rel.put k rv) dd')
  · subst ey eH
    cases (show u = Value.ref b from ry)
    obtain ⟨z, hd, xs, rel, dd⟩ := GZ I.hok e
    have hz : xs.length ≤ sizeLine := by rw [← Paired.length rel]; exact z
    have hl : (putK kvs k v).length ≤ sizeLine := by have := xW kvs k v; omega
    refine wpAny_setItem_heap (hsz := hz) (tupleKind_room_in1 hu) (Ac I.hok eb) dd fun h' dd' hs => h _ ?_
    obtain ⟨q, es, ep, hq, h2, h3, h4, _, h5⟩ := dd'
    refine uu I (by rw [e]; exact True.intro) hs ⟨q, hq⟩ ⟨hl, hd, _, (rel.put k eb rv).keeps fun c ys ec => ?_, q, es, ep, hq, h2, h3, h4, h5⟩
    rw [zt (yb ec e (fun z => nomatch z))]
    exact ec
end
section
variable {X : Cx} {pins : List (Addr × Obj)} {σ : St} {H : Hp} {s : Shared} {a : Addr} {kvs : List (Key × V)} {k : Key} {u : Value} {A : Around} {E : Value → Shared → Prop}
theorem Ho {v : V} {more : List Value} {Q : Value → Shared → Prop} (I : Inv X pins σ H s) (e : H a = some (.dK kvs)) (ry : RelV (kV k) u) (l : valV kvs k = some v) (hm : more = [] ∨ ∃ x, more = [x])
    (h : ∀ w' s', Inv X pins σ (upd H a (.dK (vD kvs k))) s' → RelV v w' → Q w' s') : wpAny (model X.prog X.w) A (call (.builtin "dict.pop") (.ref a :: u :: more)) Q E s := by
  obtain ⟨z, hd, vs, rel, dd⟩ := Ft I.hok e
  obtain ⟨w', hw, rw'⟩ := RelO.some_of (v := v) (o := valueAt vs k) (by rw [← l]; exact rel.val k)
  have hp : (keyPart u).isSome = true := by
    cases k with
    | inl i => obtain ⟨t, q⟩ := (show ∃ t, u = Value.int i t from ry); subst q; rfl
    | inr x => obtain ⟨t, q⟩ := (show ∃ t, u = Value.str x t from ry); subst q; rfl
  have ha : argsOk "dict.pop" ⟨.ref a :: u :: more, []⟩ := by
    rcases hm with q | ⟨x, q⟩
    · subst q; exact PySem.F.args_dict_pop_2 _ _
    · subst q; exact PySem.F.args_dict_pop_3 _ _ _
  refine call_meetsIn PySem.F.slot_dict_pop dd.typeIs PySem.F.entry_dict_pop ha (meets_dict_pop_there (zK X.prog X.w) a (Bw ry) more hm hp)
    ⟨vs, w', dd, by rw [← rel.length]; exact z, hw, fun h' dd' hs => h w' _ ?_ rw'⟩
  have he : ∃ q, h'.get? a = some q := let ⟨q, _, _, hq, _⟩ := dd'; ⟨q, hq⟩
  exact uu I (by rw [e]; exact True.intro) hs he (AU (Nat.le_trans (Cd kvs k) z) hd (rel.drop k) dd')
end
def BC (ty td : TE) : TE := fun σ H Q => ty σ H fun y H1 => td σ H1 fun x H2 => ∃ a o, x = .ref a ∧ DGet H2 a y o ∧ Q (.bl (!o.isSome)) H2
def EI (td ty tv : TE) : TS := fun D σ H => tv σ H fun v H1 => td σ H1 fun x H2 => ty σ H2 fun y H3 => ∃ a H4, x = .ref a ∧ DPut H3 a y v H4 ∧ D.nx σ H4
section
variable {X : Cx} {o i e value : Expr} {pos pos' tpos : Pos} {td ty tv : TE}
theorem BE (hu : X.A.units + 1 < cLine) (hi : PE X i ty) (ho : PE X o td) : PC X .NotIn i o (BC ty td) := by
  intro pins s σ H Q I h
  refine thn (hi pins s σ H _ I h) fun iv s1 ⟨y, H1, I1, ry, q1⟩ => thn (ho pins s1 σ H1 _ I1 q1) fun u s2 ⟨x, H2, I2, rx, a, ov, ex, g, q2⟩ => ?_
  subst ex
  obtain rfl : u = Value.ref a := rx
  exact Ec hu I2 g ry fun s3 I3 => ⟨.bl (!ov.isSome), H2, I3, rfl, q2⟩
theorem DT (hu : X.A.units + 1 < cLine) (ho : PE X o td) (hi : PE X i ty) (hv : PE X value tv) (hs : swapsWith value (some (.Subscript o i pos')) pos.line X.env = pure false) :
    PS X (.Assign [.Subscript o i pos'] value pos) (EI td ty tv) := by
  intro pins s σ H D I h
  refine wpAny_Assign_Subscript (thn (hv pins s σ H _ I h) fun r s1 ⟨v, H1, I1, rv, q1⟩ => thn (ho pins s1 σ H1 _ I1 q1) fun u s2 ⟨x, H2, I2, rx, q2⟩ => thn (hi pins s2 σ H2 _ I2 q2) fun iv s3 ⟨y, H3, I3, ry, a, H4, ex, g, q3⟩ => ?_) hs
  subst ex
  obtain rfl : u = Value.ref a := rx
  exact AI hu I3 g ry rv fun s4 I4 => ⟨σ, H4, I4, q3⟩
end
section
variable {X : Cx} {pos : Pos}
end
structure M1 (X : Cx) (o : Expr) (m : Str) (apos : Pos) (e : Expr) (cpos : Pos) : Prop where
  base : attributeBase o m X.env (eval o X.env) = eval o X.env
  few : ((backTo cpos (starEach [e] X.env)).all (fun x => !x.1) && (backToKw cpos (keywordEach [] X.env)).all (fun x => x.1.isSome)
    && decide (([e] : List Expr).length + ([] : List Keyword).length + (if ([] : List Keyword).isEmpty then 0 else 1) < 30)) = true
  line : (apos.endLine == cpos.line) = true
  trees : backTo cpos (starEach [e] X.env) = [(false, eval e X.env)]
def IsD (H : Hp) (a : Addr) : Prop := (∃ kvs, Rd H a (.dK kvs)) ∨ ∃ kvs, Rd H a (.dT kvs)
theorem Fx {X : Cx} {pins : List (Addr × Obj)} {σ : St} {H : Hp} {s : Shared} {a : Addr} (I : Inv X pins σ H s) (d : IsD H a) :
    s.TypeIs (.ref a) "dict" ∧ (∀ b, Value.ref a = .ref b → ∃ ob, s.heap.get? b = some ob ∧ ob.dict = none) ∧ (a == sysModules) = false := by
  rcases d with ⟨kvs, e⟩ | ⟨kvs, e⟩
  · obtain ⟨_, hd, vs, _, dd⟩ := Ef I.hok e
    refine ⟨dd.typeIs, fun b q => ?_, hd⟩
    cases q
    obtain ⟨ob, _, _, h1, h2, _⟩ := dd
    exact ⟨ob, h1, h2.2.1⟩
  · obtain ⟨_, hd, xs, _, dd⟩ := Dt I.hok e
    refine ⟨dd.typeIs, fun b q => ?_, hd⟩
    cases q
    obtain ⟨ob, _, _, h1, h2, _⟩ := dd
    exact ⟨ob, h1, h2.2.1⟩
section
variable {X : Cx} {pins : List (Addr × Obj)} {σ : St} {H : Hp} {s : Shared} {a : Addr} {y d : V} {u r : Value} {o : Option V} {A : Around} {E : Value → Shared → Prop}
end
def Dq (td ty : TE) : TE := fun σ H Q => td σ H fun x H1 => ∃ a, x = .ref a ∧ IsD H1 a ∧ ty σ H1 fun y H2 => ∃ kvs k v, H2 a = some (.dK kvs) ∧ y = kV k ∧ valV kvs k = some v ∧ Q v (upd H2 a (.dK (vD kvs k)))
section
variable {X : Cx} {o e f : Expr} {apos cpos : Pos} {td ty tx : TE}
theorem Cj (ho : PE X o td) (he : PE X e ty) (m : M1 X o "pop" apos e cpos) : PE X (.Call (.Attribute o "pop" apos) [e] [] cpos) (Dq td ty) := by
  intro pins s σ H Q I h
  refine wpAny_Call_method m.base m.few m.line PySem.F.plainAttrs_dict PySem.F.slot_dict_pop PySem.F.type_dict_pop (thn (ho pins s σ H _ I h) fun u s1 ⟨x, H1, I1, rx, a, ex, d, q1⟩ => ?_)
  subst ex
  obtain rfl : u = Value.ref a := rx
  obtain ⟨t1, t2, _⟩ := Fx I1 d
  refine ⟨t1, t2, ?_⟩
  rw [m.trees]
  refine Calls.callWith_builtin rfl (Calls.evalArgs_plain (Calls.spliced_cons (thn (he pins s1 σ H1 _ I1 q1) fun iv s2 ⟨y, H2, I2, ry, kvs, k, v, ea, ey, l, q2⟩ => Calls.spliced_nil ?_)))
  subst ey
  exact Ho I2 ea ry l (.inl rfl) fun w' s3 I3 rw' => ⟨v, _, I3, rw', q2⟩
end
section
variable {X : Cx} {pins : List (Addr × Obj)} {σ : St} {H : Hp} {s : Shared} {a : Addr} {kvs : List (Key × V)} {A : Around} {E : Value → Shared → Prop}
end
section
variable {X : Cx} {pins : List (Addr × Obj)} {σ : St} {H : Hp} {s : Shared} {a : Addr} {y : V} {u : Value} {A : Around} {E : Value → Shared → Prop}
end
end L2
namespace Att
open PySem PySem.W PySem.Calls PyProof.Rows
end Att
namespace L2
open PySem PySem.Spec PyProof.Rows
end L2
namespace L2
open PySem PySem.Spec PyProof.Rows
end L2
namespace L2
open PySem PySem.Spec PyProof.Rows
section
variable {X : Cx}
end
section
variable {κ : Type} [DecidableEq κ]
end
end L2
namespace Bg
theorem CI (a b : Int) : Int.gcd b (a.fmod b) = Int.gcd a b := by
  rw [Int.fmod_def, Int.mul_comm, Int.gcd_sub_mul_right_right, Int.gcd_comm]
theorem B0 (a b : Int) : Int.gcd b (a % b) = Int.gcd a b := by
  rw [Int.emod_def, Int.mul_comm, Int.gcd_sub_mul_right_right, Int.gcd_comm]
theorem D7 {a b : Int} (h : b ≠ 0) : (a.fmod b).natAbs < b.natAbs := by
  rw [Int.fmod_eq_emod]
  have h1 := Int.emod_nonneg a h
  have h2 := Int.emod_lt a h
  by_cases c : 0 ≤ b ∨ b ∣ a
  · rw [if_pos c]; omega
  · rw [if_neg c]
    have hb : b < 0 := by
      rcases Int.lt_or_le b 0 with z | z
      · exact z
      · exact absurd (Or.inl z) c
    have hd : ¬ b ∣ a := fun z => c (Or.inr z)
    have hn : a % b ≠ 0 := fun z => hd (Int.dvd_of_emod_eq_zero z)
    omega
def Bd (k : Nat) (x : Int) : Prop := x.natAbs < 2 ^ k
instance {k : Nat} {x : Int} : Decidable (Bd k x) := inferInstanceAs (Decidable (x.natAbs < 2 ^ k))
theorem Bd.mono {j k : Nat} {x : Int} (h : Bd j x) (l : j ≤ k) : Bd k x := Nat.lt_of_lt_of_le h (Nat.pow_le_pow_right (by decide) l)
theorem Bd.neg {k : Nat} {x : Int} (h : Bd k x) : Bd k (-x) := by unfold Bd at *; rw [Int.natAbs_neg]; exact h
theorem Bd.mul {j k : Nat} {x y : Int} (h : Bd j x) (g : Bd k y) : Bd (j + k) (x * y) := by
  unfold Bd at *
  rw [Int.natAbs_mul, Nat.pow_add]
  exact Nat.mul_lt_mul_of_lt_of_lt h g
theorem Bd.add {k : Nat} {x y : Int} (h : Bd k x) (g : Bd k y) : Bd (k + 1) (x + y) := by
  unfold Bd at *
  rw [Nat.pow_succ]
  omega
theorem Bd.sub {k : Nat} {x y : Int} (h : Bd k x) (g : Bd k y) : Bd (k + 1) (x - y) := by
  unfold Bd at *
  rw [Nat.pow_succ]
  omega
theorem Bd.of_le {k : Nat} {x y : Int} (h : Bd k y) (l : x.natAbs ≤ y.natAbs) : Bd k x := Nat.lt_of_le_of_lt l h
theorem Bd.abs {k : Nat} {x : Int} (h : Bd k x) : Bd k (if x < 0 then -x else x) := by
  split
  · exact h.neg
  · exact h
theorem wj (a b : Int) : (a.fdiv b).natAbs ≤ a.natAbs := by
  by_cases hb : b = 0
  · subst hb; simp
  have key : ∀ a b : Int, 0 < b → (a.fdiv b).natAbs ≤ a.natAbs := fun a b hb => by
    rw [Int.fdiv_eq_ediv_of_nonneg a (by omega)]
    have h1 : b * (a / b) + a % b = a := Int.mul_ediv_add_emod a b
    have h2 := Int.emod_nonneg a (show b ≠ 0 by omega)
    have h3 := Int.emod_lt_of_pos a hb
    rcases Int.lt_or_le (a / b) 0 with q | q
    · have e : a ≤ a / b := by
        have : b * (a / b) ≤ 1 * (a / b) - (b - 1) := by
          have z : (b - 1) * (a / b) ≤ (b - 1) * (-1) := Int.mul_le_mul_of_nonneg_left (by omega) (by omega)
          have z2 : b * (a / b) = (b - 1) * (a / b) + a / b := by rw [Int.sub_mul]; omega
          omega
        omega
      omega
    · have e : a / b ≤ a := by
        have z : 1 * (a / b) ≤ b * (a / b) := Int.mul_le_mul_of_nonneg_right (by omega) q
        omega
      omega
  rcases Int.lt_or_le b 0 with h | h
  · have e : a.fdiv b = (-a).fdiv (-b) := by rw [Int.neg_fdiv_neg]
    rw [e]
    have := key (-a) (-b) (by omega)
    omega
  · exact key a b (by omega)
theorem Bd.fdiv {k : Nat} {x : Int} (h : Bd k x) (y : Int) : Bd k (x.fdiv y) := h.of_le (wj x y)
theorem Bd.emod {k : Nat} {y : Int} (h : Bd k y) (hy : y ≠ 0) (x : Int) : Bd k (x % y) := by
  refine h.of_le ?_
  have h1 := Int.emod_nonneg x hy
  have h2 := Int.emod_lt x hy
  omega
theorem Bd.log {k : Nat} {x : Int} (h : Bd k x) : x.natAbs.log2 ≤ k := by
  by_cases z : x.natAbs = 0
  · rw [z]; simp
  · exact Nat.le_of_lt ((Nat.log2_lt z).mpr h)
def g3 (a b n : Int) : Nat := Int.gcd (Int.gcd n a) b
def gd (a b n : Int) : Int := if n < 0 then -(g3 a b n : Int) else (g3 a b n : Int)
theorem g3_n (a b n : Int) : (g3 a b n : Int) ∣ n := Int.dvd_trans (Int.gcd_dvd_left ..) (Int.gcd_dvd_left ..)
theorem g3_a (a b n : Int) : (g3 a b n : Int) ∣ a := Int.dvd_trans (Int.gcd_dvd_left ..) (Int.gcd_dvd_right ..)
theorem g3_b (a b n : Int) : (g3 a b n : Int) ∣ b := Int.gcd_dvd_right ..
theorem AZ {a b n : Int} (h : n ≠ 0) : 0 < g3 a b n := by
  rcases Nat.eq_zero_or_pos (g3 a b n) with z | z
  · have := g3_n a b n
    rw [z] at this
    exact absurd (Int.zero_dvd.mp (by simpa using this)) h
  · exact z
theorem G8 {a b n : Int} (h : n ≠ 0) : gd a b n ≠ 0 := by
  have := AZ (a := a) (b := b) h
  unfold gd
  split <;> omega
theorem C5 (a b n : Int) : (gd a b n).natAbs = g3 a b n := by
  unfold gd
  split <;> simp
theorem BP {a b n x : Int} (h : (g3 a b n : Int) ∣ x) : gd a b n ∣ x := by
  unfold gd
  split
  · exact Int.neg_dvd.mpr h
  · exact h
theorem Hs {k : Nat} {a b n : Int} (hn : n ≠ 0) (h : Bd k n) : Bd k (gd a b n) := by
  refine h.of_le ?_
  rw [C5]
  exact Nat.le_of_dvd (by omega) (by
    have := Int.natAbs_dvd_natAbs.mpr (g3_n a b n)
    simpa using this)
def lA (a b n : Int) : Int := a.fdiv (gd a b n)
def lB (a b n : Int) : Int := b.fdiv (gd a b n)
def lN (a b n : Int) : Int := n.fdiv (gd a b n)
theorem C8 {a b n : Int} : lA a b n * gd a b n = a := Int.fdiv_mul_cancel (BP (g3_a a b n))
theorem Dg {a b n : Int} : lB a b n * gd a b n = b := Int.fdiv_mul_cancel (BP (g3_b a b n))
theorem lN_mul {a b n : Int} : lN a b n * gd a b n = n := Int.fdiv_mul_cancel (BP (g3_n a b n))
theorem l_a {a b n : Int} : lA a b n * n = a * lN a b n := by
  have h1 := C8 (a := a) (b := b) (n := n)
  have h2 := lN_mul (a := a) (b := b) (n := n)
  calc lA a b n * n = lA a b n * (lN a b n * gd a b n) := by rw [h2]
    _ = lA a b n * gd a b n * lN a b n := by rw [Int.mul_assoc, Int.mul_comm (gd a b n)]
    _ = a * lN a b n := by rw [h1]
theorem l_b {a b n : Int} : lB a b n * n = b * lN a b n := by
  have h1 := Dg (a := a) (b := b) (n := n)
  have h2 := lN_mul (a := a) (b := b) (n := n)
  calc lB a b n * n = lB a b n * (lN a b n * gd a b n) := by rw [h2]
    _ = lB a b n * gd a b n * lN a b n := by rw [Int.mul_assoc, Int.mul_comm (gd a b n)]
    _ = b * lN a b n := by rw [h1]
theorem l_n {a b n : Int} (h : n ≠ 0) : 1 ≤ lN a b n := by
  have h2 := lN_mul (a := a) (b := b) (n := n)
  have hp := AZ (a := a) (b := b) h
  have hs : 0 < lN a b n := by
    by_cases c : n < 0
    · have e : gd a b n = -(g3 a b n : Int) := if_pos c
      rw [e] at h2
      refine Int.lt_of_not_ge fun z => ?_
      have : 0 ≤ lN a b n * -(g3 a b n : Int) := Int.mul_nonneg_of_nonpos_of_nonpos z (by omega)
      omega
    · have e : gd a b n = (g3 a b n : Int) := if_neg c
      rw [e] at h2
      refine Int.lt_of_not_ge fun z => ?_
      have : lN a b n * (g3 a b n : Int) ≤ 0 := Int.mul_nonpos_of_nonpos_of_nonneg z (by omega)
      omega
  omega
theorem xn {a b n : Int} (h : n ≠ 0) : g3 (lA a b n) (lB a b n) (lN a b n) = 1 := by
  have hp := AZ (a := a) (b := b) h
  have e : g3 a b n = g3 (lA a b n) (lB a b n) (lN a b n) * (gd a b n).natAbs := by
    have h1 := C8 (a := a) (b := b) (n := n)
    have h2 := Dg (a := a) (b := b) (n := n)
    have h3 := lN_mul (a := a) (b := b) (n := n)
    have : g3 (lA a b n * gd a b n) (lB a b n * gd a b n) (lN a b n * gd a b n) = g3 (lA a b n) (lB a b n) (lN a b n) * (gd a b n).natAbs := by
      unfold g3
      rw [Int.gcd_mul_right]
      have e1 : ((Int.gcd (lN a b n) (lA a b n) * (gd a b n).natAbs : Nat) : Int).gcd (lB a b n * gd a b n) = Int.gcd ((Int.gcd (lN a b n) (lA a b n) : Int) * gd a b n) (lB a b n * gd a b n) := by
        rw [Int.gcd_eq_natAbs_gcd_natAbs, Int.gcd_eq_natAbs_gcd_natAbs]
        congr 1
        rw [Int.natAbs_mul, Int.natAbs_natCast, Int.natAbs_natCast]
      rw [e1, Int.gcd_mul_right]
    rw [h1, h2, h3] at this
    exact this
  rw [C5] at e
  have : 1 * g3 a b n = g3 (lA a b n) (lB a b n) (lN a b n) * g3 a b n := by omega
  exact (Nat.eq_of_mul_eq_mul_right hp this).symm
end Bg
namespace L2
open PySem PySem.Spec PyProof.Rows Bg
theorem Bp {k : Nat} {x : Int} (h : Bd k x) : Builtin.Int.intBits x ≤ k := by
  unfold Builtin.Int.intBits
  split
  · exact Nat.zero_le _
  · rename_i z
    have z' : x ≠ 0 := by simpa using z
    exact (Nat.log2_lt (by omega)).mpr h
theorem Bd.ok {j k : Nat} {x y : Int} (h : Bd j x) (g : Bd k y) (l : j + k ≤ 134217728) : IntMulOk x y := by
  have h1 := Bp h
  have h2 := Bp g
  unfold IntMulOk
  have : Builtin.Int.intTooBig (Builtin.Int.intBits x + Builtin.Int.intBits y) = false := by
    unfold Builtin.Int.intTooBig bitsLine
    simp only [decide_eq_false_iff_not, Int.not_lt, gt_iff_lt]
    have : (2 ^ 27 : Nat) = 134217728 := by decide
    omega
  rw [this]
  simp
section
variable {X : Cx}
theorem zn : OpR X (binaryOp .Mult) (rI IntMulOk fun i j => .int (i * j)) := opI fun _ _ _ _ _ _ _ hc q => mul_int q hc
abbrev CFd (_ j : Int) : Prop := j ≠ 0 ∧ j.natAbs.log2 < 9000
abbrev CFp (_ j : Int) : Prop := 0 < j ∧ j.natAbs.log2 < 9000
abbrev CPw (i j : Int) : Prop := 0 ≤ j ∧ (Builtin.Int.intBits i : Int) * j ≤ 2 ^ 27
theorem zJ : OpR X (binaryOp .FloorDiv) (rI CFd fun i j => .int (i.fdiv j)) := opI fun _ _ _ _ _ _ _ hc q => floordiv_int hc.1 q (.inl (PyProof.noPylong_of_log2 hc.2))
theorem yz : OpR X (binaryOp .FloorDiv) (rI CFp fun i j => .int (i / j)) := opI fun i j _ _ _ _ _ hc q => by
  have h1 : (0 : Int) < j := hc.1
  exact floordiv_int (by omega) (by rw [Int.fdiv_eq_ediv_of_nonneg i (by omega)]; exact q) (.inl (PyProof.noPylong_of_log2 hc.2))
theorem yV : OpR X (binaryOp .Pow) (rI CPw fun i j => .int (i ^ j.toNat)) := opI fun _ _ _ _ _ _ _ hc q => pow_int hc.1 hc.2 q
def rIs (K : PySem.W.Frag) : List V → Hp → VK → Prop := fun xs H Q => ∃ x T t b, xs = [x, .ty T] ∧ TyOf K H x t ∧ PySem.W.kitOne K t (.type T) = some b ∧ Q (.bl b) H
theorem yc : yE X (.builtin "isinstance") (rIs X.K) := by
  intro pins s σ H xs us Q I r h
  obtain ⟨x, T, t, b, rfl, ty, e, q⟩ := h
  obtain ⟨u, c, rfl, ru, rc⟩ := Fh r
  cases (show c = Value.type T from rc)
  exact Bv I ru ty e fun tk => ⟨.bl b, H, I.tok tk, rfl, q⟩
end
theorem vh (K : PySem.W.Frag) (T : String) : PySem.W.kitOne K (.type T) (.type T) = some true := by
  unfold PySem.W.kitOne
  rw [if_pos]
  simp
theorem vQ (K : PySem.W.Frag) : PySem.W.kitOne K (.type "int") (.type "bool") = some false := by
  unfold PySem.W.kitOne
  rw [if_neg (by decide)]
  show (if PySem.W.kitMeta "bool" = true then PySem.W.subIn K (.type "int") (.type "bool") else none) = some false
  rw [if_pos (by decide +kernel)]
  show (fastBuiltinMro "int").map (·.contains (Value.type "bool")) = some false
  decide +kernel
section
variable {K : PySem.W.Frag} {H : Hp} {Q : VK}
theorem B9 {i : Int} (h : Q (.bl true) H) : rIs K [.int i, .ty "int"] H Q := ⟨_, _, _, _, rfl, .int i, vh K _, h⟩
theorem An {i : Int} (h : Q (.bl false) H) : rIs K [.int i, .ty "bool"] H Q := ⟨_, _, _, _, rfl, .int i, vQ K, h⟩
theorem CA {a : Addr} {xs : List V} (e : H a = some (.tup xs)) (h : Q (.bl true) H) : rIs K [.ref a, .ty "tuple"] H Q := ⟨_, _, _, _, rfl, .tup e, vh K _, h⟩
end
def Own (P : Program) (w : World) (K : PySem.W.Frag) (mg : Str → Option Value) (base : Heap) (k : Nat) (x : Str) (ps : List Str) (dvs : List V) (sp : Sp) : Prop :=
  ∃ (f : Addr) (fd : FuncData) (ds : List Value), FnOk P w K mg base CX0 k f fd ps sp ∧ mg x = some (.ref f) ∧ PySem.W.keepIn K (.ref f) = true ∧ Binds K fd ps ds ∧ Vals dvs ds
theorem zl {X : Cx} {k j : Nat} {x : Str} {ps : List Str} {dvs : List V} {sp : Sp} {p pos : Pos} {e : Expr} {es : List Expr} {t : TA} (O : Own X.prog X.w X.K X.mg X.base k x ps dvs sp) (hr : Room j X.A) (hg : Gl X x)
    (ha : PA X (e :: es) t) (hk : k ≤ j := by decide) (hdb : (x == ("__debug__" : Str)) = false := by decide) (he : starEach (e :: es) X.env = (false, eval e X.env) :: starEach es X.env := by rfl) (hpl : (backTo pos (starEach es X.env)).any (·.1) = false := by rfl) :
    PE X (.Call (.Name x p) (e :: es) [] pos) (DI sp dvs E0 t) := by
  obtain ⟨f, fd, ds, F, hm, kp, hb, hd⟩ := O
  exact Eg F (hr.mono hk) hg hm kp hb hd vd ha hdb he hpl
structure FunD (K : PySem.W.Frag) (x qual : Str) (st : Stmt) (f : Addr) (fd : FuncData) (its : List Value) : Prop where
  ex : ∃ (oc : Value) (od : Option Addr) (T : Addr) (kV doc pm : Value) (an : Option Addr) (cdv ct : Value) (osl : Array (Option Value)) (to : Obj) (n : Nat),
    fd = PySem.W.fnOf x qual (defArgs st) (defBody st) (defScope st) (.ref T) kV doc pm an cdv ct ∧ K.lookup f = some ⟨oc, od, .func fd, osl⟩ ∧ PySem.W.codeIn K cdv qual = true ∧ K.lookup T = some to ∧ to.data = .seq its.toArray n
  kp : PySem.W.keepIn K (.ref f) = true
section
variable {P : Program} {w : World} {K : PySem.W.Frag} {mg : Str → Option Value} {base : Heap}
theorem FunD.ok {x qual : Str} {st : Stmt} {f : Addr} {fd : FuncData} {its : List Value} {N ps : List Str} {k : Nat} {sp : Sp} (F : FunD K x qual st f fd its) (S : FnScope N ps (defScope st)) (len : ∀ vs H Q E, sp vs H Q E → vs.length = ps.length)
    (hbody : ∀ (cdv : Value) (A : Around) (outer : List Env) (s : Shared) (H : Hp) (vs : List V) (Q : VK) (E : XK), Room k (A.deeper (envOfC qual (defScope st) s.heap.objs.size f cdv)) → sp vs H Q E →
      ∃ t, PSs (cxOf CX0 P w K mg base N qual (defScope st) f cdv A outer s H E).nox (defBody st) t ∧ t { nx := fun _ H' => Q .non H', rt := Q } (wM N vs) H) : FnOk P w K mg base CX0 (k + 1) f fd ps sp := by
  obtain ⟨oc, od, T, kV, doc, pm, an, cdv, ct, osl, to, n, rfl, lk, hcd, _⟩ := F.ex
  refine Fi lk hcd S len fun A outer s H vs Q E hr hsp => ?_
  obtain ⟨t, h, q⟩ := hbody cdv A outer s H vs Q E hr hsp
  exact ⟨t, h.nox, q⟩
end
def Top (K : PySem.W.Frag) (mg : Str → Option Value) (x : Str) (st : Stmt) : Prop := ∃ (f : Addr) (fd : FuncData), Fun K x x st f fd ∧ mg x = some (.ref f)
def TopD (K : PySem.W.Frag) (mg : Str → Option Value) (x : Str) (st : Stmt) (its : List Value) : Prop := ∃ (f : Addr) (fd : FuncData), FunD K x x st f fd its ∧ mg x = some (.ref f)
theorem top_mk {K : PySem.W.Frag} {h : Heap} {mg : Str → Option Value} {x : Str} {st : Stmt} {f : Addr} {oc : Value} {od an : Option Addr} {osl : Array (Option Value)} {kV doc pm cdv ct : Value} (X : K.In h) (G : h.Ns mainGlobals mg)
    (a : PySem.W.nsIn K mainGlobals x = some (some (.ref f))) (l : K.lookup f = some ⟨oc, od, .func (PySem.W.fnOf x x (defArgs st) (defBody st) (defScope st) .none kV doc pm an cdv ct), osl⟩)
    (c : PySem.W.codeIn K cdv x = true) (k : PySem.W.keepIn K (.ref f) = true) : Top K mg x st := ⟨f, _, Dj l c k, PySem.W.mg_of X G a⟩
theorem topD_mk {K : PySem.W.Frag} {h : Heap} {mg : Str → Option Value} {x : Str} {st : Stmt} {f T : Addr} {oc : Value} {od an : Option Addr} {osl : Array (Option Value)} {kV doc pm cdv ct : Value} {its : List Value} {n : Nat} {to : Obj} (X : K.In h) (G : h.Ns mainGlobals mg)
    (a : PySem.W.nsIn K mainGlobals x = some (some (.ref f))) (l : K.lookup f = some ⟨oc, od, .func (PySem.W.fnOf x x (defArgs st) (defBody st) (defScope st) (.ref T) kV doc pm an cdv ct), osl⟩)
    (c : PySem.W.codeIn K cdv x = true) (k : PySem.W.keepIn K (.ref f) = true) (t : K.lookup T = some to) (d : to.data = .seq its.toArray n) : TopD K mg x st its := ⟨f, _, ⟨⟨oc, od, T, kV, doc, pm, an, cdv, ct, osl, _, n, rfl, l, c, t, d⟩, k⟩, PySem.W.mg_of X G a⟩
theorem Top.own {P : Program} {w : World} {K : PySem.W.Frag} {mg : Str → Option Value} {base : Heap} {k : Nat} {x : Str} {st : Stmt} {ps : List Str} {sp : Sp} (T : Top K mg x st)
    (hb : ∀ (kV doc pm : Value) (an : Option Addr) (cdv ct : Value) (us : List Value), us.length = ps.length → bindArgs (PySem.W.fnOf x x (defArgs st) (defBody st) (defScope st) .none kV doc pm an cdv ct) ⟨us, []⟩ = pure (ps.zip us))
    (h : ∀ f fd, Fun K x x st f fd → FnOk P w K mg base CX0 k f fd ps sp) : Own P w K mg base k x ps [] sp := by
  obtain ⟨f, fd, F, m⟩ := T
  exact ⟨f, fd, [], h f fd F, m, F.kp, F.binds hb, .nil⟩
def NewL (xs : List V) (H : Hp) (Q : VK) : Prop := xs.length ≤ sizeLine ∧ ∀ p, H p = none → Q (.ref p) (upd H p (.lst xs))
def NewT (xs : List V) (H : Hp) (Q : VK) : Prop := xs.length ≤ sizeLine ∧ ∀ p, H p = none → Q (.ref p) (upd H p (.tup xs))
def rLen (K : PySem.W.Frag) : List V → Hp → VK → Prop := fun xs H Q => ∃ p ys, xs = [.ref p] ∧ (SqL K H p ys ∨ SqT K H p ys) ∧ Q (.int ys.length) H
def rAbs : List V → Hp → VK → Prop := fun xs H Q => ∃ i, xs = [.int i] ∧ Q (.int (if i < 0 then -i else i)) H
def rInt : List V → Hp → VK → Prop := fun xs H Q => (∃ i, xs = [.int i] ∧ Q (.int i) H) ∨ ∃ k, xs = [.bl k] ∧ Q (.int (if k then 1 else 0)) H
theorem zy {X : Cx} : yE X (.builtin "len") (rLen X.K) := v8
theorem xN {X : Cx} : yE X (.builtin "abs") rAbs := CK
theorem BA {X : Cx} : yE X (.type "int") rInt := AV
section
variable {σ : St} {H : Hp} {Q : VK} {B : Bool → Hp → Prop} {D : Ends} {K : PySem.W.Frag}
theorem GY {t u : TS} (h : t { D with nx := u D } σ H) : tSeq t u D σ H := h
theorem i_next (h : D.nx σ H) : Gh D σ H := h
theorem i_asg {te : TE} {g : TG} (h : te σ H fun x H1 => g x σ H1 D.nx) : tAsg te g D σ H := h
theorem i_gname {i : Nat} {v : V} {R : St → Hp → Prop} (h : R (σ.set i (some v)) H) : DB i v σ H R := h
theorem i_ret {te : TE} (h : te σ H D.rt) : tRet te D σ H := h
theorem i_drop {te : TE} (h : te σ H fun _ H1 => D.nx σ H1) : FL te D σ H := h
theorem i_ifS {c : TT} {t u : TS} (h : c σ H fun b H1 => if b = true then t D σ H1 else u D σ H1) : tIfS c t u D σ H := h
theorem i_var {i : Nat} {v : V} (e : σ[i]? = some (some v)) (h : Q v H) : tVar i σ H Q := ⟨v, e, h⟩
theorem i_c {v : V} (h : Q v H) : tC v σ H Q := h
theorem i_op {r : R2} {ta tb : TE} (h : ta σ H fun x H1 => tb σ H1 fun y H2 => r x y H2 Q) : tOp r ta tb σ H Q := h
theorem i_un {r : V → Hp → VK → Prop} {ta : TE} (h : ta σ H fun x H1 => r x H1 Q) : tUn r ta σ H Q := h
theorem i_I0 {g : Int → Int → V} {i j : Int} (h : Q (g i j) H) : rI0 g (.int i) (.int j) H Q := ⟨i, j, rfl, rfl, h⟩
theorem i_I {C : Int → Int → Prop} {g : Int → Int → V} {i j : Int} (h : Q (g i j) H) (c : C i j) : rI C g (.int i) (.int j) H Q := ⟨i, j, rfl, rfl, c, h⟩
theorem i_U {g : Int → V} {i : Int} (h : Q (g i) H) : rU g (.int i) H Q := ⟨i, rfl, h⟩
theorem Ht {i j : Int} (h : Q (.bl (decide (i = j))) H) : rEq (.int i) (.int j) H Q := ⟨rfl, by
  have e : decide (V.int i = V.int j) = decide (i = j) := by rw [wU]; exact Bool.beq_eq_decide_eq i j
  rw [e]; exact h⟩
theorem G7 {i j : Int} (h : Q (.bl (!decide (i = j))) H) : rNe (.int i) (.int j) H Q := ⟨rfl, by
  have e : decide (V.int i = V.int j) = decide (i = j) := by rw [wU]; exact Bool.beq_eq_decide_eq i j
  rw [e]; exact h⟩
theorem GT {i j : Bool} (h : Q (.bl (decide (i = j))) H) : rEq (.bl i) (.bl j) H Q := ⟨rfl, by
  have e : decide (V.bl i = V.bl j) = decide (i = j) := by rw [dec_bl]; cases i <;> cases j <;> rfl
  rw [e]; exact h⟩
theorem Gj {t : TE} (h : t σ H fun x H' => ∃ k, x = .bl k ∧ B k H') : Fm t σ H B := h
theorem i_tB {t : TE} (h : t σ H fun x H' => ∃ k, x = .bl k ∧ B k H') : tB t σ H B := h
theorem i_bl {k : Bool} {R : Bool → Prop} (h : R k) : ∃ k', V.bl k = .bl k' ∧ R k' := ⟨k, rfl, h⟩
theorem GS {t u : TT} (h : t σ H fun c H1 => if c = true then u σ H1 B else B false H1) : tAnd t u σ H B := h
theorem i_or {t u : TT} (h : t σ H fun c H1 => if c = true then B true H1 else u σ H1 B) : tOr t u σ H B := h
theorem G4 {t : TT} (h : t σ H fun c H1 => B (!c) H1) : tNot t σ H B := h
theorem Fn {t u : TE} (h : t σ H fun x H1 => ∃ c, x = .bl c ∧ if c = true then u σ H1 Q else Q (.bl false) H1) : FG t u σ H Q := h
theorem Hr {t u : TE} (h : t σ H fun x H1 => ∃ c, x = .bl c ∧ if c = true then Q (.bl true) H1 else u σ H1 Q) : tOrV t u σ H Q := h
theorem FE {t : TE} (h : t σ H fun x H1 => ∃ c, x = .bl c ∧ Q (.bl (!c)) H1) : FI t σ H Q := h
theorem G3 {c : TT} {ta tb : TE} (h : c σ H fun b H1 => if b = true then ta σ H1 Q else tb σ H1 Q) : tIf c ta tb σ H Q := h
theorem GJ {R : List V → Hp → Prop} (h : R [] H) : tNil σ H R := h
theorem FJ {ta : TE} {tr : TA} {R : List V → Hp → Prop} (h : ta σ H fun x H1 => tr σ H1 fun xs H2 => R (x :: xs) H2) : D4 ta tr σ H R := h
theorem ER {sp : Sp} {dvs : List V} {E : XK} {t : TA} (h : t σ H fun vs H1 => sp (vs ++ dvs) H1 Q E) : DI sp dvs E t σ H Q := h
theorem i_cb {r : List V → Hp → VK → Prop} {t : TA} (h : t σ H fun vs H1 => r vs H1 Q) : tCB r t σ H Q := h
theorem G5 {t : TA} (h : t σ H fun xs H1 => NewT xs H1 Q) : tTup t σ H Q := h
theorem Gw {t : TA} (h : t σ H fun xs H1 => NewL xs H1 Q) : tLst t σ H Q := h
theorem yx {n : Nat} (h : n ≤ 1000) : n ≤ sizeLine := Nat.le_of_lt (AF h)
theorem uF {p : Addr} {xs : List V} {i : Int} {v : V} (h : H p = some (.tup xs)) (e : atI xs i = some v) (q : Q v H) : rIxT K (.ref p) (.int i) H Q := ⟨p, xs, i, v, rfl, rfl, SqT.of h, e, q⟩
theorem zU {p : Addr} {xs : List V} {i : Int} {v : V} (h : H p = some (.lst xs)) (e : atI xs i = some v) (q : Q v H) : rIxL K (.ref p) (.int i) H Q := ⟨p, xs, i, v, rfl, rfl, SqL.of h, e, q⟩
theorem Gd {p : Addr} {xs : List V} (h : H p = some (.tup xs)) (q : Q (.int xs.length) H) : rLen K [.ref p] H Q := ⟨p, xs, rfl, .inr (SqT.of h), q⟩
theorem Fz {p : Addr} {xs : List V} (h : H p = some (.lst xs)) (q : Q (.int xs.length) H) : rLen K [.ref p] H Q := ⟨p, xs, rfl, .inl (SqL.of h), q⟩
theorem Gs {i : Int} (q : Q (.int (if i < 0 then -i else i)) H) : rAbs [.int i] H Q := ⟨i, rfl, q⟩
theorem Fq {k : Bool} (q : Q (.int (if k then 1 else 0)) H) : rInt [.bl k] H Q := .inr ⟨k, rfl, q⟩
theorem GV {i j : Nat} {ta : TA} (h : ta σ H fun vs H1 => ∃ v w, vs = [v, w] ∧ D.nx ((σ.set i (some v)).set j (some w)) H1) : tPar i j ta D σ H := h
theorem Fr {v w : V} {R : V → V → Prop} (h : R v w) : ∃ v' w', [v, w] = [v', w'] ∧ R v' w' := ⟨v, w, rfl, h⟩
end
theorem if_d {p A B : Prop} [Decidable p] (h1 : p → A) (h2 : ¬ p → B) : if decide p = true then A else B := by
  by_cases h : p
  · rw [if_pos (decide_eq_true h)]; exact h1 h
  · rw [if_neg (by simp [h])]; exact h2 h
theorem vq {p A B : Prop} [Decidable p] (h1 : ¬ p → A) (h2 : p → B) : if (!decide p) = true then A else B := by
  by_cases h : p
  · rw [if_neg (by simp [h])]; exact h2 h
  · rw [if_pos (by simp [h])]; exact h1 h
theorem uh {α : Type} {x y : α} {A B : Prop} [Decidable (x = y)] (e : x = y) (h : B) : if (!decide (x = y)) = true then A else B := vq (fun c => absurd e c) fun _ => h
theorem if_t {A B : Prop} (h : A) : if true = true then A else B := by rw [if_pos rfl]; exact h
theorem if_f {A B : Prop} (h : B) : if false = true then A else B := by rw [if_neg Bool.false_ne_true]; exact h
theorem Fk {A B : Prop} (h : B) : if (!true) = true then A else B := by rw [if_neg (by decide)]; exact h
theorem Gv {A B : Prop} (h : A) : if (!false) = true then A else B := by rw [if_pos (by decide)]; exact h
theorem zI {H : Hp} {p : Addr} (h : H p = none) (o : HO) : Same H (upd H p o) := fun b u q => by rw [zt (zj q h)]; exact q
theorem wc (x : Int) : Bd (x.natAbs.log2 + 1) x := by
  unfold Bd
  exact Nat.lt_log2_self
theorem xD {j k : Nat} {x y : Int} (h : Bd j x) (g : Bd k y) : Bd (j + k + 1) (x + y) := (h.mono (Nat.le_add_right ..)).add (g.mono (Nat.le_add_left ..))
theorem Ew {j k : Nat} {x y : Int} (h : Bd j x) (g : Bd k y) : Bd (j + k + 1) (x - y) := (h.mono (Nat.le_add_right ..)).sub (g.mono (Nat.le_add_left ..))
end L2
namespace L2
open PySem PySem.Spec PyProof.Rows Bg
section
variable {P : Program} {w : World} {K : PySem.W.Frag} {mg : Str → Option Value} {base : Heap}
theorem FunD.binds {x qual : Str} {st : Stmt} {f : Addr} {fd : FuncData} {its ds : List Value} {ps : List Str} (F : FunD K x qual st f fd its)
    (h : ∀ (T : Addr) (kV doc pm : Value) (an : Option Addr) (cdv ct : Value) (us : List Value), (us ++ ds).length = ps.length → ∃ k : Option (Array Value) → Sem (List (Str × Value)),
      bindArgs (PySem.W.fnOf x qual (defArgs st) (defBody st) (defScope st) (.ref T) kV doc pm an cdv ct) ⟨us, []⟩ = seqItems? (.ref T) >>= k ∧ k (some its.toArray) = pure (ps.zip (us ++ ds))) : Binds K fd ps ds := by
  obtain ⟨oc, od, T, kV, doc, pm, an, cdv, ct, osl, to, n, rfl, lk, hcd, lT, hs⟩ := F.ex
  intro s us KX hl
  obtain ⟨k, h1, h2⟩ := h T kV doc pm an cdv ct us hl
  exact BindsTo.of_defaults rfl (KX _ _ lT) hs h1 h2
theorem TopD.own {k : Nat} {x : Str} {st : Stmt} {ps : List Str} {its ds : List Value} {dvs : List V} {sp : Sp} (T : TopD K mg x st its)
    (hb : ∀ (T : Addr) (kV doc pm : Value) (an : Option Addr) (cdv ct : Value) (us : List Value), (us ++ ds).length = ps.length → ∃ k : Option (Array Value) → Sem (List (Str × Value)),
      bindArgs (PySem.W.fnOf x x (defArgs st) (defBody st) (defScope st) (.ref T) kV doc pm an cdv ct) ⟨us, []⟩ = seqItems? (.ref T) >>= k ∧ k (some its.toArray) = pure (ps.zip (us ++ ds)))
    (hd : Vals dvs ds) (h : ∀ f fd, FunD K x x st f fd its → FnOk P w K mg base CX0 k f fd ps sp) : Own P w K mg base k x ps dvs sp := by
  obtain ⟨f, fd, F, m⟩ := T
  exact ⟨f, fd, ds, h f fd F, m, F.kp, F.binds hb, hd⟩
end
end L2
namespace Att
open PySem PySem.W PySem.Calls PyProof.Rows Bg
theorem x5 {x : WData} : ∀ {xs : List WData}, x ∈ xs → WData.weight x ≤ WData.weightAll xs
  | [], h => absurd h (by simp)
  | y :: ys, h => by
    simp only [WData.weightAll]
    rcases List.mem_cons.mp h with e | e
    · subst e; omega
    · have := x5 e
      omega
theorem Ck {ns : List Int} (h : WData.layableAll [WData.list (ns.map WData.int)] = true) : ∀ x ∈ ns, Bd 1048576 x := fun x hx => by
  have h1 : WData.layable (WData.list (ns.map WData.int)) = true := by simpa [WData.layableAll] using h
  unfold WData.layable at h1
  rw [Bool.and_eq_true] at h1
  have h2 : WData.weight (WData.list (ns.map WData.int)) ≤ 2 ^ 20 := of_decide_eq_true h1.2
  simp only [WData.weight] at h2
  have h3 : WData.weight (WData.int x) ≤ WData.weightAll (ns.map WData.int) := x5 (List.mem_map.mpr ⟨x, hx, rfl⟩)
  simp only [WData.weight] at h3
  unfold Bd
  by_cases z : x = 0
  · subst z
    exact Nat.pow_pos (by decide)
  · rw [if_neg (by simpa using z)] at h3
    have e : (2 : Nat) ^ 20 = 1048576 := by decide
    exact (Nat.log2_lt (by omega)).mp (by omega)
theorem attach_callB {l : OpenLaw} {n : Nat} {q : Program} {loose : List Str} {XP : (Str → Option Value) → Heap → Prop} {YP : World → Heap → Prop} {d : DefRec}
    (hn : l.most = some n) (hdf : d.params.defaults = [])
    (call : ∀ (w : World) (s₀ s₁ : Shared) (mg mb : Str → Option Value) (fa : Addr) (a : Addr) (vs : List Value) (ns : List Int),
      Ground q loose [] XP w s₀ mg mb s₁.heap → YP w s₁.heap → mg d.name = some (.ref fa) →
      s₁.heap.get? a = some { cls := .type "list", data := .seq vs.toArray } → IntsAre vs ns → ns.length ≤ n → (∀ x ∈ ns, Bd 1048576 x) → s₁.gens = #[] →
      codeAny (model l.prog w) callerA (.call (.ref fa) ⟨[.ref a], []⟩) (fun r s' => r = .ok (.ret (.bool true)) ∧ OldK s₁.heap s'.heap ∧ s'.os = s₁.os ∧ AllBare s'.gens) s₁) :
    WalkO q loose XP YP l.row.toRowW d [] (fun f vs => PySem.call f vs) := by
  intro w s₀ s₁ mg mb G Y fa o pm cd doc dV kV ho hd hcd hD hmg hg args vals as hpre hlay hrd hwl hlo
  obtain ⟨a, vs, ns, rfl, rfl, hobj, hints, hlen⟩ := Al hn hpre hwl
  refine enter_call (codeAny_mono (call w s₀ s₁ mg mb fa a vs ns G Y hmg hobj hints hlen (Ck hlay) hg) fun r s' hq => ?_)
  obtain ⟨rfl, h2, h3, h4⟩ := hq
  exact ⟨.inl ⟨.bool true, .bool true, [], rfl, fun _ => rfl, .bool true, Av l _, fun _ => ⟨List.Pairwise.nil, fun _ hm => (nomatch hm)⟩⟩, h2, h3, h4⟩
end Att
namespace L2
open PySem PySem.Spec PyProof.Rows Bg
def Cz (K : PySem.W.Frag) : Sp := fun vs H Q _ => ∃ (a : Addr) (ns : List Int), vs = [.ref a] ∧ SqL K H a (ns.map V.int) ∧ ns.length ≤ 63 ∧ (∀ x ∈ ns, Bd 1048576 x) ∧ ∀ H', Q (.bl true) H'
theorem walk_B {l : PySem.W.OpenLaw} {k : Nat} {q : Program} {loose : List Str} {XP : (Str → Option Value) → Heap → Prop} {YP : World → Heap → Prop} {d : DefRec} {K : Params → PySem.W.Frag} {x : Str}
    (hn : l.most = some 63) (hdf : d.params.defaults = []) (hr : Room k callerA)
    (hY : ∀ (w : World) (h : Heap), YP w h → (K w.params).In h)
    (F : ∀ (w : World) (mg : Str → Option Value) (fa : Addr) (h : Heap), (K w.params).In h → h.Ns mainGlobals mg → mg d.name = some (.ref fa) →
      ∃ fd : FuncData, (∀ (s : Shared) (u : Value), BindsTo s fd ⟨[u], []⟩ [(x, u)]) ∧
        ∀ base : Heap, (K w.params).In base → base.Ns mainGlobals mg → FnOk l.prog w (K w.params) mg base CX0 k fa fd [x] (Cz (K w.params))) :
    PySem.W.WalkO q loose XP YP l.row.toRowW d [] (fun f vs => PySem.call f vs) := by
  refine Att.attach_callB hn hdf fun w s₀ s₁ mg mb fa a vs ns G Y hmg hobj hints hlen hbd hg => ?_
  have KX := hY w _ Y
  obtain ⟨fd, hb, hF⟩ := F w mg fa _ KX G.T.g hmg
  exact Ce KX G.T.g G.T.b G.T.builtins G.T.nolimit hg hobj hints (Nat.le_trans hlen (by decide)) hr hF hb (fun H hO hS => ⟨a, ns, rfl, hS, hlen, hbd, fun _ => rfl⟩) fun H e s' z => z
theorem law_mk {P : Program} {w : World} {K : PySem.W.Frag} {mg : Str → Option Value} {fa : Addr} {k : Nat} {st : Stmt} {x : Str} (T : Top K mg "law" st) (hfa : mg "law" = some (.ref fa))
    (hb : ∀ (kV doc pm : Value) (an : Option Addr) (cdv ct : Value) (v : Value), bindArgs (PySem.W.fnOf "law" "law" (defArgs st) (defBody st) (defScope st) .none kV doc pm an cdv ct) ⟨[v], []⟩ = pure [(x, v)])
    (h : ∀ base f fd, Fun K "law" "law" st f fd → FnOk P w K mg base CX0 k f fd [x] (Cz K)) :
    ∃ fd : FuncData, (∀ (s : Shared) (u : Value), BindsTo s fd ⟨[u], []⟩ [(x, u)]) ∧ ∀ base : Heap, K.In base → base.Ns mainGlobals mg → FnOk P w K mg base CX0 k fa fd [x] (Cz K) := by
  obtain ⟨f, fd, F, m⟩ := T
  have e := hfa.symm.trans m
  cases e
  obtain ⟨oc, od, kV, doc, pm, an, cdv, ct, osl, e1, lk, hcd⟩ := id F.ex
  refine ⟨fd, fun s u => ?_, fun base _ _ => h base _ _ F⟩
  rw [e1]
  exact .of_eq (hb kV doc pm an cdv ct u)
end L2
namespace Bg
theorem Do (c x y z : Int) : g3 (c * x) (c * y) (c * z) = c.natAbs * g3 x y z := by
  unfold g3
  rw [Int.gcd_mul_left]
  have e1 : ((c.natAbs * Int.gcd z x : Nat) : Int).gcd (c * y) = Int.gcd (c * (Int.gcd z x : Nat)) (c * y) := by
    rw [Int.gcd_eq_natAbs_gcd_natAbs, Int.gcd_eq_natAbs_gcd_natAbs]
    congr 1
    rw [Int.natAbs_mul, Int.natAbs_natCast, Int.natAbs_natCast]
  rw [e1, Int.gcd_mul_left]
theorem uQ {d x y z : Int} (hx : d ∣ x) (hy : d ∣ y) (hz : d ∣ z) : d ∣ (g3 x y z : Int) := Int.dvd_coe_gcd (Int.dvd_coe_gcd hz hx) hy
theorem Ar {x y z x' y' z' : Int} (hg : g3 x y z = 1) (hx : x * z' = x' * z) (hy : y * z' = y' * z) : z ∣ z' := by
  have h1 : z ∣ z' * x := ⟨x', by rw [Int.mul_comm z', hx, Int.mul_comm]⟩
  have h2 : z ∣ z' * y := ⟨y', by rw [Int.mul_comm z', hy, Int.mul_comm]⟩
  have h3 : z ∣ z' * z := ⟨z', by rw [Int.mul_comm]⟩
  have h := uQ h1 h2 h3
  rw [Do, hg, Nat.mul_one] at h
  exact Int.dvd_natAbs.mp h
theorem EM {x y z x' y' z' : Int} (h1 : 1 ≤ z) (h2 : 1 ≤ z') (g1 : g3 x y z = 1) (g2 : g3 x' y' z' = 1) (hx : x * z' = x' * z) (hy : y * z' = y' * z) : x = x' ∧ y = y' ∧ z = z' := by
  have d1 : z ∣ z' := Ar g1 hx hy
  have d2 : z' ∣ z := Ar g2 hx.symm hy.symm
  have e : z = z' := by
    have a1 := Int.le_of_dvd (by omega) d1
    have a2 := Int.le_of_dvd (by omega) d2
    omega
  subst e
  exact ⟨Int.eq_of_mul_eq_mul_right (by omega) hx, Int.eq_of_mul_eq_mul_right (by omega) hy, rfl⟩
theorem zL {x y z a b n : Int} (h1 : 1 ≤ z) (g1 : g3 x y z = 1) (hn : n ≠ 0) (hx : x * n = a * z) (hy : y * n = b * z) : x = lA a b n ∧ y = lB a b n ∧ z = lN a b n := by
  refine EM h1 (l_n hn) g1 (xn hn) ?_ ?_
  · have e := l_a (a := a) (b := b) (n := n)
    refine Int.eq_of_mul_eq_mul_right hn ?_
    calc x * lN a b n * n = x * n * lN a b n := by rw [Int.mul_assoc, Int.mul_comm (lN a b n), Int.mul_assoc]
      _ = a * z * lN a b n := by rw [hx]
      _ = a * lN a b n * z := by rw [Int.mul_assoc, Int.mul_comm z, Int.mul_assoc]
      _ = lA a b n * n * z := by rw [e]
      _ = lA a b n * z * n := by rw [Int.mul_assoc, Int.mul_comm n, Int.mul_assoc]
  · have e := l_b (a := a) (b := b) (n := n)
    refine Int.eq_of_mul_eq_mul_right hn ?_
    calc y * lN a b n * n = y * n * lN a b n := by rw [Int.mul_assoc, Int.mul_comm (lN a b n), Int.mul_assoc]
      _ = b * z * lN a b n := by rw [hy]
      _ = b * lN a b n * z := by rw [Int.mul_assoc, Int.mul_comm z, Int.mul_assoc]
      _ = lB a b n * n * z := by rw [e]
      _ = lB a b n * z * n := by rw [Int.mul_assoc, Int.mul_comm n, Int.mul_assoc]
end Bg
namespace Bg
theorem DK {k : Nat} {x y : Int} (h : Bd k x) : Bd k (x / y) := h.of_le (Int.natAbs_ediv_le_natAbs x y)
theorem Ee {k : Nat} {x y : Int} (h : Bd k y) (hy : 0 < y) : Bd k (x % y) := h.emod (by omega) x
theorem yn {k : Nat} {x B : Int} (h0 : 0 ≤ x) (h1 : x ≤ B) (hB : B.natAbs < 2 ^ k) : Bd k x := by
  unfold Bd
  omega
theorem wW {x : Int} (k : Nat) (h0 : -1000000 ≤ x) (h1 : x ≤ 1000000) (hk : 20 ≤ k) : Bd k x := by
  have h : Bd 20 x := by
    unfold Bd
    have : (2 : Nat) ^ 20 = 1048576 := by decide
    omega
  exact h.mono hk
end Bg
namespace L2
open PySem PySem.Spec PyProof.Rows Bg
section
variable {σ : St} {H : Hp} {Q : VK} {D : Ends} {K : PySem.W.Frag}
def tCut (t : TS) : TS := fun D σ H => ∃ T : St → Hp → Prop, (∀ σ' H', T σ' H' → D.nx σ' H') ∧ t { D with nx := T } σ H
theorem wC {X : Cx} {st : Stmt} {t : TS} (h : PS X st t) : PS X st (tCut t) := by
  intro pins s σ H D I hw
  obtain ⟨T, hT, hw⟩ := hw
  refine thn (h pins s σ H _ I hw) fun f s' q => ?_
  cases f with
  | next => obtain ⟨σ', H', I', q⟩ := q; exact ⟨σ', H', I', hT _ _ q⟩
  | brk => exact q
  | cont => exact q
  | ret v => exact q
theorem tK {t : TS} {T : St → Hp → Prop} (h : t { D with nx := T } σ H) (hT : ∀ σ' H', T σ' H' → D.nx σ' H') : tCut t D σ H := ⟨T, hT, h⟩
theorem zC {xs : List V} (hl : xs.length ≤ 1000) (h : ∀ p H2, Same H H2 → H2 p = some (.tup xs) → Q (.ref p) H2) : NewT xs H Q :=
  ⟨yx hl, fun p hp => h p _ (zI hp _) zm⟩
theorem xc {xs : List V} (hl : xs.length ≤ 1000) (h : ∀ p H2, Same H H2 → H2 p = some (.lst xs) → Q (.ref p) H2) : NewL xs H Q :=
  ⟨yx hl, fun p hp => h p _ (zI hp _) zm⟩
theorem zH {xs : List V} (hl : xs.length ≤ 1000) (h : ∀ p H2, H p = none → Same H H2 → H2 p = some (.lst xs) → Q (.ref p) H2) : NewL xs H Q :=
  ⟨yx hl, fun p hp => h p _ hp (zI hp _) zm⟩
theorem DQ {l b : Addr} {xs zs : List V} (h1 : H l = some (.lst xs)) (h2 : H b = some (.lst zs)) (hz : xs.length + zs.length ≤ 1000) (h : ∀ p H2, Same H H2 → H2 p = some (.lst (xs ++ zs)) → Q (.ref p) H2) : rCat (.ref l) (.ref b) H Q :=
  ⟨l, b, xs, zs, rfl, rfl, h1, h2, yx hz, fun p hp => h p _ (zI hp _) zm⟩
theorem i_sl {r : V → Option Int → Option Int → Hp → VK → Prop} {te : TE} {tl th : TO} (h : te σ H fun x H1 => tl σ H1 fun l H2 => th σ H2 fun u H3 => r x l u H3 Q) : tSl r te tl th σ H Q := h
theorem BY {R : Option Int → Hp → Prop} (h : R none H) : Bt σ H R := h
theorem Gc {t : TE} {R : Option Int → Hp → Prop} (h : t σ H fun x H1 => ∃ i, x = .int i ∧ R (some i) H1) : Fs t σ H R := h
theorem GE {k : Int} {R : Int → Prop} (h : R k) : ∃ k', V.int k = .int k' ∧ R k' := ⟨k, rfl, h⟩
theorem xp {tl : TE} {g : TG} {tb : TS} (h : tl σ H fun x H1 => ∃ a, x = .ref a ∧ (∃ xs, SqL K H1 a xs) ∧ ∃ W : Nat → Nat → St → Hp → Prop, (∃ m, W 0 m σ H1) ∧ ∀ i m σ H, W i m σ H →
  ((Itl K a).stop i H ∧ D.nx σ H) ∨ ((Itl K a).go i H ∧ ∃ N : St → Hp → Prop, (∀ σ' H', N σ' H' → ∃ m', m' < m ∧ W (i + 1) m' σ' H') ∧ ∀ x H', (Itl K a).yld i H x H' → g x σ H' fun σ2 H2 => tb { D with nx := N, ct := N, bk := D.nx } σ2 H2)) :
  tFor (Ev K tl) g tb D σ H := h
theorem Bm {ns : List Int} {i : Nat} {y : V} (h : (ns.map V.int)[i]? = some y) : ∃ z, y = V.int z ∧ z ∈ ns := by
  rw [List.getElem?_map] at h
  cases e : ns[i]? with
  | none => rw [e] at h; cases h
  | some z => rw [e] at h; exact ⟨z, (Option.some.inj h).symm, List.mem_of_getElem? e⟩
end
end L2
namespace L2
open PySem PySem.Spec PyProof.Rows Bg
def EqV (X : Cx) (n : Nat) (H : Hp) (x y : V) (b : Bool) : Prop :=
  ∀ (pins : List (Addr × Obj)) (σ : St) (s : Shared) (v u : Value) (A : Around), Inv X pins σ H s → RelV x v → RelV y u → A.units + 4 * n < cLine → SeqAt.EqAt A s v u b
theorem EqV.int {X : Cx} {n : Nat} {H : Hp} (i j : Int) : EqV X n H (.int i) (.int j) (i == j) := fun _ _ s v u A _ rv ru _ => by
  obtain ⟨t, rfl⟩ := rv
  obtain ⟨t', rfl⟩ := ru
  exact SeqAt.EqAt.int_int i t j t'
inductive EqVs (X : Cx) (n : Nat) (H : Hp) : List V → List V → List Bool → Prop
  | nil : EqVs X n H [] [] []
  | cons {x y : V} {b : Bool} {xs ys : List V} {bs : List Bool} : EqV X n H x y b → EqVs X n H xs ys bs → EqVs X n H (x :: xs) (y :: ys) (b :: bs)
theorem EqVs.at {X : Cx} {n : Nat} {H : Hp} : ∀ {xs ys : List V} {bs : List Bool}, EqVs X n H xs ys bs → ∀ {j : Nat} {x y : V}, xs[j]? = some x → ys[j]? = some y → EqV X n H x y (bs.getD j false)
  | _, _, _, .nil, j, x, y, h, _ => by simp at h
  | _, _, _, .cons e _, 0, x, y, h1, h2 => by
    simp at h1 h2
    subst h1; subst h2
    exact e
  | _, _, _, .cons _ r, j + 1, x, y, h1, h2 => by
    have := EqVs.at r (j := j) (x := x) (y := y) (by simpa using h1) (by simpa using h2)
    simpa using this
theorem EqVs.len {X : Cx} {n : Nat} {H : Hp} : ∀ {xs ys : List V} {bs : List Bool}, EqVs X n H xs ys bs → xs.length = bs.length ∧ ys.length = bs.length
  | _, _, _, .nil => ⟨rfl, rfl⟩
  | _, _, _, .cons _ r => by
    have := r.len
    simp only [List.length_cons]
    omega
theorem wG (bs : List Bool) : ((List.range bs.length).all fun j => bs.getD j false) = bs.all id := by
  rw [Bool.eq_iff_iff]
  simp only [List.all_eq_true, List.mem_range, id]
  constructor
  · intro h b hb
    obtain ⟨j, hj, e⟩ := List.mem_iff_getElem.mp hb
    have := h j hj
    rw [List.getD_eq_getElem?_getD, List.getElem?_eq_getElem hj] at this
    rw [← e]
    exact this
  · intro h j hj
    rw [List.getD_eq_getElem?_getD, List.getElem?_eq_getElem hj]
    exact h _ (List.getElem_mem hj)
theorem A8 {X : Cx} {n : Nat} {H : Hp} {a b : Addr} {xs ys : List V} {bs : List Bool} {pins : List (Addr × Obj)} {σ : St} {s : Shared} {A : Around} (ha : SqT X.K H a xs) (hb : SqT X.K H b ys) (he : EqVs X n H xs ys bs) (I : Inv X pins σ H s) (hu : A.units + 4 * (n + 1) < cLine) :
    ∃ (is js : Array Value), s.heap.IsTuple a is ∧ s.heap.IsTuple b js ∧ (∀ j (h1 : j < is.size) (h2 : j < js.size), SeqAt.EqAt A.in1 s is[j] js[j] (bs.getD j false)) ∧ ((List.range (min is.size js.size)).all (fun j => bs.getD j false) && is.size == js.size) = bs.all id := by
  obtain ⟨is, r1, p1, _⟩ := I.tuple ha
  obtain ⟨js, r2, p2, _⟩ := I.tuple hb
  obtain ⟨l1, l2⟩ := he.len
  have q1 := r1.length
  have q2 := r2.length
  refine ⟨is.toArray, js.toArray, (show s.heap.IsTuple a is.toArray from p1), (show s.heap.IsTuple b js.toArray from p2), fun j h1 h2 => ?_, ?_⟩
  · have hj1 : j < xs.length := by rw [q1]; simpa using h1
    have hj2 : j < ys.length := by rw [q2]; simpa using h2
    obtain ⟨v, ev, rv⟩ := r1.get (List.getElem?_eq_getElem hj1)
    obtain ⟨u, eu, ru⟩ := r2.get (List.getElem?_eq_getElem hj2)
    have e1 : is.toArray[j] = v := by
      have : is[j]? = some v := ev
      rw [List.getElem?_eq_getElem (by simpa using h1)] at this
      simpa using Option.some.inj this
    have e2 : js.toArray[j] = u := by
      have : js[j]? = some u := eu
      rw [List.getElem?_eq_getElem (by simpa using h2)] at this
      simpa using Option.some.inj this
    rw [e1, e2]
    exact he.at (List.getElem?_eq_getElem hj1) (List.getElem?_eq_getElem hj2) pins σ s v u A.in1 I rv ru (by show A.units + 1 + 4 * n < cLine; omega)
  · have e1 : is.toArray.size = bs.length := by rw [List.size_toArray]; omega
    have e2 : js.toArray.size = bs.length := by rw [List.size_toArray]; omega
    rw [e1, e2, Nat.min_self, wG]
    simp
theorem EqV.tup {X : Cx} {n : Nat} {H : Hp} {a b : Addr} {xs ys : List V} {bs : List Bool} (ha : SqT X.K H a xs) (hb : SqT X.K H b ys) (he : EqVs X n H xs ys bs) (hs : a = b → bs.all id = true) : EqV X (n + 1) H (.ref a) (.ref b) (bs.all id) := fun pins σ s v u A I rv ru hu => by
  cases rv
  cases ru
  by_cases hab : a = b
  · subst hab
    rw [hs rfl]
    exact SeqAt.EqAt.same _
  · obtain ⟨is, js, p1, p2, hj, e⟩ := A8 ha hb he I hu
    have := SeqAt.RcAt.tuples (A := A) (e := fun j => bs.getD j false) p1 p2 (by omega) hj
    rw [e] at this
    exact SeqAt.EqAt.of_refs hab this
def rEqT (X : Cx) : R2 := fun x y H Q => ∃ a b xs ys bs n, x = .ref a ∧ y = .ref b ∧ n ≤ 9 ∧ SqT X.K H a xs ∧ SqT X.K H b ys ∧ EqVs X n H xs ys bs ∧ Q (.bl (bs.all id)) H
def rNeT (X : Cx) : R2 := fun x y H Q => ∃ a b xs ys bs n, x = .ref a ∧ y = .ref b ∧ n ≤ 9 ∧ SqT X.K H a xs ∧ SqT X.K H b ys ∧ EqVs X n H xs ys bs ∧ Q (.bl (!(bs.all id))) H
theorem Dp {X : Cx} (hu : X.A.units + 64 < cLine) : OpR X (compareOp .Eq) (rEqT X) := by
  intro pins s σ H x y v u Q I rx ry h
  obtain ⟨a, b, xs, ys, bs, n, rfl, rfl, hn, ha, hb, he, q⟩ := h
  cases rx
  cases ry
  obtain ⟨is, js, p1, p2, hj, e⟩ := A8 (A := X.A) ha hb he I (by omega)
  refine SeqAt.eq_tupleAt p1 p2 (by omega) hj ?_
  rw [e]
  exact ⟨.bl _, H, I, rfl, q⟩
theorem C6 {X : Cx} (hu : X.A.units + 64 < cLine) : OpR X (compareOp .NotEq) (rNeT X) := by
  intro pins s σ H x y v u Q I rx ry h
  obtain ⟨a, b, xs, ys, bs, n, rfl, rfl, hn, ha, hb, he, q⟩ := h
  cases rx
  cases ry
  obtain ⟨is, js, p1, p2, hj, e⟩ := A8 (A := X.A) ha hb he I (by omega)
  refine SeqAt.RcNeAt.tuples p1 p2 (by omega) hj X.prog X.w X.xe _ ?_
  rw [e]
  exact ⟨.bl _, H, I, rfl, q⟩
theorem F6 {X : Cx} {H : Hp} {Q : VK} {a b : Addr} {x y z x' y' z' : Int} (ha : H a = some (.tup [.int x, .int y, .int z])) (hb : H b = some (.tup [.int x', .int y', .int z'])) (q : Q (.bl (decide (x = x' ∧ y = y' ∧ z = z'))) H) : rEqT X (.ref a) (.ref b) H Q := by
  refine ⟨a, b, _, _, _, 0, rfl, rfl, Nat.zero_le _, SqT.of ha, SqT.of hb, .cons (.int x x') (.cons (.int y y') (.cons (.int z z') .nil)), ?_⟩
  have e : ([x == x', y == y', z == z'] : List Bool).all id = decide (x = x' ∧ y = y' ∧ z = z') := by
    rw [Bool.eq_iff_iff]
    simp
  rw [e]
  exact q
theorem GU {X : Cx} {H : Hp} {Q : VK} {a b : Addr} {x y z x' y' z' : Int} (ha : H a = some (.tup [.int x, .int y, .int z])) (hb : H b = some (.tup [.int x', .int y', .int z'])) (q : Q (.bl (!decide (x = x' ∧ y = y' ∧ z = z'))) H) : rNeT X (.ref a) (.ref b) H Q := by
  refine ⟨a, b, _, _, _, 0, rfl, rfl, Nat.zero_le _, SqT.of ha, SqT.of hb, .cons (.int x x') (.cons (.int y y') (.cons (.int z z') .nil)), ?_⟩
  have e : ([x == x', y == y', z == z'] : List Bool).all id = decide (x = x' ∧ y = y' ∧ z = z') := by
    rw [Bool.eq_iff_iff]
    simp
  rw [e]
  exact q
end L2
namespace L2
open PySem PySem.Spec PyProof.Rows Bg
theorem eqv3 {X : Cx} {H : Hp} {a b : Addr} {x y z : Int} (ha : H a = some (.tup [.int x, .int y, .int z])) (hb : H b = some (.tup [.int x, .int y, .int z])) : EqV X 1 H (.ref a) (.ref b) true := by
  have e : ([x == x, y == y, z == z] : List Bool).all id = true := by simp
  have := EqV.tup (X := X) (n := 0) (SqT.of ha) (SqT.of hb) (.cons (.int x x) (.cons (.int y y) (.cons (.int z z) .nil))) (fun _ => e)
  rw [e] at this
  exact this
def SameX (l : Addr) (H H' : Hp) : Prop := ∀ b o, H b = some o → b ≠ l → H' b = some o
theorem Same.sameX {H H' : Hp} (s : Same H H') (l : Addr) : SameX l H H' := fun b o e _ => s b o e
theorem SameX.trans {l : Addr} {H H1 H2 : Hp} (a : SameX l H H1) (b : SameX l H1 H2) : SameX l H H2 := fun c o e n => b c o (a c o e n) n
theorem SameX.tup {l p : Addr} {H H' : Hp} {xs ys : List V} (s : SameX l H H') (h : H p = some (.tup xs)) (hl : H l = some (.lst ys)) : H' p = some (.tup xs) := s _ _ h (yb h hl (fun z => nomatch z))
section
variable {σ : St} {H : Hp} {Q : VK} {D : Ends} {K : PySem.W.Frag}
theorem zD {l : Addr} {xs : List V} {y : V} (h : H l = some (.lst xs)) (hz : xs.length < 1000) (q : ∀ H2, SameX l H H2 → H2 l = some (.lst (xs ++ [y])) → Q .non H2) : zO (.ref l) [y] H Q :=
  ⟨l, xs, y, rfl, rfl, h, Nat.lt_of_lt_of_le hz (yx (Nat.le_refl _)), q _ (fun b o e n => by rw [zt n]; exact e) zm⟩
theorem i_bm {T : String} {r : V → List V → Hp → VK → Prop} {to : TE} {t : TA} (h : to σ H fun x H1 => tyV K T x H1 ∧ t σ H1 fun xs H2 => r x xs H2 Q) : tBM K T r to t σ H Q := h
theorem G9 {l : Addr} {xs : List V} {R : Prop} (h : H l = some (.lst xs)) (q : R) : tyV K "list" (.ref l) H ∧ R := ⟨.inl ⟨rfl, _, SqL.of h⟩, q⟩
theorem xL {ta : TA} {g : TG} {tb : TS} (h : ta σ H fun vs H1 => ∃ j : Int, vs = [.int j] ∧ -(2 ^ 62) ≤ j ∧ j < 2 ^ 62 ∧ ∃ W : Nat → Nat → St → Hp → Prop, (∃ m, W 0 m σ H1) ∧ ∀ i m σ H, W i m σ H →
  ((Itr 0 j.toNat).stop i H ∧ D.nx σ H) ∨ ((Itr 0 j.toNat).go i H ∧ ∃ N : St → Hp → Prop, (∀ σ' H', N σ' H' → ∃ m', m' < m ∧ W (i + 1) m' σ' H') ∧ ∀ x H', (Itr 0 j.toNat).yld i H x H' → g x σ H' fun σ2 H2 => tb { D with nx := N, ct := N, bk := D.nx } σ2 H2)) :
  tFor (Du ta) g tb D σ H := h
end
end L2
namespace Bg
structure Rt (d : Int) : Prop where
  lo : 2 ≤ d
  hi : d ≤ 99
  ns : ∀ k : Nat, ((k * k : Nat) : Int) ≠ d
theorem Fa {d : Int} (h : 2 ≤ d ∧ d ≤ 99) (n : d ≠ 4 ∧ d ≠ 9 ∧ d ≠ 16 ∧ d ≠ 25 ∧ d ≠ 36 ∧ d ≠ 49 ∧ d ≠ 64 ∧ d ≠ 81) : Rt d := by
  refine ⟨h.1, h.2, fun k e => ?_⟩
  have hk : k < 10 := by
    refine Nat.lt_of_not_le fun z => ?_
    have : 10 * 10 ≤ k * k := Nat.mul_le_mul z z
    omega
  have : k = 0 ∨ k = 1 ∨ k = 2 ∨ k = 3 ∨ k = 4 ∨ k = 5 ∨ k = 6 ∨ k = 7 ∨ k = 8 ∨ k = 9 := by omega
  rcases this with q | q | q | q | q | q | q | q | q | q <;> subst q <;> omega
theorem irrN {D A B : Nat} (ns : ∀ k : Nat, k * k ≠ D) (e : A * A = D * B * B) : B = 0 := by
  rcases Nat.eq_zero_or_pos B with z | hB
  · exact z
  exfalso
  have hg : 0 < Nat.gcd A B := Nat.gcd_pos_of_pos_right A hB
  have hc := Nat.coprime_div_gcd_div_gcd hg
  obtain ⟨a, ha⟩ := Nat.gcd_dvd_left A B
  obtain ⟨b, hb⟩ := Nat.gcd_dvd_right A B
  have ea : A / Nat.gcd A B = a := by rw [Nat.div_eq_iff_eq_mul_right hg (Nat.gcd_dvd_left A B)]; exact ha
  have eb : B / Nat.gcd A B = b := by rw [Nat.div_eq_iff_eq_mul_right hg (Nat.gcd_dvd_right A B)]; exact hb
  rw [ea, eb] at hc
  generalize Nat.gcd A B = g at *
  have e2 : a * a = D * b * b := by
    have h1 : g * g * (a * a) = g * g * (D * b * b) := by
      rw [ha, hb] at e
      calc g * g * (a * a) = g * a * (g * a) := by simp only [Nat.mul_assoc, Nat.mul_left_comm]
        _ = D * (g * b) * (g * b) := e
        _ = g * g * (D * b * b) := by simp only [Nat.mul_assoc, Nat.mul_left_comm]
    exact Nat.eq_of_mul_eq_mul_left (Nat.mul_pos hg hg) h1
  have d1 : b ∣ a * a := ⟨D * b, by rw [e2, Nat.mul_comm b]⟩
  have d2 : b ∣ a := hc.symm.dvd_of_dvd_mul_left d1
  have d3 : b = 1 := by
    have : b ∣ Nat.gcd a b := Nat.dvd_gcd d2 (Nat.dvd_refl b)
    rw [show Nat.gcd a b = 1 from hc] at this
    exact Nat.dvd_one.mp this
  rw [d3, Nat.mul_one, Nat.mul_one] at e2
  exact ns a e2
theorem irr {d a b : Int} (h : Rt d) (e : a * a = d * b * b) : b = 0 := by
  have hd : (d.toNat : Int) = d := Int.toNat_of_nonneg (by have := h.lo; omega)
  have := irrN (D := d.toNat) (A := a.natAbs) (B := b.natAbs) (fun k q => h.ns k (by rw [q]; exact hd)) (by
    have h1 : ((a.natAbs * a.natAbs : Nat) : Int) = ((d.toNat * b.natAbs * b.natAbs : Nat) : Int) := by
      have ea : ((a.natAbs * a.natAbs : Nat) : Int) = a * a := Int.natAbs_mul_self
      have eb : ((b.natAbs * b.natAbs : Nat) : Int) = b * b := Int.natAbs_mul_self
      rw [ea, Nat.mul_assoc, Int.natCast_mul, eb, hd, ← Int.mul_assoc]
      exact e
    exact Int.ofNat.inj h1)
  omega
def sgn (d a b : Int) : Int := if 0 ≤ a ∧ 0 ≤ b then (if 0 < a + b then 1 else 0) else if a ≤ 0 ∧ b ≤ 0 then -1 else if 0 < a then (if d * b * b < a * a then 1 else -1) else (if a * a < d * b * b then 1 else -1)
theorem Au {b : Int} (h : b ≠ 0) : 0 < b * b := by
  rcases Int.lt_or_gt_of_ne h with q | q
  · exact Int.mul_pos_of_neg_of_neg q q
  · exact Int.mul_pos q q
theorem DU {d b : Int} (h : 2 ≤ d) (hb : b ≠ 0) : 0 < d * b * b := by rw [Int.mul_assoc]; exact Int.mul_pos (by omega) (Au hb)
def nrm (d a b : Int) : Int := a * a - d * b * b
theorem u4 {d a b : Int} (h : Rt d) (e : nrm d a b = 0) : a = 0 ∧ b = 0 := by
  unfold nrm at e
  have hb := irr (a := a) (b := b) h (by omega)
  subst hb
  rw [Int.mul_zero] at e
  refine ⟨?_, rfl⟩
  rcases Int.lt_trichotomy a 0 with q | q | q
  · have := Int.mul_pos_of_neg_of_neg q q; omega
  · exact q
  · have := Int.mul_pos q q; omega
def sg (x : Int) : Int := if 0 < x then 1 else if x < 0 then -1 else 0
theorem yu {d a b : Int} (h : Rt d) (n : 0 < nrm d a b) : sgn d a b = sg a := by
  unfold nrm at n
  have ha : a ≠ 0 := fun z => by
    subst z
    by_cases hb : b = 0
    · subst hb; simp at n
    · have := DU h.lo hb
      omega
  unfold sgn sg
  repeat' split
  all_goals omega
theorem z7 {d a b : Int} (h : Rt d) (n : nrm d a b < 0) : sgn d a b = sg b := by
  unfold nrm at n
  have hb : b ≠ 0 := fun z => by
    subst z
    rw [Int.mul_zero] at n
    by_cases ha : a = 0
    · subst ha; simp at n
    · have := Au ha
      omega
  unfold sgn sg
  repeat' split
  all_goals omega
theorem yo (d : Int) : sgn d 0 0 = 0 := by simp [sgn]
theorem nrm_tri {d a b : Int} (h : Rt d) : (0 < nrm d a b) ∨ (nrm d a b < 0) ∨ (a = 0 ∧ b = 0) := by
  rcases Int.lt_trichotomy (nrm d a b) 0 with q | q | q
  · exact .inr (.inl q)
  · exact .inr (.inr (u4 h q))
  · exact .inl q
theorem De (x : Int) : sg (-x) = - sg x := by unfold sg; repeat' split <;> omega
theorem A0 (d a b : Int) : nrm d (-a) (-b) = nrm d a b := by unfold nrm; rw [Int.neg_mul_neg, Int.mul_assoc, Int.neg_mul_neg, ← Int.mul_assoc]
theorem yX {d : Int} (h : Rt d) (a b : Int) : sgn d (-a) (-b) = - sgn d a b := by
  rcases nrm_tri (a := a) (b := b) h with q | q | ⟨rfl, rfl⟩
  · rw [yu h q, yu h (by rw [A0]; exact q), De]
  · rw [z7 h q, z7 h (by rw [A0]; exact q), De]
  · rfl
theorem sg_cases (x : Int) : (0 < x ∧ sg x = 1) ∨ (x < 0 ∧ sg x = -1) ∨ (x = 0 ∧ sg x = 0) := by unfold sg; repeat' split <;> omega
theorem wv {k : Int} (hk : 0 < k) (x : Int) : sg (k * x) = sg x := by
  rcases sg_cases x with ⟨q, e⟩ | ⟨q, e⟩ | ⟨q, e⟩
  · have := Int.mul_pos hk q
    rw [e]; unfold sg; rw [if_pos this]
  · have := Int.mul_neg_of_pos_of_neg hk q
    rw [e]; unfold sg; rw [if_neg (by omega), if_pos this]
  · subst q; simp
theorem AT (d k a b : Int) : nrm d (k * a) (k * b) = k * k * nrm d a b := by
  unfold nrm
  rw [Int.mul_sub]
  congr 1
  · simp only [Int.mul_assoc, Int.mul_left_comm]
  · simp only [Int.mul_assoc, Int.mul_left_comm, Int.mul_comm d]
theorem yI {d k : Int} (h : Rt d) (hk : 0 < k) (a b : Int) : sgn d (k * a) (k * b) = sgn d a b := by
  have kk : 0 < k * k := Int.mul_pos hk hk
  rcases nrm_tri (a := a) (b := b) h with q | q | ⟨rfl, rfl⟩
  · rw [yu h q, yu h (by rw [AT]; exact Int.mul_pos kk q), wv hk]
  · rw [z7 h q, z7 h (by rw [AT]; exact Int.mul_neg_of_pos_of_neg kk q), wv hk]
  · simp
theorem yy {d k m a b a' b' : Int} (h : Rt d) (hk : 0 < k) (hm : 0 < m) (ea : k * a = m * a') (eb : k * b = m * b') : sgn d a b = sgn d a' b' := by
  rw [← yI h hk a b, ← yI h hm a' b', ea, eb]
theorem BW (d a b a' b' : Int) : nrm d (a * a' + d * b * b') (a * b' + b * a') = nrm d a b * nrm d a' b' := by
  unfold nrm
  simp only [Int.mul_add, Int.add_mul, Int.mul_sub, Int.sub_mul]
  have e1 : a * a' * (a * a') = a * a * (a' * a') := by simp only [Int.mul_assoc, Int.mul_left_comm]
  have e2 : d * b * b' * (d * b * b') = d * b * b * (d * b' * b') := by simp only [Int.mul_assoc, Int.mul_left_comm]
  have e3 : d * (a * b') * (a * b') = a * a * (d * b' * b') := by simp only [Int.mul_assoc, Int.mul_left_comm]
  have e4 : d * (b * a') * (b * a') = d * b * b * (a' * a') := by simp only [Int.mul_assoc, Int.mul_left_comm, Int.mul_comm]
  have e5 : d * b * b' * (a * a') = d * (b * a') * (a * b') := by simp only [Int.mul_assoc, Int.mul_left_comm, Int.mul_comm]
  have e6 : a * a' * (d * b * b') = d * (a * b') * (b * a') := by simp only [Int.mul_assoc, Int.mul_left_comm, Int.mul_comm]
  omega
theorem xa {x y : Int} (hx : 0 < x) (h : y * y < x * x) : -x < y ∧ y < x := by
  constructor
  · refine Int.lt_of_not_ge fun z => ?_
    have : x * x ≤ (-y) * (-y) := Int.mul_le_mul (by omega) (by omega) (by omega) (by omega)
    rw [Int.neg_mul_neg] at this
    omega
  · refine Int.lt_of_not_ge fun z => ?_
    have : x * x ≤ y * y := Int.mul_le_mul z z (by omega) (by omega)
    omega
theorem yB {p q r s : Int} (h1 : p < q) (h2 : r < s) (hp : 0 ≤ p) (hr : 0 ≤ r) : p * r < q * s := by
  have a1 : p * r ≤ p * s := Int.mul_le_mul_of_nonneg_left (by omega) hp
  have a2 : p * s < q * s := Int.mul_lt_mul_of_pos_right h1 (by omega)
  omega
theorem tN (x : Int) : 0 ≤ x * x := by
  by_cases h : x = 0
  · subst h; simp
  · exact Int.le_of_lt (Au h)
theorem vt {d : Int} (h : 2 ≤ d) (x : Int) : 0 ≤ d * x * x := by rw [Int.mul_assoc]; exact Int.mul_nonneg (by omega) (tN x)
theorem uP {d a b a' b' : Int} (h : Rt d) (h1 : sgn d a b = 1) (h2 : sgn d a' b' = 1) : sgn d (a * a' + d * b * b') (a * b' + b * a') = 1 := by
  have hd := h.lo
  have np := BW d a b a' b'
  rcases nrm_tri (a := a) (b := b) h with q | q | ⟨rfl, rfl⟩
  · have sa : 0 < a := by rw [yu h q] at h1; unfold sg at h1; split at h1 <;> omega
    rcases nrm_tri (a := a') (b := b') h with q' | q' | ⟨rfl, rfl⟩
    · have sa' : 0 < a' := by rw [yu h q'] at h2; unfold sg at h2; split at h2 <;> omega
      have n : 0 < nrm d (a * a' + d * b * b') (a * b' + b * a') := by rw [np]; exact Int.mul_pos q q'
      rw [yu h n]
      unfold nrm at q q'
      have k := yB (p := d * b * b) (q := a * a) (r := d * b' * b') (s := a' * a') (by omega) (by omega) (vt hd b) (vt hd b')
      have e1 : d * b * b * (d * b' * b') = (d * b * b') * (d * b * b') := by simp only [Int.mul_assoc, Int.mul_left_comm]
      have e2 : a * a * (a' * a') = a * a' * (a * a') := by simp only [Int.mul_assoc, Int.mul_left_comm]
      rw [e1, e2] at k
      have := (xa (Int.mul_pos sa sa') k).1
      unfold sg
      rw [if_pos (by omega)]
    · have sb' : 0 < b' := by rw [z7 h q'] at h2; unfold sg at h2; split at h2 <;> omega
      have n : nrm d (a * a' + d * b * b') (a * b' + b * a') < 0 := by rw [np]; exact Int.mul_neg_of_pos_of_neg q q'
      rw [z7 h n]
      unfold nrm at q q'
      have k := yB (p := d * b * b) (q := a * a) (r := a' * a') (s := d * b' * b') (by omega) (by omega) (vt hd b) (tN a')
      have e1 : d * b * b * (a' * a') = d * (b * a' * (b * a')) := by simp only [Int.mul_assoc, Int.mul_left_comm]
      have e2 : a * a * (d * b' * b') = d * (a * b' * (a * b')) := by simp only [Int.mul_assoc, Int.mul_left_comm]
      rw [e1, e2] at k
      have k' := Int.lt_of_mul_lt_mul_left k (by omega)
      have := (xa (Int.mul_pos sa sb') k').1
      unfold sg
      rw [if_pos (by omega)]
    · rw [yo] at h2; omega
  · have sb : 0 < b := by rw [z7 h q] at h1; unfold sg at h1; split at h1 <;> omega
    rcases nrm_tri (a := a') (b := b') h with q' | q' | ⟨rfl, rfl⟩
    · have sa' : 0 < a' := by rw [yu h q'] at h2; unfold sg at h2; split at h2 <;> omega
      have n : nrm d (a * a' + d * b * b') (a * b' + b * a') < 0 := by rw [np]; exact Int.mul_neg_of_neg_of_pos q q'
      rw [z7 h n]
      unfold nrm at q q'
      have k := yB (p := a * a) (q := d * b * b) (r := d * b' * b') (s := a' * a') (by omega) (by omega) (tN a) (vt hd b')
      have e1 : a * a * (d * b' * b') = d * (a * b' * (a * b')) := by simp only [Int.mul_assoc, Int.mul_left_comm]
      have e2 : d * b * b * (a' * a') = d * (b * a' * (b * a')) := by simp only [Int.mul_assoc, Int.mul_left_comm]
      rw [e1, e2] at k
      have k' := Int.lt_of_mul_lt_mul_left k (by omega)
      have := (xa (Int.mul_pos sb sa') k').1
      unfold sg
      rw [if_pos (by omega)]
    · have sb' : 0 < b' := by rw [z7 h q'] at h2; unfold sg at h2; split at h2 <;> omega
      have n : 0 < nrm d (a * a' + d * b * b') (a * b' + b * a') := by rw [np]; exact Int.mul_pos_of_neg_of_neg q q'
      rw [yu h n]
      unfold nrm at q q'
      have k := yB (p := a * a) (q := d * b * b) (r := a' * a') (s := d * b' * b') (by omega) (by omega) (tN a) (tN a')
      have e1 : a * a * (a' * a') = a * a' * (a * a') := by simp only [Int.mul_assoc, Int.mul_left_comm]
      have e2 : d * b * b * (d * b' * b') = (d * b * b') * (d * b * b') := by simp only [Int.mul_assoc, Int.mul_left_comm]
      rw [e1, e2] at k
      have := (xa (Int.mul_pos (Int.mul_pos (by omega) sb) sb') k).1
      unfold sg
      rw [if_pos (by omega)]
    · rw [yo] at h2; omega
  · rw [yo] at h1; omega
theorem sgn_tri {d : Int} (h : Rt d) (a b : Int) : sgn d a b = 1 ∨ sgn d a b = -1 ∨ (a = 0 ∧ b = 0) := by
  rcases nrm_tri (a := a) (b := b) h with q | q | q
  · have ha : a ≠ 0 := fun z => by
      subst z
      unfold nrm at q
      have := vt h.lo b
      omega
    rw [yu h q]
    rcases sg_cases a with ⟨_, e⟩ | ⟨_, e⟩ | ⟨e, _⟩
    · exact .inl e
    · exact .inr (.inl e)
    · exact absurd e ha
  · have hb : b ≠ 0 := fun z => by
      subst z
      unfold nrm at q
      rw [Int.mul_zero] at q
      have := tN a
      omega
    rw [z7 h q]
    rcases sg_cases b with ⟨_, e⟩ | ⟨_, e⟩ | ⟨e, _⟩
    · exact .inl e
    · exact .inr (.inl e)
    · exact absurd e hb
  · exact .inr (.inr q)
theorem uU {d a b a' b' : Int} (h : Rt d) : sgn d (a * a' + d * b * b') (a * b' + b * a') = sgn d a b * sgn d a' b' := by
  have neg1 : ∀ a b, sgn d a b = -1 → sgn d (-a) (-b) = 1 := fun a b e => by rw [yX h, e]; rfl
  rcases sgn_tri h a b with p | p | ⟨rfl, rfl⟩
  · rcases sgn_tri h a' b' with q | q | ⟨rfl, rfl⟩
    · rw [uP h p q, p, q]; rfl
    · have := uP h p (neg1 _ _ q)
      have e1 : a * -a' + d * b * -b' = -(a * a' + d * b * b') := by rw [Int.mul_neg, Int.mul_neg, Int.neg_add]
      have e2 : a * -b' + b * -a' = -(a * b' + b * a') := by rw [Int.mul_neg, Int.mul_neg, Int.neg_add]
      rw [e1, e2, yX h] at this
      rw [p, q]; omega
    · simp [yo]
  · rcases sgn_tri h a' b' with q | q | ⟨rfl, rfl⟩
    · have := uP h (neg1 _ _ p) q
      have e1 : -a * a' + d * -b * b' = -(a * a' + d * b * b') := by rw [Int.neg_mul, Int.mul_neg, Int.neg_mul, Int.neg_add]
      have e2 : -a * b' + -b * a' = -(a * b' + b * a') := by rw [Int.neg_mul, Int.neg_mul, Int.neg_add]
      rw [e1, e2, yX h] at this
      rw [p, q]; omega
    · have := uP h (neg1 _ _ p) (neg1 _ _ q)
      have e1 : -a * -a' + d * -b * -b' = a * a' + d * b * b' := by rw [Int.neg_mul_neg, Int.mul_assoc d, Int.neg_mul_neg, ← Int.mul_assoc]
      have e2 : -a * -b' + -b * -a' = a * b' + b * a' := by rw [Int.neg_mul_neg, Int.neg_mul_neg]
      rw [e1, e2] at this
      rw [this, p, q]; rfl
    · simp [yo]
  · simp [yo]
end Bg
namespace Bg
theorem wy {d a b : Int} (h : 0 ≤ a) (k : 0 ≤ b) : sgn d a b = if 0 < a + b then 1 else 0 := by unfold sgn; rw [if_pos ⟨h, k⟩]
theorem u3 {d a b : Int} (n : ¬ (0 ≤ a ∧ 0 ≤ b)) (h : a ≤ 0) (k : b ≤ 0) : sgn d a b = -1 := by unfold sgn; rw [if_neg n, if_pos ⟨h, k⟩]
theorem BD {d a b : Int} (h : 0 < a) (k : b < 0) : sgn d a b = if d * b * b < a * a then 1 else -1 := by unfold sgn; rw [if_neg (by omega), if_neg (by omega), if_pos h]
theorem AW {d a b : Int} (h : a < 0) (k : 0 < b) : sgn d a b = if a * a < d * b * b then 1 else -1 := by unfold sgn; rw [if_neg (by omega), if_neg (by omega), if_neg (by omega)]
end Bg
namespace L2
open PySem PySem.Spec PyProof.Rows Bg
theorem y2 (env : Env) : ∀ (names : List (Str × NameKind)) (acc : List (Str × Addr)), (∀ y ∈ names, y.2 = .free → ∃ c, env.cells.lookup y.1 = some c) → (∀ x c, acc.lookup x = some c → env.cells.lookup x = some c) →
    ∃ cl, (forIn names acc (fun (x : Str × NameKind) (r : List (Str × Addr)) => if (x.snd == NameKind.free) = true then do
                  let a ← cellOf env x.fst
                  pure (ForInStep.yield ((x.fst, a) :: r))
                else pure (ForInStep.yield r)) : Sem (List (Str × Addr))) = pure cl ∧ (∀ x c, cl.lookup x = some c → env.cells.lookup x = some c) ∧
      ∀ x, ((∃ c, acc.lookup x = some c) ∨ ∃ y ∈ names, y.1 = x ∧ y.2 = .free) → ∃ c, cl.lookup x = some c
  | [], acc, _, ha => ⟨acc, rfl, ha, fun x h => by
      rcases h with h | ⟨y, hy, _⟩
      · exact h
      · simp at hy⟩
  | y :: r, acc, hn, ha => by
    by_cases hf : y.2 = .free
    · obtain ⟨c, hc⟩ := hn y List.mem_cons_self hf
      obtain ⟨cl, e, h1, h2⟩ := y2 env r ((y.1, c) :: acc) (fun z hz => hn z (List.mem_cons_of_mem _ hz)) (fun x d hx => by
        rw [List.lookup_cons] at hx
        split at hx
        · rename_i q
          have q' : x = y.1 := by simpa using q
          rw [q', hc]; exact hx
        · exact ha x d hx)
      refine ⟨cl, ?_, h1, fun x h => h2 x ?_⟩
      · rw [List.forIn_cons, if_pos (by rw [hf]; rfl)]
        unfold cellOf
        rw [hc]
        exact e
      · by_cases q : x = y.1
        · exact .inl ⟨c, by rw [List.lookup_cons, q]; simp⟩
        · rcases h with ⟨d, hd⟩ | ⟨z, hz, e1, e2⟩
          · exact .inl ⟨d, by
              rw [List.lookup_cons]
              have : (x == y.1) = false := by simpa using q
              rw [this]; exact hd⟩
          · rcases List.mem_cons.mp hz with e3 | e3
            · subst e3; exact absurd e1.symm q
            · exact .inr ⟨z, e3, e1, e2⟩
    · obtain ⟨cl, e, h1, h2⟩ := y2 env r acc (fun z hz => hn z (List.mem_cons_of_mem _ hz)) ha
      refine ⟨cl, ?_, h1, fun x h => h2 x ?_⟩
      · rw [List.forIn_cons, if_neg (by simpa using hf)]
        exact e
      · rcases h with h | ⟨z, hz, e1, e2⟩
        · exact .inl h
        · rcases List.mem_cons.mp hz with e3 | e3
          · subst e3; exact absurd e2 hf
          · exact .inr ⟨z, e3, e1, e2⟩
theorem tL {scope : Scope} {env : Env} (h : ∀ y ∈ scope.names, y.2 = .free → ∃ c, env.cells.lookup y.1 = some c) :
    ∃ cl, closureFor scope env = pure cl ∧ (∀ x c, cl.lookup x = some c → env.cells.lookup x = some c) ∧ ∀ y ∈ scope.names, y.2 = .free → ∃ c, cl.lookup y.1 = some c := by
  obtain ⟨cl, e, h1, h2⟩ := y2 env scope.names [] h (fun x c q => by simp at q)
  refine ⟨cl, ?_, h1, fun y hy hf => h2 y.1 (.inr ⟨y, hy, rfl, hf⟩)⟩
  exact congrArg (fun z : Sem (List (Str × Addr)) => z >>= fun cs => pure cs) e
section
variable {prog : Program} {w : World} {A : Around} {R : Result → Shared → Prop} {s : Shared}
abbrev NoX : Value → Shared → Prop := fun _ _ => False
theorem yW {elt target iter : Expr} {ifs : List Expr} {scope : Scope} {pos : Pos} {it acc : Value} {env : Env} (I : Nat → Shared → Prop)
    (turn : ∀ n s, I n s → wpAny (model prog w) A (pyNext it) (fun r s₁ => match r with
      | none => R (.ok .next) s₁
      | some v => wpAny (model prog w) A (letOwnedTupleGo target it v) (fun _ s₁' => wpAny (model prog w) A (assign target env v) (fun _ s₂ =>
          wpAny (model prog w) A (forIn ifs true fun c r => if r = true then do let ok ← isTrue c env (eval c env); pure (ForInStep.yield ok) else pure (ForInStep.yield r)) (fun ok s₃ =>
            if ok = true then wpAny (model prog w) A (eval elt env) (fun x s₄ =>
              wpAny (model prog w) A (call (.builtin "list.append") [acc, x]) (fun _ s₅ => ∃ m, m < n ∧ I m s₅) NoX s₄) NoX s₃
            else ∃ m, m < n ∧ I m s₃) NoX s₂) NoX s₁') NoX s₁) NoX s)
    (n : Nat) (h : I n s) :
    codeAny (model prog w) A (.compLoop (.ListComp elt [⟨target, iter, ifs, 0⟩] scope pos) 0 it acc env) R s := by
  refine codeAny_loop rfl I (fun n s hI => ?_) n h
  show wpAny _ A ((compTurn (.ListComp elt [⟨target, iter, ifs, 0⟩] scope pos) 0 it acc env).onRaise (fun x => do noteFrame x env; theTreesLotGoes x)) _ _ s
  refine wpAny_noted ?_
  rw [compTurn_list]
  refine wpAny_bind (wpAny_standAt (wpAny_bind (wpAny_mono (turn n s hI) (fun r s₁ h₁ => ?_) fun _ _ h' => h'.elim)))
  cases r with
  | none => exact wpAny_pure h₁
  | some v =>
    refine wpAny_bind (wpAny_mono h₁ (fun _ s₁' h₁' => ?_) fun _ _ h' => h'.elim)
    refine wpAny_bind (wpAny_mono h₁' (fun _ s₂ h₂ => wpAny_bind (wpAny_mono h₂ (fun ok s₃ h₃ => ?_) fun _ _ h' => h'.elim)) fun _ _ h' => h'.elim)
    cases ok with
    | false => exact wpAny_pure ⟨rfl, h₃⟩
    | true =>
      exact wpAny_bind (wpAny_bind (wpAny_mono h₃ (fun x s₄ h₄ => wpAny_bind (wpAny_mono h₄ (fun _ s₅ h₅ => wpAny_pure (wpAny_pure ⟨rfl, h₅⟩)) fun _ _ h' => h'.elim)) fun _ _ h' => h'.elim))
end
end L2
namespace L2
open PySem PySem.Spec PyProof.Rows Bg
theorem yd {env : Env} (hk : env.scope.kind = .function) : ∀ {names : List (Str × NameKind)} {x : Str}, names.lookup x = some .free → env.kindOf x = some .cell →
    (names.map fun (n, k) => if (k == NameKind.free && env.scope.kind == .function && env.kindOf n == some .cell) then (n, NameKind.cell) else (n, k)).lookup x = some .cell
  | [], _, h, _ => by simp at h
  | (n, k) :: r, x, h, he => by
    have ih := @yd env hk r x
    show List.lookup x ((if (k == NameKind.free && env.scope.kind == .function && env.kindOf n == some .cell) = true then (n, NameKind.cell) else (n, k)) :: _) = _
    cases hx : x == n with
    | true =>
      simp only [List.lookup_cons, hx] at h
      cases h
      have hxn : x = n := by simpa using hx
      subst hxn
      have hc : (NameKind.free == NameKind.free && env.scope.kind == .function && env.kindOf x == some .cell) = true := by rw [hk, he]; rfl
      rw [if_pos hc]
      simp [List.lookup_cons]
    | false =>
      simp only [List.lookup_cons, hx] at h
      by_cases hc : (k == NameKind.free && env.scope.kind == .function && env.kindOf n == some .cell) = true
      · rw [if_pos hc]; simp only [List.lookup_cons, hx]; exact ih h he
      · rw [if_neg hc]; simp only [List.lookup_cons, hx]; exact ih h he
theorem wx {env : Env} : ∀ {names : List (Str × NameKind)} {x : Str} {k : NameKind}, (∀ y ∈ names, y.2 ≠ .cell) → (k = .cell ∨ k = .free) →
    (names.map fun (n, k) => if (k == NameKind.free && env.scope.kind == .function && env.kindOf n == some .cell) then (n, NameKind.cell) else (n, k)).lookup x = some k → ∃ y ∈ names, y.1 = x ∧ y.2 = .free
  | [], _, _, _, _, h => by simp at h
  | (n, k) :: r, x, k', hn, hk, h => by
    have h' : List.lookup x ((if (k == NameKind.free && env.scope.kind == .function && env.kindOf n == some .cell) = true then (n, NameKind.cell) else (n, k)) :: _) = some k' := h
    have ih := @wx env r x k' (fun y hy => hn y (List.mem_cons_of_mem _ hy)) hk
    have kn : k ≠ .cell := hn (n, k) List.mem_cons_self
    by_cases hc : (k == NameKind.free && env.scope.kind == .function && env.kindOf n == some .cell) = true
    · rw [if_pos hc, List.lookup_cons] at h'
      have kf : k = .free := by
        rw [Bool.and_eq_true, Bool.and_eq_true] at hc
        simpa using hc.1.1
      cases hx : x == n with
      | true =>
        have hxn : x = n := by simpa using hx
        exact ⟨(n, k), List.mem_cons_self, hxn.symm, kf⟩
      | false =>
        rw [hx] at h'
        obtain ⟨y, hy, q⟩ := ih h'
        exact ⟨y, List.mem_cons_of_mem _ hy, q⟩
    · rw [if_neg hc, List.lookup_cons] at h'
      cases hx : x == n with
      | true =>
        have hxn : x = n := by simpa using hx
        rw [hx] at h'
        have e : k = k' := Option.some.inj h'
        refine ⟨(n, k), List.mem_cons_self, hxn.symm, ?_⟩
        rcases hk with q | q
        · exact absurd (e.trans q) kn
        · exact e.trans q
      | false =>
        rw [hx] at h'
        obtain ⟨y, hy, q⟩ := ih h'
        exact ⟨y, List.mem_cons_of_mem _ hy, q⟩
theorem AS {scope : Scope} {ns : List (Str × NameKind)} (h : (scope.names.all fun y => y.2 != .free || ns.lookup y.1 == some .cell) = true) : ∀ y ∈ scope.names, y.2 = .free → ns.lookup y.1 = some .cell := fun y hy hf => by
  have := List.all_eq_true.mp h y hy
  rw [hf] at this
  simpa using this
theorem E6 {scope : Scope} {ns : List (Str × NameKind)} {N : List Str} {js : List Nat} (h : (js.all fun j => scope.names.lookup (N.getD j Str.empty) == some .free && ns.lookup (N.getD j Str.empty) == some .cell) = true) : ∀ j ∈ js, scope.names.lookup (N.getD j Str.empty) = some .free ∧ ns.lookup (N.getD j Str.empty) = some .cell := fun j hj => by
  have := List.all_eq_true.mp h j hj
  rw [Bool.and_eq_true] at this
  exact ⟨eq_of_beq this.1, eq_of_beq this.2⟩
theorem AA {scope : Scope} (h : (scope.names.all fun y => y.2 != .cell) = true) : ∀ y ∈ scope.names, y.2 ≠ .cell := fun y hy => by
  have := List.all_eq_true.mp h y hy
  simpa using this
theorem u8 {scope : Scope} (h : (scope.names.all fun y => y.2 != .local || scope.names.lookup y.1 == some .local) = true) : ∀ y ∈ scope.names, y.2 = .local → scope.names.lookup y.1 = some .local := fun y hy hf => by
  have := List.all_eq_true.mp h y hy
  rw [hf] at this
  simpa using this
def wY (n : Nat) (js : List Nat) (σ : St) : St := List.replicate n none ++ js.map fun j => (σ[j]?).join
def zT (X : Cx) (scope : Scope) (cl : List (Str × Addr)) (own : List Str) (js : List Nat) (fp : List Addr) (C : Addr) (s3 : Shared) (H3 : Hp) : Cx :=
  { X with N := own ++ js.map (fun j => X.N.getD j Str.empty), s₀ := s3, H₀ := H3, env := compEnvC scope cl C X.env, outer := X.stack, ex := fp, fn := fun _ => false, pn := [], xe := fun _ _ => False }
def PIfs (X : Cx) (ifs : List Expr) (t : TT) : Prop := ∀ (pins : List (Addr × Obj)) (s : Shared) (σ : St) (H : Hp) (Q : Bool → Hp → Prop), Inv X pins σ H s → t σ H Q →
  wpAny (model X.prog X.w) X.A (forIn ifs true fun c r => if r = true then do let ok ← isTrue c X.env (eval c X.env); pure (ForInStep.yield ok) else pure (ForInStep.yield r)) (TP X pins σ Q) X.xe s
def tAll : TT := fun _ H B => B true H
theorem z6 {X : Cx} : PIfs X [] tAll := fun _ _ _ H _ I h => wpAny_tests_nil ⟨H, I, h⟩
def tH (wi : TI) (g : TG) (tc : TT) (te : TE) (n : Nat) (js : List Nat) : TE := fun σ H Q => wi σ H fun J H1 => ∀ D, H1 D = none → ∃ W : Nat → Nat → St → Hp → Prop, (∃ m, W 0 m (wY n js σ) (upd H1 D (.lst []))) ∧
  ∀ i m σ' H', W i m σ' H' → (J.stop i H' ∧ Q (.ref D) H') ∨ (J.go i H' ∧ ∀ x H2, J.yld i H' x H2 → g x σ' H2 fun σ3 H3 => tc σ3 H3 fun b H4 =>
    if b = true then te σ3 H4 fun v H5 => zO (.ref D) [v] H5 fun _ H6 => ∃ m', m' < m ∧ W (i + 1) m' σ3 H6 else ∃ m', m' < m ∧ W (i + 1) m' σ3 H4)
section
variable {X : Cx} {pins : List (Addr × Obj)} {σ : St} {H : Hp} {s : Shared} {scope : Scope} {cl : List (Str × Addr)} {own : List Str} {js : List Nat} {fp : List Addr}
theorem Be (I : Inv X pins σ H s) (hkind : scope.kind = .function) (hcell : ∀ y ∈ scope.names, y.2 ≠ .cell) (cl1 : ∀ x c, cl.lookup x = some c → X.env.cells.lookup x = some c) (cl2 : ∀ y ∈ scope.names, y.2 = .free → ∃ c, cl.lookup y.1 = some c)
    (hf : ∀ b ∈ fp, FpOk X pins H b) (hl : ∀ b ∈ fp, b < s.heap.objs.size) : (zT X scope cl own js fp s.heap.objs.size s H).Ok := by
  have hno : ∀ b o, X.base.get? b = some o → b ∉ fp := fun b o e hb => by
    rcases (hf b hb).2.2.2.1 with z | z
    · exact I.ok.noex b o e z
    · exact absurd (Nat.lt_of_lt_of_le (Heap.lt_size e) (Nat.le_trans I.ok.bsz z)) (Nat.lt_irrefl _)
  have hex : ∀ b ∈ fp, b ∉ frs X.stack := fun b hb z => by
    rcases List.mem_cons.mp (I.stkSub b z) with e | e
    · exact (hf b hb).2.1 e
    · exact (hf b hb).2.2.1 e
  exact ⟨I.ok.mod, hkind, I.ok.glob, I.ok.blt, Nat.le_refl _, fun x y c h1 h2 => I.ok.inj x y c (cl1 x c h1) (cl1 y c h2),
    fun x hx => by
      have hx' : (∃ k, (k = NameKind.cell ∨ k = .free) ∧ (relabel scope X.env).names.lookup x = some k) := by
        rcases hx with z | z
        · exact ⟨_, .inl rfl, z⟩
        · exact ⟨_, .inr rfl, z⟩
      obtain ⟨k, hk, z⟩ := hx'
      obtain ⟨y, hy, e1, e2⟩ := wx hcell hk z
      obtain ⟨c, hc⟩ := cl2 y hy e2
      exact ⟨c, by rw [← e1]; exact hc⟩,
    fun x c h _ => absurd h (by show ¬ (false = true); decide), I.ok.hd, I.ok.frames, .inl rfl,
    fun b hb => ⟨Nat.ne_of_lt (hl b hb), fun x c e => (hf b hb).2.2.2.2.1 x c (cl1 x c e)⟩,
    I.bs, Nat.le_trans I.ok.bsz I.sz, hno, hex, I.stack, I.stkFree⟩
theorem Ci {h₁ : Heap} {m : Str → Option Value} {t' : Nat} (I : Inv X pins σ H s) (hkind : scope.kind = .function) (hcell : ∀ y ∈ scope.names, y.2 ≠ .cell) (cl1 : ∀ x c, cl.lookup x = some c → X.env.cells.lookup x = some c) (cl2 : ∀ y ∈ scope.names, y.2 = .free → ∃ c, cl.lookup y.1 = some c)
    (hjs : ∀ j ∈ js, scope.names.lookup (X.N.getD j Str.empty) = some .free ∧ X.env.scope.names.lookup (X.N.getD j Str.empty) = some .cell)
    (hf : ∀ b ∈ fp, FpOk X pins H b) (hl : ∀ b ∈ fp, b < s.heap.objs.size) (hn : h₁.Ns s.heap.objs.size m) (k : ∀ b o, s.heap.get? b = some o → h₁.get? b = some o) :
    Inv (zT X scope cl own js fp s.heap.objs.size s H) [] (wY own.length js σ) H { s with heap := h₁, toks := t' } := by
  refine ⟨Be I hkind hcell cl1 cl2 hf hl, rfl, I.bare, Un.kept k, ⟨m, hn, fun i x v h1 h2 h3 => ?_⟩, fun x c e => ?_, I.hok.fresh (Nat.le_refl _), fun x c e => I.freeC x c (cl1 x c e), fun p hp => absurd (show p ∈ ([] : List (Addr × Obj)) from hp) (by simp), I.hok.kept k, ?_⟩
  · have hi : own.length ≤ i := by
      unfold wY at h2
      by_cases z : i < own.length
      · rw [List.getElem?_append_left (by simpa using z), List.getElem?_replicate, if_pos z] at h2
        cases h2
      · omega
    unfold wY at h2
    rw [List.getElem?_append_right (by simpa using hi), List.length_replicate, List.getElem?_map] at h2
    have h1' : (own ++ js.map (fun j => X.N.getD j Str.empty))[i]? = some x := h1
    rw [List.getElem?_append_right hi, List.getElem?_map] at h1'
    cases ej : js[i - own.length]? with
    | none => rw [ej] at h2; cases h2
    | some j =>
      rw [ej] at h2 h1'
      have ex : X.N.getD j Str.empty = x := Option.some.inj h1'
      have ev : (σ[j]?).join = some v := Option.some.inj h2
      have ev' : σ[j]? = some (some v) := by
        cases q : σ[j]? with
        | none => rw [q] at ev; cases ev
        | some z => rw [q] at ev; rw [show z = some v from ev]
      have hjl : j < X.N.length := by
        rw [← I.len]
        exact (List.getElem?_eq_some_iff.mp ev').1
      have eN : X.N[j]? = some x := by
        rw [← ex, List.getD_eq_getElem?_getD, List.getElem?_eq_getElem hjl]
        rfl
      obtain ⟨f1, f2⟩ := hjs j (List.mem_of_getElem? ej)
      rw [ex] at f1 f2
      obtain ⟨mm, hnn, hll⟩ := I.loc
      obtain ⟨u, r, lk⟩ := hll j x v eN ev' (.inr (.inl f2))
      refine ⟨u, r, ?_⟩
      rcases lk with ⟨q, _⟩ | ⟨_, c, e, ic⟩
      · rw [show X.env.kindOf x = some .cell from f2] at q; cases q
      · obtain ⟨y, hy, e1, e2⟩ : ∃ y ∈ scope.names, y.1 = x ∧ y.2 = .free := ⟨_, PySem.mem_of_lookup f1, rfl, rfl⟩
        obtain ⟨c', hc'⟩ := cl2 y hy e2
        rw [e1] at hc'
        have : c' = c := by
          have := cl1 x c' hc'
          rw [e] at this
          exact (Option.some.inj this).symm
        subst this
        obtain ⟨o, ho, hd⟩ := ic
        exact .inr ⟨.inl (yd I.ok.kind f1 f2), c', hc', ⟨o, k _ _ ho, hd⟩⟩
  · obtain ⟨v, o, ho, hd⟩ := I.cell x c (cl1 x c e)
    exact ⟨v, o, k _ _ ho, hd⟩
  · show _ = (own ++ js.map _).length
    unfold wY
    simp
theorem vo {H' : Hp} {σ' : St} {s' : Shared} {h' : Heap} (I : Inv X pins σ H s) (hf : ∀ b ∈ fp, FpOk X pins H b) (I' : Inv (zT X scope cl own js fp s.heap.objs.size s H) [] σ' H' s') (sb : Heap.SameBut s.heap.objs.size s'.heap h') : Inv X pins σ H' { s' with heap := h' } := by
  have u := I'.base
  have ne : ∀ b o, s.heap.get? b = some o → b ≠ s.heap.objs.size := fun b o e => Nat.ne_of_lt (Heap.lt_size e)
  refine I.call' (ch := fp) I'.os ⟨fun b o e n hb hx => ?_, fun b o e n hb hx => ?_, u.free, fun b o e hx => ?_, u.tups, u.frzs, u.tbls⟩ (fun b o e => ?_) I'.bare fun b hb => ⟨(hf b hb).2.2.2.1, (hf b hb).2.1, (hf b hb).2.2.2.2.1, (hf b hb).2.2.2.2.2⟩
  · exact (sb.2 b (ne b o e)).trans (u.keep b o e n hb hx)
  · obtain ⟨sl, z⟩ := u.slot b o e n hb hx
    exact ⟨sl, (sb.2 b (ne b o e)).trans z⟩
  · obtain ⟨o', z⟩ := u.there b o e hx
    exact ⟨o', (sb.2 b (ne b o e)).trans z⟩
  · have hfr : H' s.heap.objs.size = none := I'.free
    refine (I'.hok b o e).stay (fun c v hc q => (sb.2 c ?_).trans q) (fun _ q => q) fun _ _ q => q
    rintro rfl
    rcases hc with rfl | hc
    · rw [hfr] at e; cases e
    · rw [hfr] at hc; cases hc
end
theorem uS {X : Cx} {use : Option (Value → Sem Unit)} {R : Value → Shared → Prop} {pins : List (Addr × Obj)} {σ : St} {H : Hp} {s : Shared} {Q : VK} {elt iter tgt : Expr} {ifs : List Expr} {scope : Scope} {pos : Pos} {wi : TI} {g : TG} {tc : TT} {te : TE} (own : List Str) (js : List Nat)
    (hc : X.calm = true) (hi : PI X tgt iter wi)
    (hg : ∀ cl fp C s3 H3, PG (zT X scope cl own js fp C s3 H3) tgt g) (ht : ∀ cl fp C s3 H3, PIfs (zT X scope cl own js fp C s3 H3) ifs tc) (he : ∀ cl fp C s3 H3, PE (zT X scope cl own js fp C s3 H3) elt te)
    (hfree : ∀ y ∈ scope.names, y.2 = .free → X.env.scope.names.lookup y.1 = some .cell)
    (hjs : ∀ j ∈ js, scope.names.lookup (X.N.getD j Str.empty) = some .free ∧ X.env.scope.names.lookup (X.N.getD j Str.empty) = some .cell)
    (hcell : ∀ y ∈ scope.names, y.2 ≠ .cell) (hnames : ∀ y ∈ scope.names, y.2 = .local → scope.names.lookup y.1 = some .local)
    (hkind : scope.kind = .function) (hs : ∀ x, foldedSetIterable iter X.env x = pure x)
    (I : Inv X pins σ H s) (h : tH wi g tc te own.length js σ H Q)
    (hend : ∀ (D : Addr) (H3 H5 : Hp) (σ5 : St) (s3 s6 : Shared) (fp : List Addr) (cl : List (Str × Addr)), Inv X pins σ H3 s3 → (∀ b ∈ fp, FpOk X pins H3 b) → Inv (zT X scope cl own js fp s3.heap.objs.size s3 H3) [] σ5 H5 s6 → Q (.ref D) H5 →
      compPost (model X.prog X.w) X.A X.xe use R (.ref D) s3.heap.objs.size (.ok .next) s6) :
    wpAny (model X.prog X.w) X.A (comprehension (.ListComp elt [⟨tgt, iter, ifs, 0⟩] scope pos) scope X.env (firstIterPos [⟨tgt, iter, ifs, 0⟩] pos) (newList []) false (eval iter X.env) use) R X.xe s := by
  have hk := I.ok.kind
  obtain ⟨cl, hcl, cl1, cl2⟩ := tL (scope := scope) (env := X.env) fun y hy hf => I.ok.has y.1 (.inl (hfree y hy hf))
  refine wpAny_comprehension_free rfl hs hcl hkind hnames (thn (hi pins s σ H _ I h) fun v s1 h1 => thn h1 fun itv s2 h2 => ?_)
  obtain ⟨it, fp, tn, J, H2, e, I2, T, st2, f2, q2⟩ := h2
  subst e
  obtain ⟨W, ⟨m0, w0⟩, turn⟩ := q2 s2.heap.objs.size I2.fresh
  have I3 := I2.lnew (ys := []) (its := []) (t' := s2.toks) .nil (Nat.zero_le _)
  refine wpAny_newObj_type (wpAny_newFunctionEnv hcell (by intro y hy; simp at hy) (fun h₁ hns₁ hsb₁ => ?_) hkind)
  have hl3 : ∀ b ∈ fp, b < (s2.heap.push ({ cls := .type "list", data := .seq ([] : List Value).toArray } : Obj)).objs.size := fun b hb => by
    obtain ⟨o, e, _⟩ := T.obj _ _ st2 b hb
    rw [Heap.size_push]
    exact Nat.lt_succ_of_lt (Heap.lt_size e)
  have f3 : ∀ b ∈ fp, FpOk X pins (upd H2 s2.heap.objs.size (.lst [])) b := fun b hb => by
    obtain ⟨o, e, _⟩ := T.obj _ _ st2 b hb
    refine ⟨?_, (f2 b hb).2⟩
    rw [zt (Nat.ne_of_lt (Heap.lt_size e))]
    exact (f2 b hb).1
  have I4 := Ci (own := own) (js := js) (h₁ := h₁) (t' := s2.toks + ([] : List (Str × Value)).length) I3 hkind hcell cl1 cl2 hjs f3 hl3 hns₁ (fun b o e => (hsb₁.2 b (Nat.ne_of_lt (Heap.lt_size e))).trans (Heap.get?_push_of_some _ e))
  have st4 : tn 0 h₁ := T.keep _ _ _ st2 fun b hb o e => (hsb₁.2 b (Nat.ne_of_lt (hl3 b hb))).trans (Heap.get?_push_of_some _ (Heap.get?_push_of_some _ e))
  have loop : codeAny (model X.prog X.w) X.A (.compLoop (.ListComp elt [⟨tgt, iter, ifs, 0⟩] scope pos) 0 (.ref it) (.ref s2.heap.objs.size) (compEnvC scope cl (s2.heap.push ({ cls := .type "list", data := .seq ([] : List Value).toArray } : Obj)).objs.size X.env))
      (compPost (model X.prog X.w) X.A X.xe use R (.ref s2.heap.objs.size) (s2.heap.push ({ cls := .type "list", data := .seq ([] : List Value).toArray } : Obj)).objs.size) { s2 with heap := h₁, toks := s2.toks + ([] : List (Str × Value)).length } := by
    refine yW (fun n s' => ∃ i σ' H', Inv (zT X scope cl own js fp _ _ _) [] σ' H' s' ∧ tn i s'.heap ∧ (∀ b ∈ fp, H' b = none) ∧ W i n σ' H') ?_ m0 ⟨0, _, _, I4, st4, fun b hb => (f3 b hb).1, w0⟩
    rintro n s5 ⟨i, σ5, H5, I5, st5, fr5, w5⟩
    have stat : ∀ {H' : Hp}, (∀ b ∈ fp, H' b = none) → ∀ b ∈ fp, FpOk (zT X scope cl own js fp _ _ _) [] H' b := fun hn b hb =>
      ⟨hn b hb, (I4.ok.exf b hb).1, I4.ok.exfs b hb, .inl hb, (I4.ok.exf b hb).2, fun p hp => absurd (show p ∈ ([] : List (Addr × Obj)) from hp) (by simp)⟩
    rcases turn i n σ5 H5 w5 with ⟨stop, qn⟩ | ⟨go, step⟩
    · refine thn (T.done (zT X scope cl own js fp _ _ _) rfl rfl rfl hc i [] s5 σ5 H5 NoX I5 (stat fr5) st5 stop) fun r s6 ⟨hr, I6⟩ => ?_
      subst hr
      exact hend _ _ _ _ _ _ _ _ I3 f3 I6 qn
    · refine thn (T.item (zT X scope cl own js fp _ _ _) rfl rfl rfl hc i [] s5 σ5 H5 NoX I5 (stat fr5) st5 go) fun r s6 ⟨u, hr, h6⟩ => ?_
      subst hr
      refine thn h6 fun _ s7 ⟨x, H7, I7, r7, y7, st7, fr7⟩ => ?_
      have I7' := I7.pinned (stat fr7) (T.obj _ _ st7)
      refine thn (hg cl fp _ _ _ _ s7 σ5 H7 x u _ I7' r7 (step x H7 y7)) fun _ s8 ⟨σ8, H8, I8, q8⟩ => ?_
      have again : ∀ {C3 : Addr} {s3 : Shared} {H3 : Hp} {σ9 : St} {H9 : Hp} {s9 : Shared} {m' : Nat}, Inv (zT X scope cl own js fp C3 s3 H3) ([] ++ vS fp s7.heap) σ9 H9 s9 → m' < n → W (i + 1) m' σ9 H9 → ∃ m, m < n ∧ ∃ i σ' H', Inv (zT X scope cl own js fp C3 s3 H3) [] σ' H' s9 ∧ tn i s9.heap ∧ (∀ b ∈ fp, H' b = none) ∧ W i m σ' H' := fun {C3 s3 H3 σ9 H9 s9 m'} I9 hm w9 => by
        refine ⟨m', hm, i + 1, σ9, H9, I9.unpinned, T.keep _ _ _ st7 fun b hb o e => (I9.pin (b, o) (List.mem_append_right _ (List.mem_append_right _ (yQ hb e)))).1, fun b hb => ?_, w9⟩
        obtain ⟨o, e, d⟩ := T.obj _ _ st7 b hb
        exact (I9.pin (b, o) (List.mem_append_right _ (List.mem_append_right _ (yQ hb e)))).2.1
      refine thn (ht cl fp _ _ _ _ s8 σ8 H8 _ I8 q8) fun b s9 ⟨H9, I9, q9⟩ => ?_
      cases b with
      | false =>
        rw [if_neg Bool.false_ne_true] at q9 ⊢
        obtain ⟨m', hm, w9⟩ := q9
        exact again I9 hm w9
      | true =>
        rw [if_pos rfl] at q9 ⊢
        refine thn (he cl fp _ _ _ _ s9 σ8 H9 _ I9 q9) fun y s10 ⟨v, H10, I10, r10, q10⟩ => ?_
        exact thn (yg (X := zT X scope cl own js fp _ _ _) _ s10 σ8 H10 (.ref s2.heap.objs.size) [v] (.ref s2.heap.objs.size) [y] _ I10 rfl (.cons r10 .nil) q10) fun _ s11 ⟨_, H11, I11, _, m', hm, w11⟩ => again I11 hm w11
  exact codeAny_compStart_list loop (T.self _ 0 _ _ _ st4 loop)
theorem yO {X : Cx} {elt iter tgt : Expr} {ifs : List Expr} {scope : Scope} {pos : Pos} {wi : TI} {g : TG} {tc : TT} {te : TE} (own : List Str) (js : List Nat)
    (hc : X.calm = true) (hi : PI X tgt iter wi)
    (hg : ∀ cl fp C s3 H3, PG (zT X scope cl own js fp C s3 H3) tgt g) (ht : ∀ cl fp C s3 H3, PIfs (zT X scope cl own js fp C s3 H3) ifs tc) (he : ∀ cl fp C s3 H3, PE (zT X scope cl own js fp C s3 H3) elt te)
    (hfree' : (scope.names.all fun y => y.2 != .free || X.env.scope.names.lookup y.1 == some .cell) = true := by rfl)
    (hjs' : (js.all fun j => scope.names.lookup (X.N.getD j Str.empty) == some .free && X.env.scope.names.lookup (X.N.getD j Str.empty) == some .cell) = true := by rfl)
    (hcell' : (scope.names.all fun y => y.2 != .cell) = true := by rfl) (hnames' : (scope.names.all fun y => y.2 != .local || scope.names.lookup y.1 == some .local) = true := by rfl)
    (hkind : scope.kind = .function := by rfl) (hs : ∀ x, foldedSetIterable iter X.env x = pure x := by intro _; rfl) :
    PE X (.ListComp elt [⟨tgt, iter, ifs, 0⟩] scope pos) (tH wi g tc te own.length js) := by
  have hfree : ∀ y ∈ scope.names, y.2 = .free → X.env.scope.names.lookup y.1 = some .cell := AS hfree'
  have hjs : ∀ j ∈ js, scope.names.lookup (X.N.getD j Str.empty) = some .free ∧ X.env.scope.names.lookup (X.N.getD j Str.empty) = some .cell := E6 hjs'
  have hcell : ∀ y ∈ scope.names, y.2 ≠ .cell := AA hcell'
  have hnames : ∀ y ∈ scope.names, y.2 = .local → scope.names.lookup y.1 = some .local := u8 hnames'
  intro pins s σ H Q I h
  rw [eval_ListComp]
  refine uS own js hc hi hg ht he hfree hjs hcell hnames hkind hs I h fun D H3 H5 σ5 s3 s6 fp cl I3 f3 I6 qn => ?_
  obtain ⟨m, hm, _⟩ := id I6.loc
  exact ⟨m, hm, fun h' sb => ⟨.ref D, H5, vo I3 f3 I6 sb, rfl, qn⟩⟩
end L2
namespace L2
open PySem PySem.Spec PyProof.Rows Bg
def wR (n : Nat) (Pv : Nat → List V → St → Hp → Prop) (i : Nat) (σ : St) (H : Hp) : Prop := ∃ m', m' < n - i ∧ m' = n - (i + 1) ∧ i + 1 ≤ n ∧ ∃ xs, Pv (i + 1) xs σ H
theorem xE {n : Nat} {Pv : Nat → List V → St → Hp → Prop} {i : Nat} {xs : List V} {σ : St} {H : Hp} (h : i < n) (p : Pv (i + 1) xs σ H) : wR n Pv i σ H := ⟨n - (i + 1), by omega, rfl, h, xs, p⟩
section
variable {g : TG} {tc : TT} {te : TE} {D : Addr} {H1 : Hp} {σ0 : St} {Q : VK}
theorem tG {R : Hp → Prop} {lo : Int} {n : Nat} (Pv : Nat → List V → St → Hp → Prop) (h0 : Pv 0 [] σ0 (upd H1 D (.lst [])))
    (hs : ∀ i xs σ H, i < n → Pv i xs σ H → g (.int (lo + i)) σ H fun σ3 H3 => tc σ3 H3 fun b H4 => if b = true then te σ3 H4 fun v H5 => zO (.ref D) [v] H5 fun _ H6 => wR n Pv i σ3 H6 else wR n Pv i σ3 H4)
    (hd : ∀ xs σ H, Pv n xs σ H → R H) :
    ∃ W : Nat → Nat → St → Hp → Prop, (∃ m, W 0 m σ0 (upd H1 D (.lst []))) ∧ ∀ i m σ' H', W i m σ' H' → ((Itr lo n).stop i H' ∧ R H') ∨ ((Itr lo n).go i H' ∧ ∀ x H2, (Itr lo n).yld i H' x H2 → g x σ' H2 fun σ3 H3 => tc σ3 H3 fun b H4 =>
      if b = true then te σ3 H4 fun v H5 => zO (.ref D) [v] H5 fun _ H6 => ∃ m', m' < m ∧ W (i + 1) m' σ3 H6 else ∃ m', m' < m ∧ W (i + 1) m' σ3 H4) := by
  refine ⟨fun i m σ H => m = n - i ∧ i ≤ n ∧ ∃ xs, Pv i xs σ H, ⟨n, by simp, Nat.zero_le _, [], h0⟩, ?_⟩
  rintro i m σ H ⟨rfl, hi, xs, p⟩
  by_cases hlt : i < n
  · refine .inr ⟨hlt, fun x H' y => ?_⟩
    obtain ⟨e, y⟩ := y
    subst e y
    exact hs i xs σ _ hlt p
  · have e : i = n := by omega
    subst e
    exact .inl ⟨Nat.le_refl _, hd xs σ H p⟩
theorem yH {R : Hp → Prop} {K : PySem.W.Frag} {a : Addr} {ys : List V} (Pv : Nat → List V → St → Hp → Prop) (h0 : Pv 0 [] σ0 (upd H1 D (.lst [])))
    (hl : ∀ i xs σ H, i ≤ ys.length → Pv i xs σ H → SqL K H a ys)
    (hs : ∀ i x xs σ H, ys[i]? = some x → Pv i xs σ H → g x σ H fun σ3 H3 => tc σ3 H3 fun b H4 => if b = true then te σ3 H4 fun v H5 => zO (.ref D) [v] H5 fun _ H6 => wR ys.length Pv i σ3 H6 else wR ys.length Pv i σ3 H4)
    (hd : ∀ xs σ H, Pv ys.length xs σ H → R H) :
    ∃ W : Nat → Nat → St → Hp → Prop, (∃ m, W 0 m σ0 (upd H1 D (.lst []))) ∧ ∀ i m σ' H', W i m σ' H' → ((Itl K a).stop i H' ∧ R H') ∨ ((Itl K a).go i H' ∧ ∀ x H2, (Itl K a).yld i H' x H2 → g x σ' H2 fun σ3 H3 => tc σ3 H3 fun b H4 =>
      if b = true then te σ3 H4 fun v H5 => zO (.ref D) [v] H5 fun _ H6 => ∃ m', m' < m ∧ W (i + 1) m' σ3 H6 else ∃ m', m' < m ∧ W (i + 1) m' σ3 H4) := by
  refine ⟨fun i m σ H => m = ys.length - i ∧ i ≤ ys.length ∧ ∃ xs, Pv i xs σ H, ⟨ys.length, by simp, Nat.zero_le _, [], h0⟩, ?_⟩
  rintro i m σ H ⟨rfl, hi, xs, p⟩
  have q := hl i xs σ H hi p
  by_cases hlt : i < ys.length
  · refine .inr ⟨⟨ys, ys[i], q, by simp [hlt]⟩, fun x H' y => ?_⟩
    obtain ⟨e, y⟩ := y
    subst e
    exact hs i x xs σ _ (y ys q) p
  · have e : i = ys.length := by omega
    subst e
    exact .inl ⟨⟨ys, q, Nat.le_refl _⟩, hd xs σ H p⟩
theorem u6 {R : Hp → Prop} {K : PySem.W.Frag} {a : Addr} {ys : List V} (Pv : Nat → List V → St → Hp → Prop) (h0 : Pv 0 [] σ0 (upd H1 D (.lst [])))
    (hl : ∀ i xs σ H, i ≤ ys.length → Pv i xs σ H → SqT K H a ys)
    (hs : ∀ i x xs σ H, ys[i]? = some x → Pv i xs σ H → g x σ H fun σ3 H3 => tc σ3 H3 fun b H4 => if b = true then te σ3 H4 fun v H5 => zO (.ref D) [v] H5 fun _ H6 => wR ys.length Pv i σ3 H6 else wR ys.length Pv i σ3 H4)
    (hd : ∀ xs σ H, Pv ys.length xs σ H → R H) :
    ∃ W : Nat → Nat → St → Hp → Prop, (∃ m, W 0 m σ0 (upd H1 D (.lst []))) ∧ ∀ i m σ' H', W i m σ' H' → ((Itt K a).stop i H' ∧ R H') ∨ ((Itt K a).go i H' ∧ ∀ x H2, (Itt K a).yld i H' x H2 → g x σ' H2 fun σ3 H3 => tc σ3 H3 fun b H4 =>
      if b = true then te σ3 H4 fun v H5 => zO (.ref D) [v] H5 fun _ H6 => ∃ m', m' < m ∧ W (i + 1) m' σ3 H6 else ∃ m', m' < m ∧ W (i + 1) m' σ3 H4) := by
  refine ⟨fun i m σ H => m = ys.length - i ∧ i ≤ ys.length ∧ ∃ xs, Pv i xs σ H, ⟨ys.length, by simp, Nat.zero_le _, [], h0⟩, ?_⟩
  rintro i m σ H ⟨rfl, hi, xs, p⟩
  have q := hl i xs σ H hi p
  by_cases hlt : i < ys.length
  · refine .inr ⟨⟨ys, ys[i], q, by simp [hlt]⟩, fun x H' y => ?_⟩
    obtain ⟨e, y⟩ := y
    subst e
    exact hs i x xs σ _ (y ys q) p
  · have e : i = ys.length := by omega
    subst e
    exact .inl ⟨⟨ys, q, Nat.le_refl _⟩, hd xs σ H p⟩
theorem Cu {ta : TA} {σ : St} {H : Hp} {n : Nat} {js : List Nat} (h : ta σ H fun vs H1 => ∃ j : Int, vs = [.int j] ∧ -(2 ^ 62) ≤ j ∧ j < 2 ^ 62 ∧ ∀ D, H1 D = none → ∃ W : Nat → Nat → St → Hp → Prop, (∃ m, W 0 m (wY n js σ) (upd H1 D (.lst []))) ∧
  ∀ i m σ' H', W i m σ' H' → ((Itr 0 j.toNat).stop i H' ∧ Q (.ref D) H') ∨ ((Itr 0 j.toNat).go i H' ∧ ∀ x H2, (Itr 0 j.toNat).yld i H' x H2 → g x σ' H2 fun σ3 H3 => tc σ3 H3 fun b H4 =>
    if b = true then te σ3 H4 fun v H5 => zO (.ref D) [v] H5 fun _ H6 => ∃ m', m' < m ∧ W (i + 1) m' σ3 H6 else ∃ m', m' < m ∧ W (i + 1) m' σ3 H4)) : tH (Du ta) g tc te n js σ H Q := h
theorem xM {K : PySem.W.Frag} {tl : TE} {σ : St} {H : Hp} {n : Nat} {js : List Nat} (h : tl σ H fun x H1 => ∃ a, x = .ref a ∧ (∃ xs, SqL K H1 a xs) ∧ ∀ D, H1 D = none → ∃ W : Nat → Nat → St → Hp → Prop, (∃ m, W 0 m (wY n js σ) (upd H1 D (.lst []))) ∧
  ∀ i m σ' H', W i m σ' H' → ((Itl K a).stop i H' ∧ Q (.ref D) H') ∨ ((Itl K a).go i H' ∧ ∀ x H2, (Itl K a).yld i H' x H2 → g x σ' H2 fun σ3 H3 => tc σ3 H3 fun b H4 =>
    if b = true then te σ3 H4 fun v H5 => zO (.ref D) [v] H5 fun _ H6 => ∃ m', m' < m ∧ W (i + 1) m' σ3 H6 else ∃ m', m' < m ∧ W (i + 1) m' σ3 H4)) : tH (Ev K tl) g tc te n js σ H Q := h
theorem Ag {K : PySem.W.Frag} {tl : TE} {σ : St} {H : Hp} {n : Nat} {js : List Nat} (h : tl σ H fun x H1 => ∃ a, x = .ref a ∧ (∃ xs, SqT K H1 a xs) ∧ ∀ D, H1 D = none → ∃ W : Nat → Nat → St → Hp → Prop, (∃ m, W 0 m (wY n js σ) (upd H1 D (.lst []))) ∧
  ∀ i m σ' H', W i m σ' H' → ((Itt K a).stop i H' ∧ Q (.ref D) H') ∨ ((Itt K a).go i H' ∧ ∀ x H2, (Itt K a).yld i H' x H2 → g x σ' H2 fun σ3 H3 => tc σ3 H3 fun b H4 =>
    if b = true then te σ3 H4 fun v H5 => zO (.ref D) [v] H5 fun _ H6 => ∃ m', m' < m ∧ W (i + 1) m' σ3 H6 else ∃ m', m' < m ∧ W (i + 1) m' σ3 H4)) : tH (iTup K tl) g tc te n js σ H Q := h
theorem GA {B : Bool → Hp → Prop} {σ : St} {H : Hp} (h : B true H) : tAll σ H B := h
theorem Gq {K : PySem.W.Frag} {H : Hp} {p : Addr} {ys : List V} {x : V} (h : H p = some (.lst ys)) (fx : wf x = true) (fs : ys.all wf = true) (q : Q (.bl (inV x ys)) H) : rIn K false x (.ref p) H Q := ⟨p, ys, rfl, .inl (SqL.of h), fx, fs, q⟩
theorem GK {K : PySem.W.Frag} {H : Hp} {p : Addr} {xs : List V} {i : Int} {v : V} (h : SqT K H p xs) (e : atI xs i = some v) (q : Q v H) : rIxT K (.ref p) (.int i) H Q := ⟨p, xs, i, v, rfl, rfl, h, e, q⟩
theorem uI {σ : St} {H : Hp} {E : Ends} {ta : TA} {tb : TS} (h : ta σ H fun vs H1 => ∃ i j : Int, vs = [.int i, .int j] ∧ (-(2 ^ 62) ≤ i ∧ i < 2 ^ 62 ∧ -(2 ^ 62) ≤ j ∧ j < 2 ^ 62) ∧ ∃ W : Nat → Nat → St → Hp → Prop, (∃ m, W 0 m σ H1) ∧ ∀ k m σ H, W k m σ H →
  ((Itr i (j - i).toNat).stop k H ∧ E.nx σ H) ∨ ((Itr i (j - i).toNat).go k H ∧ ∃ N : St → Hp → Prop, (∀ σ' H', N σ' H' → ∃ m', m' < m ∧ W (k + 1) m' σ' H') ∧ ∀ x H', (Itr i (j - i).toNat).yld k H x H' → g x σ H' fun σ2 H2 => tb { E with nx := N, ct := N, bk := E.nx } σ2 H2)) :
  tFor (FC ta) g tb E σ H := h
end
section
variable {σ : St} {H : Hp} {K : PySem.W.Frag} {R : St → Hp → Prop}
theorem FO {n : Nat} {t : TGs} {a : Addr} {xs : List V} (h : H a = some (.tup xs)) (hn : xs.length = n) (q : t xs σ H R) : gTup K n t (.ref a) σ H R := ⟨a, xs, rfl, SqT.of h, hn, q⟩
theorem Et {t : TG} {u : TGs} {v : V} {r : List V} (q : t v σ H fun σ' H' => u r σ' H' R) : EW t u (v :: r) σ H R := ⟨v, r, rfl, q⟩
theorem Fv (q : R σ H) : gNil [] σ H R := ⟨rfl, q⟩
end
def TopI (mg : Str → Option Value) (x : Str) (i : Int) : Prop := ∃ u, mg x = some u ∧ RelV (.int i) u
def TopT (K : PySem.W.Frag) (mg : Str → Option Value) (x : Str) (xs : List V) : Prop := ∃ a, mg x = some (.ref a) ∧ ∀ H : Hp, SqT K H a xs
theorem topT_mk {K : PySem.W.Frag} {h : Heap} {mg : Str → Option Value} {x : Str} {a : Addr} {o : Obj} {its : Array Value} {n : Nat} {xs : List V} (X : K.In h) (G : h.Ns mainGlobals mg) (e : PySem.W.nsIn K mainGlobals x = some (some (.ref a)))
    (l : K.lookup a = some o) (c : o.cls = .type "tuple") (d : o.data = .seq its n) (z : its.size ≤ sizeLine) (v : Vals xs its.toList) : TopT K mg x xs := ⟨a, PySem.W.mg_of X G e, fun _ => .inr ⟨o, its, n, l, c, d, z, v⟩⟩
theorem topI_mk {K : PySem.W.Frag} {h : Heap} {mg : Str → Option Value} {x : Str} {i : Int} {t : Tok} (X : K.In h) (G : h.Ns mainGlobals mg) (e : PySem.W.nsIn K mainGlobals x = some (some (.int i t))) : TopI mg x i := ⟨_, PySem.W.mg_of X G e, ⟨t, rfl⟩⟩
end L2
namespace L2
open PySem PySem.Spec PyProof.Rows Bg
def WGo (Pv : St → Hp → Prop) (μ : St → Hp → Nat) (tb : TS) (D : Ends) (σ0 : St) (H0 : Hp) (σ : St) (H : Hp) : Prop :=
  ∃ N : St → Hp → Prop, (∀ σ' H', N σ' H' → ∃ m', m' < μ σ0 H0 ∧ (m' = μ σ' H' ∧ Pv σ' H')) ∧ tb { D with nx := N, ct := N, bk := D.nx } σ H
theorem wgo {Pv : St → Hp → Prop} {μ : St → Hp → Nat} {tb : TS} {D : Ends} {σ0 : St} {H0 : Hp} {σ : St} {H : Hp}
    (h : tb { D with nx := fun σ' H' => Pv σ' H' ∧ μ σ' H' < μ σ0 H0, ct := fun σ' H' => Pv σ' H' ∧ μ σ' H' < μ σ0 H0, bk := D.nx } σ H) : WGo Pv μ tb D σ0 H0 σ H :=
  ⟨_, fun _ _ ⟨p, l⟩ => ⟨_, l, rfl, p⟩, h⟩
theorem A5 {c : TT} {tb : TS} {D : Ends} {σ : St} {H : Hp} (Pv : St → Hp → Prop) (μ : St → Hp → Nat) (h0 : Pv σ H)
    (hs : ∀ σ H, Pv σ H → c σ H fun b H1 => if b = true then WGo Pv μ tb D σ H σ H1 else D.nx σ H1) : uK c tb D σ H := by
  refine ⟨fun m σ H => m = μ σ H ∧ Pv σ H, ⟨_, rfl, h0⟩, ?_⟩
  rintro m σ H ⟨rfl, p⟩
  exact hs σ H p
theorem bl_q {Q : VK} {H : Hp} {x y : Bool} (e : x = y) (q : Q (.bl y) H) : Q (.bl x) H := by rw [e]; exact q
theorem GD {Q : VK} {H : Hp} {x y : Int} (e : x = y) (q : Q (.int y) H) : Q (.int x) H := by rw [e]; exact q
def EK : R2 := fun x y H Q => y = .non ∧ Q (.bl (!decide (x = .non))) H
theorem Cb {X : Cx} : OpR X (compareOp .IsNot) EK := D8
theorem FZ {H : Hp} {Q : VK} {x : V} (q : Q (.bl (!decide (x = .non))) H) : EK x .non H Q := ⟨rfl, q⟩
theorem DF {X : Cx} {K : PySem.W.Frag} {es : List Expr} {k : Nat} {t : TGs} {n : Nat} {pos : Pos} (hK : X.K = K) (hc : X.calm = true) (h : PGs X es t) (hn : (assignEach es X.env).length = n := by rfl) (hst : (assignEach es X.env).findIdx? (·.1) = none := by rfl) : PG X (.Tuple es k pos) (gTup K n t) := by
  subst hK
  exact vO hc h hn hst
def sqs : List Int := [4, 9, 16, 25, 36, 49, 64, 81]
theorem DH (d : Int) : inV (.int d) [.int 4, .int 9, .int 16, .int 25, .int 36, .int 49, .int 64, .int 81] = sqs.contains d := by
  simp only [inV, List.any_cons, List.any_nil, eqV, sqs, List.contains_cons, List.contains_nil, Bool.or_false]
  simp only [BEq.comm (b := d)]
theorem uY {xs : List Int} {i : Int} (h0 : 0 ≤ i) (h1 : i < xs.length) : ∃ d ∈ xs, atI (xs.map V.int) i = some (.int d) := by
  have hi : i.toNat < xs.length := by omega
  refine ⟨xs[i.toNat], List.getElem_mem hi, ?_⟩
  have e := yJ (xs := xs.map V.int) (j := i.toNat) (v := .int xs[i.toNat]) (by rw [List.getElem?_map, List.getElem?_eq_getElem hi]; rfl)
  rw [show ((i.toNat : Nat) : Int) = i by omega] at e
  exact e
end L2
namespace Bg
theorem Fc {d a b : Int} (h : Rt d) (z : ¬ (a = 0 ∧ b = 0)) : a * a - d * b * b ≠ 0 := fun e => z (u4 h e)
theorem vA {a b k : Int} (hk : k ≠ 0) (h : a * k = b * k) : a = b := Int.eq_of_mul_eq_mul_right hk h
theorem Co {x y z : Int} (h1 : 1 ≤ z) (g : g3 x y z = 1) : lA x y z = x ∧ lB x y z = y ∧ lN x y z = z := by
  have := zL (x := x) (y := y) (z := z) (a := x) (b := y) (n := z) h1 g (by omega) rfl rfl
  exact ⟨this.1.symm, this.2.1.symm, this.2.2.symm⟩
end Bg
namespace Bg
theorem vR {a b : Int} (h : 1 ≤ b) : (0 : Int) < (Int.gcd a b : Nat) := by
  have := (Int.gcd_pos_iff (a := a) (b := b)).mpr (.inr (show b ≠ 0 by omega))
  omega
theorem Cn {a b : Int} (ha : 1 ≤ a) (hb : 0 < b) (h : b ∣ a) : 1 ≤ a / b := by
  have e := Int.ediv_mul_cancel h
  rcases Int.lt_or_le (a / b) 1 with z | z
  · have : a / b * b ≤ 0 := Int.mul_nonpos_of_nonpos_of_nonneg (by omega) (by omega)
    omega
  · exact z
theorem Cq {a b : Int} (h : 1 ≤ b) : Int.gcd (a / (Int.gcd a b : Nat)) (b / (Int.gcd a b : Nat)) = 1 := Int.gcd_ediv_gcd_ediv_gcd (by have := vR (a := a) h; omega)
end Bg
namespace Bg
theorem uT (q : Rat) : Rat.divInt q.num q.den = q := Rat.num_divInt_den q
theorem A1 {t b t' b' : Int} (hb : b ≠ 0) (hb' : b' ≠ 0) : Rat.divInt (t * b' + t' * b) (b * b') = Rat.divInt t b + Rat.divInt t' b' := (Rat.divInt_add_divInt t t' hb hb').symm
theorem wN {t b t' b' : Int} : Rat.divInt (t * t') (b * b') = Rat.divInt t b * Rat.divInt t' b' := (Rat.divInt_mul_divInt t t').symm
theorem Dn {k : Nat} {x : Int} (h : Bd k x) {y : Int} (hy : 0 < y) : Bd k (x / y) := by
  rw [← Int.fdiv_eq_ediv_of_nonneg x (by omega)]
  exact h.fdiv y
theorem Ge {k : Nat} {a b : Int} (hb : b ≠ 0) (h : Bd k b) : Bd k ((Int.gcd a b : Nat) : Int) := h.of_le (by
  have h1 := Int.natAbs_dvd_natAbs.mpr (Int.gcd_dvd_right a b)
  exact Nat.le_of_dvd (by omega) h1)
end Bg
namespace Bg
def Br (j k : Nat) (q : Rat) : Prop := Bd j q.num ∧ Bd k (q.den : Int)
structure Tb where
  a : Rat
  b : Rat
  c : Rat
  e : Rat
theorem Tb.ext {s t : Tb} (h1 : s.a = t.a) (h2 : s.b = t.b) (h3 : s.c = t.c) (h4 : s.e = t.e) : s = t := by
  cases s
  cases t
  simp_all
def Tb.zero : Tb := ⟨0, 0, 0, 0⟩
def Tb.add (s t : Tb) : Tb := ⟨s.a + t.a, s.b + t.b, s.c + t.c, s.e + t.e⟩
def Tb.sub (s t : Tb) : Tb := ⟨s.a - t.a, s.b - t.b, s.c - t.c, s.e - t.e⟩
def Tb.tr (s : Tb) : Tb := ⟨s.a, s.c, s.b, s.e⟩
theorem Tb.add_comm (s t : Tb) : s.add t = t.add s := Tb.ext (Rat.add_comm ..) (Rat.add_comm ..) (Rat.add_comm ..) (Rat.add_comm ..)
theorem Tb.add_assoc (s t u : Tb) : (s.add t).add u = s.add (t.add u) := Tb.ext (Rat.add_assoc ..) (Rat.add_assoc ..) (Rat.add_assoc ..) (Rat.add_assoc ..)
theorem Tb.zero_add (t : Tb) : Tb.zero.add t = t := Tb.ext (Rat.zero_add _) (Rat.zero_add _) (Rat.zero_add _) (Rat.zero_add _)
structure Sd where
  x : Int
  y : Int
  z : Int
structure Sd.Ok (d : Int) (s : Sd) : Prop where
  z1 : 1 ≤ s.z
  g : g3 s.x s.y s.z = 1
  bx : Bd 120 s.x
  bY : Bd 120 s.y
  bz : Bd 30 s.z
  up : sgn d s.x s.y = 1
def Sd.p (s : Sd) : Rat := Rat.divInt s.x s.z
def Sd.q (s : Sd) : Rat := Rat.divInt s.y s.z
structure Bo where
  w : Sd
  h : Sd
def Bo.Ok (d : Int) (b : Bo) : Prop := b.w.Ok d ∧ b.h.Ok d
def Bo.tb (b : Bo) : Tb := ⟨b.w.p * b.h.p, b.w.p * b.h.q, b.w.q * b.h.p, b.w.q * b.h.q⟩
def tbs : List Bo → Tb
  | [] => Tb.zero
  | b :: l => b.tb.add (tbs l)
theorem wp (l m : List Bo) : tbs (l ++ m) = (tbs l).add (tbs m) := by
  induction l with
  | nil => exact (Tb.zero_add _).symm
  | cons b l ih =>
    show b.tb.add (tbs (l ++ m)) = (b.tb.add (tbs l)).add (tbs m)
    rw [ih, Tb.add_assoc]
theorem xC (b : Bo) : tbs [b] = b.tb := by
  show b.tb.add Tb.zero = b.tb
  rw [Tb.add_comm, Tb.zero_add]
theorem wO (l : List Bo) (b : Bo) : tbs (l ++ [b]) = (tbs l).add b.tb := by rw [wp, xC]
end Bg
namespace Bg
structure Ms where
  f : Rat
  g : Rat
def Ms.Ok (m : Ms) : Prop := Br 90 10 m.f ∧ Br 90 10 m.g
def Sd.ms (s : Sd) : Ms := ⟨s.p, s.q⟩
end Bg
namespace Bg
theorem CG {d n p q : Int} (hR : Rt d) (hn : 0 < n) (h : sgn d p q = 1) : sgn d (n + p) q = 1 := by
  have d2 := hR.lo
  by_cases hp : 0 ≤ p
  · by_cases hq : 0 ≤ q
    · rw [wy (by omega) hq, if_pos (by omega)]
    · have p0 : 0 < p := by
        rcases Int.lt_or_eq_of_le hp with z | z
        · exact z
        · subst z
          rw [u3 (by omega) (by omega) (by omega)] at h
          exact absurd h (by decide)
      rw [BD p0 (by omega)] at h
      rw [BD (by omega) (by omega)]
      have h1 : d * q * q < p * p := by
        by_cases z : d * q * q < p * p
        · exact z
        · rw [if_neg z] at h
          exact absurd h (by decide)
      have h2 : p * p ≤ (n + p) * (n + p) := Int.mul_le_mul (by omega) (by omega) (by omega) (by omega)
      rw [if_pos (by omega)]
  · by_cases hq : 0 < q
    · rw [AW (by omega) hq] at h
      have h1 : p * p < d * q * q := by
        by_cases z : p * p < d * q * q
        · exact z
        · rw [if_neg z] at h
          exact absurd h (by decide)
      by_cases hs : 0 ≤ n + p
      · rw [wy hs (by omega), if_pos (by omega)]
      · rw [AW (by omega) hq]
        have h2 : (-(n + p)) * (-(n + p)) ≤ (-p) * (-p) := Int.mul_le_mul (by omega) (by omega) (by omega) (by omega)
        rw [Int.neg_mul_neg, Int.neg_mul_neg] at h2
        rw [if_pos (by omega)]
    · rw [u3 (by omega) (by omega) (by omega)] at h
      exact absurd h (by decide)
theorem wT {d a b a' b' : Int} (hR : Rt d) (h : sgn d a b = 1) (h' : sgn d a' b' = 1) : sgn d (a + a') (b + b') = 1 := by
  have hN : a * a - d * b * b ≠ 0 := by
    refine Fc hR fun z => ?_
    rw [z.1, z.2, yo] at h
    exact absurd h (by decide)
  obtain ⟨k, w, v, hk, e1, e2, e3, e4⟩ : ∃ k w v : Int, 0 < k ∧ k * a' = w * a + d * v * b ∧ k * b' = w * b + v * a ∧ k * (a + a') = (k + w) * a + d * v * b ∧ k * (b + b') = (k + w) * b + v * a := by
    rcases Int.lt_or_gt_of_ne hN with z | z
    · refine ⟨-(a * a - d * b * b), -(a' * a - d * b' * b), -(b' * a - a' * b), by omega, ?_, ?_, ?_, ?_⟩ <;> grind
    · refine ⟨a * a - d * b * b, a' * a - d * b' * b, b' * a - a' * b, z, ?_, ?_, ?_, ?_⟩ <;> grind
  have s1 := yI hR hk a' b'
  rw [e1, e2, uU hR, h, Int.mul_one, h'] at s1
  have s2 := CG hR hk s1
  have s3 := yI hR hk (a + a') (b + b')
  rw [e3, e4, uU hR, h, s2] at s3
  rw [← s3]
  rfl
def Tb.A (d : Int) (t : Tb) : Rat := t.a + (d : Rat) * t.e
def Tb.B (t : Tb) : Rat := t.b + t.c
end Bg
namespace Bg
end Bg
namespace Bg
end Bg
namespace Bg
theorem zB {e x v : Int} (h : e ∣ x * v) (g : Int.gcd e v = 1) : e ∣ x := by
  have h1 : e ∣ x * v := h
  have h2 : e ∣ x * e := ⟨x, Int.mul_comm ..⟩
  have h3 : e ∣ (Int.gcd (x * e) (x * v) : Nat) := Int.dvd_coe_gcd h2 h1
  rw [Int.gcd_mul_left, g, Nat.mul_one] at h3
  exact Int.dvd_natAbs.mp h3
theorem zR {a b : Int} (h : ∀ e : Int, e ∣ a → e ∣ b → e ∣ 1) : Int.gcd a b = 1 := by
  have := h (Int.gcd a b : Nat) (Int.gcd_dvd_left ..) (Int.gcd_dvd_right ..)
  have h2 := Int.natAbs_dvd_natAbs.mpr this
  simpa using h2
theorem zY {a b e : Int} (h : Int.gcd a b = 1) (ha : e ∣ a) (hb : e ∣ b) : e ∣ 1 := by
  have := Int.dvd_coe_gcd ha hb
  rw [h] at this
  exact this
theorem yk {a b e : Int} (h : Int.gcd a b = 1) (ha : e ∣ a) : Int.gcd e b = 1 :=
  zR fun _ h1 h2 => zY h (Int.dvd_trans h1 ha) h2
theorem yA {a b c : Int} (h1 : Int.gcd a b = 1) (h2 : Int.gcd a c = 1) : Int.gcd a (b * c) = 1 :=
  zR fun e ha hb => by
    have e1 : Int.gcd e c = 1 := yk h2 ha
    exact zY h1 ha (zB hb e1)
theorem u9 {z z' : Int} (h1 : 1 ≤ z) (h2 : 1 ≤ z') : ∃ s u v : Int, s = (Int.gcd z z' : Nat) ∧ 1 ≤ s ∧ 1 ≤ u ∧ 1 ≤ v ∧ z = s * u ∧ z' = s * v ∧ z.fdiv s = u ∧ z'.fdiv s = v ∧ Int.gcd u v = 1 := by
  have d1 : ((Int.gcd z z' : Nat) : Int) ∣ z := Int.gcd_dvd_left ..
  have d2 : ((Int.gcd z z' : Nat) : Int) ∣ z' := Int.gcd_dvd_right ..
  have hp : 0 < Int.gcd z z' := Int.gcd_pos_of_ne_zero_left _ (by omega)
  obtain ⟨u, hu⟩ := d1
  obtain ⟨v, hv⟩ := d2
  have hs : (1 : Int) ≤ (Int.gcd z z' : Nat) := by omega
  have hg : Int.gcd u v = 1 := by
    have e : Int.gcd z z' = Int.gcd ((Int.gcd z z' : Nat) * u) ((Int.gcd z z' : Nat) * v) := by rw [← hu, ← hv]
    rw [Int.gcd_mul_left, Int.natAbs_natCast] at e
    exact (Nat.eq_of_mul_eq_mul_left hp (by rw [Nat.mul_one]; exact e)).symm
  generalize ((Int.gcd z z' : Nat) : Int) = s at *
  subst hu; subst hv
  refine ⟨s, u, v, rfl, hs, ?_, ?_, rfl, rfl, Int.mul_fdiv_cancel_left _ (by omega), Int.mul_fdiv_cancel_left _ (by omega), hg⟩
  · refine Int.not_lt.mp fun q => ?_
    have := Int.mul_nonpos_of_nonneg_of_nonpos (show (0:Int) ≤ s by omega) (show u ≤ 0 by omega)
    omega
  · refine Int.not_lt.mp fun q => ?_
    have := Int.mul_nonpos_of_nonneg_of_nonpos (show (0:Int) ≤ s by omega) (show v ≤ 0 by omega)
    omega
def aS (z z' : Int) : Int := (Int.gcd z z' : Nat)
def aA (x z x' z' : Int) : Int := x * z'.fdiv (aS z z') + x' * z.fdiv (aS z z')
def aL (x y z x' y' z' : Int) : Int := (Int.gcd (Int.gcd (aS z z') (aA x z x' z') : Nat) (aA y z y' z') : Nat)
theorem DD {x y z x' y' z' : Int} (h1 : 1 ≤ z) (h2 : 1 ≤ z') (g1 : g3 x y z = 1) (g2 : g3 x' y' z' = 1) :
    1 ≤ aS z z' ∧ 1 ≤ aL x y z x' y' z' ∧ (aA x z x' z').fdiv (aL x y z x' y' z') = lA (x * z' + x' * z) (y * z' + y' * z) (z * z') ∧ (aA y z y' z').fdiv (aL x y z x' y' z') = lB (x * z' + x' * z) (y * z' + y' * z) (z * z') ∧
    z.fdiv (aS z z') * z'.fdiv (aL x y z x' y' z') = lN (x * z' + x' * z) (y * z' + y' * z) (z * z') := by
  obtain ⟨s, u, v, hs, s1, u1, v1, ez, ez', fu, fv, guv⟩ := u9 h1 h2
  have eS : aS z z' = s := hs.symm
  have eA : ∀ p q, aA p z q z' = p * v + q * u := fun p q => by unfold aA; rw [eS, fu, fv]
  have eL : aL x y z x' y' z' = (Int.gcd (Int.gcd s (x * v + x' * u) : Nat) (y * v + y' * u) : Nat) := by unfold aL; rw [eS, eA, eA]
  rw [eS, eA, eA, fu]
  generalize hl : aL x y z x' y' z' = l at *
  generalize ha : x * v + x' * u = a at *
  generalize hb : y * v + y' * u = b at *
  have l1 : 1 ≤ l := by
    have : 0 < Int.gcd (Int.gcd s a : Nat) b := Int.gcd_pos_of_ne_zero_left _ (by
      have := Int.gcd_pos_of_ne_zero_left a (show s ≠ 0 by omega)
      omega)
    omega
  have dls : l ∣ s := by rw [eL]; exact Int.dvd_trans (Int.gcd_dvd_left ..) (Int.gcd_dvd_left ..)
  have dla : l ∣ a := by rw [eL]; exact Int.dvd_trans (Int.gcd_dvd_left ..) (Int.gcd_dvd_right ..)
  have dlb : l ∣ b := by rw [eL]; exact Int.gcd_dvd_right ..
  obtain ⟨m, hm⟩ := dls
  obtain ⟨X, hX⟩ := dla
  obtain ⟨Y, hY⟩ := dlb
  have l0 : l ≠ 0 := by omega
  have fX : a.fdiv l = X := by rw [hX]; exact Int.mul_fdiv_cancel_left _ l0
  have fY : b.fdiv l = Y := by rw [hY]; exact Int.mul_fdiv_cancel_left _ l0
  have fZ : z'.fdiv l = m * v := by rw [ez', hm, Int.mul_assoc]; exact Int.mul_fdiv_cancel_left _ l0
  rw [fX, fY, fZ]
  have m1 : 1 ≤ m := by
    refine Int.not_lt.mp fun q => ?_
    have := Int.mul_nonpos_of_nonneg_of_nonpos (show (0:Int) ≤ l by omega) (show m ≤ 0 by omega)
    omega
  refine ⟨s1, l1, ?_⟩
  have gm : g3 X Y m = 1 := by
    have e : (g3 (l * X) (l * Y) (l * m) : Int) = l := by
      unfold g3
      rw [← hX, ← hY, ← hm, ← eL]
    rw [Do] at e
    have e2 : l.natAbs * g3 X Y m = l.natAbs * 1 := by omega
    exact Nat.eq_of_mul_eq_mul_left (by omega) e2
  have cop : ∀ e : Int, e ∣ X → e ∣ Y → Int.gcd e u = 1 ∧ Int.gcd e v = 1 ∧ Int.gcd e m = 1 := fun e eX eY => by
    have ea : e ∣ a := by rw [hX]; exact Int.dvd_trans eX (Int.dvd_mul_left ..)
    have eb : e ∣ b := by rw [hY]; exact Int.dvd_trans eY (Int.dvd_mul_left ..)
    refine ⟨zR fun f f1 f2 => ?_, zR fun f f1 f2 => ?_, zR fun f f1 f2 => ?_⟩
    · have fv1 : Int.gcd f v = 1 := yk guv f2
      have k1 : f ∣ x * v := by
        have := Int.dvd_sub (Int.dvd_trans f1 ea) (Int.dvd_trans f2 (Int.dvd_mul_left x' u))
        rw [← ha, Int.add_sub_cancel] at this
        exact this
      have k2 : f ∣ y * v := by
        have := Int.dvd_sub (Int.dvd_trans f1 eb) (Int.dvd_trans f2 (Int.dvd_mul_left y' u))
        rw [← hb, Int.add_sub_cancel] at this
        exact this
      have := uQ (zB k1 fv1) (zB k2 fv1) (Int.dvd_trans f2 (show u ∣ z by rw [ez]; exact Int.dvd_mul_left ..))
      rw [g1] at this
      exact this
    · have fu1 : Int.gcd f u = 1 := yk (Int.gcd_comm u v ▸ guv) f2
      have k1 : f ∣ x' * u := by
        have := Int.dvd_sub (Int.dvd_trans f1 ea) (Int.dvd_trans f2 (Int.dvd_mul_left x v))
        rw [← ha, Int.add_comm, Int.add_sub_cancel] at this
        exact this
      have k2 : f ∣ y' * u := by
        have := Int.dvd_sub (Int.dvd_trans f1 eb) (Int.dvd_trans f2 (Int.dvd_mul_left y v))
        rw [← hb, Int.add_comm, Int.add_sub_cancel] at this
        exact this
      have := uQ (zB k1 fu1) (zB k2 fu1) (Int.dvd_trans f2 (show v ∣ z' by rw [ez']; exact Int.dvd_mul_left ..))
      rw [g2] at this
      exact this
    · have := uQ (Int.dvd_trans f1 eX) (Int.dvd_trans f1 eY) f2
      rw [gm] at this
      exact this
  have gX : g3 X Y (u * (m * v)) = 1 := by
    have dX := g3_a X Y (u * (m * v))
    have dY := g3_b X Y (u * (m * v))
    have dZ := g3_n X Y (u * (m * v))
    obtain ⟨c1, c2, c3⟩ := cop _ dX dY
    have c4 := yA c1 (yA c3 c2)
    have := zY c4 (Int.dvd_refl _) dZ
    have := Int.natAbs_dvd_natAbs.mpr this
    simpa using this
  refine zL ?_ gX (Int.mul_ne_zero (by omega) (by omega)) ?_ ?_
  · exact Int.mul_pos (by omega) (Int.mul_pos (by omega) (by omega))
  · subst ez ez'
    refine Int.eq_of_mul_eq_mul_left l0 ?_
    clear cop gX gm eL hl eA hs fu fv fX fY fZ guv g1 g2
    have e1 : l * (X * (s * u * (s * v))) = a * (s * u * (s * v)) := by rw [hX, Int.mul_assoc l X]
    have e2 : l * ((x * (s * v) + x' * (s * u)) * (u * (m * v))) = (x * v + x' * u) * s * (u * (l * m * v)) := by grind
    rw [e1, e2, ← hm, ha]
    grind
  · subst ez ez'
    refine Int.eq_of_mul_eq_mul_left l0 ?_
    clear cop gX gm eL hl eA hs fu fv fX fY fZ guv g1 g2
    have e1 : l * (Y * (s * u * (s * v))) = b * (s * u * (s * v)) := by rw [hY, Int.mul_assoc l Y]
    have e2 : l * ((y * (s * v) + y' * (s * u)) * (u * (m * v))) = (y * v + y' * u) * s * (u * (l * m * v)) := by grind
    rw [e1, e2, ← hm, hb]
    grind
theorem xU {k : Nat} {z a : Int} (h : z ≠ 0) (hb : Bd k z) : Bd k ((Int.gcd z a : Nat) : Int) := hb.of_le (by
  rw [Int.natAbs_natCast]
  exact Nat.le_of_dvd (by omega) (by simpa using Int.natAbs_dvd_natAbs.mpr (Int.gcd_dvd_left z a)))
theorem Fl (x y z : Int) : g3 (-x) (-y) z = g3 x y z := by
  unfold g3
  rw [Int.gcd_neg, Int.gcd_neg]
theorem uc {t b t' b' : Int} (h1 : 1 ≤ b) (h2 : 1 ≤ b') (g1 : Int.gcd t b = 1) (g2 : Int.gcd t' b' = 1) :
    1 ≤ aS b b' ∧ t * b'.fdiv (aS b b') = lA (t * b') (t' * b) (b * b') ∧ t' * b.fdiv (aS b b') = lB (t * b') (t' * b) (b * b') ∧ b.fdiv (aS b b') * b' = lN (t * b') (t' * b) (b * b') := by
  obtain ⟨s, u, v, hs, s1, u1, v1, ez, ez', fu, fv, guv⟩ := u9 h1 h2
  have eS : aS b b' = s := hs.symm
  rw [eS, fu, fv]
  refine ⟨s1, ?_⟩
  have gvu : Int.gcd v u = 1 := Int.gcd_comm u v ▸ guv
  have dub : u ∣ b := by rw [ez]; exact Int.dvd_mul_left ..
  have dvb : v ∣ b' := by rw [ez']; exact Int.dvd_mul_left ..
  have gX : g3 (t * v) (t' * u) (u * b') = 1 := by
    have dX := g3_a (t * v) (t' * u) (u * b')
    have dY := g3_b (t * v) (t' * u) (u * b')
    have dZ := g3_n (t * v) (t' * u) (u * b')
    have k : ((g3 (t * v) (t' * u) (u * b') : Nat) : Int) ∣ 1 := by
      generalize ((g3 (t * v) (t' * u) (u * b') : Nat) : Int) = e at *
      have cu : Int.gcd e u = 1 := zR fun f f1 f2 => by
        have gt : Int.gcd f t = 1 := yk (Int.gcd_comm t b ▸ g1) (Int.dvd_trans f2 dub)
        have hv : f ∣ v := zB (by rw [Int.mul_comm]; exact Int.dvd_trans f1 dX) gt
        exact zY guv f2 hv
      have et' : e ∣ t' := zB dY cu
      have cv : Int.gcd e v = 1 := zR fun f f1 f2 => zY g2 (Int.dvd_trans f1 et') (Int.dvd_trans f2 dvb)
      have et : e ∣ t := zB dX cv
      have cs : Int.gcd e s = 1 := zR fun f f1 f2 => zY g1 (Int.dvd_trans f1 et) (Int.dvd_trans f2 (by rw [ez]; exact Int.dvd_mul_right ..))
      rw [ez'] at dZ
      exact zY (yA cu (yA cs cv)) (Int.dvd_refl _) dZ
    have := Int.natAbs_dvd_natAbs.mpr k
    simpa using this
  refine zL ?_ gX (Int.mul_ne_zero (by omega) (by omega)) ?_ ?_
  · exact Int.mul_pos (by omega) (by omega)
  · subst ez ez'
    clear gX hs guv gvu fu fv g1 g2
    grind
  · subst ez ez'
    clear gX hs guv gvu fu fv g1 g2
    grind
end Bg
namespace Bg
theorem AJ {a b n a' b' n' : Int} (hn : n ≠ 0) (hn' : n' ≠ 0) (ea : a * n' = a' * n) (eb : b * n' = b' * n) : lA a b n = lA a' b' n' ∧ lB a b n = lB a' b' n' ∧ lN a b n = lN a' b' n' := by
  refine zL (l_n hn) (xn hn) hn' ?_ ?_
  · have e := l_a (a := a) (b := b) (n := n)
    refine Int.eq_of_mul_eq_mul_right hn ?_
    generalize lA a b n = u at *
    generalize lN a b n = v at *
    have h1 : u * n' * n = u * n * n' := by rw [Int.mul_assoc, Int.mul_comm n', Int.mul_assoc]
    have h2 : a' * v * n = a' * n * v := by rw [Int.mul_assoc, Int.mul_comm v, Int.mul_assoc]
    rw [h1, h2, e, ← ea, Int.mul_assoc, Int.mul_comm v, Int.mul_assoc]
  · have e := l_b (a := a) (b := b) (n := n)
    refine Int.eq_of_mul_eq_mul_right hn ?_
    generalize lB a b n = u at *
    generalize lN a b n = v at *
    have h1 : u * n' * n = u * n * n' := by rw [Int.mul_assoc, Int.mul_comm n', Int.mul_assoc]
    have h2 : b' * v * n = b' * n * v := by rw [Int.mul_assoc, Int.mul_comm v, Int.mul_assoc]
    rw [h1, h2, e, ← eb, Int.mul_assoc, Int.mul_comm v, Int.mul_assoc]
structure B4 where
  a : Int
  b : Int
  c : Int
  e : Int
def B4.nx (d : Int) (s : B4) : B4 := if 0 < sgn d (s.a - s.c) (s.b - s.e) then ⟨s.a - s.c, s.b - s.e, s.c, s.e⟩ else ⟨s.a, s.b, s.c - s.a, s.e - s.b⟩
def b4 : B4 := ⟨0, 1, 1, 0⟩
structure GB (d : Int) (k : Nat) (s : B4) : Prop where
  det : s.a * s.e - s.b * s.c = 1 ∨ s.a * s.e - s.b * s.c = -1
  p1 : sgn d s.a s.b = 1
  q1 : sgn d s.c s.e = 1
  ba : Bd k s.a
  bb : Bd k s.b
  bc : Bd k s.c
  be : Bd k s.e
theorem GB.mono {d : Int} {j k : Nat} {s : B4} (g : GB d j s) (l : j ≤ k) : GB d k s := ⟨g.det, g.p1, g.q1, g.ba.mono l, g.bb.mono l, g.bc.mono l, g.be.mono l⟩
theorem va (d : Int) : GB d 1 b4 := ⟨.inr (by decide), by rw [show b4.a = 0 from rfl, show b4.b = 1 from rfl, wy (by decide) (by decide)]; rfl, by rw [show b4.c = 1 from rfl, show b4.e = 0 from rfl, wy (by decide) (by decide)]; rfl, by decide, by decide, by decide, by decide⟩
theorem GB.next {d : Int} {k : Nat} {s : B4} (hR : Rt d) (g : GB d k s) : GB d (k + 1) (s.nx d) := by
  obtain ⟨a, b, c, e⟩ := s
  obtain ⟨det, p1, q1, ba, bb, bc, be⟩ := g
  simp only at *
  have key : sgn d (a - c) (b - e) = 1 ∨ sgn d (a - c) (b - e) = -1 := by
    rcases sgn_tri hR (a - c) (b - e) with h | h | ⟨h1, h2⟩
    · exact .inl h
    · exact .inr h
    · have e1 : a = c := by omega
      have e2 : b = e := by omega
      subst e1; subst e2
      have : a * b - b * a = 0 := by rw [Int.mul_comm]; omega
      omega
  unfold B4.nx
  simp only
  by_cases z : 0 < sgn d (a - c) (b - e)
  · rw [if_pos z]
    refine ⟨?_, by show sgn d (a - c) (b - e) = 1; omega, q1, ba.sub bc, bb.sub be, bc.mono (by omega), be.mono (by omega)⟩
    show (a - c) * e - (b - e) * c = 1 ∨ (a - c) * e - (b - e) * c = -1
    have : (a - c) * e - (b - e) * c = a * e - b * c := by rw [Int.sub_mul, Int.sub_mul, Int.mul_comm e c]; omega
    omega
  · rw [if_neg z]
    refine ⟨?_, p1, ?_, ba.mono (by omega), bb.mono (by omega), bc.sub ba, be.sub bb⟩
    · show a * (e - b) - b * (c - a) = 1 ∨ a * (e - b) - b * (c - a) = -1
      have : a * (e - b) - b * (c - a) = a * e - b * c := by rw [Int.mul_sub, Int.mul_sub, Int.mul_comm b a]; omega
      omega
    · show sgn d (c - a) (e - b) = 1
      have := yX hR (a - c) (b - e)
      rw [show -(a - c) = c - a by omega, show -(b - e) = e - b by omega] at this
      omega
theorem yR {a c N p0 p2 q0 q2 : Int} (h1 : p0 * N = a * p2) (h2 : q0 * N = c * q2) : N * (p0 * q2 - q0 * p2) = p2 * q2 * (a - c) := by
  have e1 : N * (p0 * q2) = p2 * q2 * a := by
    rw [← Int.mul_assoc, Int.mul_comm N, h1, Int.mul_comm a, Int.mul_assoc, Int.mul_assoc, Int.mul_comm a]
  have e2 : N * (q0 * p2) = p2 * q2 * c := by
    rw [← Int.mul_assoc, Int.mul_comm N, h2, Int.mul_comm c, Int.mul_assoc, Int.mul_comm c, ← Int.mul_assoc, Int.mul_comm q2]
  rw [Int.mul_sub, Int.mul_sub, e1, e2]
theorem B3 {d a b c e N : Int} (hR : Rt d) (hN : 1 ≤ N) : sgn d (lA a b N * lN c e N - lA c e N * lN a b N) (lB a b N * lN c e N - lB c e N * lN a b N) = sgn d (a - c) (b - e) := by
  have n0 : N ≠ 0 := by omega
  refine yy hR (k := N) (m := lN a b N * lN c e N) (by omega) (Int.mul_pos (l_n n0) (l_n n0)) ?_ ?_
  · exact yR l_a l_a
  · exact yR l_b l_b
theorem tj {a b c e N : Int} (hN : 1 ≤ N) : lA (lA a b N * lN c e N - lA c e N * lN a b N) (lB a b N * lN c e N - lB c e N * lN a b N) (lN a b N * lN c e N) = lA (a - c) (b - e) N ∧ lB (lA a b N * lN c e N - lA c e N * lN a b N) (lB a b N * lN c e N - lB c e N * lN a b N) (lN a b N * lN c e N) = lB (a - c) (b - e) N ∧ lN (lA a b N * lN c e N - lA c e N * lN a b N) (lB a b N * lN c e N - lB c e N * lN a b N) (lN a b N * lN c e N) = lN (a - c) (b - e) N := by
  have n0 : N ≠ 0 := by omega
  have h1 := l_n (a := a) (b := b) n0
  have h2 := l_n (a := c) (b := e) n0
  refine AJ (Int.mul_ne_zero (by omega) (by omega)) n0 ?_ ?_
  · rw [Int.mul_comm, yR l_a l_a, Int.mul_comm]
  · rw [Int.mul_comm, yR l_b l_b, Int.mul_comm]
theorem xy (x y z w : Int) : x * y + -z * w = x * y - z * w := by rw [Int.neg_mul]; omega
theorem ue {a b c e N : Int} : (lA a b N * lB c e N - lB a b N * lA c e N) * N * N = lN a b N * lN c e N * (a * e - b * c) := by
  have h1 := l_a (a := a) (b := b) (n := N)
  have h2 := l_b (a := a) (b := b) (n := N)
  have h3 := l_a (a := c) (b := e) (n := N)
  have h4 := l_b (a := c) (b := e) (n := N)
  generalize lA a b N = p0 at *
  generalize lB a b N = p1 at *
  generalize lN a b N = p2 at *
  generalize lA c e N = q0 at *
  generalize lB c e N = q1 at *
  generalize lN c e N = q2 at *
  calc (p0 * q1 - p1 * q0) * N * N = (p0 * N) * (q1 * N) - (p1 * N) * (q0 * N) := by grind
    _ = (a * p2) * (e * q2) - (b * p2) * (c * q2) := by rw [h1, h2, h3, h4]
    _ = p2 * q2 * (a * e - b * c) := by grind
theorem yv {d a b N : Int} (hR : Rt d) (hN : 1 ≤ N) : sgn d (lA a b N) (lB a b N) = sgn d a b := by
  have n0 : N ≠ 0 := by omega
  have h1 := l_n (a := a) (b := b) n0
  refine yy hR (k := N) (m := lN a b N) (by omega) (by omega) ?_ ?_
  · rw [Int.mul_comm, l_a, Int.mul_comm]
  · rw [Int.mul_comm, l_b, Int.mul_comm]
def B4.det (s : B4) : Int := s.a * s.e - s.b * s.c
def B4.i (s : B4) (x y : Int) : Int := s.det * (x * s.e - y * s.c)
def B4.j (s : B4) (x y : Int) : Int := s.det * (s.a * y - s.b * x)
theorem Ad {d : Int} {k : Nat} {s : B4} (g : GB d k s) : s.det * s.det = 1 := by
  unfold B4.det
  rcases g.det with h | h <;> rw [h] <;> decide
theorem uy {d : Int} {k : Nat} {s : B4} (g : GB d k s) (x y : Int) : s.i x y * s.a + s.j x y * s.c = x ∧ s.i x y * s.b + s.j x y * s.e = y := by
  have h := Ad g
  unfold B4.i B4.j B4.det at *
  generalize s.a = a at *
  generalize s.b = b at *
  generalize s.c = c at *
  generalize s.e = e at *
  clear g
  constructor
  · have : (a * e - b * c) * (x * e - y * c) * a + (a * e - b * c) * (a * y - b * x) * c = (a * e - b * c) * (a * e - b * c) * x := by grind
    rw [this, h, Int.one_mul]
  · have : (a * e - b * c) * (x * e - y * c) * b + (a * e - b * c) * (a * y - b * x) * e = (a * e - b * c) * (a * e - b * c) * y := by grind
    rw [this, h, Int.one_mul]
theorem EJ (d : Int) (s : B4) : (s.nx d).det = s.det := by
  unfold B4.nx
  split <;> unfold B4.det <;> dsimp only <;> grind
theorem Dm (d : Int) (s : B4) (x y : Int) : (0 < sgn d (s.a - s.c) (s.b - s.e) → (s.nx d).i x y = s.i x y ∧ (s.nx d).j x y = s.i x y + s.j x y) ∧ (¬ 0 < sgn d (s.a - s.c) (s.b - s.e) → (s.nx d).i x y = s.i x y + s.j x y ∧ (s.nx d).j x y = s.j x y) := by
  have h := EJ d s
  constructor
  · intro z
    unfold B4.i B4.j
    rw [h]
    generalize s.det = D
    unfold B4.nx
    rw [if_pos z]
    dsimp only
    clear h z
    grind
  · intro z
    unfold B4.i B4.j
    rw [h]
    generalize s.det = D
    unfold B4.nx
    rw [if_neg z]
    dsimp only
    clear h z
    grind
theorem Ap {t b q : Int} (hb : b ≠ 0) (h : t = q * b) : t.fdiv b = q := by rw [h]; exact Int.mul_fdiv_cancel _ hb
theorem GH {d : Int} {k : Nat} {s : B4} {N x y : Int} (g : GB d k s) (hN : 1 ≤ N) :
    lN x y N * (lA s.a s.b N * lB s.c s.e N - lB s.a s.b N * lA s.c s.e N) ≠ 0 ∧
    ((lA x y N * lB s.c s.e N - lB x y N * lA s.c s.e N) * lN s.a s.b N).fdiv (lN x y N * (lA s.a s.b N * lB s.c s.e N - lB s.a s.b N * lA s.c s.e N)) = s.i x y ∧
    ((lA s.a s.b N * lB x y N - lB s.a s.b N * lA x y N) * lN s.c s.e N).fdiv (lN x y N * (lA s.a s.b N * lB s.c s.e N - lB s.a s.b N * lA s.c s.e N)) = s.j x y := by
  have n0 : N ≠ 0 := by omega
  have z1 := l_n (a := s.a) (b := s.b) n0
  have z2 := l_n (a := s.c) (b := s.e) n0
  have z3 := l_n (a := x) (b := y) n0
  have D := ue (a := s.a) (b := s.b) (c := s.c) (e := s.e) (N := N)
  have D1 := ue (a := x) (b := y) (c := s.c) (e := s.e) (N := N)
  have D2 := ue (a := s.a) (b := s.b) (c := x) (e := y) (N := N)
  have sq := Ad g
  have hd : s.a * s.e - s.b * s.c = s.det := rfl
  have hi : s.i x y = s.det * (x * s.e - y * s.c) := rfl
  have hj : s.j x y = s.det * (s.a * y - s.b * x) := rfl
  rw [hd] at D
  rw [hi, hj]
  generalize x * s.e - y * s.c = U at *
  generalize s.a * y - s.b * x = V at *
  generalize hE : lA s.a s.b N * lB s.c s.e N - lB s.a s.b N * lA s.c s.e N = E at *
  generalize lA x y N * lB s.c s.e N - lB x y N * lA s.c s.e N = F at *
  generalize lA s.a s.b N * lB x y N - lB s.a s.b N * lA x y N = G at *
  generalize lN s.a s.b N = p at *
  generalize lN s.c s.e N = q at *
  generalize lN x y N = r at *
  generalize s.det = t at *
  have NN : N * N ≠ 0 := Int.mul_ne_zero n0 n0
  have t0 : t ≠ 0 := fun z => by rw [z] at sq; exact absurd sq (by decide)
  have E0 : E ≠ 0 := fun z => by
    rw [z, Int.zero_mul, Int.zero_mul] at D
    exact Int.mul_ne_zero (Int.mul_ne_zero (by omega) (by omega)) t0 D.symm
  have b0 : r * E ≠ 0 := Int.mul_ne_zero (by omega) E0
  refine ⟨b0, Ap b0 (Int.eq_of_mul_eq_mul_right NN ?_), Ap b0 (Int.eq_of_mul_eq_mul_right NN ?_)⟩
  · calc F * p * (N * N) = F * N * N * p := by grind
      _ = r * q * U * p := by rw [D1]
      _ = 1 * (p * q * r * U) := by grind
      _ = t * t * (p * q * r * U) := by rw [sq]
      _ = t * U * r * (p * q * t) := by grind
      _ = t * U * r * (E * N * N) := by rw [D]
      _ = t * U * (r * E) * (N * N) := by grind
  · calc G * q * (N * N) = G * N * N * q := by grind
      _ = p * r * V * q := by rw [D2]
      _ = 1 * (p * q * r * V) := by grind
      _ = t * t * (p * q * r * V) := by rw [sq]
      _ = t * V * r * (p * q * t) := by grind
      _ = t * V * r * (E * N * N) := by rw [D]
      _ = t * V * (r * E) * (N * N) := by grind
end Bg
namespace Bg
structure Sg (s : B4) : Prop where
  a : s.a ≤ 0
  b : 0 ≤ s.b
  c : 0 ≤ s.c
  e : s.e ≤ 0
theorem Sg.nx {s : B4} (d : Int) (h : Sg s) : Sg (s.nx d) := by
  obtain ⟨h1, h2, h3, h4⟩ := h
  unfold B4.nx
  split
  · exact ⟨by dsimp only; omega, by dsimp only; omega, h3, h4⟩
  · exact ⟨h1, h2, by dsimp only; omega, by dsimp only; omega⟩
def B4.srv (s : B4) (x y : Int) : Prop := 0 ≤ s.i x y ∧ 0 ≤ s.j x y
instance {s : B4} {x y : Int} : Decidable (s.srv x y) := inferInstanceAs (Decidable (0 ≤ s.i x y ∧ 0 ≤ s.j x y))
theorem C0 {s : B4} {x y : Int} (d : Int) (h : s.srv x y) : (s.nx d).srv x y := by
  obtain ⟨h1, h2⟩ := h
  obtain ⟨n1, n2⟩ := Dm d s x y
  unfold B4.srv
  by_cases c : 0 < sgn d (s.a - s.c) (s.b - s.e)
  · rw [(n1 c).1, (n1 c).2]; exact ⟨h1, by omega⟩
  · rw [(n2 c).1, (n2 c).2]; exact ⟨by omega, h2⟩
theorem um {d : Int} {k : Nat} {s : B4} {x y : Int} (hR : Rt d) (g : GB d k s) (h : sgn d x y = 1) : 0 < s.i x y ∨ 0 < s.j x y := by
  obtain ⟨cx, cy⟩ := uy g x y
  generalize s.i x y = i at *
  generalize s.j x y = j at *
  refine Decidable.byContradiction fun n => ?_
  have hi : i ≤ 0 := by omega
  have hj : j ≤ 0 := by omega
  have p1 := g.p1
  have q1 := g.q1
  have e1 : sgn d ((-i) * s.a + (-j) * s.c) ((-i) * s.b + (-j) * s.e) = -1 := by
    rw [show (-i) * s.a + (-j) * s.c = -x by rw [← cx, Int.neg_mul, Int.neg_mul]; omega, show (-i) * s.b + (-j) * s.e = -y by rw [← cy, Int.neg_mul, Int.neg_mul]; omega, yX hR, h]
  have sc : ∀ (t a b : Int), 0 ≤ t → sgn d a b = 1 → (t = 0 ∨ sgn d (t * a) (t * b) = 1) := fun t a b ht hs => by
    by_cases z : t = 0
    · exact .inl z
    · right
      rw [yI hR (by omega)]
      exact hs
  rcases sc (-i) s.a s.b (by omega) p1 with z1 | z1
  · rcases sc (-j) s.c s.e (by omega) q1 with z2 | z2
    · rw [z1, z2, Int.zero_mul, Int.zero_mul, Int.zero_mul, Int.zero_mul, Int.add_zero, yo] at e1
      exact absurd e1 (by decide)
    · rw [z1, Int.zero_mul, Int.zero_mul, Int.zero_add, Int.zero_add, z2] at e1
      exact absurd e1 (by decide)
  · rcases sc (-j) s.c s.e (by omega) q1 with z2 | z2
    · rw [z2, Int.zero_mul, Int.zero_mul, Int.add_zero, Int.add_zero, z1] at e1
      exact absurd e1 (by decide)
    · have := wT hR z1 z2
      rw [this] at e1
      exact absurd e1 (by decide)
theorem zQ {i u : Int} (h : i ≠ 0) : u.natAbs ≤ (i * u).natAbs := by
  rw [Int.natAbs_mul]
  exact Nat.le_mul_of_pos_left _ (by omega)
theorem Aj {i u : Int} (h : i ≤ 0) (k : 0 ≤ u) : i * u ≤ 0 := Int.mul_nonpos_of_nonpos_of_nonneg h k
theorem Ak {i u : Int} (h : i ≤ 0) (k : u ≤ 0) : 0 ≤ i * u := Int.mul_nonneg_of_nonpos_of_nonpos h k
theorem uZ {i u : Int} (h : 0 ≤ i) (k : u ≤ 0) : i * u ≤ 0 := Int.mul_nonpos_of_nonneg_of_nonpos h k
theorem uN {d : Int} {k : Nat} {s : B4} {x y : Int} (hR : Rt d) (g : GB d k s) (z : Sg s) (h : sgn d x y = 1) (n : ¬ s.srv x y) :
    s.a.natAbs ≤ x.natAbs ∧ s.c.natAbs ≤ x.natAbs ∧ s.b.natAbs ≤ y.natAbs ∧ s.e.natAbs ≤ y.natAbs := by
  have hp := um hR g h
  obtain ⟨cx, cy⟩ := uy g x y
  unfold B4.srv at n
  obtain ⟨h1, h2, h3, h4⟩ := z
  generalize s.i x y = i at *
  generalize s.j x y = j at *
  by_cases c : i < 0
  · have hj : 0 < j := by omega
    have a1 := zQ (i := i) (u := s.a) (by omega)
    have a2 := zQ (i := j) (u := s.c) (by omega)
    have a3 := zQ (i := i) (u := s.b) (by omega)
    have a4 := zQ (i := j) (u := s.e) (by omega)
    have p1 := Ak (i := i) (u := s.a) (by omega) h1
    have p2 := Int.mul_nonneg (a := j) (b := s.c) (by omega) h3
    have p3 := Aj (i := i) (u := s.b) (by omega) h2
    have p4 := uZ (i := j) (u := s.e) (by omega) h4
    omega
  · have hj : j < 0 := by omega
    have hi : 0 < i := by omega
    have a1 := zQ (i := i) (u := s.a) (by omega)
    have a2 := zQ (i := j) (u := s.c) (by omega)
    have a3 := zQ (i := i) (u := s.b) (by omega)
    have a4 := zQ (i := j) (u := s.e) (by omega)
    have p1 := uZ (i := i) (u := s.a) (by omega) h1
    have p2 := Aj (i := j) (u := s.c) (by omega) h3
    have p3 := Int.mul_nonneg (a := i) (b := s.b) (by omega) h2
    have p4 := Ak (i := j) (u := s.e) (by omega) h4
    omega
def st (d : Int) : Nat → B4
  | 0 => b4
  | k + 1 => (st d k).nx d
theorem Eh (d : Int) (k : Nat) : st d (k + 1) = (st d k).nx d := rfl
theorem A4 {d : Int} (hR : Rt d) : ∀ k, GB d (k + 1) (st d k)
  | 0 => va d
  | k + 1 => (A4 hR k).next hR
theorem El (d : Int) : ∀ k, Sg (st d k)
  | 0 => ⟨show b4.a ≤ 0 by decide, show 0 ≤ b4.b by decide, show 0 ≤ b4.c by decide, show b4.e ≤ 0 by decide⟩
  | k + 1 => (El d k).nx d
theorem Bz {d : Int} {x y : Int} {k m : Nat} (h : (st d k).srv x y) (l : k ≤ m) : (st d m).srv x y := by
  induction m with
  | zero => have : k = 0 := by omega
            subst this; exact h
  | succ m ih =>
    by_cases c : k = m + 1
    · subst c; exact h
    · exact C0 d (ih (by omega))
theorem FM {d : Int} (hR : Rt d) {x y : Int} (h : sgn d x y = 1) : ∀ (m k : Nat), ((st d k).i x y).natAbs + ((st d k).j x y).natAbs ≤ m → ∃ K, (st d K).srv x y := by
  intro m
  induction m with
  | zero =>
    intro k hk
    exact ⟨k, by omega, by omega⟩
  | succ m ih =>
    intro k hk
    by_cases c : (st d k).srv x y
    · exact ⟨k, c⟩
    by_cases c2 : (st d (k + 1)).srv x y
    · exact ⟨_, c2⟩
    refine ih (k + 1) ?_
    have g1 := um hR (A4 hR k) h
    have g2 := um hR (A4 hR (k + 1)) h
    obtain ⟨n1, n2⟩ := Dm d (st d k) x y
    rw [Eh] at *
    unfold B4.srv at c c2
    by_cases cc : 0 < sgn d ((st d k).a - (st d k).c) ((st d k).b - (st d k).e)
    · obtain ⟨e1, e2⟩ := n1 cc
      rw [e1, e2] at *
      omega
    · obtain ⟨e1, e2⟩ := n2 cc
      rw [e1, e2] at *
      omega
theorem B8 {d : Int} (hR : Rt d) {x y : Int} (h : sgn d x y = 1) : ∃ K, (st d K).srv x y := FM hR h _ 0 (Nat.le_refl _)
theorem CT {d : Int} (hR : Rt d) : ∀ (L : List (Int × Int)), (∀ u ∈ L, sgn d u.1 u.2 = 1) → ∃ K, ∀ u ∈ L, (st d K).srv u.1 u.2
  | [], _ => ⟨0, fun u h => absurd h (by simp)⟩
  | v :: L, h => by
    obtain ⟨K, hK⟩ := CT hR L fun u hu => h u (List.mem_cons_of_mem _ hu)
    obtain ⟨K', hK'⟩ := B8 hR (h v List.mem_cons_self)
    refine ⟨max K K', fun u hu => ?_⟩
    rcases List.mem_cons.mp hu with z | z
    · subst z; exact Bz hK' (Nat.le_max_right ..)
    · exact Bz (hK u z) (Nat.le_max_left ..)
def Fst (d : Int) (L : List (Int × Int)) (K : Nat) : Prop := (∀ u ∈ L, (st d K).srv u.1 u.2) ∧ ∀ k, k < K → ∃ u ∈ L, ¬ (st d k).srv u.1 u.2
theorem Fst.unique {d : Int} {L L' : List (Int × Int)} {K K' : Nat} (hL : ∀ u, u ∈ L ↔ u ∈ L') (h : Fst d L K) (h' : Fst d L' K') : K = K' := by
  rcases Nat.lt_trichotomy K K' with c | c | c
  · obtain ⟨u, hu, n⟩ := h'.2 K c
    exact absurd (h.1 u ((hL u).mpr hu)) n
  · exact c
  · obtain ⟨u, hu, n⟩ := h.2 K' c
    exact absurd (h'.1 u ((hL u).mp hu)) n
theorem Fst.gb {d : Int} (hR : Rt d) {L : List (Int × Int)} {K k : Nat} (hk : 1 ≤ k) (h : Fst d L K) (hp : ∀ u ∈ L, sgn d u.1 u.2 = 1) (hb : ∀ u ∈ L, Bd k u.1 ∧ Bd k u.2) : GB d (k + 1) (st d K) := by
  cases K with
  | zero => exact (va d).mono (by omega)
  | succ m =>
    obtain ⟨u, hu, n⟩ := h.2 m (by omega)
    have g := A4 hR m
    obtain ⟨b1, b2, b3, b4⟩ := uN hR g (El d m) (hp u hu) n
    obtain ⟨c1, c2⟩ := hb u hu
    have g' : GB d k (st d m) := ⟨g.det, g.p1, g.q1, c1.of_le b1, c2.of_le b3, c1.of_le b2, c2.of_le b4⟩
    exact g'.next hR
theorem Fst.gb_le {d : Int} (hR : Rt d) {L : List (Int × Int)} {K k m : Nat} (hk : 1 ≤ k) (h : Fst d L K) (hm : m ≤ K) (hp : ∀ u ∈ L, sgn d u.1 u.2 = 1) (hb : ∀ u ∈ L, Bd k u.1 ∧ Bd k u.2) : GB d (k + 1) (st d m) := by
  cases m with
  | zero => exact (va d).mono (by omega)
  | succ m =>
    obtain ⟨u, hu, n⟩ := h.2 m (by omega)
    have g := A4 hR m
    obtain ⟨b1, b2, b3, b4⟩ := uN hR g (El d m) (hp u hu) n
    obtain ⟨c1, c2⟩ := hb u hu
    have g' : GB d k (st d m) := ⟨g.det, g.p1, g.q1, c1.of_le b1, c2.of_le b3, c1.of_le b2, c2.of_le b4⟩
    exact g'.next hR
theorem vX (s : B4) (t x y : Int) : s.i (t * x) (t * y) = t * s.i x y ∧ s.j (t * x) (t * y) = t * s.j x y := by
  unfold B4.i B4.j
  constructor <;> grind
theorem BR {s : B4} {t x y : Int} (ht : 1 ≤ t) : s.srv (t * x) (t * y) ↔ s.srv x y := by
  unfold B4.srv
  rw [(vX s t x y).1, (vX s t x y).2]
  have k : ∀ u : Int, 0 ≤ t * u ↔ 0 ≤ u := fun u => by
    constructor
    · intro h
      refine Int.not_lt.mp fun n => ?_
      have : t * u < 0 := Int.mul_neg_of_pos_of_neg (by omega) n
      omega
    · exact fun h => Int.mul_nonneg (by omega) h
  rw [k, k]
end Bg
namespace Bg
def lcmI (f z : Int) : Int := f.fdiv (Int.gcd f z : Nat) * z
theorem xk {f z : Int} (hf : 1 ≤ f) (hz : 1 ≤ z) : 1 ≤ lcmI f z ∧ f ∣ lcmI f z ∧ z ∣ lcmI f z ∧ (lcmI f z).natAbs ≤ (f * z).natAbs := by
  obtain ⟨s, u, v, hs, s1, u1, v1, ez, ez', fu, fv, guv⟩ := u9 hf hz
  unfold lcmI
  rw [← hs, fu]
  refine ⟨Int.mul_pos (by omega) (by omega), ⟨v, by rw [ez', ez, Int.mul_comm s u, Int.mul_assoc]⟩, Int.dvd_mul_left .., ?_⟩
  rw [Int.natAbs_mul, Int.natAbs_mul]
  refine Nat.mul_le_mul_right _ ?_
  rw [ez, Int.natAbs_mul]
  exact Nat.le_mul_of_pos_left _ (by omega)
def cbs (zs : List Int) : Int := zs.foldl lcmI 1
theorem Cy (zs : List Int) (z : Int) : cbs (zs ++ [z]) = lcmI (cbs zs) z := by unfold cbs; rw [List.foldl_append]; rfl
theorem tq : ∀ (zs : List Int) (f : Int) (k n : Nat), 1 ≤ f → (∀ z ∈ zs, 1 ≤ z ∧ Bd k z) → Bd n f → 1 ≤ zs.foldl lcmI f ∧ f ∣ zs.foldl lcmI f ∧ (∀ z ∈ zs, z ∣ zs.foldl lcmI f) ∧ Bd (n + k * zs.length) (zs.foldl lcmI f)
  | [], f, k, n, hf, _, hb => ⟨hf, Int.dvd_refl _, fun z h => absurd h (by simp), hb⟩
  | z :: zs, f, k, n, hf, h, hb => by
    have hz := h z List.mem_cons_self
    obtain ⟨a1, a2, a3, a4⟩ := xk hf hz.1
    obtain ⟨b1, b2, b3, b4⟩ := tq zs (lcmI f z) k (n + k) a1 (fun u hu => h u (List.mem_cons_of_mem _ hu)) ((hb.mul hz.2).of_le a4)
    refine ⟨b1, Int.dvd_trans a2 b2, fun u hu => ?_, ?_⟩
    · rcases List.mem_cons.mp hu with e | e
      · subst e; exact Int.dvd_trans a3 b2
      · exact b3 u e
    · rw [List.foldl_cons, List.length_cons, Nat.mul_succ, Nat.add_comm (k * zs.length), ← Nat.add_assoc]
      exact b4
theorem AM {zs : List Int} {k : Nat} (h : ∀ z ∈ zs, 1 ≤ z ∧ Bd k z) : 1 ≤ cbs zs ∧ (∀ z ∈ zs, z ∣ cbs zs) ∧ Bd (1 + k * zs.length) (cbs zs) := by
  obtain ⟨a, _, b, c⟩ := tq zs 1 k 1 (by decide) h (by decide)
  exact ⟨a, b, c⟩
theorem Gn {P : Nat → Prop} : ∀ n, P n → ∃ m, P m ∧ ∀ k, k < m → ¬ P k := by
  intro n
  induction n using Nat.strongRecOn with
  | ind n ih =>
    intro h
    by_cases c : ∃ k, k < n ∧ P k
    · obtain ⟨k, hk, hp⟩ := c
      exact ih k hk hp
    · exact ⟨n, h, fun k hk hp => c ⟨k, hk, hp⟩⟩
theorem Da {d : Int} (hR : Rt d) {L : List (Int × Int)} (h : ∀ u ∈ L, sgn d u.1 u.2 = 1) : ∃ K, Fst d L K := by
  obtain ⟨K, hK⟩ := CT hR L h
  obtain ⟨m, hm, hn⟩ := Gn (P := fun K => ∀ u ∈ L, (st d K).srv u.1 u.2) K hK
  refine ⟨m, hm, fun k hk => ?_⟩
  have := hn k hk
  refine Classical.byContradiction fun c => this fun u hu => ?_
  exact Classical.byContradiction fun z => c ⟨u, hu, z⟩
def BsE (s s' : B4) (N : Int) : Prop := (lA s.a s.b N = lA s'.a s'.b N ∧ lB s.a s.b N = lB s'.a s'.b N ∧ lN s.a s.b N = lN s'.a s'.b N) ∧ (lA s.c s.e N = lA s'.c s'.e N ∧ lB s.c s.e N = lB s'.c s'.e N ∧ lN s.c s.e N = lN s'.c s'.e N)
instance {s s' : B4} {N : Int} : Decidable (BsE s s' N) := inferInstanceAs (Decidable (_ ∧ _))
theorem ux (x y : Int) : lA x y 1 = x ∧ lB x y 1 = y ∧ lN x y 1 = 1 := by
  have e : g3 x y 1 = 1 := by
    unfold g3
    rw [Int.one_gcd]
    exact Int.one_gcd
  have := zL (x := x) (y := y) (z := 1) (a := x) (b := y) (n := 1) (by decide) e (by decide) rfl rfl
  exact ⟨this.1.symm, this.2.1.symm, this.2.2.symm⟩
end Bg
namespace Bg
end Bg
namespace Bg
end Bg
namespace Bg
def tmS (m : Int) (s : Sd) : Sd := ⟨lA (m * s.x) (m * s.y) s.z, lB (m * s.x) (m * s.y) s.z, lN (m * s.x) (m * s.y) s.z⟩
def adS (s t : Sd) : Sd := ⟨lA (s.x * t.z + t.x * s.z) (s.y * t.z + t.y * s.z) (s.z * t.z), lB (s.x * t.z + t.x * s.z) (s.y * t.z + t.y * s.z) (s.z * t.z), lN (s.x * t.z + t.x * s.z) (s.y * t.z + t.y * s.z) (s.z * t.z)⟩
structure SK (k j : Nat) (s : Sd) : Prop where
  z1 : 1 ≤ s.z
  g : g3 s.x s.y s.z = 1
  bx : Bd k s.x
  by' : Bd k s.y
  bz : Bd j s.z
theorem SK.mono {k j k' j' : Nat} {s : Sd} (h : SK k j s) (l : k ≤ k') (l' : j ≤ j') : SK k' j' s := ⟨h.z1, h.g, h.bx.mono l, h.by'.mono l, h.bz.mono l'⟩
theorem SK.ne {k j : Nat} {s : Sd} (h : SK k j s) : s.z ≠ 0 := by have := h.z1; omega
theorem xl {a b n : Int} (hn : n ≠ 0) : Rat.divInt (lA a b n) (lN a b n) = Rat.divInt a n ∧ Rat.divInt (lB a b n) (lN a b n) = Rat.divInt b n := by
  have z := l_n (a := a) (b := b) hn
  exact ⟨(Rat.divInt_eq_divInt_iff (by omega) hn).mpr l_a, (Rat.divInt_eq_divInt_iff (by omega) hn).mpr l_b⟩
def nul : Sd := ⟨0, 0, 1⟩
def mny (s : B4) (N : Int) (pl : Nat) (w : Sd) : Int := if pl = 0 then s.i (N / w.z * w.x) (N / w.z * w.y) else s.j (N / w.z * w.x) (N / w.z * w.y)
def hg (s : B4) (N : Int) (pl : Nat) : List Bo → Sd := fun L => L.foldl (fun a b => adS a (tmS (mny s N pl b.w) b.h)) nul
structure B5 (d N : Int) (b : Bo) : Prop where
  w : SK 20 12 b.w
  h : SK 20 12 b.h
  wu : sgn d b.w.x b.w.y = 1
  hu : sgn d b.h.x b.h.y = 1
  dv : b.w.z ∣ N
theorem Gi {d : Int} {k n : Nat} {s : B4} {x y : Int} (g : GB d k s) (bx : Bd n x) (by' : Bd n y) : Bd (1 + (n + k + 1)) (s.i x y) ∧ Bd (1 + (n + k + 1)) (s.j x y) := by
  have hd : Bd 1 s.det := by
    unfold B4.det
    rcases g.det with h | h <;> rw [h] <;> decide
  refine ⟨hd.mul ((bx.mul g.be).sub (by'.mul g.bc)), hd.mul (Bd.mono ((g.ba.mul by').sub (g.bb.mul bx)) (by omega))⟩
def bw1 (s : B4) (N : Int) : Sd := ⟨lA s.a s.b N, lB s.a s.b N, lN s.a s.b N⟩
def bw2 (s : B4) (N : Int) : Sd := ⟨lA s.c s.e N, lB s.c s.e N, lN s.c s.e N⟩
end Bg
namespace L2
open PySem PySem.Spec PyProof.Rows Bg
def Fw (K : PySem.W.Frag) : List V → Hp → VK → Prop := fun xs H Q => ∃ (a : Addr) (bs : List Bool), xs = [.ref a] ∧ SqL K H a (bs.map V.bl) ∧ Q (.bl (bs.all id)) H
theorem xj : ∀ {ns : List Int} {us : List Value}, Vals (ns.map V.int) us → ∃ xs : Array (Int × Tok), us.toArray = intItems xs ∧ xs.toList.map (·.1) = ns
  | [], us, h => by
    rw [Vals.zero h]
    exact ⟨#[], by simp [intItems], rfl⟩
  | n :: ns, u :: us, .cons r t => by
      obtain ⟨tk, rfl⟩ := r
      obtain ⟨xs, e1, e2⟩ := xj t
      refine ⟨#[(n, tk)] ++ xs, ?_, by simp [e2]⟩
      have e3 : (Value.int n tk :: us).toArray = #[Value.int n tk] ++ us.toArray := by simp
      rw [e3, e1]
      simp [intItems]
section
variable {X : Cx}
theorem AE (hc : X.calm = true) : yE X (.builtin "all") (Fw X.K) := by
  intro pins s σ H xs us Q I r h
  obtain ⟨a, bs, rfl, hq, q⟩ := h
  obtain ⟨u, rfl, ru⟩ := Vals.one r
  cases ru
  obtain ⟨its, rv, p, hz⟩ := I.list hq
  have hlt : a < s.heap.objs.size := by
    obtain ⟨o, _, e, _⟩ := p
    exact Heap.lt_size e
  refine call_all_walk (wpAny_pyIter_list p.isList ?_)
  refine ⟨_, _, _, _, _, _, (fun i => bs.getD i false), rfl, Walks.list (A := X.A.in1) (show X.A.in1.handled = none from I.ok.hd hc) _ a (Nat.ne_of_lt hlt) its.toArray, ⟨⟨_, Heap.get?_push_size _ rfl, rfl, rfl⟩, p.isList.push _⟩, ?_, fun h' tk hk => ?_⟩
  · intro i v s' Q' E' hP hQ
    have hP' : its[i]? = some v := by simpa using hP
    have hi : i < bs.length := by
      have := rv.length
      rw [List.length_map] at this
      have := (List.getElem?_eq_some_iff.mp hP').1
      omega
    obtain ⟨u, hu, ru⟩ := rv.get (i := i) (x := .bl bs[i]) (by rw [List.getElem?_map, List.getElem?_eq_getElem hi]; rfl)
    rw [hP'] at hu
    cases hu
    cases ru
    have e : bs.getD i false = bs[i] := by rw [List.getD_eq_getElem?_getD, List.getElem?_eq_getElem hi]; rfl
    have hQ' : Q' (bs.getD i false) s' := hQ
    rw [e] at hQ'
    exact wpAny_truthy_bool hQ'
  · have e : (List.range its.toArray.size).all (fun i => bs.getD i false) = bs.all id := by
      have := rv.length
      rw [List.length_map] at this
      rw [List.size_toArray, ← this, wG]
    rw [e]
    refine ⟨.bl _, H, I.kept (t' := tk) fun b o e' => hk b o ?_ (Heap.get?_push_of_some _ e'), rfl, q⟩
    intro hb
    have e2 : b = s.heap.objs.size := by simpa using hb
    exact absurd (Heap.lt_size e') (by rw [e2]; exact Nat.lt_irrefl _)
end
end L2
namespace L2
open PySem PySem.Spec PyProof.Rows Bg
theorem E4 {K : PySem.W.Frag} {H : Hp} {Q : VK} {a : Addr} {bs : List Bool} (h : SqL K H a (bs.map V.bl)) (q : Q (.bl (bs.all id)) H) : Fw K [.ref a] H Q := ⟨a, bs, rfl, h, q⟩
inductive T0 where
  | flat (x : V)
  | tup (xs : List V)
  | lst (xs : List V)
end L2
namespace L2
open PySem PySem.Spec PyProof.Rows Bg
section
variable {H0 H : Hp} {Q : VK} {ls : List (Addr × HO)}
end
end L2
namespace L2
open PySem PySem.Spec PyProof.Rows
section
variable {X : Cx} {tg : Expr}
end
end L2
namespace L2
open PySem PySem.Spec PyProof.Rows Bg
end L2
namespace L2
open PySem PySem.Spec PyProof.Rows Bg
theorem Same.sqT {K : PySem.W.Frag} {H H' : Hp} {a : Addr} {xs : List V} (e : Same H H') (h : SqT K H a xs) : SqT K H' a xs := by
  rcases h with h | h
  · rcases h with h | ⟨o, h⟩
    · exact .inl (.inl (e _ _ h))
    · exact .inl (.inr ⟨o, e _ _ h⟩)
  · exact .inr h
abbrev SdAt (H : Hp) (p : Addr) (s : Sd) : Prop := H p = some (.tup [.int s.x, .int s.y, .int s.z])
structure Cell where
  p : Addr
  pw : Addr
  ph : Addr
  b : Bo
def Cell.v (c : Cell) : V := .ref c.p
structure Cell.At (H : Hp) (c : Cell) : Prop where
  t : H c.p = some (.tup [.ref c.pw, .ref c.ph])
  w : SdAt H c.pw c.b.w
  h : SdAt H c.ph c.b.h
theorem Cell.At.same {H H' : Hp} {c : Cell} (h : c.At H) (s : Same H H') : c.At H' := ⟨s _ _ h.t, s _ _ h.w, s _ _ h.h⟩
theorem Cell.At.sameX {H H' : Hp} {c : Cell} {D : Addr} {xs : List V} (h : c.At H) (s : SameX D H H') (e : H D = some (.lst xs)) : c.At H' := ⟨s.tup h.t e, s.tup h.w e, s.tup h.h e⟩
theorem xA {L : List Cell} {i : Nat} {y : V} (h : (L.map Cell.v)[i]? = some y) : ∃ c, y = .ref c.p ∧ c ∈ L ∧ L[i]? = some c := by
  rw [List.getElem?_map] at h
  cases e : L[i]? with
  | none => rw [e] at h; cases h
  | some c =>
    rw [e] at h
    exact ⟨c, (Option.some.inj h).symm, List.mem_of_getElem? e, rfl⟩
theorem tX {L : List Cell} {i : Nat} {c : Cell} (h : L[i]? = some c) : (L.take (i + 1)).map Cell.b = (L.take i).map Cell.b ++ [c.b] := by
  rw [List.take_succ, h, List.map_append]
  rfl
end L2
namespace L2
open PySem PySem.Spec PyProof.Rows Bg
section
variable {K : PySem.W.Frag} {H : Hp} {Q : VK} {σ : St} {D : Ends}
theorem Dk {a : Addr} {ns : List Int} {k : Int} (hk : 0 ≤ k) (hS : SqL K H a (ns.map V.int)) (h : ∀ (p : Addr) (H2 : Hp), Same H H2 → H2 p = some (.lst ((ns.take k.toNat).map V.int)) → Q (.ref p) H2) : rSlL K (.ref a) none (some k) H Q := by
  refine ⟨a, _, rfl, hS, fun p hp => ?_⟩
  refine h p _ (zI hp _) ?_
  rw [zm]
  unfold cutV
  rw [HT.sIx_none, List.drop_zero, Nat.sub_zero]
  have e : HT.sIx (ns.map V.int).length (ns.map V.int).length (some k) = min k.toNat (ns.map V.int).length := by
    have := HT.sIx_nat (ns.map V.int).length (ns.map V.int).length k.toNat
    rw [Int.toNat_of_nonneg hk] at this
    exact this
  rw [e, ← List.map_take]
  congr 3
  rw [List.length_map]
  rcases Nat.le_total k.toNat ns.length with z | z
  · rw [Nat.min_eq_left z]
  · rw [Nat.min_eq_right z, List.take_length, List.take_of_length_le z]
theorem uV {to ti : TE} {t : TSet} {v : V} {R : St → Hp → Prop} (h : to σ H fun o H1 => ti σ H1 fun i H2 => t o i v H2 fun H3 => R σ H3) : gSub to ti t v σ H R := h
theorem uW {p : Addr} {xs : List V} {k : Int} {v : V} {R : Hp → Prop} (h : H p = some (.lst xs)) (k0 : 0 ≤ k) (k1 : k < xs.length) (q : ∀ H2, SameX p H H2 → H2 p = some (.lst (xs.set k.toNat v)) → R H2) : FN (.ref p) (.int k) v H R := by
  refine ⟨p, xs, k, k.toNat, rfl, rfl, h, ?_, q _ (fun b o e n => by rw [zt n]; exact e) zm⟩
  unfold ixN
  rw [if_pos k0, if_pos k1]
end
end L2
namespace L2
open PySem PySem.Spec PyProof.Rows Bg
def rTup (K : PySem.W.Frag) : List V → Hp → VK → Prop := fun xs H Q => ∃ p ys, xs = [.ref p] ∧ ((SqL K H p ys ∧ ∀ l, H l = none → Q (.ref l) (upd H l (.tup ys))) ∨ (SqT K H p ys ∧ Q (.ref p) H))
theorem Bh {X : Cx} : yE X (.type "tuple") (rTup X.K) := wJ
def rLst (K : PySem.W.Frag) : List V → Hp → VK → Prop := fun xs H Q => ∃ p ys, xs = [.ref p] ∧ (SqL K H p ys ∨ SqT K H p ys) ∧ ∀ l, H l = none → Q (.ref l) (upd H l (.lst ys))
theorem AG {X : Cx} : yE X (.type "list") (rLst X.K) := vP
theorem EH {K : PySem.W.Frag} {H : Hp} {Q : VK} {p : Addr} {ys : List V} (h : H p = some (.lst ys)) (q : ∀ l H2, Same H H2 → H2 l = some (.tup ys) → Q (.ref l) H2) : rTup K [.ref p] H Q := ⟨p, ys, rfl, .inl ⟨SqL.of h, fun l hl => q l _ (zI hl _) zm⟩⟩
end L2
namespace L2
open PySem PySem.Spec PyProof.Rows Bg
end L2
namespace L2
open PySem PySem.Spec PyProof.Rows Bg
section
variable {prog : Program} {w : World} {A : Around} {E : Value → Shared → Prop}
end
end L2
namespace L2
open PySem PySem.Spec PyProof.Rows Bg
section
variable {X : Cx}
end
end L2
namespace L2
open PySem PySem.Spec PyProof.Rows Bg
end L2
namespace L2
open PySem PySem.Spec PyProof.Rows Bg
section
variable {X : Cx}
def rMin : List V → Hp → VK → Prop := fun xs H Q => ∃ i j : Int, xs = [.int i, .int j] ∧ Q (.int (if j < i then j else i)) H
theorem Ah (hc : X.calm = true) : yE X (.builtin "min") rMin := Ba hc
end
section
variable {K : PySem.W.Frag} {σ : St} {H : Hp} {Q : VK}
theorem DV {n : Nat} (h : n ≤ 1000) : n ≤ sizeLine := yx h
theorem GR {i j : Int} (q : Q (.int (if j < i then j else i)) H) : rMin [.int i, .int j] H Q := ⟨i, j, rfl, q⟩
theorem GG {T : String} {r : V → List V → Hp → VK → Prop} {to : TE} (h : to σ H fun x H1 => tyV K T x H1 ∧ r x [] H1 Q) : tBM0 K T r to σ H Q := h
theorem Gz {i j : Str} (h : Q (.bl (decide (i = j))) H) : rEq (.str i) (.str j) H Q := ⟨rfl, by
  have e : decide (V.str i = V.str j) = decide (i = j) := by rw [Bool.eq_iff_iff]; simp
  rw [e]; exact h⟩
theorem CB {z : Str} (h : Q (.bl true) H) : rIs K [.str z, .ty "str"] H Q := ⟨_, _, _, _, rfl, .str z, vh K _, h⟩
end
end L2
namespace L2
open PySem PySem.Spec PyProof.Rows Bg
section
variable {prog : Program} {w : World} {A : Around} {E : Value → Shared → Prop} {s : Shared} {R : Result → Shared → Prop}
variable {I : Addr} {fp wr : List Addr} {G : Array GenState → Array GenState → Prop} {n : Nat} {P : Nat → Value → Prop} {St : Nat → Shared → Prop}
end
end L2
namespace L2
open PySem PySem.Spec PyProof.Rows Bg
section
variable {X : Cx} {e : Expr} {te : TE} {p1 p2 pos pos2 : Pos}
end
end L2
namespace L2
open PySem PySem.Spec PyProof.Rows Bg
theorem EB {X : Cx} {n : Nat} {H : Hp} {a b r1 r2 s1 s2 : Addr} (ha : H a = some (.tup [.ref r1, .ref r2])) (hb : H b = some (.tup [.ref s1, .ref s2])) (e1 : EqV X n H (.ref r1) (.ref s1) true) (e2 : EqV X n H (.ref r2) (.ref s2) true) : EqV X (n + 1) H (.ref a) (.ref b) true :=
  EqV.tup (X := X) (n := n) (bs := [true, true]) (SqT.of ha) (SqT.of hb) (.cons e1 (.cons e2 .nil)) (fun _ => rfl)
end L2
namespace Bg
end Bg
namespace Bg
end Bg
namespace L2
open PySem PySem.Spec PyProof.Rows Bg
end L2
namespace L2
open PySem PySem.Spec PyProof.Rows Bg
structure BsAt (H : Hp) (p r1 r2 : Addr) (s : B4) (N : Int) : Prop where
  t : H p = some (.tup [.ref r1, .ref r2])
  f : H r1 = some (.tup [.int (lA s.a s.b N), .int (lB s.a s.b N), .int (lN s.a s.b N)])
  g : H r2 = some (.tup [.int (lA s.c s.e N), .int (lB s.c s.e N), .int (lN s.c s.e N)])
theorem BsAt.same {H H' : Hp} {p r1 r2 : Addr} {s : B4} {N : Int} (h : BsAt H p r1 r2 s N) (z : Same H H') : BsAt H' p r1 r2 s N := ⟨z _ _ h.t, z _ _ h.f, z _ _ h.g⟩
def WGn (Pv : Nat → St → Hp → Prop) (m : Nat) (tb : TS) (D : Ends) (σ : St) (H : Hp) : Prop :=
  ∃ N : St → Hp → Prop, (∀ σ' H', N σ' H' → ∃ m', m' < m ∧ Pv m' σ' H') ∧ tb { D with nx := N, ct := N, bk := D.nx } σ H
theorem wgn {Pv : Nat → St → Hp → Prop} {m : Nat} {tb : TS} {D : Ends} {σ : St} {H : Hp}
    (h : tb { D with nx := fun σ' H' => ∃ m', m' < m ∧ Pv m' σ' H', ct := fun σ' H' => ∃ m', m' < m ∧ Pv m' σ' H', bk := D.nx } σ H) : WGn Pv m tb D σ H :=
  ⟨_, fun _ _ z => z, h⟩
theorem DS {c : TT} {tb : TS} {D : Ends} {σ : St} {H : Hp} (Pv : Nat → St → Hp → Prop) (h0 : ∃ m, Pv m σ H)
    (hs : ∀ m σ H, Pv m σ H → c σ H fun b H1 => if b = true then WGn Pv m tb D σ H1 else D.nx σ H1) : uK c tb D σ H :=
  ⟨Pv, h0, hs⟩
end L2
namespace L2
open PySem PySem.Spec PyProof.Rows Bg
theorem wq (f : Nat → Int) : ∀ k, argBest (fun i j => decide (f i < f j)) k ≤ k ∧ ∀ i, i ≤ k → f (argBest (fun i j => decide (f i < f j)) k) ≤ f i
  | 0 => ⟨Nat.le_refl _, fun i hi => by have : i = 0 := (by omega); subst this; exact Int.le_refl _⟩
  | k + 1 => by
    obtain ⟨h1, h2⟩ := wq f k
    unfold argBest
    by_cases c : f (k + 1) < f (argBest (fun i j => decide (f i < f j)) k)
    · rw [if_pos (decide_eq_true c)]
      refine ⟨Nat.le_refl _, fun i hi => ?_⟩
      by_cases e : i = k + 1
      · subst e; exact Int.le_refl _
      · have := h2 i (by omega); omega
    · rw [if_neg (by simpa using c)]
      refine ⟨by omega, fun i hi => ?_⟩
      by_cases e : i = k + 1
      · subst e; omega
      · exact h2 i (by omega)
def Fp (K : PySem.W.Frag) : List V → Hp → VK → Prop := fun xs H Q => ∃ (a : Addr) (ns : List Int), xs = [.ref a] ∧ (SqL K H a (ns.map V.int) ∨ SqT K H a (ns.map V.int)) ∧ ns ≠ [] ∧ ∀ m ∈ ns, (∀ x ∈ ns, m ≤ x) → Q (.int m) H
theorem uX {ys : Array (Int × Tok)} {ns : List Int} (e2 : ys.toList.map (·.1) = ns) {i : Nat} (hi : i < ns.length) : numAt ys i = ns[i] := by
  subst e2
  have hi' : i < ys.size := by simpa using hi
  unfold numAt
  rw [Array.getElem?_eq_getElem hi']
  simp
theorem ua {ys : Array (Int × Tok)} {ns : List Int} (e2 : ys.toList.map (·.1) = ns) (hne : ns ≠ []) {v : Value} (h : (intItems ys)[argBest (fun i j => decide (numAt ys i < numAt ys j)) (ys.size - 1)]? = some v) : ∃ m t, v = .int m t ∧ m ∈ ns ∧ ∀ x ∈ ns, m ≤ x := by
  have hl : ys.size = ns.length := by rw [← e2]; simp
  have hp : 0 < ns.length := List.length_pos_iff.mpr hne
  obtain ⟨h1, h2⟩ := wq (numAt ys) (ys.size - 1)
  obtain ⟨t, rfl⟩ := intItems_at h
  generalize argBest (fun i j => decide (numAt ys i < numAt ys j)) (ys.size - 1) = b at *
  have hb : b < ns.length := by omega
  refine ⟨_, t, rfl, ?_, fun x hx => ?_⟩
  · rw [uX e2 hb]; exact List.getElem_mem hb
  · obtain ⟨i, hi, e⟩ := List.getElem_of_mem hx
    have := h2 i (by omega)
    rw [uX e2 hi, e] at this
    exact this
section
variable {X : Cx}
theorem Az (hc : X.calm = true) : yE X (.builtin "min") (Fp X.K) := by
  intro pins s σ H xs us Q I r h
  obtain ⟨a, ns, rfl, hq, hne, q⟩ := h
  obtain ⟨u, rfl, ru⟩ := Vals.one r
  cases ru
  rcases hq with hq | hq
  · obtain ⟨its, rv, p, hz⟩ := I.list hq
    obtain ⟨ys, e1, e2⟩ := xj rv
    have hl : s.heap.IsList a (intItems ys) := by rw [← e1]; exact p.isList
    have hn : 0 < ys.size := by
      have : ys.size = ns.length := by rw [← e2]; simp
      have := List.length_pos_iff.mpr hne
      omega
    refine min_intList (I.ok.hd hc) hl hn fun v h' tk hv hk => ?_
    obtain ⟨m, t, rfl, hm, hle⟩ := ua e2 hne hv
    exact ⟨.int m, H, I.kept (t' := tk) hk, ⟨t, rfl⟩, q m hm hle⟩
  · obtain ⟨its, rv, p, hz⟩ := I.tuple hq
    obtain ⟨ys, e1, e2⟩ := xj rv
    have hl : s.heap.IsTuple a (intItems ys) := by rw [← e1]; exact p
    have hn : 0 < ys.size := by
      have : ys.size = ns.length := by rw [← e2]; simp
      have := List.length_pos_iff.mpr hne
      omega
    have hlt : a < s.heap.objs.size := by obtain ⟨_, e, _⟩ := hl; exact Heap.lt_size e
    refine call_min_walk (wpAny_pyIter_tuple hl ?_)
    refine ⟨_, [_, a], [_], _, _, _, _, rfl, Walks.tuple (A := X.A.in1) (show X.A.in1.handled = none from I.ok.hd hc) _ a (Nat.ne_of_lt hlt) (intItems ys), ⟨⟨_, Heap.get?_push_size _ rfl, rfl, rfl⟩, hl.push _⟩, fun b hb => ?_, by simpa [intItems] using hn, CmpOf.ints_lt (numAt ys) (fun _ _ => intItems_at), fun v h' tk hP hk => ?_⟩
    · show b < (s.heap.push _).objs.size
      rw [Heap.size_push]
      rcases List.mem_cons.mp hb with rfl | hb
      · exact Nat.lt_succ_self _
      · rcases List.mem_cons.mp hb with rfl | hb
        · exact Nat.lt_succ_of_lt hlt
        · cases hb
    · obtain ⟨m, t, rfl, hm, hle⟩ := ua e2 hne (by simpa [intItems] using hP)
      refine ⟨.int m, H, I.kept (t' := tk) fun b o e' => hk b o ?_ (Heap.get?_push_of_some _ e'), ⟨t, rfl⟩, q m hm hle⟩
      intro hb
      have e2 : b = s.heap.objs.size := by simpa using hb
      exact absurd (Heap.lt_size e') (by rw [e2]; exact Nat.lt_irrefl _)
end
section
variable {K : PySem.W.Frag} {H : Hp} {Q : VK} {σ : St} {D : Ends}
theorem Fb {a : Addr} {i j : Int} (h : H a = some (.tup [.int i, .int j])) (q : ∀ m : Int, (m = i ∨ m = j) → m ≤ i → m ≤ j → Q (.int m) H) : Fp K [.ref a] H Q :=
  ⟨a, [i, j], rfl, .inr (SqT.of h), by simp, fun m hm hl => q m (by simpa using hm) (hl i (by simp)) (hl j (by simp))⟩
theorem F4 {a : Addr} {xs : List V} {i j : Nat} (h : H a = some (.lst xs)) (q : ∀ (p : Addr) (H2 : Hp), Same H H2 → H2 p = some (.lst ((xs.drop i).take (j - i))) → Q (.ref p) H2) : rSlL K (.ref a) (some (i : Int)) (some (j : Int)) H Q := by
  refine ⟨a, _, rfl, SqL.of h, fun p hp => ?_⟩
  refine q p _ (zI hp _) ?_
  rw [zm]
  unfold cutV
  rw [HT.sIx_nat, HT.sIx_nat]
  congr 2
  rcases Nat.le_total i xs.length with z | z
  · rw [Nat.min_eq_left z]
    rcases Nat.le_total j xs.length with y | y
    · rw [Nat.min_eq_left y]
    · rw [Nat.min_eq_right y, List.take_of_length_le (by rw [List.length_drop]; omega), List.take_of_length_le (by rw [List.length_drop]; omega)]
  · rw [Nat.min_eq_right z, List.drop_of_length_le (Nat.le_refl _), List.drop_of_length_le z, List.take_nil, List.take_nil]
end
structure Ln where
  p : Addr
  s : Sd
def Ln.v (c : Ln) : V := .ref c.p
def Ln.u (c : Ln) : Int × Int := (c.s.x, c.s.y)
theorem EV {L : List Ln} {i : Nat} {y : V} (h : (L.map Ln.v)[i]? = some y) : ∃ c, y = .ref c.p ∧ c ∈ L ∧ L[i]? = some c := by
  rw [List.getElem?_map] at h
  cases e : L[i]? with
  | none => rw [e] at h; cases h
  | some c =>
    rw [e] at h
    refine ⟨c, ?_, List.mem_of_getElem? e, rfl⟩
    have : Ln.v c = y := by simpa using h
    exact this.symm
theorem uo {α : Type} {f : Ln → α} {L : List Ln} {i : Nat} {c : Ln} (h : L[i]? = some c) : (L.take (i + 1)).map f = (L.take i).map f ++ [f c] := by
  rw [List.take_add_one, h, List.map_append]
  rfl
end L2
namespace L2
open PySem PySem.Spec PyProof.Rows Bg
section
variable {X : Cx} {tg : Expr}
end
section
variable {K : PySem.W.Frag} {H : Hp} {Q : VK}
theorem FU {a : Addr} {ns : List Int} {i j : Nat} (hS : SqL K H a (ns.map V.int)) (q : ∀ (p : Addr) (H2 : Hp), Same H H2 → H2 p = some (.lst (((ns.drop i).take (j - i)).map V.int)) → Q (.ref p) H2) : rSlL K (.ref a) (some (i : Int)) (some (j : Int)) H Q := by
  refine ⟨a, _, rfl, hS, fun p hp => ?_⟩
  refine q p _ (zI hp _) ?_
  rw [zm]
  unfold cutV
  rw [HT.sIx_nat, HT.sIx_nat, List.map_take, List.map_drop]
  congr 2
  generalize ns.map V.int = xs
  rcases Nat.le_total i xs.length with z | z
  · rw [Nat.min_eq_left z]
    rcases Nat.le_total j xs.length with y | y
    · rw [Nat.min_eq_left y]
    · rw [Nat.min_eq_right y, List.take_of_length_le (by rw [List.length_drop]; omega), List.take_of_length_le (by rw [List.length_drop]; omega)]
  · rw [Nat.min_eq_right z, List.drop_of_length_le (Nat.le_refl _), List.drop_of_length_le z, List.take_nil, List.take_nil]
end
end L2
namespace L2
open PySem PySem.Spec PyProof.Rows Bg
section
variable {X : Cx}
end
end L2
namespace L2
open PySem PySem.Spec PyProof.Rows Bg
section
variable {X : Cx}
end
end L2
namespace L2
open PySem PySem.Spec PyProof.Rows Bg
section
variable {X : Cx}
def FD : V → List V → Hp → VK → Prop := fun x vs H Q => ∃ i : Int, x = .int i ∧ vs = [] ∧ Q (.int ((Builtin.Int.intBits i : Nat) : Int)) H
theorem DA : MtR X "int.bit_length" FD := by
  intro pins s σ H x xs v us Q I rx rv h
  obtain ⟨i, rfl, rfl, q⟩ := h
  obtain ⟨t, rfl⟩ := rx
  have hus := rv.zero
  subst hus
  exact call_int_bit_length ⟨.int _, H, I.tok _, ⟨_, rfl⟩, q⟩
theorem Fu {i : Int} {H : Hp} {Q : VK} (q : Q (.int ((Builtin.Int.intBits i : Nat) : Int)) H) : FD (.int i) [] H Q := ⟨i, rfl, rfl, q⟩
theorem Gy {K : PySem.W.Frag} {H : Hp} {z : Int} {R : Prop} (q : R) : tyV K "int" (.int z) H ∧ R := ⟨rfl, q⟩
end
theorem Ej {k : Nat} {i : Int} (h : Bd k i) : ¬ ((k : Int) < ((Builtin.Int.intBits i : Nat) : Int)) := by
  unfold Builtin.Int.intBits
  by_cases c : i = 0
  · subst c
    rw [if_pos (by decide)]
    omega
  · rw [if_neg (by simpa using c)]
    have h1 : i.natAbs.log2 < k := (Nat.log2_lt (by omega)).mpr h
    omega
theorem GW {j k : Nat} {d x y x' y' : Int} (hd : Bd 64 d) (b1 : Bd j x) (b2 : Bd j y) (b4 : Bd k x') (b5 : Bd k y') (hk : j + k + 65 ≤ 8192) : Bd 8192 (x * x' + d * y * y') :=
  (Bd.add (k := 64 + j + k) ((b1.mul b4).mono (by omega)) ((hd.mul b2).mul b5)).mono (by omega)
theorem Go {j k : Nat} {x y x' y' : Int} (b1 : Bd j x) (b2 : Bd j y) (b4 : Bd k x') (b5 : Bd k y') (hk : j + k + 65 ≤ 8192) : Bd 8192 (x * y' + y * x') :=
  (Bd.add (k := j + k) (b1.mul b5) (b2.mul b4)).mono (by omega)
end L2
namespace L2
open PySem PySem.Spec PyProof.Rows Bg
section
variable {X : Cx}
end
end L2
namespace L2
open PySem PySem.Spec PyProof.Rows Bg
section
variable {X : Cx} {tg : Expr}
end
section
variable {g : TG} {tc : TT} {te : TE} {σ0 : St} {H1 : Hp} {D : Addr}
end
end L2
namespace L2
open PySem PySem.Spec PyProof.Rows Bg
section
variable {X : Cx}
end
end L2
namespace L2
open PySem PySem.Spec PyProof.Rows Bg
section
variable {X : Cx} {tg : Expr}
end
end L2
namespace L2
open PySem PySem.Spec PyProof.Rows Bg
end L2
namespace L2
open PySem PySem.Spec PyProof.Rows Bg
section
variable {X : Cx}
end
end L2
namespace L2
open PySem PySem.Spec PyProof.Rows Bg
section
variable {X : Cx}
end
def TopS (mg : Str → Option Value) (x : Str) (z : Str) : Prop := ∃ u, mg x = some u ∧ RelV (.str z) u
theorem topS_mk {K : PySem.W.Frag} {h : Heap} {mg : Str → Option Value} {x z : Str} {t : Tok} (X : K.In h) (G : h.Ns mainGlobals mg) (e : PySem.W.nsIn K mainGlobals x = some (some (.str z t))) : TopS mg x z := ⟨_, PySem.W.mg_of X G e, ⟨t, rfl⟩⟩
section
variable {K : PySem.W.Frag} {σ : St} {H : Hp} {Q : VK}
end
end L2
namespace L2
open PySem PySem.Spec PyProof.Rows Bg Builtin Builtin.Str
section
variable {X : Cx}
end
section
variable {H : Hp} {Q : VK}
end
end L2
namespace L2
open PySem PySem.Spec PySem.W PySem.Calls PyProof.Rows Bg PySem.Builtin PySem.Builtin.ObjectAttr PySem.Builtin.Getset_descriptor
section
variable {prog : Program} {w : World} {A : Around} {E : Value → Shared → Prop} {K : Frag} {x C : Addr} {h : Heap} {g : Array GenState} {d : Drawn} {t : Nat} {os : OsState}
end
end L2
namespace L2
open PySem PySem.Spec PyProof.Rows Bg
section
variable {X : Cx} {pins : List (Addr × Obj)} {σ : St} {H : Hp} {s : Shared}
end
section
variable {P : Program} {w : World} {K : PySem.W.Frag} {mg : Str → Option Value} {base : Heap} {N : List Str} {qual : Str} {scope : Scope} {f : Addr} {cd : Value} {A : Around} {outer : List Env} {s0 : Shared} {H0 : Hp} {E : XK}
end
end L2
namespace L2
open PySem PySem.Spec PyProof.Rows Bg
section
variable {X : Cx} {pl pins : List (Addr × Obj)} {σ : St} {H : Hp} {s : Shared} {EE : St → XK} {a : Addr}
end
end L2
namespace L2
open PySem PySem.Spec PyProof.Rows Bg
section
variable {X : Cx} {k j : Nat} {x : Str} {ps : List Str} {dvs : List V} {sp : Sp} {p pos : Pos} {e : Expr} {es : List Expr} {t : TA} {E : XK}
end
section
variable {P : Program} {w : World} {K : PySem.W.Frag} {mg : Str → Option Value} {base : Heap}
end
end L2
namespace L2
open PySem PySem.Spec PyProof.Rows Bg
section
variable {X : Cx} {pins : List (Addr × Obj)} {σ : St} {H : Hp} {s : Shared} {pos : Pos}
end
end L2
namespace L2
open PySem PySem.Spec PyProof.Rows Bg
section
variable {X : Cx}
structure WE (X : Cx) (e : Expr) (t : TE) : Prop where
  w : PE X e t
structure WA (X : Cx) (es : List Expr) (t : TA) : Prop where
  w : PA X es t
def CW : Expr → Bool
  | .Starred _ _ => true
  | _ => false
theorem Dz {e : Expr} {es : List Expr} {env : Env} (h : CW e = false) : starEach (e :: es) env = (false, eval e env) :: starEach es env := by
  cases e <;> first | rfl | exact absurd (show true = false from h) (by decide)
theorem FX {e : Expr} {t : TE} (h : PE X e t) : WE X e t := ⟨h⟩
theorem CZ : WA X [] tNil := ⟨ze⟩
theorem uC {e : Expr} {es : List Expr} {te : TE} {t : TA} (ha : WE X e te) (hr : WA X es t) (h : CW e = false := by rfl) : WA X (e :: es) (D4 te t) := ⟨za ha.w hr.w (Dz h)⟩
theorem FY {es : List Expr} {t : TA} {x1 : Nat} {pos : Pos} (h : WA X es t) : WE X (.Tuple es x1 pos) (tTup t) := ⟨zA h.w⟩
theorem Ff {es : List Expr} {t : TA} {pos : Pos} (h : WA X es t) : WE X (.List es pos) (tLst t) := ⟨zM h.w⟩
end
end L2
namespace L2
open PySem PySem.Spec PyProof.Rows Bg
end L2
namespace L2
open PySem PySem.Spec PyProof.Rows Bg
end L2
namespace L2
open PySem PySem.Spec PyProof.Rows Bg
end L2
namespace L2
open PySem PySem.Spec PyProof.Rows Bg
end L2
namespace L2
open PySem PySem.Spec PyProof.Rows Bg
section
variable {X : Cx}
end
end L2
namespace L2
open PySem PySem.Spec PyProof.Rows Bg
theorem C7 {X : Cx} {n : Nat} {H : Hp} {a b : Addr} {xs ys : List V} {bs : List Bool} {pins : List (Addr × Obj)} {σ : St} {s : Shared} {A : Around} (ha : SqL X.K H a xs) (hb : SqL X.K H b ys) (he : EqVs X n H xs ys bs) (I : Inv X pins σ H s) (hu : A.units + 4 * (n + 1) < cLine) :
    ∃ (is js : Array Value), s.heap.IsList a is ∧ s.heap.IsList b js ∧ is.size = js.size ∧ (∀ j (h1 : j < is.size) (h2 : j < js.size), SeqAt.EqAt A.in1 s is[j] js[j] (bs.getD j false)) ∧ ((List.range is.size).all (fun j => bs.getD j false)) = bs.all id := by
  obtain ⟨is, r1, p1, _⟩ := I.list ha
  obtain ⟨js, r2, p2, _⟩ := I.list hb
  obtain ⟨l1, l2⟩ := he.len
  have q1 := r1.length
  have q2 := r2.length
  refine ⟨is.toArray, js.toArray, p1.isList, p2.isList, by rw [List.size_toArray, List.size_toArray]; omega, fun j h1 h2 => ?_, ?_⟩
  · have hj1 : j < xs.length := by rw [q1]; simpa using h1
    have hj2 : j < ys.length := by rw [q2]; simpa using h2
    obtain ⟨v, ev, rv⟩ := r1.get (List.getElem?_eq_getElem hj1)
    obtain ⟨u, eu, ru⟩ := r2.get (List.getElem?_eq_getElem hj2)
    have e1 : is.toArray[j] = v := by
      have : is[j]? = some v := ev
      rw [List.getElem?_eq_getElem (by simpa using h1)] at this
      simpa using Option.some.inj this
    have e2 : js.toArray[j] = u := by
      have : js[j]? = some u := eu
      rw [List.getElem?_eq_getElem (by simpa using h2)] at this
      simpa using Option.some.inj this
    rw [e1, e2]
    exact he.at (List.getElem?_eq_getElem hj1) (List.getElem?_eq_getElem hj2) pins σ s v u A.in1 I rv ru (by show A.units + 1 + 4 * n < cLine; omega)
  · have e1 : is.toArray.size = bs.length := by rw [List.size_toArray]; omega
    rw [e1, wG]
def rEqL (X : Cx) : R2 := fun x y H Q => ∃ a b xs ys bs n, x = .ref a ∧ y = .ref b ∧ n ≤ 9 ∧ SqL X.K H a xs ∧ SqL X.K H b ys ∧ EqVs X n H xs ys bs ∧ Q (.bl (bs.all id)) H
theorem FS {X : Cx} (hu : X.A.units + 64 < cLine) : OpR X (compareOp .Eq) (rEqL X) := by
  intro pins s σ H x y v u Q I rx ry h
  obtain ⟨a, b, xs, ys, bs, n, rfl, rfl, hn, ha, hb, he, q⟩ := h
  cases rx
  cases ry
  obtain ⟨is, js, p1, p2, hz, hj, e⟩ := C7 (A := X.A) ha hb he I (by omega)
  refine SeqAt.eq_listAt p1 p2 hz (by omega) hj ?_
  rw [e]
  exact ⟨.bl _, H, I, rfl, q⟩
theorem F9 {X : Cx} {H : Hp} {Q : VK} {a b : Addr} {ns : List Int} (ha : H a = some (.lst (ns.map V.int))) (hb : H b = some (.lst (ns.map V.int))) (q : Q (.bl true) H) : rEqL X (.ref a) (.ref b) H Q := by
  have key : ∀ ms : List Int, EqVs X 0 H (ms.map V.int) (ms.map V.int) (ms.map fun _ => true) := by
    intro ms
    induction ms with
    | nil => exact .nil
    | cons m ms ih =>
      have e : EqV X 0 H (.int m) (.int m) true := by
        have := EqV.int (X := X) (n := 0) (H := H) m m
        simpa using this
      exact .cons e ih
  refine ⟨a, b, _, _, _, 0, rfl, rfl, Nat.zero_le _, SqL.of ha, SqL.of hb, key ns, ?_⟩
  have e : (ns.map fun _ => true).all id = true := by simp
  rw [e]
  exact q
theorem Gk {X : Cx} {H : Hp} {Q : VK} {a b : Addr} {C D : List Cell} (ha : H a = some (.lst (C.map Cell.v))) (hb : H b = some (.lst (D.map Cell.v))) (hC : ∀ c ∈ C, c.At H) (hD : ∀ c ∈ D, c.At H) (e : C.map Cell.b = D.map Cell.b) (q : Q (.bl true) H) : rEqL X (.ref a) (.ref b) H Q := by
  have key : ∀ (C D : List Cell), (∀ c ∈ C, c.At H) → (∀ c ∈ D, c.At H) → C.map Cell.b = D.map Cell.b → EqVs X 2 H (C.map Cell.v) (D.map Cell.v) (C.map fun _ => true) := by
    intro C
    induction C with
    | nil =>
      intro D _ _ e
      have : D = [] := by
        cases D with
        | nil => rfl
        | cons d D => simp at e
      subst this
      exact .nil
    | cons c C ih =>
      intro D hC hD e
      cases D with
      | nil => simp at e
      | cons d D =>
        simp only [List.map_cons, List.cons.injEq] at e
        have ac := hC c List.mem_cons_self
        have ad := hD d List.mem_cons_self
        have w1 := ac.w
        have w2 := ad.w
        have h1 := ac.h
        have h2 := ad.h
        rw [← e.1] at w2 h2
        have e2 : EqV X 2 H (.ref c.p) (.ref d.p) true := EB ac.t ad.t (eqv3 w1 w2) (eqv3 h1 h2)
        exact .cons e2 (ih D (fun x hx => hC x (List.mem_cons_of_mem _ hx)) (fun x hx => hD x (List.mem_cons_of_mem _ hx)) e.2)
  refine ⟨a, b, _, _, _, 2, rfl, rfl, by decide, SqL.of ha, SqL.of hb, key C D hC hD e, ?_⟩
  have e' : (C.map fun _ => true).all id = true := by simp
  rw [e']
  exact q
theorem F8 {X : Cx} {H : Hp} {Q : VK} {a b : Addr} {x y z x' y' z' : Int} (ha : SqT X.K H a [.int x, .int y, .int z]) (hb : SqT X.K H b [.int x', .int y', .int z']) (q : Q (.bl (!decide (x = x' ∧ y = y' ∧ z = z'))) H) : rNeT X (.ref a) (.ref b) H Q := by
  refine ⟨a, b, _, _, _, 0, rfl, rfl, Nat.zero_le _, ha, hb, .cons (.int x x') (.cons (.int y y') (.cons (.int z z') .nil)), ?_⟩
  have e : ([x == x', y == y', z == z'] : List Bool).all id = decide (x = x' ∧ y = y' ∧ z = z') := by
    rw [Bool.eq_iff_iff]
    simp
  rw [e]
  exact q
theorem GO {H : Hp} {Q : VK} {l : Addr} {k : Int} {xs : List V} (h : H l = some (.lst xs)) (k0 : 0 ≤ k) (k1 : k ≤ 1) (hz : xs.length ≤ 100) (q : ∀ p H2, Same H H2 → H2 p = some (.lst (if k = 0 then [] else xs)) → Q (.ref p) H2) : rRep (.ref l) (.int k) H Q := by
  refine ⟨l, k, xs, rfl, rfl, h, by omega, by omega, ?_, fun p hp => q p _ (zI hp _) ?_⟩
  · have : k.toNat ≤ 1 := by omega
    have h2 : xs.length * k.toNat ≤ xs.length * 1 := Nat.mul_le_mul_left _ this
    exact yx (by omega)
  · rw [zm]
    have : k = 0 ∨ k = 1 := by omega
    rcases this with rfl | rfl
    · rfl
    · simp
structure H5 (d N : Int) (H : Hp) (p : Addr) (C : List Cell) : Prop where
  l : H p = some (.lst (C.map Cell.v))
  at' : ∀ c ∈ C, c.At H
  ok : ∀ c ∈ C, B5 d N c.b
end L2
namespace L2
open PySem PySem.Spec PyProof.Rows Bg
section
variable {M : Model} {A : Around} {E : Value → Shared → Prop} {s : Shared}
end
section
variable {X : Cx} {pins : List (Addr × Obj)} {σ : St} {H : Hp} {s : Shared}
end
section
variable {X : Cx} {pins : List (Addr × Obj)} {σ : St} {H : Hp} {s : Shared} {scope : Scope} {cl : List (Str × Addr)} {own : List Str} {js : List Nat} {fp : List Addr} {C : Addr} {s3 : Shared} {H3 : Hp} {E : XK}
end
end L2
namespace L2
open PySem PySem.Spec PyProof.Rows Bg
section
variable {X : Cx} {pins : List (Addr × Obj)} {σ : St} {H : Hp} {s : Shared} {scope : Scope} {cl : List (Str × Addr)} {own : List Str} {js : List Nat} {fp : List Addr} {E : XK}
end
end L2
namespace L2
open PySem PySem.Spec PyProof.Rows Bg
end L2
namespace L2
open PySem PySem.Spec PyProof.Rows Bg
theorem Inv.retrack {X : Cx} {pins : List (Addr × Obj)} {σ : St} {H : Hp} {s : Shared} {d : Addr} {u u' : HO} (I : Inv X pins σ H s) (e : H d = some u) (nf : ∀ o v, X.H₀ d ≠ some (.frz o v)) (nt : ∀ xs, u ≠ .tup xs) (nb : ∀ ps, u ≠ .tbl ps) (no : ∀ y, u ≠ .own y)
    (new : ObjOk X.prog X.w H s.heap d u') (no' : ∀ y, u' ≠ .own y) : Inv X pins σ (upd H d u') s := by
  have ne : ∀ {b}, H b = none → b ≠ d := fun {b} q z => by rw [z, e] at q; cases q
  have st : ∀ b v, ObjOk X.prog X.w H s.heap b v → ObjOk X.prog X.w (upd H d u') s.heap b v := fun b v x => x.stay (fun c w' _ q => q)
    (fun c q => by rw [zt (fun z => no _ (by rw [z, e] at q; exact Option.some.inj q))]; exact q)
    (fun c xs q => by rw [zt (fun z => nt _ (by rw [z, e] at q; exact Option.some.inj q))]; exact q)
  refine ⟨I.ok, I.os, I.bare, ⟨I.base.keep, I.base.slot, fun b o q n hx => ?_, I.base.there, fun b xs q => ?_, fun b o v q => ?_, fun b ps q => ?_⟩, I.loc, I.cell, ?_, fun x c q => ?_, fun p hp => ?_, fun b v q => ?_, I.len⟩
  · have k := I.base.free b o q n hx
    rw [zt (ne k)]
    exact k
  · have k := I.base.tups b xs q
    rw [zt (fun z => nt xs (by rw [z, e] at k; exact Option.some.inj k))]
    exact k
  · have k := I.base.frzs b o v q
    rw [zt (fun z => nf o v (by rw [← z]; exact q))]
    exact k
  · obtain ⟨more, k⟩ := I.base.tbls b ps q
    exact ⟨more, by rw [zt (fun z => nb _ (by rw [z, e] at k; exact Option.some.inj k))]; exact k⟩
  · rw [zt (ne I.free)]; exact I.free
  · rw [zt (ne (I.freeC x c q))]; exact I.freeC x c q
  · obtain ⟨k1, k2, k3⟩ := I.pin p hp
    exact ⟨k1, by rw [zt (ne k2)]; exact k2, k3⟩
  · by_cases z : b = d
    · subst z
      rw [zm] at q
      cases q
      exact st _ _ new
    · rw [zt z] at q
      exact st _ _ (I.hok b v q)
def Itd (d : Addr) (ob : Obj) (kvs : List (Key × V)) : It :=
  ⟨fun i H => H d = some (.frz ob (.dK kvs)) ∧ i < kvs.length, fun i H x H' => H' = H ∧ ∃ kv, kvs[i]? = some kv ∧ x = kV kv.1, fun i H => H d = some (.frz ob (.dK kvs)) ∧ kvs.length ≤ i⟩
theorem D9 {P : Program} {w : World} {k : Key} {u : Value} (h : (zK P w).is k u = true) : RelV (kV k) u := by
  cases k with
  | inl i =>
    have h : Value.isInt i u = true := h
    unfold Value.isInt at h
    split at h
    · exact ⟨_, by rw [show i = _ from (beq_iff_eq.mp h).symm]⟩
    · cases h
  | inr x =>
    have h : Value.isStrOf x u = true := h
    unfold Value.isStrOf at h
    split at h
    · exact ⟨_, by rw [show x = _ from (beq_iff_eq.mp h).symm]⟩
    · cases h
theorem uM {P : Program} {w : World} {H : Hp} {h : Heap} {d : Addr} {ob : Obj} {es : Array DictEntry} {ep : Nat} {kvs : List (Key × V)} (hdat : ob.data = .dict es ep) (ok : HOk P w H h) (e : H d = some (.frz ob (.dK kvs))) : ∃ vs, KV kvs vs ∧ h.DictAt (zK P w) d vs ep := by
  obtain ⟨g, _, _, vs, r, o, es', ep', g', c, dd, r2⟩ := ok d _ e
  have : o = ob := by rw [g] at g'; exact (Option.some.inj g').symm
  subst this
  rw [hdat] at dd
  cases dd
  exact ⟨vs, r, o, es, g, c, hdat, r2⟩
theorem AY {P : Program} {w : World} {K : PySem.W.Frag} {tg : Expr} (d it : Addr) {ob : Obj} {es : Array DictEntry} {ep : Nat} {kvs : List (Key × V)} (hdat : ob.data = .dict es ep) : Turn P w K tg (Itd d ob kvs) [it] it (fun i h => h.IsKeyIter it d i kvs.length ep) where
  mem := by simp
  obj := fun i h st b hb => by
    have e : b = it := by simpa using hb
    subst e
    obtain ⟨o, e, c, dd⟩ := st
    exact ⟨o, e, fun v z => by rw [dd] at z; cases z⟩
  keep := fun i h h' st k => st.at fun o e => k it (by simp) o e
  item := by
    intro X hP hw hK hc i pins s σ H E I hf st hg
    subst hP hw hK
    obtain ⟨hfz, hi⟩ := hg
    obtain ⟨vs, r, da⟩ := uM hdat I.hok hfz
    have hl := r.length
    obtain ⟨f0, f1, f2, f3, f4, f5⟩ := hf it (by simp)
    obtain ⟨⟨k, v⟩, hk⟩ : ∃ p, vs[i]? = some p := ⟨vs[i]'(by omega), by simp⟩
    have hkk : kvs[i]?.map (·.1) = some k := by
      have := congrArg (·[i]?) r.keys
      simp only [List.getElem?_map, hk] at this
      exact this
    obtain ⟨kv, hkv, ekv⟩ : ∃ kv, kvs[i]? = some kv ∧ kv.1 = k := by
      cases q : kvs[i]? with
      | none => rw [q] at hkk; cases hkk
      | some kv => rw [q] at hkk; exact ⟨kv, rfl, Option.some.inj hkk⟩
    rw [hl] at st ⊢
    refine wpAny_pyNext_dict_item st da hk fun key h' hkey st' sb => ?_
    have I1 : Inv X pins σ H { s with heap := h' } := I.turned (t' := s.toks) (fun b o hb e => (sb.2 b hb).trans e) f0 f1 f3 f4 f5
    obtain ⟨o, e, c, dd⟩ := id st'
    exact ⟨key, rfl, CL (s := { s with heap := h' }) e c dd (by decide) ⟨kV k, H, I1, D9 hkey, ⟨rfl, kv, hkv, by rw [ekv]⟩, st', fun b hb => (hf b hb).1⟩⟩
  done := by
    intro X hP hw hK hc i pins s σ H E I hf st hg
    subst hP hw hK
    obtain ⟨hfz, hi⟩ := hg
    obtain ⟨vs, r, da⟩ := uM hdat I.hok hfz
    have hl := r.length
    obtain ⟨f0, f1, f2, f3, f4, f5⟩ := hf it (by simp)
    rw [hl] at st
    exact wpAny_pyNext_dict_end (I.ok.hd hc) st da (List.getElem?_eq_none (by omega)) fun h' eb => ⟨rfl, I.turned (t' := s.toks) (fun b o hb e => eb b o hb e) f0 f1 f3 f4 f5⟩
  self := fun _ _ _ _ _ st h => wpAny_pyIter_keyiter st h
def NoFz (H₀ : Hp) (d : Addr) : Prop := ∀ o v, H₀ d ≠ some (.frz o v)
def Ex (H₀ : Hp) (td : TE) : TI := fun σ H R => td σ H fun x H1 => ∃ d kvs, x = .ref d ∧ H1 d = some (.dK kvs) ∧ ∀ ob, NoFz H₀ d → R (Itd d ob kvs) (upd H1 d (.frz ob (.dK kvs)))
theorem Inv.nofrz {X : Cx} {pins : List (Addr × Obj)} {σ : St} {H : Hp} {s : Shared} {d : Addr} {kvs : List (Key × V)} (I : Inv X pins σ H s) (e : H d = some (.dK kvs)) : ∀ o v, X.H₀ d ≠ some (.frz o v) := fun o v q => by
  have k := I.base.frzs d o v q
  rw [e] at k
  cases k
theorem Inv.freeze {X : Cx} {pins : List (Addr × Obj)} {σ : St} {H : Hp} {s : Shared} {d : Addr} {kvs : List (Key × V)} {ob : Obj} (I : Inv X pins σ H s) (e : H d = some (.dK kvs)) (g : s.heap.get? d = some ob) : Inv X pins σ (upd H d (.frz ob (.dK kvs))) s :=
  I.retrack e (I.nofrz e) (fun _ z => by cases z) (fun _ z => by cases z) (fun _ z => by cases z) ⟨g, I.hok d _ e⟩ (fun _ z => by cases z)
theorem Inv.thaw {X : Cx} {pins : List (Addr × Obj)} {σ : St} {H : Hp} {s : Shared} {d : Addr} {kvs : List (Key × V)} {ob : Obj} (I : Inv X pins σ H s) (nf : ∀ o v, X.H₀ d ≠ some (.frz o v)) (e : H d = some (.frz ob (.dK kvs))) : Inv X pins σ (upd H d (.dK kvs)) s :=
  I.retrack e nf (fun _ z => by cases z) (fun _ z => by cases z) (fun _ z => by cases z) (I.hok d _ e).2 (fun _ z => by cases z)
theorem BI {X : Cx} {tg e : Expr} {td : TE} (hd : PE X e td) : PI X tg e (Ex X.H₀ td) := by
  intro pins s σ H R I h
  refine thn (hd pins s σ H _ I h) fun v s1 ⟨x, H1, I1, r1, q1⟩ => ?_
  obtain ⟨d, kvs, ex, hq, q⟩ := q1
  subst ex
  cases r1
  obtain ⟨z, y, vs, r, dof⟩ := id (I1.hok d _ hq)
  obtain ⟨ep, o, es, ho, r2⟩ := dof.dictAt
  obtain ⟨c, hdat, r3⟩ := id r2
  refine wpAny_pyIter_dict y ⟨o, es, ho, r2⟩ ?_
  have I2 := (I1.kept (h' := s1.heap.push { cls := .type "dict_keyiterator", data := .fields #[.ref d, .int 0 0, .int vs.length 0, .int ep 0] }) (t' := s1.toks) fun b o e => Heap.get?_push_of_some _ e).freeze hq (Heap.get?_push_of_some _ ho)
  refine ⟨s1.heap.objs.size, [s1.heap.objs.size], _, _, _, rfl, I2, AY d _ hdat, ?_, fun b hb => ?_, q o (I1.nofrz hq)⟩
  · rw [r.length]
    exact ⟨_, Heap.get?_push_size _ rfl, rfl, rfl⟩
  · have e : b = s1.heap.objs.size := by simpa using hb
    subst e
    have hn := I1.hok.fresh (Nat.le_refl s1.heap.objs.size)
    exact I1.fpOk (Nat.le_refl _) (by rw [zt (fun z => by rw [z, hq] at hn; cases hn)]; exact hn)
def Di (H₀ : Hp) (td : TE) (g : TG) (tc : TT) (te : TE) (n : Nat) (js : List Nat) : TE := fun σ H Q => tH (Ex H₀ td) g tc te n js σ H fun v H2 => ∃ d ob kvs, NoFz H₀ d ∧ H2 d = some (.frz ob (.dK kvs)) ∧ Q v (upd H2 d (.dK kvs))
theorem u7 {X : Cx} {elt iter tgt : Expr} {ifs : List Expr} {scope : Scope} {pos : Pos} {td : TE} {g : TG} {tc : TT} {te : TE} (own : List Str) (js : List Nat)
    (hc : X.calm = true) (hi : PI X tgt iter (Ex X.H₀ td))
    (hg : ∀ cl fp C s3 H3, PG (zT X scope cl own js fp C s3 H3) tgt g) (ht : ∀ cl fp C s3 H3, PIfs (zT X scope cl own js fp C s3 H3) ifs tc) (he : ∀ cl fp C s3 H3, PE (zT X scope cl own js fp C s3 H3) elt te)
    (hfree' : (scope.names.all fun y => y.2 != .free || X.env.scope.names.lookup y.1 == some .cell) = true := by rfl)
    (hjs' : (js.all fun j => scope.names.lookup (X.N.getD j Str.empty) == some .free && X.env.scope.names.lookup (X.N.getD j Str.empty) == some .cell) = true := by rfl)
    (hcell' : (scope.names.all fun y => y.2 != .cell) = true := by rfl) (hnames' : (scope.names.all fun y => y.2 != .local || scope.names.lookup y.1 == some .local) = true := by rfl)
    (hkind : scope.kind = .function := by rfl) (hs : ∀ x, foldedSetIterable iter X.env x = pure x := by intro _; rfl) :
    PE X (.ListComp elt [⟨tgt, iter, ifs, 0⟩] scope pos) (Di X.H₀ td g tc te own.length js) := by
  intro pins s σ H Q I h
  rw [eval_ListComp]
  refine uS own js hc hi hg ht he (AS hfree') (E6 hjs') (AA hcell') (u8 hnames') hkind hs I h fun D H3 H5 σ5 s3 s6 fp cl I3 f3 I6 qn => ?_
  obtain ⟨d, ob, kvs, nf, e, qn⟩ := qn
  obtain ⟨m, hm, _⟩ := id I6.loc
  exact ⟨m, hm, fun h' sb => ⟨.ref D, _, (vo I3 f3 I6 sb).thaw nf e, rfl, qn⟩⟩
section
variable {g : TG} {tc : TT} {te : TE} {D : Addr} {H1 : Hp} {σ0 : St} {Q : VK}
theorem vV {R : Hp → Prop} {d : Addr} {ob : Obj} {kvs : List (Key × V)} (Pv : Nat → List V → St → Hp → Prop) (h0 : Pv 0 [] σ0 (upd H1 D (.lst [])))
    (hl : ∀ i xs σ H, i ≤ kvs.length → Pv i xs σ H → H d = some (.frz ob (.dK kvs)))
    (hs : ∀ i kv xs σ H, kvs[i]? = some kv → Pv i xs σ H → g (kV kv.1) σ H fun σ3 H3 => tc σ3 H3 fun b H4 => if b = true then te σ3 H4 fun v H5 => zO (.ref D) [v] H5 fun _ H6 => wR kvs.length Pv i σ3 H6 else wR kvs.length Pv i σ3 H4)
    (hd : ∀ xs σ H, Pv kvs.length xs σ H → R H) :
    ∃ W : Nat → Nat → St → Hp → Prop, (∃ m, W 0 m σ0 (upd H1 D (.lst []))) ∧ ∀ i m σ' H', W i m σ' H' → ((Itd d ob kvs).stop i H' ∧ R H') ∨ ((Itd d ob kvs).go i H' ∧ ∀ x H2, (Itd d ob kvs).yld i H' x H2 → g x σ' H2 fun σ3 H3 => tc σ3 H3 fun b H4 =>
      if b = true then te σ3 H4 fun v H5 => zO (.ref D) [v] H5 fun _ H6 => ∃ m', m' < m ∧ W (i + 1) m' σ3 H6 else ∃ m', m' < m ∧ W (i + 1) m' σ3 H4) := by
  refine ⟨fun i m σ H => m = kvs.length - i ∧ i ≤ kvs.length ∧ ∃ xs, Pv i xs σ H, ⟨kvs.length, by simp, Nat.zero_le _, [], h0⟩, ?_⟩
  rintro i m σ H ⟨rfl, hi, xs, p⟩
  have q := hl i xs σ H hi p
  by_cases hlt : i < kvs.length
  · refine .inr ⟨⟨q, hlt⟩, fun x H' y => ?_⟩
    obtain ⟨e, kv, hkv, ex⟩ := y
    subst e ex
    exact hs i kv xs σ _ hkv p
  · have e : i = kvs.length := by omega
    subst e
    exact .inl ⟨⟨q, Nat.le_refl _⟩, hd xs σ H p⟩
theorem AB {H₀ : Hp} {td : TE} {σ : St} {H : Hp} {n : Nat} {js : List Nat} (h : td σ H fun x H1 => ∃ d kvs, x = .ref d ∧ H1 d = some (.dK kvs) ∧ ∀ ob, NoFz H₀ d → ∀ D, (upd H1 d (.frz ob (.dK kvs))) D = none → ∃ W : Nat → Nat → St → Hp → Prop, (∃ m, W 0 m (wY n js σ) (upd (upd H1 d (.frz ob (.dK kvs))) D (.lst []))) ∧
  ∀ i m σ' H', W i m σ' H' → ((Itd d ob kvs).stop i H' ∧ ∃ d' ob' kvs', NoFz H₀ d' ∧ H' d' = some (.frz ob' (.dK kvs')) ∧ Q (.ref D) (upd H' d' (.dK kvs'))) ∨ ((Itd d ob kvs).go i H' ∧ ∀ x H2, (Itd d ob kvs).yld i H' x H2 → g x σ' H2 fun σ3 H3 => tc σ3 H3 fun b H4 =>
    if b = true then te σ3 H4 fun v H5 => zO (.ref D) [v] H5 fun _ H6 => ∃ m', m' < m ∧ W (i + 1) m' σ3 H6 else ∃ m', m' < m ∧ W (i + 1) m' σ3 H4)) : Di H₀ td g tc te n js σ H Q := h
end
def OwnM (P : Program) (w : World) (K : PySem.W.Frag) (mg : Str → Option Value) (base : Heap) (CX : CXT) (C : Addr) (k : Nat) (m : Str) (ps : List Str) (dvs : List V) (sp : Sp) : Prop :=
  ∃ (f : Addr) (fd : FuncData) (ds : List Value), FnOk P w K mg base CX k f fd ps sp ∧ Cls K C ∧ Meth K C m f ∧ Binds K fd ps ds ∧ Vals dvs ds
def OwnI (P : Program) (w : World) (K : PySem.W.Frag) (mg : Str → Option Value) (base : Heap) (CX : CXT) (C : Addr) (k : Nat) (x : Str) (ps : List Str) (dvs : List V) (sp : Sp) : Prop :=
  ∃ (f : Addr) (fd : FuncData) (ds : List Value), FnOk P w K mg base CX k f fd ps sp ∧ Mk K C f ∧ mg x = some (.ref C) ∧ Binds K fd ps ds ∧ Vals dvs ds
section
variable {X : Cx} {CX : CXT} {k j : Nat} {C : Addr} {x m : Str} {ps ks : List Str} {dvs : List V} {sp : Sp} {E : XK} {p pos apos : Pos} {e o : Expr} {es : List Expr} {ta : TE} {t tk : TA} {pl : Sem Bool} {kws : List Keyword} {gV : List V → List V → List V}
theorem xR (O : OwnM X.prog X.w X.K X.mg X.base CX C k m ps dvs sp) (hx : yT CX X E) (hr : Room j X.A) (he : PE X o ta) (ha : PA X (e :: es) t) (hk : k ≤ j := by decide)
    (hst : starEach (e :: es) X.env = (false, eval e X.env) :: starEach es X.env := by rfl) (hpl : (backTo pos (starEach es X.env)).any (·.1) = false := by rfl)
    (ht : eval (.Call (.Attribute o m apos) (e :: es) [] pos) X.env = (do
      let ov ← eval o X.env
      standAt apos.atName
      let (f, first) ← holding [ov] (getMethod ov m pl)
      callWith pos f first (backTo pos (starEach (e :: es) X.env)) (backToKw pos (keywordEach [] X.env))) := by rfl) : PE X (.Call (.Attribute o m apos) (e :: es) [] pos) (Bf C m sp dvs E ta t) := by
  obtain ⟨f, fd, ds, F, c, hm, hb, hd⟩ := O
  exact Er he c hm F (hr.mono hk) hb hd hx ha hst hpl ht
theorem tt (O : OwnM X.prog X.w X.K X.mg X.base CX C k m ps dvs sp) (hx : yT CX X E) (hr : Room j X.A) (he : PE X o ta) (hk : k ≤ j := by decide)
    (ht : eval (.Call (.Attribute o m apos) [] [] pos) X.env = (do
      let ov ← eval o X.env
      standAt apos.atName
      let (f, first) ← holding [ov] (getMethod ov m pl)
      callWith pos f first (backTo pos (starEach [] X.env)) (backToKw pos (keywordEach [] X.env))) := by rfl) : PE X (.Call (.Attribute o m apos) [] [] pos) (Bf C m sp dvs E ta tNil) := by
  obtain ⟨f, fd, ds, F, c, hm, hb, hd⟩ := O
  exact CJ he c hm F (hr.mono hk) hb hd hx ht
theorem Dw (O : OwnI X.prog X.w X.K X.mg X.base CX C k x ps dvs sp) (hx : yT CX X E) (hr : Room j X.A) (hg : Gl X x) (ha : PA X (e :: es) t) (hk : k + 1 ≤ j := by decide)
    (hdb : (x == ("__debug__" : Str)) = false := by decide) (he : starEach (e :: es) X.env = (false, eval e X.env) :: starEach es X.env := by rfl) (hpl : (backTo pos (starEach es X.env)).any (·.1) = false := by rfl) : PE X (.Call (.Name x p) (e :: es) [] pos) (Ds C sp dvs E t) := by
  obtain ⟨f, fd, ds, F, M, hm, hb, hd⟩ := O
  exact Ed M F (hr.mono hk) hg hm hb hd hx ha hdb he hpl
end
def TopM (K : PySem.W.Frag) (C : Addr) (m qual : Str) (st : Stmt) : Prop := ∃ (f : Addr) (fd : FuncData), Fun K m qual st f fd ∧ Meth K C m f
def TopIn (K : PySem.W.Frag) (mg : Str → Option Value) (C : Addr) (x qual : Str) (st : Stmt) (its : List Value) : Prop := ∃ (f : Addr) (fd : FuncData), FunD K "__init__" qual st f fd its ∧ Mk K C f ∧ mg x = some (.ref C)
section
variable {P : Program} {w : World} {K : PySem.W.Frag} {mg : Str → Option Value} {base : Heap} {CX : CXT} {C : Addr} {k : Nat} {x m qual : Str} {st : Stmt} {ps ks : List Str} {dvs : List V} {its ds : List Value} {sp : Sp}
theorem TopM.own (T : TopM K C m qual st) (c : Cls K C)
    (hb : ∀ (kV doc pm : Value) (an : Option Addr) (cdv ct : Value) (us : List Value), us.length = ps.length → bindArgs (PySem.W.fnOf m qual (defArgs st) (defBody st) (defScope st) .none kV doc pm an cdv ct) ⟨us, []⟩ = pure (ps.zip us))
    (h : ∀ f fd, Fun K m qual st f fd → FnOk P w K mg base CX k f fd ps sp) : OwnM P w K mg base CX C k m ps [] sp := by
  obtain ⟨f, fd, F, hm⟩ := T
  exact ⟨f, fd, [], h f fd F, c, hm, F.binds hb, .nil⟩
theorem TopIn.own (T : TopIn K mg C x qual st its)
    (hb : ∀ (T : Addr) (kV doc pm : Value) (an : Option Addr) (cdv ct : Value) (us : List Value), (us ++ ds).length = ps.length → ∃ k : Option (Array Value) → Sem (List (Str × Value)),
      bindArgs (PySem.W.fnOf "__init__" qual (defArgs st) (defBody st) (defScope st) (.ref T) kV doc pm an cdv ct) ⟨us, []⟩ = seqItems? (.ref T) >>= k ∧ k (some its.toArray) = pure (ps.zip (us ++ ds)))
    (hd : Vals dvs ds) (h : ∀ f fd, FunD K "__init__" qual st f fd its → FnOk P w K mg base CX k f fd ps sp) : OwnI P w K mg base CX C k x ps dvs sp := by
  obtain ⟨f, fd, F, M, hm⟩ := T
  exact ⟨f, fd, ds, h f fd F, M, hm, F.binds hb, hd⟩
end
theorem topM_mk {K : PySem.W.Frag} {C : Addr} {m qual : Str} {st : Stmt} {f : Addr} {oc : Value} {od an : Option Addr} {osl : Array (Option Value)} {kV doc pm cdv ct : Value}
    (l : K.lookup f = some ⟨oc, od, .func (PySem.W.fnOf m qual (defArgs st) (defBody st) (defScope st) .none kV doc pm an cdv ct), osl⟩)
    (c : PySem.W.codeIn K cdv qual = true) (k : PySem.W.keepIn K (.ref f) = true) (a : PySem.W.findIn K (.ref C) m = some (some (.ref f))) (n : PySem.W.isFn K (.ref f) = true) : TopM K C m qual st := ⟨f, _, Dj l c k, ⟨a, n, k⟩⟩
theorem topIn_mk {K : PySem.W.Frag} {h : Heap} {mg : Str → Option Value} {C : Addr} {x qual : Str} {st : Stmt} {f T : Addr} {oc : Value} {od an : Option Addr} {osl : Array (Option Value)} {kV doc pm cdv ct : Value} {its : List Value} {n : Nat} {to : Obj} (X : K.In h) (G : h.Ns mainGlobals mg)
    (l : K.lookup f = some ⟨oc, od, .func (PySem.W.fnOf "__init__" qual (defArgs st) (defBody st) (defScope st) (.ref T) kV doc pm an cdv ct), osl⟩)
    (c : PySem.W.codeIn K cdv qual = true) (k : PySem.W.keepIn K (.ref f) = true) (t : K.lookup T = some to) (d : to.data = .seq its.toArray n)
    (m : PySem.W.makesIn K C = true) (i : PySem.W.findIn K (.ref C) "__init__" = some (some (.ref f))) (nf : PySem.W.isFn K (.ref f) = true) (kc : PySem.W.keepIn K (.ref C) = true) (a : PySem.W.nsIn K mainGlobals x = some (some (.ref C))) : TopIn K mg C x qual st its :=
  ⟨f, _, ⟨⟨oc, od, T, kV, doc, pm, an, cdv, ct, osl, _, n, rfl, l, c, t, d⟩, k⟩, ⟨m, i, nf, kc⟩, PySem.W.mg_of X G a⟩
end L2
namespace L2
open PySem PySem.Spec PyProof.Rows Bg
section
variable {prog : Program} {w : World} {κ : Type} [DecidableEq κ] {knd : KeyKind prog w κ} {A : Around} {E : Value → Shared → Prop}
theorem yM : entryFor table "dict.update.loop" = some Builtin.«dict.update.loop» := entryFor_of_tree (by kernel_rfl)
theorem wm : typeLookup (.type "list") "keys" = pure none := by rw [typeLookup_type, builtinLookup_eq_fast]; kernel_rfl
theorem vB {s : Shared} {a : Addr} {o : Obj} {xs : Array Value} {k : Nat} {Q : Option Value → Shared → Prop} (hx : s.heap.get? a = some o) (hc : o.cls = .type "list") (hdat : o.data = .seq xs k) (hd : o.dict = none) (hA : A.handled = none)
    (q : ∀ h' tk e, Heap.NewExcOf s.heap h' e "AttributeError" → Q none { s with heap := h', toks := tk }) : wpAny (model prog w) A (getAttr? (.ref a) "keys") Q E s := by
  obtain ⟨c, dct, dat, sl⟩ := o
  simp only at hc hdat hd
  subst hc hdat hd
  obtain ⟨hp, g, d, tk, os⟩ := s
  have tT : ∀ tk', (⟨hp, g, d, tk', os⟩ : Shared).TypeIs (.ref a) "list" := fun _ => ⟨_, hx, rfl⟩
  have k1 := sub_AttributeError
  have k3 := F.slot_list_getattribute.lookup
  have k4 := F.slot_list_getattribute.bind (.ref a)
  have k5 := am_list_getattr_none
  unfold getAttr? getAttrBy? getAttrBy
  repeat (any_goals (first | assumption | exact tT _ | ((with_reducible show wpAny _ _ (call (Value.builtin "list.__getattribute__") _ _) _ _ _); refine call_meets F.slot_list_getattribute (tT _) am_entry_list_getattribute (F.args_list_getattribute_2 _ _) (meets_getattribute_miss_list a xs k sl "keys" _ wm (by decide +kernel)) ⟨hx, hA, fun h' tk' e hx' => ?_⟩) | wp_step))
  obtain ⟨t', u', he⟩ := hx'.there
  show wpAny _ _ (getattributeRaised _ _ _ _ _ _ _) _ _ _
  unfold getattributeRaised
  repeat (any_goals (first | assumption | wp_step))
  exact q _ _ _ hx'.of
theorem vT (hh : A.handled = none) {R : Result → Shared → Prop} {d it l : Addr} (hdi : d ≠ it) (hdl : l ≠ d) (hli : l ≠ it) {items : List Value} {rs : List (κ × Value)} {s0 : Shared}
    (hit0 : ∀ (i : Nat) (x : Value), items[i]? = some x → ∃ (p : Addr) (k : κ) (v key : Value), x = .ref p ∧ p ≠ d ∧ p ≠ it ∧ s0.heap.IsTuple p #[key, v] ∧ rs[i]? = some (k, v) ∧ knd.is k key = true)
    (hlen : rs.length = items.length) (hnd : (rs.map (·.1)).Nodup) (hsz : rs.length ≤ sizeLine) (hl0 : s0.heap.IsList l items.toArray)
    (hR : ∀ h' tk, h'.DictOf knd d rs → (∀ b o, b ≠ it → b ≠ d → s0.heap.get? b = some o → h'.get? b = some o) → R (.ok (.ret .none)) { s0 with heap := h', toks := tk }) :
    ∀ (n i : Nat) (h : Heap) (tk : Nat), items.length = i + n → h.IsListIter it l i → h.DictOf knd d (rs.take i) → (∀ b o, b ≠ it → b ≠ d → s0.heap.get? b = some o → h.get? b = some o) →
      codeAny (model prog w) A (.builtin "dict.update.loop" ⟨[.ref d, .ref it, rawInt i, .none], []⟩) R { s0 with heap := h, toks := tk }
  | 0, i, h, tk, e, hi, hd, hk => by
    have hl : h.IsList l items.toArray := by
      obtain ⟨o, g, c⟩ := hl0
      exact ⟨o, hk l o hli hdl g, c⟩
    refine codeAny_builtin yM ?_
    unfold Builtin.«dict.update.loop»
    refine wpAny_bind (wpAny_pyNext_list_end (A := A.under _) hh hi hl (by simp; omega) fun h' eb => ?_)
    have hd' : h'.DictOf knd d rs := by
      have := hd.extBut eb hdi
      rwa [List.take_of_length_le (by omega)] at this
    exact wpAny_bind (wpAny_pure (wpAny_pure (hR h' tk hd' fun b o n1 n2 g => eb b o n1 (hk b o n1 n2 g))))
  | n + 1, i, h, tk, e, hi, hd, hk => by
    have hl : h.IsList l items.toArray := by
      obtain ⟨o, g, c⟩ := hl0
      exact ⟨o, hk l o hli hdl g, c⟩
    obtain ⟨x, hx⟩ : ∃ x, items[i]? = some x := ⟨items[i]'(by omega), by simp⟩
    obtain ⟨p, k, v, key, rfl, np, npi, ⟨o, go, oc, m, od⟩, hr, hkey⟩ := hit0 i x hx
    refine codeAny_builtin yM ?_
    unfold Builtin.«dict.update.loop»
    refine wpAny_bind (wpAny_pyNext_list_item hi hl (by simpa using hx) fun h' hi' sb => ?_)
    have gp : h'.get? p = some o := (sb.2 p npi).trans (hk p o npi np go)
    refine wpAny_bind (wpAny_holding ?_)
    refine wpAny_bind (wpAny_tryCatch ?_)
    unfold Builtin.Dict.pairItems
    refine wpAny_bind (wpAny_typeOf (s := { s0 with heap := h', toks := tk }) (T := "tuple") ⟨o, gp, oc⟩ ?_)
    rw [if_pos (by decide)]
    refine wpAny_bind (wpAny_seqItems (s := { s0 with heap := h', toks := tk }) gp od (wpAny_pure ?_))
    show wpAny _ _ (holding [key, v] (dictSet d key v)) _ _ _
    refine wpAny_holding (wpAny_dictSet_pairs (s := { s0 with heap := h', toks := tk }) (hsz := by rw [List.length_take]; omega) hkey (hd.sameBut sb hdi) fun h2 hd2 sb2 => ?_)
    refine wpAny_pure ⟨Code.quiet_builtin _ (by decide +kernel), ?_⟩
    have est : stored (rs.take i) k v = rs.take (i + 1) := by
      rw [List.take_add_one, hr]
      unfold stored
      rw [if_neg]
      · rfl
      · intro z
        obtain ⟨y, hy, ey⟩ := List.any_eq_true.mp z
        have ey : y.1 = k := of_decide_eq_true ey
        obtain ⟨j, hj, rfl⟩ := List.getElem_of_mem hy
        rw [List.length_take] at hj
        have hi2 := (List.getElem?_eq_some_iff.mp hr)
        obtain ⟨hi3, hi4⟩ := hi2
        refine List.pairwise_iff_getElem.mp hnd j i (by rw [List.length_map]; omega) (by rw [List.length_map]; omega) (by omega) ?_
        simp only [List.getElem_map]
        rw [hi4]
        simpa using ey
    rw [est] at hd2
    have := vT hh hdi hdl hli hit0 hlen hnd hsz hl0 hR n (i + 1) h2 (tk + 1) (by omega) (hi'.at fun o g => (sb2.2 it (Ne.symm hdi)).trans g) hd2 fun b o n1 n2 g => (sb2.2 b n2).trans ((sb.2 b n1).trans (hk b o n1 n2 g))
    exact this
theorem xO {s : Shared} {Q : Value → Shared → Prop} {l : Addr} {ol : Obj} {n : Nat} {items : List Value} {rs : List (κ × Value)} (hh : A.handled = none) (hl : s.heap.get? l = some ol) (hc : ol.cls = .type "list") (hdat : ol.data = .seq items.toArray n) (hdd : ol.dict = none)
    (hit0 : ∀ (i : Nat) (x : Value), items[i]? = some x → ∃ (p : Addr) (k : κ) (v key : Value), x = .ref p ∧ s.heap.IsTuple p #[key, v] ∧ rs[i]? = some (k, v) ∧ knd.is k key = true)
    (hlen : rs.length = items.length) (hnd : (rs.map (·.1)).Nodup) (hsz : rs.length ≤ sizeLine)
    (q : ∀ h' tk, h'.DictOf knd s.heap.objs.size rs → (∀ b o, s.heap.get? b = some o → h'.get? b = some o) → Q (.ref s.heap.objs.size) { s with heap := h', toks := tk }) :
    wpAny (model prog w) A (call (.type "dict") [.ref l]) Q E s := by
  refine callType_codes (Q₁ := fun obj s₁ => obj = .ref s.heap.objs.size ∧ s₁ = { s with heap := s.heap.push { cls := .type "dict", data := .dict #[] } }) F.kt_called_dict (F.kt_typeCall_dict_1 _) F.entry_dict_init (kt_code_dict_new _ ⟨rfl, rfl⟩) ?_
  rintro obj s₁ ⟨rfl, rfl⟩
  have hnew : (s.heap.push { cls := .type "dict", data := .dict #[] }).DictOf knd s.heap.objs.size [] := Heap.DictOf.new s.heap
  have hl1 := Heap.get?_push_of_some { cls := .type "dict", data := .dict #[] } hl
  refine ⟨hnew.typeIs, F.args_dict_init_2 _ _, ?_⟩
  unfold Builtin.«dict.__init__»
  refine wpAny_bind ?_
  unfold Builtin.Dict.selfAndRest
  refine wpAny_bind (wpAny_notOrdered_dict hnew.typeIs ?_)
  show wpAny _ _ (pure (s.heap.objs.size, [Value.ref l])) _ _ _
  refine wpAny_pure ?_
  show wpAny _ _ (Builtin.Dict.updateFrom "dict.__init__" s.heap.objs.size (.ref l) [] .none) _ _ _
  unfold Builtin.Dict.updateFrom
  refine wpAny_bind (wpAny_typeOf (s := { s with heap := s.heap.push { cls := .type "dict", data := .dict #[] } }) (T := "list") ⟨ol, hl1, hc⟩ ?_)
  rw [if_pos (by decide)]
  refine wpAny_bind (vB (s := { s with heap := s.heap.push { cls := .type "dict", data := .dict #[] } }) hl1 hc hdat hdd (show A.in1.in1.handled = none from hh) fun h1 tk1 e1 new => ?_)
  simp only [Option.isNone_none, if_true]
  have kp : ∀ b o, (s.heap.push { cls := .type "dict", data := .dict #[] }).get? b = some o → h1.get? b = some o := new.keeps
  have hl2 := kp _ _ hl1
  refine wpAny_bind (wpAny_rule ?_)
  refine wpAny_bind (wpAny_pyIter_list (s := { s with heap := h1, toks := tk1 }) ⟨ol, hl2, hc, n, hdat⟩ ?_)
  refine wpAny_pure ⟨Code.quiet_builtin _ (by decide +kernel), ?_⟩
  have lt : ∀ {b o}, s.heap.get? b = some o → b < s.heap.objs.size := fun g => Heap.lt_size g
  obtain ⟨od, _, _, god, _⟩ := id hnew
  have ltd : s.heap.objs.size < h1.objs.size := Heap.lt_size (kp _ _ god)
  have up : ∀ b o, s.heap.get? b = some o → (h1.push { cls := .type "list_iterator", data := .fields #[.ref l, .int 0 0] }).get? b = some o := fun b o g => Heap.get?_push_of_some _ (kp b o (Heap.get?_push_of_some _ g))
  have hd0 : (h1.push { cls := .type "list_iterator", data := .fields #[.ref l, .int 0 0] }).DictOf knd s.heap.objs.size (rs.take 0) := by
    obtain ⟨o, es, ep, g, r⟩ := hnew
    exact ⟨o, es, ep, Heap.get?_push_of_some _ (kp _ _ g), r⟩
  refine vT (s0 := { s with heap := h1.push { cls := .type "list_iterator", data := .fields #[.ref l, .int 0 0] }, toks := tk1 }) (A := A.in1) (show A.in1.handled = none from hh) (d := s.heap.objs.size) (it := h1.objs.size) (l := l) (Nat.ne_of_lt ltd) (Nat.ne_of_lt (lt hl)) (Nat.ne_of_lt (Nat.lt_trans (lt hl) ltd)) (items := items) (rs := rs) (fun i x hx => ?_) hlen hnd hsz ⟨ol, up _ _ hl, hc, n, hdat⟩ (fun h' tk dd kk => ⟨rfl, ?_⟩) items.length 0 _ tk1 (by simp) ⟨_, Heap.get?_push_size _ rfl, rfl, rfl⟩ hd0 fun b o _ _ g => g
  · obtain ⟨p, k, v, key, e, ⟨o, g, c⟩, r, hk⟩ := hit0 i x hx
    exact ⟨p, k, v, key, e, Nat.ne_of_lt (lt g), Nat.ne_of_lt (Nat.lt_trans (lt g) ltd), ⟨o, up _ _ g, c⟩, r, hk⟩
  · exact q h' tk dd fun b o g => kk b o (Nat.ne_of_lt (Nat.lt_trans (lt g) ltd)) (Nat.ne_of_lt (lt g)) (up b o g)
end
def Dc : List V → Hp → VK → Prop := fun xs H Q => ∃ (l : Addr) (ps : List Addr) (kvs : List (Key × V)), xs = [.ref l] ∧ H l = some (.lst (ps.map V.ref)) ∧ ps.length = kvs.length ∧ (∀ (i : Nat) (p : Addr) (kv : Key × V), ps[i]? = some p → kvs[i]? = some kv → H p = some (.tup [kV kv.1, kv.2])) ∧ (kvs.map (·.1)).Nodup ∧ kvs.length ≤ sizeLine ∧ ∀ p, H p = none → Q (.ref p) (upd H p (.dK kvs))
theorem tF {P : Program} {w : World} {H : Hp} {h : Heap} (ok : HOk P w H h) : ∀ {ps : List Addr} {kvs : List (Key × V)}, ps.length = kvs.length → (∀ (i : Nat) (p : Addr) (kv : Key × V), ps[i]? = some p → kvs[i]? = some kv → H p = some (.tup [kV kv.1, kv.2])) →
    ∃ rs : List (Key × Value), KV kvs rs ∧ ∀ (i : Nat) (x : Value), (ps.map Value.ref)[i]? = some x → ∃ (p : Addr) (k : Key) (v key : Value), x = .ref p ∧ h.IsTuple p #[key, v] ∧ rs[i]? = some (k, v) ∧ (zK P w).is k key = true
  | [], [], _, _ => ⟨[], .nil, fun i x e => by simp at e⟩
  | [], _ :: _, e, _ => by cases e
  | _ :: _, [], e, _ => by cases e
  | p :: ps, kv :: kvs, e, hp => by
    obtain ⟨rs, r, hr⟩ := tF ok (ps := ps) (kvs := kvs) (by simpa using e) fun i p' kv' h1 h2 => hp (i + 1) p' kv' h1 h2
    obtain ⟨_, its, rv, tp⟩ := ok p _ (hp 0 p kv rfl rfl)
    obtain ⟨key, v, rfl, rk, rv⟩ := Vals.two rv
    refine ⟨(kv.1, v) :: rs, .cons ⟨rfl, rv⟩ r, fun i x hx => ?_⟩
    cases i with
    | zero =>
      have : x = .ref p := (Option.some.inj hx).symm
      subst this
      exact ⟨p, kv.1, v, key, rfl, tp, rfl, Bw rk⟩
    | succ i => exact hr i x hx
theorem BF : ∀ {ps : List Addr} {its : List Value}, Vals (ps.map V.ref) its → its = ps.map Value.ref
  | [], _, r => by cases r; rfl
  | p :: ps, _, r => by
    cases r with
    | cons r1 r2 =>
      cases r1
      rw [BF r2]
      rfl
theorem tQ {X : Cx} (hc : X.calm = true) : yE X (.type "dict") Dc := by
  intro pins s σ H xs us Q I r h
  obtain ⟨l, ps, kvs, rfl, el, hlen, hps, hnd, hsz, q⟩ := h
  obtain ⟨u, rfl, ru⟩ := Vals.one r
  cases ru
  obtain ⟨_, its, n, rv, gl⟩ := id (I.hok l _ el)
  have := BF rv
  subst this
  obtain ⟨rs, rr, hr⟩ := tF I.hok hlen hps
  have hl := rr.length
  refine xO (I.ok.hd hc) gl rfl rfl rfl hr (by rw [List.length_map]; omega) (by rw [← rr.keys]; exact hnd) (by omega) fun h' tk dd kk => ?_
  refine ⟨.ref s.heap.objs.size, _, I.laid (a := s.heap.objs.size) (o := .dK kvs) (t' := tk) kk (Nat.le_refl _) (AU hsz (beq_eq_false_iff_ne.mpr (Ne.symm (Nat.ne_of_lt I.big))) rr dd), rfl, q _ (I.hok.fresh (Nat.le_refl _))⟩
end L2
namespace L2
open PySem PySem.Spec PyProof.Rows Bg
section
variable {prog : Program} {w : World} {κ : Type} [DecidableEq κ] {knd : KeyKind prog w κ} {A : Around} {E : Value → Shared → Prop}
end
end L2
namespace L2
open PySem PySem.Spec PyProof.Rows Bg
section
variable {X : Cx}
end
end L2
namespace L2
open PySem PySem.Spec PyProof.Rows Bg
section
variable {X : Cx} {e : Expr} {te : TE} {p1 p2 pos pos2 : Pos}
end
end L2
namespace L2
theorem zE {t : TS} {D : Ends} {σ σ' : St} {H : Hp} (e : σ = σ') (h : t D σ' H) : t D σ H := e ▸ h
theorem EC {t u : TS} {D : Ends} {σ : St} {H : Hp} (h : ∀ N : St → Hp → Prop, (∀ σ' H', u D σ' H' → N σ' H') → t { D with nx := N } σ H) : tSeq t u D σ H := h (u D) fun _ _ h => h
end L2
open PySem PySem.Spec PyProof.Rows L2 Bg
local macro_rules | `(tactic| walk_at "bd") => `(tactic| first | assumption | ((with_reducible show Bd _ (-_)); exact Bd.neg (by walk_at "bd")) | ((with_reducible show Bd _ (_ * _)); exact Bd.mul (by walk_at "bd") (by walk_at "bd")) | ((with_reducible show Bd _ (_ + _)); exact xD (by walk_at "bd") (by walk_at "bd")) | ((with_reducible show Bd _ (_ - _)); exact Ew (by walk_at "bd") (by walk_at "bd")) | ((with_reducible show Bd _ (_ ^ _)); exact bd_powx (by walk_at "bd")) | ((with_reducible show Bd _ (_ / _)); exact DK (by walk_at "bd")) | ((with_reducible show Bd _ (_ % _)); exact Ee (by walk_at "bd") (by decide +kernel)) | ((with_reducible show Bd _ (Int.fdiv _ _)); exact Bd.fdiv (by walk_at "bd") _) | exact Bd.abs (by walk_at "bd") | exact wc _)
local macro_rules | `(tactic| walk_at "cd") => `(tactic| first | assumption | decide | omega | exact ⟨by decide, by decide +kernel⟩ | exact Bd.ok (by walk_at "bd") (by walk_at "bd") (by decide +kernel) | exact cpw_of (by walk_at "bd") (by decide) (by decide +kernel) | decide +kernel)
local macro_rules | `(tactic| walk_at "rd") => `(tactic| first | ((with_reducible refine EC ?_); intro _ _) | with_reducible refine i_asg ?_ | ((with_reducible refine i_gname ?_); try dsimp only [List.set_cons_zero, List.set_cons_succ]) | with_reducible refine i_ret ?_ | with_reducible refine i_drop ?_ | with_reducible refine i_ifS ?_ | with_reducible refine i_next ?_ | ((with_reducible show tVar _ _ _ _); refine i_var rfl ?_) | with_reducible refine i_c ?_ | with_reducible refine i_op ?_ | with_reducible refine i_un ?_ | with_reducible refine i_I0 ?_ | ((with_reducible show rI _ _ (V.int _) (V.int _) _ _); first | refine i_I ?_ (by walk_at "cd") | refine i_I ?_ ?c) | with_reducible refine i_U ?_ | with_reducible refine Ht ?_ | with_reducible refine G7 ?_ | with_reducible refine GT ?_ | with_reducible refine i_neB ?_ | with_reducible refine Gj ?_ | with_reducible refine i_tB ?_ | with_reducible refine i_bl ?_ | with_reducible refine GS ?_ | with_reducible refine i_or ?_ | with_reducible refine G4 ?_ | with_reducible refine Fn ?_ | with_reducible refine Hr ?_ | with_reducible refine FE ?_ | with_reducible refine G3 ?_ | with_reducible refine GJ ?_ | with_reducible refine FJ ?_ | with_reducible refine ER ?_ | with_reducible refine i_callK ?_ | with_reducible refine i_cb ?_ | with_reducible refine G5 ?_ | with_reducible refine Gw ?_ | with_reducible refine if_t ?_ | with_reducible refine if_f ?_ | with_reducible refine Fk ?_ | with_reducible refine Gv ?_ | with_reducible refine GV ?_ | with_reducible refine Fr ?_ | with_reducible refine Gs ?_ | with_reducible refine Fq ?_ | with_reducible refine B9 ?_ | with_reducible refine An ?_ | with_reducible refine i_is_bool ?_ | with_reducible refine CA (by assumption) ?_ | with_reducible refine Gd (by assumption) ?_ | with_reducible refine Fz (by assumption) ?_ | ((with_reducible show rIxT _ (V.ref _) (V.int _) _ _); first | refine uF (by assumption) (by rfl) ?_ | refine GK (by assumption) (by rfl) ?_) | ((with_reducible show rIxL _ (V.ref _) (V.int _) _ _); refine zU (by assumption) (by rfl) ?_) | with_reducible refine i_bm ?_ | with_reducible refine G9 (by assumption) ?_ | with_reducible refine i_sl ?_ | with_reducible refine BY ?_ | with_reducible refine Gc ?_ | with_reducible refine GE ?_ | with_reducible refine i_isN ?_ | with_reducible refine FZ ?_ | ((with_reducible show gTup _ _ _ (V.ref _) _ _ _); refine FO (by assumption) (by rfl) ?_) | with_reducible refine Et ?_ | with_reducible refine Fv ?_ | with_reducible refine GA ?_ | with_reducible refine (show ∀ σ' H', _ → _ from by assumption) _ _ ?_)
local macro_rules | `(tactic| walk_at "mm") => `(tactic| repeat first | exact List.mem_cons_self | refine List.mem_cons_of_mem _ ?_)
local macro_rules | `(tactic| walk_at "rd") => `(tactic| first | with_reducible refine GR ?_ | with_reducible refine Gz ?_ | with_reducible refine i_neS ?_ | with_reducible refine CB ?_ | with_reducible refine GG ?_ | with_reducible refine i_fF ?_ | with_reducible refine i_fVal0 ?_ | with_reducible refine i_fInt0 ?_ | with_reducible refine i_tyS ?_ | with_reducible refine Gy ?_ | with_reducible refine Fu ?_)
local macro_rules | `(tactic| walk_at "b8") => `(tactic| first | assumption | decide +kernel | exact Bd.mono (by walk_at "bd") (by decide +kernel))
local macro_rules | `(tactic| walk_at "r") => `(tactic| repeat walk_at "rd")
set_option maxHeartbeats 4000000
namespace Bk
open PySem PySem.Spec PyProof.Rows L2 Bg
def top (i : Nat) : Stmt := PySem.Challenge.pw_boardglue_k54_one_table_one_normal.main.body.getD i (.Pass ⟨0, 0, 0, 0⟩)
abbrev s_is_whole : Stmt := top 12
abbrev s_common_divisor : Stmt := top 13
abbrev s_with_sign_of : Stmt := top 16
abbrev s_length : Stmt := top 17
abbrev s_by_parts : Stmt := top 18
abbrev s_added : Stmt := top 19
abbrev s_taken : Stmt := top 20
abbrev s_timed : Stmt := top 21
abbrev s_is_above_nought : Stmt := top 22
abbrev s_under : Stmt := top 23
abbrev s_first_base : Stmt := top 25
abbrev s_next_base : Stmt := top 26
abbrev s_crossed : Stmt := top 27
abbrev s_counts : Stmt := top 28
abbrev s_common_bottom : Stmt := top 29
abbrev s_serving : Stmt := top 30
abbrev s_times_over : Stmt := top 32
abbrev s_normal_heap : Stmt := top 33
abbrev s_is_length : Stmt := top 35
abbrev s_is_deed : Stmt := top 41
abbrev s_names_taken : Stmt := top 42
abbrev s_turned : Stmt := top 43
abbrev s_cut_across : Stmt := top 44
abbrev s_glued_beside : Stmt := top 45
abbrev s_stacked : Stmt := top 46
abbrev s__law_cell : Stmt := top 49
abbrev s__law_digits : Stmt := top 50
abbrev s__law_divisor : Stmt := top 51
abbrev s__law_root : Stmt := top 52
abbrev s__law_fraction : Stmt := top 53
abbrev s__law_above : Stmt := top 54
abbrev s__law_side : Stmt := top 55
abbrev s__law_length : Stmt := top 56
abbrev s__law_heap : Stmt := top 57
abbrev s__law_tab : Stmt := top 58
abbrev s__law_like : Stmt := top 59
abbrev s__law_pair : Stmt := top 60
abbrev s__law_done : Stmt := top 61
abbrev s_law : Stmt := top 62
abbrev s_Yard___init__ : Stmt := xi (top 47) 0
abbrev s_Yard_do : Stmt := xi (top 47) 1
abbrev s_Yard_check_names : Stmt := xi (top 47) 2
abbrev s_Yard_put_by : Stmt := xi (top 47) 3
abbrev s_Yard_boards : Stmt := xi (top 47) 5
abbrev s_Yard_heap : Stmt := xi (top 47) 6
structure Bl (mg : Str → Option Value) : Prop where
  ValueError : mg "ValueError" = none
  abs : mg "abs" = none
  all : mg "all" = none
  bool : mg "bool" = none
  dict : mg "dict" = none
  int : mg "int" = none
  isinstance : mg "isinstance" = none
  len : mg "len" = none
  list : mg "list" = none
  min : mg "min" = none
  range : mg "range" = none
  str : mg "str" = none
  tuple : mg "tuple" = none
theorem BJ : bootBuiltins "abs" = some (.builtin "abs") := by decide +kernel
theorem EQ : bootBuiltins "all" = some (.builtin "all") := by decide +kernel
theorem DN : bootBuiltins "bool" = some (.type "bool") := by decide +kernel
theorem DJ : bootBuiltins "dict" = some (.type "dict") := by decide +kernel
theorem Dl : bootBuiltins "int" = some (.type "int") := by decide +kernel
theorem zV : bootBuiltins "isinstance" = some (.builtin "isinstance") := by decide +kernel
theorem Dy : bootBuiltins "list" = some (.type "list") := by decide +kernel
theorem C2 : bootBuiltins "min" = some (.builtin "min") := by decide +kernel
theorem F7 : bootBuiltins "str" = some (.type "str") := by decide +kernel
theorem wF : bootBuiltins "tuple" = some (.type "tuple") := by decide +kernel
structure Cs where
  YardError : Addr
  NoLength : Addr
  NoDeed : Addr
  NoName : Addr
  Grain : Addr
  Unfit : Addr
  Yard : Addr
structure Xs (K : PySem.W.Frag) (mg : Str → Option Value) (cs : Cs) : Prop where
  m_YardError : mg "YardError" = some (.ref cs.YardError)
  m_NoLength : mg "NoLength" = some (.ref cs.NoLength)
  m_NoDeed : mg "NoDeed" = some (.ref cs.NoDeed)
  m_NoName : mg "NoName" = some (.ref cs.NoName)
  m_Grain : mg "Grain" = some (.ref cs.Grain)
  m_Unfit : mg "Unfit" = some (.ref cs.Unfit)
  m_Yard : mg "Yard" = some (.ref cs.Yard)
  c_Yard : Cls K cs.Yard
  n_Yard_root : NoAttr K cs.Yard "root"
  n_Yard_turning : NoAttr K cs.Yard "turning"
  n_Yard_known : NoAttr K cs.Yard "known"
  n_Yard_lying : NoAttr K cs.Yard "lying"
  n_Yard_done : NoAttr K cs.Yard "done"
def Rep (D : Int) (M : Nat) (s : Sd) : Prop := ∃ X Y : Int, Bd M X ∧ Bd M Y ∧ s.x * D = X * s.z ∧ s.y * D = Y * s.z
structure So (d D : Int) (M : Nat) (s : Sd) : Prop where
  z1 : 1 ≤ s.z
  g : g3 s.x s.y s.z = 1
  up : sgn d s.x s.y = 1
  r : Rep D M s
theorem So.sk {d D : Int} {M K : Nat} {s : Sd} (h : So d D M s) (hD : 1 ≤ D) (bD : Bd K D) : SK M K s := by
  obtain ⟨X, Y, bX, bY, hx, hy⟩ := h.r
  obtain ⟨e1, e2, e3⟩ := zL h.z1 h.g (show D ≠ 0 by omega) hx hy
  refine ⟨h.z1, h.g, ?_, ?_, ?_⟩
  · rw [e1]
    exact bX.fdiv _
  · rw [e2]
    exact bY.fdiv _
  · rw [e3]
    exact bD.fdiv _
theorem So.ne {d D : Int} {M : Nat} {s : Sd} (h : So d D M s) : s.z ≠ 0 := by have := h.z1; omega
theorem So.scale {d D k : Int} {M j : Nat} {s : Sd} (h : So d D M s) (bk : Bd j k) : So d (D * k) (M + j) s := by
  obtain ⟨X, Y, bX, bY, hx, hy⟩ := h.r
  exact ⟨h.z1, h.g, h.up, X * k, Y * k, bX.mul bk, bY.mul bk, by rw [← Int.mul_assoc, hx]; grind, by rw [← Int.mul_assoc, hy]; grind⟩
theorem So.mono {d D : Int} {M M' : Nat} {s : Sd} (h : So d D M s) (l : M ≤ M') : So d D M' s := by
  obtain ⟨X, Y, bX, bY, hx, hy⟩ := h.r
  exact ⟨h.z1, h.g, h.up, X, Y, bX.mono l, bY.mono l, hx, hy⟩
theorem yl {a b c e : Int} (hb : b ≠ 0) (he : e ≠ 0) (h : a * e = c * b) : Rat.divInt a b = Rat.divInt c e := (Rat.divInt_eq_divInt_iff hb he).mpr h
def BoD (d D : Int) (M : Nat) (b : Bo) : Prop := So d D M b.w ∧ So d D M b.h
theorem vf {a b E : Int} (hE : E ≠ 0) : Rat.divInt a E + Rat.divInt b E = Rat.divInt (a + b) E := by
  rw [← A1 hE hE]
  refine yl (Int.mul_ne_zero hE hE) hE ?_
  grind
def tkS (s t : Sd) : Sd := ⟨lA (s.x * t.z + -t.x * s.z) (s.y * t.z + -t.y * s.z) (s.z * t.z), lB (s.x * t.z + -t.x * s.z) (s.y * t.z + -t.y * s.z) (s.z * t.z), lN (s.x * t.z + -t.x * s.z) (s.y * t.z + -t.y * s.z) (s.z * t.z)⟩
def shS (s : Sd) (m k : Int) : Sd := ⟨lA (s.x * m) (s.y * m) (s.z * k), lB (s.x * m) (s.y * m) (s.z * k), lN (s.x * m) (s.y * m) (s.z * k)⟩
theorem xJ {a b n D X Y : Int} (hn : n ≠ 0) (h1 : a * D = X * n) (h2 : b * D = Y * n) : lA a b n * D = X * lN a b n ∧ lB a b n * D = Y * lN a b n := by
  have e1 := l_a (a := a) (b := b) (n := n)
  have e2 := l_b (a := a) (b := b) (n := n)
  constructor
  · refine vA hn ?_
    have : lA a b n * D * n = (lA a b n * n) * D := by grind
    rw [this, e1]
    have : a * lN a b n * D = (a * D) * lN a b n := by grind
    rw [this, h1]
    grind
  · refine vA hn ?_
    have : lB a b n * D * n = (lB a b n * n) * D := by grind
    rw [this, e2]
    have : b * lN a b n * D = (b * D) * lN a b n := by grind
    rw [this, h2]
    grind
theorem Gr {d D : Int} {M : Nat} {s t : Sd} (hR : Rt d) (h : So d D M s) (h' : So d D M t) (up : sgn d (tkS s t).x (tkS s t).y = 1) : So d D (M + 1) (tkS s t) := by
  obtain ⟨X, Y, bX, bY, hx, hy⟩ := h.r
  obtain ⟨X', Y', bX', bY', hx', hy'⟩ := h'.r
  have hn : s.z * t.z ≠ 0 := Int.mul_ne_zero h.ne h'.ne
  obtain ⟨r1, r2⟩ := xJ (a := s.x * t.z + -t.x * s.z) (b := s.y * t.z + -t.y * s.z) (n := s.z * t.z) (D := D) (X := X - X') (Y := Y - Y') hn (by grind) (by grind)
  exact ⟨l_n hn, xn hn, up, X - X', Y - Y', bX.sub bX', bY.sub bY', r1, r2⟩
theorem Dx {d D : Int} {M : Nat} {s t : Sd} (hR : Rt d) (h : So d D M s) (h' : So d D M t) : So d D (M + 1) (adS s t) := by
  obtain ⟨X, Y, bX, bY, hx, hy⟩ := h.r
  obtain ⟨X', Y', bX', bY', hx', hy'⟩ := h'.r
  have hn : s.z * t.z ≠ 0 := Int.mul_ne_zero h.ne h'.ne
  have hn1 : 1 ≤ s.z * t.z := Int.mul_pos (by have := h.z1; omega) (by have := h'.z1; omega)
  obtain ⟨r1, r2⟩ := xJ (a := s.x * t.z + t.x * s.z) (b := s.y * t.z + t.y * s.z) (n := s.z * t.z) (D := D) (X := X + X') (Y := Y + Y') hn (by grind) (by grind)
  refine ⟨l_n hn, xn hn, ?_, X + X', Y + Y', bX.add bX', bY.add bY', r1, r2⟩
  refine (yv hR hn1).trans (wT hR ?_ ?_)
  · exact (yy hR (k := 1) (m := t.z) (by decide) (by have := h'.z1; omega) (by grind) (by grind)).trans h.up
  · exact (yy hR (k := 1) (m := s.z) (by decide) (by have := h.z1; omega) (by grind) (by grind)).trans h'.up
theorem DC {d D m k : Int} {M j : Nat} {s : Sd} (hR : Rt d) (h : So d D M s) (m1 : 1 ≤ m) (k1 : 1 ≤ k) (bm : Bd j m) : So d (D * k) (M + j) (shS s m k) := by
  obtain ⟨X, Y, bX, bY, hx, hy⟩ := h.r
  have hn : s.z * k ≠ 0 := Int.mul_ne_zero h.ne (by omega)
  have hn1 : 1 ≤ s.z * k := Int.mul_pos (by have := h.z1; omega) (by omega)
  obtain ⟨r1, r2⟩ := xJ (a := s.x * m) (b := s.y * m) (n := s.z * k) (D := D * k) (X := X * m) (Y := Y * m) hn (by grind) (by grind)
  refine ⟨l_n hn, xn hn, ?_, X * m, Y * m, bX.mul bm, bY.mul bm, r1, r2⟩
  exact (yv hR hn1).trans ((yy hR (k := 1) (m := m) (by decide) (by omega) (by grind) (by grind)).trans h.up)
theorem GN {d m k : Int} {s : Sd} (hR : Rt d) (z1 : 1 ≤ s.z) (up : sgn d s.x s.y = 1) (m1 : 1 ≤ m) (hk : m < k) : sgn d (tkS s (shS s m k)).x (tkS s (shS s m k)).y = 1 := by
  have hn : s.z * k ≠ 0 := Int.mul_ne_zero (by omega) (by omega)
  have e1 : (shS s m k).x * (s.z * k) = s.x * m * (shS s m k).z := l_a
  have e2 : (shS s m k).y * (s.z * k) = s.y * m * (shS s m k).z := l_b
  have f1 : 1 ≤ (shS s m k).z := l_n hn
  generalize hx : (shS s m k).x = fx at *
  generalize hy : (shS s m k).y = fy at *
  generalize hz : (shS s m k).z = fz at *
  have hn1 : 1 ≤ s.z * fz := Int.mul_pos (by omega) (by omega)
  have t1 : (tkS s (shS s m k)).x = lA (s.x * fz + -fx * s.z) (s.y * fz + -fy * s.z) (s.z * fz) := by
    unfold tkS
    rw [hx, hy, hz]
  have t2 : (tkS s (shS s m k)).y = lB (s.x * fz + -fx * s.z) (s.y * fz + -fy * s.z) (s.z * fz) := by
    unfold tkS
    rw [hx, hy, hz]
  rw [t1, t2, yv hR hn1]
  refine (yy hR (k := k) (m := fz * (k - m)) (by omega) (Int.mul_pos (by omega) (by omega)) ?_ ?_).trans up
  · clear t1 t2 hn1 hn up
    grind
  · clear t1 t2 hn1 hn up
    grind
theorem FP {s t : Sd} (hs : s.z ≠ 0) (ht : t.z ≠ 0) : (tkS s t).p = s.p - t.p ∧ (tkS s t).q = s.q - t.q := by
  have hn : s.z * t.z ≠ 0 := Int.mul_ne_zero hs ht
  obtain ⟨h1, h2⟩ := xl (a := s.x * t.z + -t.x * s.z) (b := s.y * t.z + -t.y * s.z) hn
  constructor
  · show Rat.divInt (lA _ _ _) (lN _ _ _) = _
    rw [h1, A1 hs ht, ← Rat.neg_divInt, Rat.sub_eq_add_neg]
    rfl
  · show Rat.divInt (lB _ _ _) (lN _ _ _) = _
    rw [h2, A1 hs ht, ← Rat.neg_divInt, Rat.sub_eq_add_neg]
    rfl
theorem Fy {s t : Sd} (hs : s.z ≠ 0) (ht : t.z ≠ 0) : (adS s t).p = s.p + t.p ∧ (adS s t).q = s.q + t.q := by
  have hn : s.z * t.z ≠ 0 := Int.mul_ne_zero hs ht
  obtain ⟨h1, h2⟩ := xl (a := s.x * t.z + t.x * s.z) (b := s.y * t.z + t.y * s.z) hn
  constructor
  · show Rat.divInt (lA _ _ _) (lN _ _ _) = _
    rw [h1, A1 hs ht]
    rfl
  · show Rat.divInt (lB _ _ _) (lN _ _ _) = _
    rw [h2, A1 hs ht]
    rfl
theorem Cf {s : Sd} {m k : Int} (hs : s.z ≠ 0) (hk : k ≠ 0) : (shS s m k).p = s.p * Rat.divInt m k ∧ (shS s m k).q = s.q * Rat.divInt m k := by
  have hn : s.z * k ≠ 0 := Int.mul_ne_zero hs hk
  obtain ⟨h1, h2⟩ := xl (a := s.x * m) (b := s.y * m) hn
  constructor
  · show Rat.divInt (lA _ _ _) (lN _ _ _) = _
    rw [h1, wN]
    rfl
  · show Rat.divInt (lB _ _ _) (lN _ _ _) = _
    rw [h2, wN]
    rfl
theorem Hq {w h f : Sd} (hw : w.z ≠ 0) (hf : f.z ≠ 0) : (⟨f, h⟩ : Bo).tb.add (⟨tkS w f, h⟩ : Bo).tb = (⟨w, h⟩ : Bo).tb := by
  obtain ⟨e1, e2⟩ := FP hw hf
  refine Tb.ext ?_ ?_ ?_ ?_ <;> simp only [Tb.add, Bo.tb, e1, e2] <;> grind
theorem GM {w h f : Sd} (hh : h.z ≠ 0) (hf : f.z ≠ 0) : (⟨w, f⟩ : Bo).tb.add (⟨w, tkS h f⟩ : Bo).tb = (⟨w, h⟩ : Bo).tb := by
  obtain ⟨e1, e2⟩ := FP hh hf
  refine Tb.ext ?_ ?_ ?_ ?_ <;> simp only [Tb.add, Bo.tb, e1, e2] <;> grind
theorem BG {m : Int} (hm : m ≠ 0) : Rat.divInt 1 m * Rat.divInt m 1 = 1 := by
  rw [← wN]
  refine (yl (c := 1) (e := 1) (Int.mul_ne_zero hm (by decide)) (by decide) (by grind)).trans ?_
  decide +kernel
theorem Hu {w h : Sd} {m : Int} (hw : w.z ≠ 0) (hh : h.z ≠ 0) (hm : m ≠ 0) : (⟨shS w 1 m, shS h m 1⟩ : Bo).tb = (⟨w, h⟩ : Bo).tb := by
  obtain ⟨e1, e2⟩ := Cf (m := 1) (k := m) hw hm
  obtain ⟨e3, e4⟩ := Cf (m := m) (k := 1) hh (by decide)
  have e := BG hm
  refine Tb.ext ?_ ?_ ?_ ?_ <;> simp only [Bo.tb, e1, e2, e3, e4] <;> grind
theorem Gu {w h : Sd} {m : Int} (hw : w.z ≠ 0) (hh : h.z ≠ 0) (hm : m ≠ 0) : (⟨shS w m 1, shS h 1 m⟩ : Bo).tb = (⟨w, h⟩ : Bo).tb := by
  obtain ⟨e1, e2⟩ := Cf (m := m) (k := 1) hw (by decide)
  obtain ⟨e3, e4⟩ := Cf (m := 1) (k := m) hh hm
  have e := BG hm
  refine Tb.ext ?_ ?_ ?_ ?_ <;> simp only [Bo.tb, e1, e2, e3, e4] <;> grind
theorem GF {w w' h : Sd} (hw : w.z ≠ 0) (hw' : w'.z ≠ 0) : (⟨adS w w', h⟩ : Bo).tb = (⟨w, h⟩ : Bo).tb.add (⟨w', h⟩ : Bo).tb := by
  obtain ⟨e1, e2⟩ := Fy hw hw'
  refine Tb.ext ?_ ?_ ?_ ?_ <;> simp only [Tb.add, Bo.tb, e1, e2] <;> grind
theorem Gm {w h h' : Sd} (hh : h.z ≠ 0) (hh' : h'.z ≠ 0) : (⟨w, adS h h'⟩ : Bo).tb = (⟨w, h⟩ : Bo).tb.add (⟨w, h'⟩ : Bo).tb := by
  obtain ⟨e1, e2⟩ := Fy hh hh'
  refine Tb.ext ?_ ?_ ?_ ?_ <;> simp only [Tb.add, Bo.tb, e1, e2] <;> grind
inductive Dd where
  | cut (al : Bool) (n : Int) (s : Sd)
  | glue (al : Bool) (n m : Int)
  | shift (al : Bool) (n k : Int)
  | turn (n : Int)
abbrev SY (s : Sd) : Prop := SK 2400 2100 s
def Dd.wd : Dd → Str
  | .cut al _ _ => if al then "along" else "across"
  | .glue al _ _ => if al then "atop" else "beside"
  | .shift al _ _ => if al then "spread" else "stack"
  | .turn _ => "turn"
def Dd.n : Dd → Int
  | .cut _ n _ => n
  | .glue _ n _ => n
  | .shift _ n _ => n
  | .turn n => n
def Dd.names : Dd → List Int
  | .glue _ n m => [n, m]
  | d => [d.n]
def DdAt (H : Hp) (p : Addr) : Dd → Prop
  | .cut al n s => ∃ q, H p = some (.tup [.str (Dd.cut al n s).wd, .int n, .ref q]) ∧ SdAt H q s
  | .glue al n m => H p = some (.tup [.str (Dd.glue al n m).wd, .int n, .int m])
  | .shift al n k => H p = some (.tup [.str (Dd.shift al n k).wd, .int n, .int k])
  | .turn n => H p = some (.tup [.str "turn", .int n])
def Dd.Ok : Dd → Prop
  | .cut _ _ s => SY s
  | .shift _ _ k => 1 ≤ k ∧ Bd 1200 k
  | _ => True
theorem DdAt.same {H H' : Hp} {p : Addr} {e : Dd} (h : DdAt H p e) (s : Same H H') : DdAt H' p e := by
  cases e with
  | cut al n t => obtain ⟨q, h1, h2⟩ := h; exact ⟨q, s _ _ h1, s _ _ h2⟩
  | glue al n m => exact s _ _ h
  | shift al n k => exact s _ _ h
  | turn n => exact s _ _ h
def Dd.two : Dd → Bool
  | .glue _ _ _ => true
  | _ => false
def Dd.new (b c : Bo) : Dd → List Bo
  | .cut false _ s => [⟨s, b.h⟩, ⟨tkS b.w s, b.h⟩]
  | .cut true _ s => [⟨b.w, s⟩, ⟨b.w, tkS b.h s⟩]
  | .glue false _ _ => [⟨adS b.w c.w, b.h⟩]
  | .glue true _ _ => [⟨b.w, adS b.h c.h⟩]
  | .shift false _ k => [⟨shS b.w 1 k, shS b.h k 1⟩]
  | .shift true _ k => [⟨shS b.w k 1, shS b.h 1 k⟩]
  | .turn _ => [⟨b.h, b.w⟩]
def Em (d : Int) (w s : Sd) : Prop := SY w ∧ SY s ∧ 0 < sgn d s.x s.y ∧ 0 < sgn d (w.x * s.z - s.x * w.z) (w.y * s.z - s.y * w.z)
def Dd.Fit (d : Int) (b c : Bo) : Dd → Prop
  | .cut false _ s => Em d b.w s
  | .cut true _ s => Em d b.h s
  | .glue false _ _ => b.h = c.h ∧ SY b.w ∧ SY c.w
  | .glue true _ _ => b.w = c.w ∧ SY b.h ∧ SY c.h
  | .shift _ _ k => 1 ≤ k ∧ Bd 1200 k ∧ SY b.w ∧ SY b.h
  | .turn _ => True
def Dd.isT : Dd → Bool
  | .turn _ => true
  | _ => false
def yf (ns : List Nat) : List Int → List Nat
  | [] => ns
  | m :: ms => yf (ns.filter fun n : Nat => decide ((n : Int) ≠ m)) ms
def CellsOf (cl : List Cell) (e : Dd) (c c' : Cell) : Prop := match e with
  | .glue _ n m => (∃ i : Nat, n = (i : Int) ∧ cl[i]? = some c) ∧ ∃ i : Nat, m = (i : Int) ∧ cl[i]? = some c'
  | e => (∃ i : Nat, e.n = (i : Int) ∧ cl[i]? = some c) ∧ c' = c
structure Yd where
  p : Addr
  dx : Addr
  k : Addr
  l : Addr
  t : Addr
def Yd.fs (y : Yd) (d : Int) (tn : Bool) : List (Str × V) := [("root", .int d), ("turning", .bl tn), ("known", .ref y.k), ("lying", .ref y.l), ("done", .ref y.t)]
def nmK (ns : List Nat) : List (Key × V) := ns.map fun n : Nat => ((.inl (n : Int) : Key), V.bl true)
structure YdAt (C : Addr) (H : Hp) (y : Yd) (d : Int) (tn : Bool) (cl : List Cell) (ns : List Nat) (lg : List V) : Prop where
  o : H y.p = some (.ins C y.dx (y.fs d tn))
  k : H y.k = some (.lst (cl.map Cell.v))
  l : H y.l = some (.dK (nmK ns))
  t : H y.t = some (.lst lg)
  kt : y.k ≠ y.t
  at' : ∀ c ∈ cl, c.At H
  up : ns.Pairwise (· < ·)
  lt : ∀ n ∈ ns, n < cl.length
  lc : cl.length ≤ 400
  ll : lg.length ≤ 200
theorem YdAt.same {C : Addr} {H H' : Hp} {y : Yd} {d : Int} {tn : Bool} {cl : List Cell} {ns : List Nat} {lg : List V} (h : YdAt C H y d tn cl ns lg) (s : Same H H') : YdAt C H' y d tn cl ns lg :=
  ⟨s _ _ h.o, s _ _ h.k, s _ _ h.l, s _ _ h.t, h.kt, fun c hc => (h.at' c hc).same s, h.up, h.lt, h.lc, h.ll⟩
theorem zW {X : Cx} {e : Expr} {ta : TE} {f : Str} {pos : Pos} {K : PySem.W.Frag} (hK : X.K = K) (he : PE X e ta) (hb : attributeBase e f X.env (eval e X.env) = eval e X.env) : PE X (.Attribute e f pos) (tFld K ta f) := by
  subst hK
  exact ET he hb
theorem G0 {K : PySem.W.Frag} {ta : TE} {f : Str} {σ : L2.St} {H : Hp} {Q : VK} (h : ta σ H fun x H1 => ∃ a C dx fs v, x = .ref a ∧ H1 a = some (.ins C dx fs) ∧ Cls K C ∧ NoAttr K C f ∧ fs.lookup f = some v ∧ Q v H1) : tFld K ta f σ H Q := h
theorem Ga {K : PySem.W.Frag} {ta tv : TE} {f : Str} {D : Ends} {σ : L2.St} {H : Hp} (h : tv σ H fun y H1 => ta σ H1 fun x H2 => ∃ a C dx fs, x = .ref a ∧ H2 a = some (.ins C dx fs) ∧ Cls K C ∧ NoAttr K C f ∧ fs.length < 1000 ∧ D.nx σ (upd H2 a (.ins C dx (putF f y fs)))) : sFld K ta tv f D σ H := h
local macro_rules | `(tactic| walk_at "rd") => `(tactic| first | with_reducible refine G0 ?_ | with_reducible refine Ga ?_)
theorem vY {K : PySem.W.Frag} {f : Str} {D : Ends} {σ : L2.St} {H : Hp} {y : V} {a C dx : Addr} {fs : List (Str × V)} (e : H a = some (.ins C dx fs)) (c : Cls K C) (n : NoAttr K C f) (hl : fs.length < 1000) (q : ∀ H1, SameX a H H1 → H1 a = some (.ins C dx (putF f y fs)) → D.nx σ H1) : ∃ a' C dx fs, V.ref a = .ref a' ∧ H a' = some (.ins C dx fs) ∧ Cls K C ∧ NoAttr K C f ∧ fs.length < 1000 ∧ D.nx σ (upd H a' (.ins C dx (putF f y fs))) :=
  ⟨a, C, dx, fs, rfl, e, c, n, hl, q _ (fun b u q n => by rw [zt n]; exact q) zm⟩
theorem DG {K : PySem.W.Frag} {H : Hp} {Q : VK} {p : Addr} {ys : List V} (h : H p = some (.lst ys)) (q : ∀ l H2, H l = none → Same H H2 → H2 l = some (.lst ys) → Q (.ref l) H2) : rLst K [.ref p] H Q := ⟨p, ys, rfl, .inl (SqL.of h), fun l hl => q l _ hl (zI hl _) zm⟩
theorem DW {H : Hp} {Q : VK} {l : Addr} {ps : List Addr} {kvs : List (Key × V)} (e : H l = some (.lst (ps.map V.ref))) (hl : ps.length = kvs.length) (hp : ∀ (i : Nat) (p : Addr) (kv : Key × V), ps[i]? = some p → kvs[i]? = some kv → H p = some (.tup [kV kv.1, kv.2])) (hn : (kvs.map (·.1)).Nodup) (hz : kvs.length ≤ 1000) (q : ∀ p H2, H p = none → Same H H2 → H2 p = some (.dK kvs) → Q (.ref p) H2) : Dc [.ref l] H Q :=
  ⟨l, ps, kvs, rfl, e, hl, hp, hn, Nat.le_trans hz (by decide +kernel), fun p h => q p _ h (zI h _) zm⟩
theorem Bu {ns : List Nat} (h : ns.Pairwise (· < ·)) : ((nmK ns).map (·.1)).Nodup := by
  rw [nmK, List.map_map]
  refine List.pairwise_map.mpr (h.imp fun {a b} hab e => ?_)
  have e : (a : Int) = b := Sum.inl.inj e
  omega
theorem SameX.of {l : Addr} {H H' : Hp} (s : Same H H') : SameX l H H' := fun b o e _ => s b o e
theorem yr {f : Str} {v : V} {fs : List (Str × V)} {n : Nat} (h : fs.length < n) : (putF f v fs).length < n + 1 := Nat.lt_of_le_of_lt (yY f v fs) (Nat.succ_lt_succ h)
theorem Fg {ty td : TE} {σ : L2.St} {H : Hp} {Q : VK} (h : ty σ H fun y H1 => td σ H1 fun x H2 => ∃ a o, x = .ref a ∧ DGet H2 a y o ∧ Q (.bl (!o.isSome)) H2) : BC ty td σ H Q := h
theorem EY {ty td tv : TE} {σ : L2.St} {H : Hp} {D : Ends} (h : tv σ H fun v H1 => td σ H1 fun x H2 => ty σ H2 fun y H3 => ∃ a H4, x = .ref a ∧ DPut H3 a y v H4 ∧ D.nx σ H4) : EI td ty tv D σ H := h
local macro_rules | `(tactic| walk_at "rd") => `(tactic| first | with_reducible refine Fg ?_ | with_reducible refine i_dget ?_ | with_reducible refine EY ?_)
theorem vj {n : Nat} : ∀ {ns : List Nat}, n ∈ ns → valV (nmK ns) (.inl (n : Int)) = some (.bl true)
  | m :: ns, h => by
    by_cases e : m = n
    · subst e; exact xu rfl
    · rw [nmK, List.map_cons, xb (fun c => e (Int.ofNat.inj (Sum.inl.inj c)))]
      exact vj (by simpa [Ne.symm e] using h)
def pick (cl : List Cell) (ns : List Nat) : List Cell := ns.filterMap fun n => cl[n]?
theorem A3 {cl : List Cell} {ns : List Nat} {i n : Nat} {c : Cell} (hi : ns[i]? = some n) (hc : cl[n]? = some c) : pick cl (ns.take (i + 1)) = pick cl (ns.take i) ++ [c] := by
  rw [pick, List.take_succ, hi, List.filterMap_append]
  simp [pick, hc]
theorem tw {cl : List Cell} : ∀ {ns : List Nat}, (pick cl ns).length ≤ ns.length
  | [] => Nat.le_refl _
  | n :: ns => by
    have := tw (cl := cl) (ns := ns)
    cases e : cl[n]? with
    | none => simp only [pick, List.filterMap_cons, e, List.length_cons]; exact Nat.le_succ_of_le this
    | some c => simp only [pick, List.filterMap_cons, e, List.length_cons]; exact Nat.succ_le_succ this
theorem Aq {ns : List Nat} {k : Nat} (h : ns.Pairwise (· < ·)) (hk : ∀ n ∈ ns, n < k) : ns.length ≤ k := by
  have hn : ns.Nodup := h.imp fun hab => Nat.ne_of_lt hab
  have := (List.nodup_range (n := k))
  exact (List.length_range (n := k)) ▸ (List.Nodup.length_le_of_subset hn fun n h => List.mem_range.mpr (hk n h))
def Prs (cl : List Cell) (ns : List Nat) (H : Hp) (ps : List Addr) : Prop := ps.length = ns.length ∧ ∀ (j : Nat) (p : Addr), ps[j]? = some p → ∃ n c, ns[j]? = some n ∧ cl[n]? = some c ∧ H p = some (.tup [.int (n : Int), .ref c.p])
theorem Fd {C : Addr} {m : Str} {sp : Sp} {dvs : List V} {E : XK} {ta : TE} {t : TA} {σ : L2.St} {H : Hp} {Q : VK} (h : ta σ H fun x H1 => ∃ a dx fs, x = .ref a ∧ H1 a = some (.ins C dx fs) ∧ fs.lookup m = none ∧ t σ H1 fun vs H2 => sp (x :: (vs ++ dvs)) H2 Q E) : Bf C m sp dvs E ta t σ H Q := h
theorem FF {td ty : TE} {σ : L2.St} {H : Hp} {Q : VK} (h : td σ H fun x H1 => ∃ a, x = .ref a ∧ IsD H1 a ∧ ty σ H1 fun y H2 => ∃ kvs k v, H2 a = some (.dK kvs) ∧ y = kV k ∧ valV kvs k = some v ∧ Q v (upd H2 a (.dK (vD kvs k)))) : Dq td ty σ H Q := h
local macro_rules | `(tactic| walk_at "rd") => `(tactic| first | with_reducible refine Fd ?_ | with_reducible refine FF ?_)
theorem DdAt.tup {H : Hp} {p : Addr} {e : Dd} (h : DdAt H p e) : ∃ r, H p = some (.tup (.str e.wd :: .int e.n :: r)) := by
  cases e with
  | cut al n t => obtain ⟨q, h1, h2⟩ := h; exact ⟨_, h1⟩
  | glue al n m => exact ⟨_, h⟩
  | shift al n k => exact ⟨_, h⟩
  | turn n => exact ⟨_, h⟩
theorem Ep {e : Dd} (h : e.wd = Str.ofString "turn") : e.isT = true := by
  cases e with
  | cut al n t => cases al <;> exact absurd (show Str.ofString _ = Str.ofString "turn" from h) (by decide +kernel)
  | glue al n m => cases al <;> exact absurd (show Str.ofString _ = Str.ofString "turn" from h) (by decide +kernel)
  | shift al n k => cases al <;> exact absurd (show Str.ofString _ = Str.ofString "turn" from h) (by decide +kernel)
  | turn n => rfl
theorem Hn {p A B F : Prop} [Decidable p] (h : B) (k : p → B → A) : if decide p = true then A else if false = true then F else B := if_d (fun c => k c h) fun _ => if_f h
theorem Dd.names_len (e : Dd) : e.names.length ≤ 2 := by cases e <;> simp [Dd.names]
def Dd.cells (e : Dd) (c c' : Cell) : List Cell := if e.two then [c, c'] else [c]
theorem uk {cl : List Cell} {e : Dd} {c c' : Cell} (h : CellsOf cl e c c') {i : Nat} {m : Int} (hi : e.names[i]? = some m) : ∃ (n : Nat) (x : Cell), m = (n : Int) ∧ cl[n]? = some x ∧ (e.cells c c')[i]? = some x := by
  cases e with
  | glue al n k =>
    obtain ⟨⟨j, h1, h2⟩, j', h3, h4⟩ := h
    match i, hi with
    | 0, hi => injection hi with hi; exact ⟨j, c, hi ▸ h1, h2, rfl⟩
    | 1, hi => injection hi with hi; exact ⟨j', c', hi ▸ h3, h4, rfl⟩
    | i + 2, hi => exact nomatch hi
  | cut al n t =>
    obtain ⟨⟨j, h1, h2⟩, _⟩ := h
    match i, hi with
    | 0, hi => injection hi with hi; exact ⟨j, c, hi ▸ h1, h2, rfl⟩
    | i + 1, hi => exact nomatch hi
  | shift al n k =>
    obtain ⟨⟨j, h1, h2⟩, _⟩ := h
    match i, hi with
    | 0, hi => injection hi with hi; exact ⟨j, c, hi ▸ h1, h2, rfl⟩
    | i + 1, hi => exact nomatch hi
  | turn n =>
    obtain ⟨⟨j, h1, h2⟩, _⟩ := h
    match i, hi with
    | 0, hi => injection hi with hi; exact ⟨j, c, hi ▸ h1, h2, rfl⟩
    | i + 1, hi => exact nomatch hi
theorem CellsOf.mem {cl : List Cell} {e : Dd} {c c' : Cell} (h : CellsOf cl e c c') : c ∈ cl ∧ c' ∈ cl := by
  cases e with
  | glue al n k => obtain ⟨⟨j, h1, h2⟩, j', h3, h4⟩ := h; exact ⟨List.mem_of_getElem? h2, List.mem_of_getElem? h4⟩
  | cut al n t => obtain ⟨⟨j, h1, h2⟩, rfl⟩ := h; exact ⟨List.mem_of_getElem? h2, List.mem_of_getElem? h2⟩
  | shift al n k => obtain ⟨⟨j, h1, h2⟩, rfl⟩ := h; exact ⟨List.mem_of_getElem? h2, List.mem_of_getElem? h2⟩
  | turn n => obtain ⟨⟨j, h1, h2⟩, rfl⟩ := h; exact ⟨List.mem_of_getElem? h2, List.mem_of_getElem? h2⟩
theorem Dd.cells_len (e : Dd) (c c' : Cell) : (e.cells c c').length = e.names.length := by cases e <;> rfl
theorem wE {m : Int} : ∀ (ms : List Int) (ns : List Nat), yf ns (ms ++ [m]) = (yf ns ms).filter fun n : Nat => decide ((n : Int) ≠ m)
  | [], _ => rfl
  | _ :: ms, _ => wE ms _
theorem mem_ndrop {n : Nat} : ∀ {ms : List Int} {ns : List Nat}, n ∈ yf ns ms ↔ n ∈ ns ∧ (n : Int) ∉ ms
  | [], ns => by simp [yf]
  | m :: ms, ns => by
    rw [yf, mem_ndrop, List.mem_filter]
    simp only [List.mem_cons, decide_eq_true_eq, not_or]
    constructor
    · rintro ⟨⟨a, b⟩, c⟩; exact ⟨a, b, c⟩
    · rintro ⟨a, b, c⟩; exact ⟨⟨a, b⟩, c⟩
theorem y8 : ∀ {ms : List Int} {ns : List Nat}, ns.Pairwise (· < ·) → (yf ns ms).Pairwise (· < ·)
  | [], _, h => h
  | m :: ms, ns, h => show (yf (ns.filter fun n : Nat => decide ((n : Int) ≠ m)) ms).Pairwise (· < ·) from y8 (h.filter _)
theorem vC {n : Nat} : ∀ ns : List Nat, vD (nmK ns) (.inl (n : Int)) = nmK (ns.filter fun k : Nat => decide ((k : Int) ≠ (n : Int)))
  | [] => rfl
  | k :: ns => by
    have ih := vC (n := n) ns
    simp only [vD, nmK] at ih ⊢
    by_cases c : (k : Int) = n
    · simp only [List.map_cons, List.filter_cons, c, ne_eq, not_true_eq_false, decide_false, ih]
      rfl
    · simp only [List.map_cons, List.filter_cons, ne_eq, Sum.inl.injEq, c, not_false_eq_true, decide_true, ih]
      rfl
theorem wB {k : Nat} : ∀ {ns : List Nat}, (∀ n ∈ ns, n < k) → valV (nmK ns) (.inl (k : Int)) = none
  | [], _ => rfl
  | m :: ns, h => by
    rw [nmK, List.map_cons, xb (fun c => absurd (Int.ofNat.inj (Sum.inl.inj c)) (Nat.ne_of_lt (h m List.mem_cons_self)))]
    exact wB fun n hn => h n (List.mem_cons_of_mem _ hn)
theorem BL (e : Dd) (b c : Bo) : (e.new b c).length ≤ 2 := by
  cases e with
  | cut al n t => cases al <;> exact Nat.le_refl _
  | glue al n m => cases al <;> exact Nat.le_succ _
  | shift al n k => cases al <;> exact Nat.le_succ _
  | turn n => exact Nat.le_succ _
theorem Same.nn {H H' : Hp} (s : Same H H') {a : Addr} (h : H' a = none) : H a = none := by
  cases e : H a with
  | none => rfl
  | some o => rw [s _ _ e] at h; cases h
theorem yZ {H : Hp} {Q : VK} {xs : List V} (hl : xs.length ≤ 1000) (h : ∀ p H2, H p = none → Same H H2 → H2 p = some (.tup xs) → Q (.ref p) H2) : NewT xs H Q :=
  ⟨DV hl, fun p hp => h p _ hp (zI hp _) zm⟩
def rNeL (X : Cx) : R2 := fun x y H Q => ∃ a b xs ys bs n, x = .ref a ∧ y = .ref b ∧ n ≤ 9 ∧ SqL X.K H a xs ∧ SqL X.K H b ys ∧ EqVs X n H xs ys bs ∧ Q (.bl (!(bs.all id))) H
theorem CS {X : Cx} (hu : X.A.units + 64 < cLine) : OpR X (compareOp .NotEq) (rNeL X) := by
  intro pins s σ H x y v u Q I rx ry h
  obtain ⟨a, b, xs, ys, bs, n, rfl, rfl, hn, ha, hb, he, q⟩ := h
  cases rx
  cases ry
  obtain ⟨is, js, p1, p2, hz, hj, e⟩ := C7 (A := X.A) ha hb he I (by omega)
  refine SeqAt.RcNeAt.lists p1 p2 hz (by omega) hj X.prog X.w X.xe _ ?_
  rw [e]
  exact ⟨.bl _, H, I, rfl, q⟩
theorem FQ {X : Cx} {H : Hp} {Q : VK} {a b : Addr} {C D : List Cell} (ha : H a = some (.lst (C.map Cell.v))) (hb : H b = some (.lst (D.map Cell.v))) (hC : ∀ c ∈ C, c.At H) (hD : ∀ c ∈ D, c.At H) (e : C.map Cell.b = D.map Cell.b) (q : Q (.bl false) H) : rNeL X (.ref a) (.ref b) H Q := by
  obtain ⟨a', b', xs, ys, bs, n, e1, e2, hn, h1, h2, h3, h4⟩ := Gk (X := X) (Q := fun v H' => v = .bl true ∧ H' = H) ha hb hC hD e ⟨rfl, rfl⟩
  refine ⟨a', b', xs, ys, bs, n, e1, e2, hn, h1, h2, h3, ?_⟩
  have h5 : bs.all id = true := by
    have := h4.1
    injection this
  rw [h5]
  exact q
structure Sz (D : Int) (K' M : Nat) : Prop where
  d1 : 1 ≤ D
  bd : Bd K' D
  k : K' ≤ 2050
  m : M ≤ 2300
theorem Sz.sy {d D : Int} {K' M : Nat} {s : Sd} (z : Sz D K' M) (h : So d D M s) : SY s := (h.sk z.d1 z.bd).mono (by have := z.m; omega) (by have := z.k; omega)
def fL (L : List Cell) (n : Nat) : Cell := L[n]?.getD ⟨0, 0, 0, ⟨⟨0, 0, 1⟩, ⟨0, 0, 1⟩⟩⟩
theorem CD {cl : List Cell} {ns : List Nat} {c : Cell} (h : c ∈ pick cl ns) : c ∈ cl := by
  obtain ⟨n, _, hn⟩ := List.mem_filterMap.mp h
  exact List.mem_of_getElem? hn
theorem Fj {C : Addr} {sp : Sp} {dvs : List V} {E : XK} {t : TA} {σ : L2.St} {H : Hp} {Q : VK} (h : t σ H fun vs H1 => ∀ x dx, H1 x = none → H1 dx = none → dx ≠ x → sp (.ref x :: (vs ++ dvs)) (upd (upd H1 dx (.own x)) x (.ins C dx [])) (fun v H2 => v = .non ∧ Q (.ref x) H2) E) : Ds C sp dvs E t σ H Q := h
def Frm (y : Yd) (H H' : Hp) : Prop := ∀ b o, H b = some o → b ≠ y.k → b ≠ y.l → b ≠ y.t → H' b = some o
theorem FT (e : Dd) (b c : Bo) : 1 ≤ (e.new b c).length := by
  cases e with
  | cut al n t => cases al <;> exact Nat.le_succ _
  | glue al n m => cases al <;> exact Nat.le_refl _
  | shift al n k => cases al <;> exact Nat.le_refl _
  | turn n => exact Nat.le_refl _
theorem u5 {ns : List Nat} {ms : List Int} {n : Nat} (up : ns.Pairwise (· < ·)) (hn : n ∈ ns) (hm : (n : Int) ∈ ms) : (yf ns ms).length + 1 ≤ ns.length := by
  have nd : (n :: yf ns ms).Nodup := List.nodup_cons.mpr ⟨fun h => (mem_ndrop.mp h).2 hm, (y8 up).imp fun hab => Nat.ne_of_lt hab⟩
  exact List.Nodup.length_le_of_subset nd fun k hk => by
    rcases List.mem_cons.mp hk with rfl | hk
    · exact hn
    · exact (mem_ndrop.mp hk).1
theorem B6 {K : PySem.W.Frag} {H : Hp} {Q : VK} {a : Addr} {xs : List V} {i : Nat} (h : H a = some (.lst xs)) (q : ∀ (p : Addr) (H2 : Hp), Same H H2 → H2 p = some (.lst (xs.drop i)) → Q (.ref p) H2) : rSlL K (.ref a) (some (i : Int)) none H Q := by
  refine ⟨a, _, rfl, SqL.of h, fun p hp => ?_⟩
  refine q p _ (zI hp _) ?_
  rw [zm]
  unfold cutV
  rw [HT.sIx_nat, HT.sIx_none]
  congr 2
  rcases Nat.le_total i xs.length with z | z
  · rw [Nat.min_eq_left z, List.take_of_length_le (by rw [List.length_drop]; omega)]
  · rw [Nat.min_eq_right z, List.drop_of_length_le (Nat.le_refl _), List.drop_of_length_le z, List.take_nil]
structure As where
  k : Nat
  ns : List Nat
  g : Nat → Bo
def gN (g : Nat → Bo) (k : Nat) (N : List Bo) (j : Nat) : Bo := if j < k then g j else N[j - k]?.getD ⟨⟨0, 0, 1⟩, ⟨0, 0, 1⟩⟩
def As.next (s : As) (x : Dd × Nat × Nat) : As := ⟨s.k + (x.1.new (s.g x.2.1) (s.g x.2.2)).length, yf s.ns x.1.names ++ List.range' s.k (x.1.new (s.g x.2.1) (s.g x.2.2)).length, gN s.g s.k (x.1.new (s.g x.2.1) (s.g x.2.2))⟩
def ends (s : As) (es : List (Dd × Nat × Nat)) : As := es.foldl As.next s
def As.st (L : List Cell) : As := ⟨L.length, List.range L.length, fun n => (fL L n).b⟩
structure Nms (s : As) (e : Dd) (n m : Nat) : Prop where
  nm : e.names = if e.two then [(n : Int), (m : Int)] else [(n : Int)]
  hn : n ∈ s.ns
  hm : m ∈ s.ns
  ne : e.two = true → n ≠ m
  eq : e.two = false → m = n
structure Stp (d : Int) (tn : Bool) (s : As) (x : Dd × Nat × Nat) : Prop where
  nms : Nms s x.1 x.2.1 x.2.2
  ok : x.1.Ok
  fit : x.1.Fit d (s.g x.2.1) (s.g x.2.2)
  tn : x.1.isT = true → tn = true
def YdS (C : Addr) (H : Hp) (y : Yd) (d : Int) (tn : Bool) (s : As) (lg : List V) : Prop := ∃ cl, YdAt C H y d tn cl s.ns lg ∧ cl.length = s.k ∧ ∀ n, n < s.k → ∃ c, cl[n]? = some c ∧ c.b = s.g n
theorem YdS.same {C : Addr} {H H' : Hp} {y : Yd} {d : Int} {tn : Bool} {s : As} {lg : List V} (h : YdS C H y d tn s lg) (z : Same H H') : YdS C H' y d tn s lg := by
  obtain ⟨cl, h1, h2, h3⟩ := h
  exact ⟨cl, h1.same z, h2, h3⟩
theorem Nms.names_in {s : As} {e : Dd} {n m : Nat} (h : Nms s e n m) : ∀ k ∈ e.names, ∃ i ∈ s.ns, k = (i : Int) := fun k hk => by
  rw [h.nm] at hk
  cases ht : e.two with
  | true =>
    rw [ht, if_pos rfl] at hk
    rcases List.mem_cons.mp hk with rfl | hk
    · exact ⟨n, h.hn, rfl⟩
    · rw [List.mem_singleton.mp hk]; exact ⟨m, h.hm, rfl⟩
  | false =>
    rw [ht, if_neg (by decide)] at hk
    rw [List.mem_singleton.mp hk]; exact ⟨n, h.hn, rfl⟩
theorem Nms.nodup {s : As} {e : Dd} {n m : Nat} (h : Nms s e n m) : e.names.Nodup := by
  rw [h.nm]
  cases ht : e.two with
  | true =>
    rw [if_pos rfl]
    have := h.ne ht
    simp
    omega
  | false =>
    rw [if_neg (by decide)]
    simp
theorem Nms.en {s : As} {e : Dd} {n m : Nat} (h : Nms s e n m) : e.n = (n : Int) := by
  have := h.nm
  cases e <;> simp [Dd.names, Dd.two, Dd.n] at this ⊢
  · exact this
  · exact this.1
  · exact this
  · exact this
theorem Nms.cells {cl : List Cell} {s : As} {e : Dd} {n m : Nat} {c c' : Cell} (h : Nms s e n m) (h1 : cl[n]? = some c) (h2 : cl[m]? = some c') : CellsOf cl e c c' := by
  have hnm := h.nm
  have heq := h.eq
  cases e with
  | glue al a b =>
    simp [Dd.names, Dd.two] at hnm
    exact ⟨⟨n, hnm.1, h1⟩, m, hnm.2, h2⟩
  | cut al a t =>
    have : m = n := heq rfl
    subst this
    refine ⟨⟨m, h.en, h1⟩, Option.some.inj (h2.symm.trans h1)⟩
  | shift al a t =>
    have : m = n := heq rfl
    subst this
    refine ⟨⟨m, h.en, h1⟩, Option.some.inj (h2.symm.trans h1)⟩
  | turn a =>
    have : m = n := heq rfl
    subst this
    refine ⟨⟨m, h.en, h1⟩, Option.some.inj (h2.symm.trans h1)⟩
theorem YdS.next {C : Addr} {H' : Hp} {y : Yd} {d : Int} {tn : Bool} {s : As} {x : Dd × Nat × Nat} {cl N : List Cell} {lg : List V} (h2 : cl.length = s.k) (h3 : ∀ n, n < s.k → ∃ c, cl[n]? = some c ∧ c.b = s.g n)
    (hy : YdAt C H' y d tn (cl ++ N) (yf s.ns x.1.names ++ List.range' cl.length N.length) lg) (hN : N.map Cell.b = x.1.new (s.g x.2.1) (s.g x.2.2)) : YdS C H' y d tn (s.next x) lg := by
  have hl : N.length = (x.1.new (s.g x.2.1) (s.g x.2.2)).length := by rw [← hN, List.length_map]
  rw [h2, hl] at hy
  refine ⟨cl ++ N, hy, by rw [List.length_append, h2, hl]; rfl, fun j hj => ?_⟩
  have hj : j < s.k + (x.1.new (s.g x.2.1) (s.g x.2.2)).length := hj
  show ∃ c, (cl ++ N)[j]? = some c ∧ c.b = gN s.g s.k _ j
  by_cases hjl : j < s.k
  · obtain ⟨c, h4, h5⟩ := h3 j hjl
    exact ⟨c, by rw [List.getElem?_append_left (by omega)]; exact h4, by unfold gN; rw [if_pos (by omega)]; exact h5⟩
  · obtain ⟨t, rfl⟩ : ∃ t, j = s.k + t := ⟨j - s.k, by omega⟩
    have ht : t < N.length := by omega
    refine ⟨N[t], by rw [List.getElem?_append_right (by omega), h2, Nat.add_sub_cancel_left]; exact List.getElem?_eq_getElem ht, ?_⟩
    unfold gN
    rw [if_neg (by omega), Nat.add_sub_cancel_left, ← hN, List.getElem?_map, List.getElem?_eq_getElem ht]
    rfl
abbrev DL := List (Dd × Nat × Nat)
structure As.Ok (B : Nat) (s : As) (i : Nat) : Prop where
  up : s.ns.Pairwise (· < ·)
  lt : ∀ n ∈ s.ns, n < s.k
  ne : s.ns ≠ []
  nl : s.ns.length ≤ B + i
  kl : s.k ≤ B + 2 * i
theorem As.Ok.next {B : Nat} {s : As} {i : Nat} {x : Dd × Nat × Nat} (h : As.Ok B s i) (n : Nms s x.1 x.2.1 x.2.2) : As.Ok B (s.next x) (i + 1) := by
  have l2 := BL x.1 (s.g x.2.1) (s.g x.2.2)
  have l1 := FT x.1 (s.g x.2.1) (s.g x.2.2)
  have hk := h.kl
  have hnl := h.nl
  have dl := u5 h.up n.hn (show (x.2.1 : Int) ∈ x.1.names by rw [n.nm]; cases x.1.two <;> simp)
  generalize hN : x.1.new (s.g x.2.1) (s.g x.2.2) = N at l1 l2
  have e1 : (s.next x).ns = yf s.ns x.1.names ++ List.range' s.k N.length := by rw [← hN]; rfl
  have e2 : (s.next x).k = s.k + N.length := by rw [← hN]; rfl
  refine ⟨?_, ?_, ?_, ?_, ?_⟩
  · rw [e1]
    refine List.pairwise_append.mpr ⟨y8 h.up, List.pairwise_lt_range' .., fun n1 h1 n2 h2 => ?_⟩
    have := h.lt n1 (mem_ndrop.mp h1).1
    have := List.mem_range'_1.mp h2
    omega
  · rw [e1, e2]
    intro j hj
    rcases List.mem_append.mp hj with hj | hj
    · have := h.lt j (mem_ndrop.mp hj).1
      omega
    · have := List.mem_range'_1.mp hj
      omega
  · rw [e1]
    intro hh
    have := congrArg List.length hh
    rw [List.length_append, List.length_range', List.length_nil] at this
    omega
  · rw [e1, List.length_append, List.length_range']
    omega
  · rw [e2]
    omega
structure Rv (D X Y : Int) (s : Sd) : Prop where
  z1 : 1 ≤ s.z
  g : g3 s.x s.y s.z = 1
  x : s.x * D = X * s.z
  y : s.y * D = Y * s.z
theorem Rv.eq {D X Y : Int} {s t : Sd} (hD : D ≠ 0) (h : Rv D X Y s) (h' : Rv D X Y t) : s = t := by
  obtain ⟨a1, a2, a3⟩ := zL h.z1 h.g hD h.x h.y
  obtain ⟨b1, b2, b3⟩ := zL h'.z1 h'.g hD h'.x h'.y
  cases s
  cases t
  simp only at a1 a2 a3 b1 b2 b3
  rw [a1, a2, a3, b1, b2, b3]
theorem Rv.ad {D X Y X' Y' : Int} {s t : Sd} (h : Rv D X Y s) (h' : Rv D X' Y' t) : Rv D (X + X') (Y + Y') (adS s t) := by
  have hn : s.z * t.z ≠ 0 := Int.mul_ne_zero (by have := h.z1; omega) (by have := h'.z1; omega)
  have h1 := h.x
  have h2 := h.y
  have h3 := h'.x
  have h4 := h'.y
  obtain ⟨r1, r2⟩ := xJ (a := s.x * t.z + t.x * s.z) (b := s.y * t.z + t.y * s.z) (n := s.z * t.z) (D := D) (X := X + X') (Y := Y + Y') hn (by grind) (by grind)
  exact ⟨l_n hn, xn hn, r1, r2⟩
theorem Rv.sc {D X Y k : Int} {s : Sd} (h : Rv D X Y s) : Rv (D * k) (X * k) (Y * k) s :=
  ⟨h.z1, h.g, by rw [← Int.mul_assoc, h.x]; grind, by rw [← Int.mul_assoc, h.y]; grind⟩
def Dd.puts : Dd → Nat
  | .cut _ _ _ => 2
  | _ => 1
theorem Dd.puts_new (e : Dd) (b c : Bo) : (e.new b c).length = e.puts := by
  cases e with
  | cut al n s => cases al <;> rfl
  | glue al n m => cases al <;> rfl
  | shift al n k => cases al <;> rfl
  | turn n => rfl
theorem DO (e : Dd) : e.puts = 1 ∨ e.puts = 2 := by cases e <;> simp [Dd.puts]
theorem FB (s : As) (x : Dd × Nat × Nat) : (s.next x).k = s.k + x.1.puts := by
  show s.k + _ = _
  rw [Dd.puts_new]
theorem mem_next {s : As} {x : Dd × Nat × Nat} {j : Nat} : j ∈ (s.next x).ns ↔ (j ∈ s.ns ∧ (j : Int) ∉ x.1.names) ∨ (s.k ≤ j ∧ j < s.k + x.1.puts) := by
  show j ∈ yf s.ns x.1.names ++ List.range' s.k _ ↔ _
  rw [Dd.puts_new, List.mem_append, mem_ndrop, List.mem_range'_1]
theorem FH {g : Nat → Bo} {k j : Nat} {N : List Bo} (h : j < k) : gN g k N j = g j := by unfold gN; rw [if_pos h]
theorem G2 {g : Nat → Bo} {k j : Nat} {N : List Bo} {b : Bo} (h : N[j]? = some b) : gN g k N (k + j) = b := by
  unfold gN
  rw [if_neg (by omega), Nat.add_sub_cancel_left, h]
  rfl
theorem BU {d D : Int} {M K' : Nat} {w s : Sd} (hR : Rt d) (z : Sz D K' M) (hw : So d D M w) (hs : So d D M s) (ht : So d D M (tkS w s)) : Em d w s := by
  have hn1 : 1 ≤ w.z * s.z := Int.mul_pos (by have := hw.z1; omega) (by have := hs.z1; omega)
  refine ⟨z.sy hw, z.sy hs, by rw [hs.up]; decide, ?_⟩
  have e : sgn d (tkS w s).x (tkS w s).y = sgn d (w.x * s.z - s.x * w.z) (w.y * s.z - s.y * w.z) := by
    refine (yv hR hn1).trans ?_
    rw [show w.x * s.z + -s.x * w.z = w.x * s.z - s.x * w.z by grind, show w.y * s.z + -s.y * w.z = w.y * s.z - s.y * w.z by grind]
  rw [← e, ht.up]
  decide
theorem CN {ns : List Nat} (h : ns.Pairwise (· < ·)) : ns.Nodup := h.imp fun hab => Nat.ne_of_lt hab
def rk (ts : List Nat) (m : Nat) : Nat := ts.idxOf m
def As.sb (bs : List Bo) : As := ⟨bs.length, List.range bs.length, fun n => bs[n]?.getD ⟨⟨0, 0, 1⟩, ⟨0, 0, 1⟩⟩⟩
def sdO (D X Y : Int) : Sd := ⟨lA X Y D, lB X Y D, lN X Y D⟩
theorem yS {D X Y : Int} (hD : 1 ≤ D) : Rv D X Y (sdO D X Y) := ⟨l_n (by omega), xn (by omega), l_a, l_b⟩
theorem vw {D X Y : Int} {s : Sd} (hD : 1 ≤ D) (h : Rv D X Y s) : s = sdO D X Y := h.eq (by omega) (yS hD)
theorem EU {D X Y X' Y' : Int} (hD : 1 ≤ D) : adS (sdO D X Y) (sdO D X' Y') = sdO D (X + X') (Y + Y') := vw hD ((yS hD).ad (yS hD))
structure Pc where
  n : Nat
  m : Int
  x : Int
  y : Int
def accX : List Pc → Int
  | [] => 0
  | p :: ps => p.m * p.x + accX ps
def accY : List Pc → Int
  | [] => 0
  | p :: ps => p.m * p.y + accY ps
def gd1 (u t : Nat) (p : Pc) : DL := (Dd.shift false p.n p.m, p.n, p.n) :: (if t = 0 then [] else [(Dd.glue true ((u + 2 * t - 1 : Nat) : Int) ((u + 2 * t - 2 : Nat) : Int), u + 2 * t - 1, u + 2 * t - 2)])
def gth (u : Nat) (pc : List Pc) : Nat → DL
  | 0 => []
  | t + 1 => gth u pc t ++ (match pc[t]? with | some p => gd1 u t p | none => [])
theorem xP {d m x y : Int} (hR : Rt d) (hm : 1 ≤ m) (h : sgn d x y = 1) : sgn d (m * x) (m * y) = 1 := (yy hR (k := 1) (m := m) (by decide) (by omega) (by grind) (by grind)).trans h
theorem Ao {d D : Int} {M K' : Nat} {tn : Bool} {s : As} {n : Nat} {m : Int} {al : Bool} (z : Sz D K' M) (hn : n ∈ s.ns) (m1 : 1 ≤ m) (mb : Bd 1200 m) (ow : So d D M (s.g n).w) (oh : So d D M (s.g n).h) : Stp d tn s (.shift al n m, n, n) :=
  ⟨⟨rfl, hn, hn, (fun h => nomatch h), fun _ => rfl⟩, ⟨m1, mb⟩, ⟨m1, mb, z.sy ow, z.sy oh⟩, (fun h => nomatch h)⟩
structure Stq (d D : Int) (M : Nat) (tn : Bool) (s : As) (x : Dd × Nat × Nat) : Prop where
  st : Stp d tn s x
  nw : ∀ b ∈ x.1.new (s.g x.2.1) (s.g x.2.2), BoD d D M b
def G1 (d D : Int) (M : Nat) (tn : Bool) (s : As) (es : DL) : Prop := ∀ (i : Nat) (x : Dd × Nat × Nat), es[i]? = some x → Stq d D M tn (ends s (es.take i)) x
structure Bx where
  i : Int
  j : Int
  x : Int
  y : Int
structure Bas (d : Int) (M : Nat) (px py qx qy : Int) : Prop where
  up : sgn d px py = 1
  uq : sgn d qx qy = 1
  bp : Bd M px ∧ Bd M py
  bq : Bd M qx ∧ Bd M qy
structure BxOk (d px py qx qy : Int) (M0 M : Nat) (b : Bx) : Prop where
  i0 : 0 ≤ b.i
  j0 : 0 ≤ b.j
  ne : b.i ≠ 0 ∨ b.j ≠ 0
  bi : Bd 1200 b.i
  bj : Bd 1200 b.j
  up : sgn d b.x b.y = 1
  bh : Bd M b.x ∧ Bd M b.y
  bpi : Bd M (px * b.i) ∧ Bd M (py * b.i)
  bqj : Bd M (qx * b.j) ∧ Bd M (qy * b.j)
  bw : Bd M (px * b.i + qx * b.j) ∧ Bd M (py * b.i + qy * b.j)
  bxi : Bd M0 (b.i * b.x) ∧ Bd M0 (b.i * b.y)
  bxj : Bd M0 (b.j * b.x) ∧ Bd M0 (b.j * b.y)
def Bx.bo (D px py qx qy : Int) (b : Bx) : Bo := ⟨sdO D (px * b.i + qx * b.j) (py * b.i + qy * b.j), sdO D b.x b.y⟩
structure Np where
  ds : DL
  F : List Pc
  O : List Pc
  u : Nat
def np1 (D px py : Int) (n : Nat) (hb : List Bx) : Nat → Np
  | 0 => ⟨[], [], [], n⟩
  | t + 1 => match hb[t]? with
    | none => np1 D px py n hb t
    | some b => if b.j = 0 then ⟨(np1 D px py n hb t).ds, (np1 D px py n hb t).F ++ [⟨t, b.i, b.x, b.y⟩], (np1 D px py n hb t).O, (np1 D px py n hb t).u⟩
      else if b.i = 0 then ⟨(np1 D px py n hb t).ds, (np1 D px py n hb t).F, (np1 D px py n hb t).O ++ [⟨t, b.j, b.x, b.y⟩], (np1 D px py n hb t).u⟩
      else ⟨(np1 D px py n hb t).ds ++ [(.cut false t (sdO D (px * b.i) (py * b.i)), t, t)], (np1 D px py n hb t).F ++ [⟨(np1 D px py n hb t).u, b.i, b.x, b.y⟩], (np1 D px py n hb t).O ++ [⟨(np1 D px py n hb t).u + 1, b.j, b.x, b.y⟩], (np1 D px py n hb t).u + 2⟩
def sI (f : Bx → Int) : List Bx → Int
  | [] => 0
  | b :: l => f b + sI f l
theorem xT (f : Bx → Int) (b : Bx) : ∀ l, sI f (l ++ [b]) = sI f l + f b
  | [] => by show f b + 0 = 0 + _; omega
  | c :: l => by
    show f c + sI f (l ++ [b]) = f c + sI f l + _
    rw [xT f b l]; omega
structure PcG (d D px py : Int) (M0 M : Nat) (s : As) (p : Pc) : Prop where
  m1 : 1 ≤ p.m
  mb : Bd 1200 p.m
  lt : p.n < s.k
  g : s.g p.n = ⟨sdO D (px * p.m) (py * p.m), sdO D p.x p.y⟩
  up : sgn d p.x p.y = 1
  bw : Bd M (px * p.m) ∧ Bd M (py * p.m)
  bh : Bd M p.x ∧ Bd M p.y
  bm : Bd M0 (p.m * p.x) ∧ Bd M0 (p.m * p.y)
structure N1 (d D px py qx qy : Int) (M0 M : Nat) (tn : Bool) (s0 : As) (n : Nat) (hb : List Bx) (t : Nat) (r : Np) : Prop where
  w : G1 d D M tn s0 r.ds
  k : (ends s0 r.ds).k = r.u
  nu : n ≤ r.u
  mem : ∀ j, j ∈ (ends s0 r.ds).ns ↔ (t ≤ j ∧ j < n) ∨ j ∈ r.F.map Pc.n ∨ j ∈ r.O.map Pc.n
  nd : (r.F.map Pc.n ++ r.O.map Pc.n).Nodup
  ap : ∀ j ∈ r.F.map Pc.n ++ r.O.map Pc.n, j < r.u ∧ (j < t ∨ n ≤ j)
  okF : ∀ p ∈ r.F, PcG d D px py M0 M (ends s0 r.ds) p
  okO : ∀ p ∈ r.O, PcG d D qx qy M0 M (ends s0 r.ds) p
  aF : accX r.F = sI (fun b => b.i * b.x) (hb.take t) ∧ accY r.F = sI (fun b => b.i * b.y) (hb.take t)
  aO : accX r.O = sI (fun b => b.j * b.x) (hb.take t) ∧ accY r.O = sI (fun b => b.j * b.y) (hb.take t)
  len : r.ds.length ≤ t ∧ r.F.length ≤ t ∧ r.O.length ≤ t
def npl (D px py : Int) (hb : List Bx) : DL := (np1 D px py hb.length hb hb.length).ds ++ (gth (np1 D px py hb.length hb hb.length).u (np1 D px py hb.length hb hb.length).F (np1 D px py hb.length hb hb.length).F.length ++ gth ((np1 D px py hb.length hb hb.length).u + (2 * (np1 D px py hb.length hb hb.length).F.length - 1)) (np1 D px py hb.length hb hb.length).O (np1 D px py hb.length hb hb.length).O.length)
theorem EF {D X Y m : Int} (hD : 1 ≤ D) : tmS m (sdO D X Y) = sdO D (X * m) (Y * m) := by
  have r := yS (D := D) (X := X) (Y := Y) hD
  have z := r.z1
  have n0 : (sdO D X Y).z ≠ 0 := by omega
  obtain ⟨r1, r2⟩ := xJ (a := m * (sdO D X Y).x) (b := m * (sdO D X Y).y) (n := (sdO D X Y).z) (D := D) (X := X * m) (Y := Y * m) n0 (by have := r.x; grind) (by have := r.y; grind)
  exact vw hD ⟨l_n n0, xn n0, r1, r2⟩
theorem BS {D X Y : Int} {M K' : Nat} (hD : 1 ≤ D) (bX : Bd M X) (bY : Bd M Y) (bD : Bd K' D) : SK M K' (sdO D X Y) := ⟨(yS hD).z1, (yS hD).g, Bd.fdiv bX _, Bd.fdiv bY _, Bd.fdiv bD _⟩
theorem vk {D : Int} (hD : 1 ≤ D) : sdO D 0 0 = ⟨0, 0, 1⟩ := (vw hD ⟨by decide, by decide +kernel, by simp, by simp⟩).symm
theorem DR {D X Y : Int} (hD : 1 ≤ D) : ((sdO D X Y).x = 0 ∧ (sdO D X Y).y = 0 ∧ (sdO D X Y).z = 1) ↔ (X = 0 ∧ Y = 0) := by
  constructor
  · intro h
    have r := yS (D := D) (X := X) (Y := Y) hD
    have h1 := r.x
    have h2 := r.y
    rw [h.1, h.2.2] at h1
    rw [h.2.1, h.2.2] at h2
    omega
  · rintro ⟨rfl, rfl⟩
    rw [vk hD]
    exact ⟨rfl, rfl, rfl⟩
theorem BQ {f : Bx → Int} {M0 : Nat} : ∀ {l : List Bx}, (∀ b ∈ l, Bd M0 (f b)) → Bd (M0 + l.length) (sI f l)
  | [], _ => Nat.two_pow_pos _
  | b :: l, h => by
    have h2 := BQ (l := l) fun c hc => h c (List.mem_cons_of_mem _ hc)
    rw [List.length_cons, ← Nat.add_assoc]
    exact Bd.add ((h b List.mem_cons_self).mono (Nat.le_add_right _ _)) h2
def cn (pl : Nat) (b : Bx) : Int := if pl = 0 then b.i else b.j
def hX (pl : Nat) (l : List Bx) : Int := sI (fun b => cn pl b * b.x) l
def hY (pl : Nat) (l : List Bx) : Int := sI (fun b => cn pl b * b.y) l
def bwq (s : B4) (N : Int) (pl : Nat) : Sd := if pl = 0 then bw1 s N else bw2 s N
def nrx (s : B4) (N D : Int) (l : List Bx) : Nat → List Bo
  | 0 => []
  | k + 1 => nrx s N D l k ++ (if hX k l = 0 ∧ hY k l = 0 then [] else [⟨bwq s N k, sdO D (hX k l) (hY k l)⟩])
theorem Bc (s : B4) (N D : Int) (l : List Bx) : ∀ k, (nrx s N D l k).length ≤ k
  | 0 => Nat.le_refl _
  | k + 1 => by
    have := Bc s N D l k
    show (nrx s N D l k ++ _).length ≤ _
    rw [List.length_append]
    split
    · simp only [List.length_nil]; omega
    · simp only [List.length_cons, List.length_nil]; omega
theorem FW {H : Hp} {p r1 r2 : Addr} {s : B4} {N : Int} (h : BsAt H p r1 r2 s N) (i : Nat) : SdAt H (if i = 0 then r1 else r2) (bwq s N i) := by
  unfold bwq
  split
  · exact h.f
  · exact h.g
theorem GL {b : Bx} {i : Nat} (hi : i < 2) : atI [V.int b.i, V.int b.j] (0 + (i : Int)) = some (.int (cn i b)) := by
  have : i = 0 ∨ i = 1 := by omega
  rcases this with rfl | rfl <;> rfl
theorem Fo {r1 r2 : Addr} {i : Nat} (hi : i < 2) : atI [V.ref r1, V.ref r2] (0 + (i : Int)) = some (.ref (if i = 0 then r1 else r2)) := by
  have : i = 0 ∨ i = 1 := by omega
  rcases this with rfl | rfl <;> rfl
theorem AD {D k X Y : Int} (hD : 1 ≤ D) (hk : 1 ≤ k) : sdO (D * k) (X * k) (Y * k) = sdO D X Y :=
  (vw (Int.mul_pos (by omega) (by omega)) (yS hD).sc).symm
theorem AC {s : Sd} {N : Int} (z1 : 1 ≤ s.z) (g : g3 s.x s.y s.z = 1) (hN : 1 ≤ N) (dv : s.z ∣ N) : s = sdO N (N / s.z * s.x) (N / s.z * s.y) := by
  obtain ⟨t, ht⟩ := dv
  have et : N / s.z = t := by rw [ht]; exact Int.mul_ediv_cancel_left _ (by omega)
  rw [et]
  refine vw hN ⟨z1, g, ?_, ?_⟩
  · rw [ht]; grind
  · rw [ht]; grind
theorem GX {s : B4} {N E : Int} (hN : 1 ≤ N) (hE : 1 ≤ E) : bw1 s N = sdO (N * E) (s.a * E) (s.b * E) ∧ bw2 s N = sdO (N * E) (s.c * E) (s.e * E) := ⟨(AD hN hE).symm, (AD hN hE).symm⟩
theorem vW {E z : Int} {k : Nat} (z1 : 1 ≤ z) (hE : 1 ≤ E) (bE : Bd k E) (dv : z ∣ E) : 1 ≤ E / z ∧ Bd k (E / z) := by
  obtain ⟨t, ht⟩ := dv
  have et : E / z = t := by rw [ht]; exact Int.mul_ediv_cancel_left _ (by omega)
  have t1 : 1 ≤ t := by
    refine Int.not_lt.mp fun q => ?_
    have := Int.mul_nonpos_of_nonneg_of_nonpos (show (0:Int) ≤ z by omega) (show t ≤ 0 by omega)
    omega
  rw [et]
  exact ⟨t1, bE.of_le (by rw [ht, Int.natAbs_mul]; exact Nat.le_mul_of_pos_left _ (by omega))⟩
def fbx (l : List Bx) : List Bx := (if hX 0 l = 0 ∧ hY 0 l = 0 then [] else [⟨1, 0, hX 0 l, hY 0 l⟩]) ++ (if hX 1 l = 0 ∧ hY 1 l = 0 then [] else [⟨0, 1, hX 1 l, hY 1 l⟩])
theorem Gx (l : List Bx) : hX 0 (fbx l) = hX 0 l ∧ hY 0 (fbx l) = hY 0 l ∧ hX 1 (fbx l) = hX 1 l ∧ hY 1 (fbx l) = hY 1 l := by
  unfold fbx
  generalize hX 0 l = a
  generalize hY 0 l = b
  generalize hX 1 l = c
  generalize hY 1 l = e
  by_cases c1 : a = 0 ∧ b = 0 <;> by_cases c2 : c = 0 ∧ e = 0
  · rw [if_pos c1, if_pos c2, c1.1, c1.2, c2.1, c2.2]; exact ⟨rfl, rfl, rfl, rfl⟩
  · rw [if_pos c1, if_neg c2, c1.1, c1.2]; simp [hX, hY, sI, cn]
  · rw [if_neg c1, if_pos c2, c2.1, c2.2]; simp [hX, hY, sI, cn]
  · rw [if_neg c1, if_neg c2]; simp [hX, hY, sI, cn]
theorem By {s : B4} {N D : Int} {l m : List Bx} (h0 : hX 0 l = hX 0 m ∧ hY 0 l = hY 0 m) (h1 : hX 1 l = hX 1 m ∧ hY 1 l = hY 1 m) : nrx s N D l 2 = nrx s N D m 2 := by
  show (([] : List Bo) ++ (if hX 0 l = 0 ∧ hY 0 l = 0 then [] else [(⟨bwq s N 0, sdO D (hX 0 l) (hY 0 l)⟩ : Bo)])) ++ (if hX 1 l = 0 ∧ hY 1 l = 0 then [] else [(⟨bwq s N 1, sdO D (hX 1 l) (hY 1 l)⟩ : Bo)]) = _
  rw [h0.1, h0.2, h1.1, h1.2]
  rfl
theorem wD {d : Int} {k : Nat} {s : B4} (g : GB d k s) : s.i s.a s.b = 1 ∧ s.j s.a s.b = 0 ∧ s.i s.c s.e = 0 ∧ s.j s.c s.e = 1 := by
  have h := Ad g
  unfold B4.i B4.j
  unfold B4.det at *
  refine ⟨?_, ?_, ?_, ?_⟩ <;> grind
def pzh : List Bo → Int
  | [] => 1
  | b :: l => b.h.z * pzh l
def bxD (s : B4) (N D : Int) (b : Bo) : Bx := ⟨mny s N 0 b.w, mny s N 1 b.w, D / b.h.z * b.h.x, D / b.h.z * b.h.y⟩
structure BK (d : Int) (s : B4) (N E : Int) (M0 M : Nat) (b : Bo) : Prop where
  w : ∃ X Y, b.w = sdO N X Y ∧ Bd 900 X ∧ Bd 900 Y ∧ (bxD s N (N * E) b).i = s.i X Y ∧ (bxD s N (N * E) b).j = s.j X Y
  bo : b = (bxD s N (N * E) b).bo (N * E) (s.a * E) (s.b * E) (s.c * E) (s.e * E)
  ok : BxOk d (s.a * E) (s.b * E) (s.c * E) (s.e * E) M0 M (bxD s N (N * E) b)
theorem FR {d N E X Y i j : Int} {k : Nat} {s : B4} {w : Sd} (g : GB d k s) (e : w = sdO N X Y) (hN : 1 ≤ N) (hE : 1 ≤ E) (hi : i = s.i X Y) (hj : j = s.j X Y) : w = sdO (N * E) (s.a * E * i + s.c * E * j) (s.b * E * i + s.e * E * j) := by
  obtain ⟨c1, c2⟩ := uy g X Y
  rw [hi, hj]
  refine e.trans ((AD hN hE).symm.trans ?_)
  congr 1
  · conv => lhs; rw [← c1]
    grind
  · conv => lhs; rw [← c2]
    grind
theorem BK.gen {d N E : Int} {k kw kh kE M0 M : Nat} {s : B4} {b : Bo} (hR : Rt d) (g : GB d k s) (hN : 1 ≤ N) (hE : 1 ≤ E) (w1 : 1 ≤ b.w.z) (wg : g3 b.w.x b.w.y b.w.z = 1) (wu : sgn d b.w.x b.w.y = 1) (wd : b.w.z ∣ N) (h1 : 1 ≤ b.h.z) (hg : g3 b.h.x b.h.y b.h.z = 1) (hu : sgn d b.h.x b.h.y = 1) (hd : b.h.z ∣ N * E)
    (nn : ∀ pl, 0 ≤ mny s N pl b.w) (bE : Bd kE E) (bwx : Bd kw (N / b.w.z * b.w.x)) (bwy : Bd kw (N / b.w.z * b.w.y)) (bhx : Bd kh (N * E / b.h.z * b.h.x)) (bhy : Bd kh (N * E / b.h.z * b.h.y)) (l1 : kw ≤ 900) (l2 : kw + k + 2 ≤ 1200) (l3 : kh ≤ M) (l4 : k + kE + (kw + k + 2) + 1 ≤ M) (l5 : kw + k + 2 + kh ≤ M0) : BK d s N E M0 M b := by
  have hD : 1 ≤ N * E := Int.mul_pos (by omega) (by omega)
  have e0 := AC w1 wg hN wd
  have eh := AC h1 hg hD hd
  have m0 : (bxD s N (N * E) b).i = s.i (N / b.w.z * b.w.x) (N / b.w.z * b.w.y) := by show mny s N 0 b.w = _; unfold mny; rw [if_pos rfl]
  have m1 : (bxD s N (N * E) b).j = s.j (N / b.w.z * b.w.x) (N / b.w.z * b.w.y) := by show mny s N 1 b.w = _; unfold mny; rw [if_neg (by decide)]
  obtain ⟨c1, c2⟩ := Gi g bwx bwy
  have bi : Bd (kw + k + 2) (bxD s N (N * E) b).i := by rw [m0]; exact c1.mono (by omega)
  have bj : Bd (kw + k + 2) (bxD s N (N * E) b).j := by rw [m1]; exact c2.mono (by omega)
  have ew := FR (E := E) g e0 hN hE m0 m1
  have p1 : Bd (k + kE + (kw + k + 2)) (s.a * E * (bxD s N (N * E) b).i) := (g.ba.mul bE).mul bi
  have p2 : Bd (k + kE + (kw + k + 2)) (s.b * E * (bxD s N (N * E) b).i) := (g.bb.mul bE).mul bi
  have p3 : Bd (k + kE + (kw + k + 2)) (s.c * E * (bxD s N (N * E) b).j) := (g.bc.mul bE).mul bj
  have p4 : Bd (k + kE + (kw + k + 2)) (s.e * E * (bxD s N (N * E) b).j) := (g.be.mul bE).mul bj
  refine ⟨⟨_, _, e0, bwx.mono l1, bwy.mono l1, m0, m1⟩, ?_, nn 0, nn 1, ?_, bi.mono l2, bj.mono l2, ?_, ⟨bhx.mono l3, bhy.mono l3⟩, ⟨p1.mono (by omega), p2.mono (by omega)⟩, ⟨p3.mono (by omega), p4.mono (by omega)⟩, ⟨(Bd.add p1 p3).mono (by omega), (Bd.add p2 p4).mono (by omega)⟩, ⟨(bi.mul bhx).mono l5, (bi.mul bhy).mono l5⟩, ⟨(bj.mul bhx).mono l5, (bj.mul bhy).mono l5⟩⟩
  · show b = ⟨_, _⟩
    rw [← ew]
    show b = ⟨b.w, sdO (N * E) (N * E / b.h.z * b.h.x) (N * E / b.h.z * b.h.y)⟩
    rw [← eh]
  · refine Classical.or_iff_not_imp_left.mpr fun c1 c2 => ?_
    have c1 : (bxD s N (N * E) b).i = 0 := Classical.not_not.mp c1
    rw [c1, c2] at ew
    simp only [Int.mul_zero, Int.add_zero] at ew
    rw [vk hD] at ew
    rw [ew] at wu
    exact absurd wu (by unfold sgn; simp)
  · show sgn d (N * E / b.h.z * b.h.x) (N * E / b.h.z * b.h.y) = 1
    obtain ⟨t, ht⟩ := hd
    have et : N * E / b.h.z = t := by rw [ht]; exact Int.mul_ediv_cancel_left _ (by omega)
    have t1 : 1 ≤ t := by
      refine Int.not_lt.mp fun q => ?_
      have := Int.mul_nonpos_of_nonneg_of_nonpos (show (0:Int) ≤ b.h.z by omega) (show t ≤ 0 by omega)
      omega
    rw [et]
    exact xP hR t1 hu
theorem D6 {d E : Int} {k kE M : Nat} {s : B4} (hR : Rt d) (g : GB d k s) (hE : 1 ≤ E) (bE : Bd kE E) (l : k + kE ≤ M) : Bas d M (s.a * E) (s.b * E) (s.c * E) (s.e * E) :=
  ⟨by rw [Int.mul_comm s.a, Int.mul_comm s.b]; exact xP hR hE g.p1, by rw [Int.mul_comm s.c, Int.mul_comm s.e]; exact xP hR hE g.q1, ⟨(g.ba.mul bE).mono l, (g.bb.mul bE).mono l⟩, ⟨(g.bc.mul bE).mono l, (g.be.mul bE).mono l⟩⟩
theorem wZ {D X Y : Int} (hD : 1 ≤ D) : D / (sdO D X Y).z * (sdO D X Y).x = X ∧ D / (sdO D X Y).z * (sdO D X Y).y = Y := by
  have r := yS (D := D) (X := X) (Y := Y) hD
  have e : (sdO D X Y).z * gd X Y D = D := lN_mul
  have z1 := r.z1
  have et : D / (sdO D X Y).z = gd X Y D := by
    conv => lhs; lhs; rw [← e]
    exact Int.mul_ediv_cancel_left _ (by omega)
  have hx := r.x
  have hy := r.y
  rw [et]
  generalize gd X Y D = g at *
  generalize (sdO D X Y).z = z at *
  generalize (sdO D X Y).x = x at *
  generalize (sdO D X Y).y = y at *
  subst e
  exact ⟨Int.eq_of_mul_eq_mul_right (show z ≠ 0 by omega) (by grind), Int.eq_of_mul_eq_mul_right (show z ≠ 0 by omega) (by grind)⟩
theorem Bi {d N E X Y : Int} {k : Nat} {s : B4} (g : GB d k s) (hN : 1 ≤ N) (hE : 1 ≤ E) : bxD s N (N * E) ⟨bw1 s N, sdO (N * E) X Y⟩ = ⟨1, 0, X, Y⟩ ∧ bxD s N (N * E) ⟨bw2 s N, sdO (N * E) X Y⟩ = ⟨0, 1, X, Y⟩ := by
  have hD : 1 ≤ N * E := Int.mul_pos (by omega) (by omega)
  obtain ⟨a1, a2⟩ := wZ (X := s.a) (Y := s.b) hN
  obtain ⟨b1, b2⟩ := wZ (X := s.c) (Y := s.e) hN
  obtain ⟨h1, h2⟩ := wZ (X := X) (Y := Y) hD
  obtain ⟨c1, c2, c3, c4⟩ := wD g
  constructor
  · show (⟨mny s N 0 (sdO N s.a s.b), mny s N 1 (sdO N s.a s.b), N * E / (sdO (N * E) X Y).z * (sdO (N * E) X Y).x, N * E / (sdO (N * E) X Y).z * (sdO (N * E) X Y).y⟩ : Bx) = _
    unfold mny
    rw [if_pos rfl, if_neg (by decide), a1, a2, h1, h2, c1, c2]
  · show (⟨mny s N 0 (sdO N s.c s.e), mny s N 1 (sdO N s.c s.e), N * E / (sdO (N * E) X Y).z * (sdO (N * E) X Y).x, N * E / (sdO (N * E) X Y).z * (sdO (N * E) X Y).y⟩ : Bx) = _
    unfold mny
    rw [if_pos rfl, if_neg (by decide), b1, b2, h1, h2, c3, c4]
theorem bd0 (k : Nat) : Bd k 0 := Nat.two_pow_pos _
theorem BK.own {d N E X Y : Int} {k M0 M : Nat} {s : B4} (g : GB d k s) (hk : k ≤ 900) (hN : 1 ≤ N) (hE : 1 ≤ E) (bas : Bas d M (s.a * E) (s.b * E) (s.c * E) (s.e * E)) (up : sgn d X Y = 1) (bX : Bd M0 X) (bY : Bd M0 Y) (hM : M0 ≤ M) (pl : Nat) : BK d s N E M0 M ⟨bwq s N pl, sdO (N * E) X Y⟩ := by
  obtain ⟨o1, o2⟩ := Bi (X := X) (Y := Y) g hN hE
  obtain ⟨c1, c2, c3, c4⟩ := wD g
  obtain ⟨w1, w2⟩ := GX (s := s) hN hE
  unfold bwq
  split
  · refine ⟨⟨s.a, s.b, rfl, g.ba.mono hk, g.bb.mono hk, by rw [o1]; exact c1.symm, by rw [o1]; exact c2.symm⟩, ?_, ?_⟩
    · rw [o1]
      show (⟨bw1 s N, sdO (N * E) X Y⟩ : Bo) = ⟨sdO (N * E) (s.a * E * 1 + s.c * E * 0) (s.b * E * 1 + s.e * E * 0), sdO (N * E) X Y⟩
      rw [w1]
      simp only [Int.mul_one, Int.mul_zero, Int.add_zero]
    · rw [o1]
      refine ⟨show (0 : Int) ≤ 1 by decide, show (0 : Int) ≤ 0 by decide, .inl (show (1 : Int) ≠ 0 by decide), Bd.mono (show Bd 1 1 by decide) (by decide), bd0 _, up, ⟨bX.mono hM, bY.mono hM⟩, ⟨?_, ?_⟩, ⟨?_, ?_⟩, ⟨?_, ?_⟩, ⟨?_, ?_⟩, ⟨?_, ?_⟩⟩ <;> simp only [Int.mul_one, Int.mul_zero, Int.add_zero, Int.one_mul, Int.zero_mul]
      · exact bas.bp.1
      · exact bas.bp.2
      · exact bd0 _
      · exact bd0 _
      · exact bas.bp.1
      · exact bas.bp.2
      · exact bX
      · exact bY
      · exact bd0 _
      · exact bd0 _
  · refine ⟨⟨s.c, s.e, rfl, g.bc.mono hk, g.be.mono hk, by rw [o2]; exact c3.symm, by rw [o2]; exact c4.symm⟩, ?_, ?_⟩
    · rw [o2]
      show (⟨bw2 s N, sdO (N * E) X Y⟩ : Bo) = ⟨sdO (N * E) (s.a * E * 0 + s.c * E * 1) (s.b * E * 0 + s.e * E * 1), sdO (N * E) X Y⟩
      rw [w2]
      simp only [Int.mul_one, Int.mul_zero, Int.zero_add]
    · rw [o2]
      refine ⟨show (0 : Int) ≤ 0 by decide, show (0 : Int) ≤ 1 by decide, .inr (show (1 : Int) ≠ 0 by decide), bd0 _, Bd.mono (show Bd 1 1 by decide) (by decide), up, ⟨bX.mono hM, bY.mono hM⟩, ⟨?_, ?_⟩, ⟨?_, ?_⟩, ⟨?_, ?_⟩, ⟨?_, ?_⟩, ⟨?_, ?_⟩⟩ <;> simp only [Int.mul_one, Int.mul_zero, Int.zero_add, Int.one_mul, Int.zero_mul]
      · exact bd0 _
      · exact bd0 _
      · exact bas.bq.1
      · exact bas.bq.2
      · exact bas.bq.1
      · exact bas.bq.2
      · exact bd0 _
      · exact bd0 _
      · exact bX
      · exact bY
theorem F5 {d : Int} (hR : Rt d) (pl : Nat) : ∀ {l : List Bx}, (∀ b ∈ l, 0 ≤ cn pl b ∧ sgn d b.x b.y = 1) → (hX pl l = 0 ∧ hY pl l = 0) ∨ sgn d (hX pl l) (hY pl l) = 1
  | [], _ => .inl ⟨rfl, rfl⟩
  | b :: l, h => by
    have h1 := h b List.mem_cons_self
    have ih := F5 hR pl (l := l) fun c hc => h c (List.mem_cons_of_mem _ hc)
    have ex : hX pl (b :: l) = cn pl b * b.x + hX pl l := rfl
    have ey : hY pl (b :: l) = cn pl b * b.y + hY pl l := rfl
    rw [ex, ey]
    by_cases c : cn pl b = 0
    · rw [c, Int.zero_mul, Int.zero_mul, Int.zero_add, Int.zero_add]; exact ih
    · have up := xP hR (m := cn pl b) (by omega) h1.2
      rcases ih with ⟨z1, z2⟩ | z
      · rw [z1, z2, Int.add_zero, Int.add_zero]; exact .inr up
      · exact .inr (wT hR up z)
def nrmD (s : B4) (N E : Int) (L : List Bo) : List Bo := nrx s N (N * E) (L.map (bxD s N (N * E))) 2
theorem vi (s : B4) (N D : Int) (l : List Bx) : nrx s N D l 2 = (if hX 0 l = 0 ∧ hY 0 l = 0 then [] else [(⟨bw1 s N, sdO D (hX 0 l) (hY 0 l)⟩ : Bo)]) ++ (if hX 1 l = 0 ∧ hY 1 l = 0 then [] else [(⟨bw2 s N, sdO D (hX 1 l) (hY 1 l)⟩ : Bo)]) := by
  show (([] : List Bo) ++ (if hX 0 l = 0 ∧ hY 0 l = 0 then [] else [(⟨bwq s N 0, sdO D (hX 0 l) (hY 0 l)⟩ : Bo)])) ++ (if hX 1 l = 0 ∧ hY 1 l = 0 then [] else [(⟨bwq s N 1, sdO D (hX 1 l) (hY 1 l)⟩ : Bo)]) = _
  rw [List.nil_append]
  rfl
theorem Es {s : B4} {N D : Int} {l : List Bx} {b : Bo} (h : b ∈ nrx s N D l 2) : ∃ pl, pl < 2 ∧ b = ⟨bwq s N pl, sdO D (hX pl l) (hY pl l)⟩ ∧ ¬ (hX pl l = 0 ∧ hY pl l = 0) := by
  rw [vi] at h
  rcases List.mem_append.mp h with h | h <;> split at h
  · cases h
  · next z => exact ⟨0, by decide, List.mem_singleton.mp h, z⟩
  · cases h
  · next z => exact ⟨1, by decide, List.mem_singleton.mp h, z⟩
theorem G6 {d px py qx qy : Int} {M0 M : Nat} {l : List Bx} (h : ∀ b ∈ l, BxOk d px py qx qy M0 M b) (pl : Nat) : Bd (M0 + l.length) (hX pl l) ∧ Bd (M0 + l.length) (hY pl l) := by
  constructor
  · refine BQ fun b hb => ?_
    unfold cn
    split
    · exact (h b hb).bxi.1
    · exact (h b hb).bxj.1
  · refine BQ fun b hb => ?_
    unfold cn
    split
    · exact (h b hb).bxi.2
    · exact (h b hb).bxj.2
theorem E8 {d px py qx qy : Int} {M0 M : Nat} {l : List Bx} (hR : Rt d) (h : ∀ b ∈ l, BxOk d px py qx qy M0 M b) (pl : Nat) : (hX pl l = 0 ∧ hY pl l = 0) ∨ sgn d (hX pl l) (hY pl l) = 1 :=
  F5 hR pl fun b hb => ⟨by unfold cn; split; exact (h b hb).i0; exact (h b hb).j0, (h b hb).up⟩
theorem Df {d N E : Int} {s : B4} {M0 M : Nat} {L : List Bo} (h : ∀ b ∈ L, BK d s N E M0 M b) : ∀ x ∈ L.map (bxD s N (N * E)), BxOk d (s.a * E) (s.b * E) (s.c * E) (s.e * E) M0 M x := fun x hx => by
  obtain ⟨b, hb, rfl⟩ := List.mem_map.mp hx
  exact (h b hb).ok
theorem DE {d N E : Int} {s : B4} {k M0 M : Nat} {L : List Bo} (hR : Rt d) (g : GB d k s) (hk : k ≤ 900) (hN : 1 ≤ N) (hE : 1 ≤ E) (bas : Bas d M (s.a * E) (s.b * E) (s.c * E) (s.e * E)) (h : ∀ b ∈ L, BK d s N E M0 M b) (hM : M0 + L.length ≤ M) : ∀ b ∈ nrmD s N E L, BK d s N E (M0 + L.length) M b := fun b hb => by
  obtain ⟨pl, _, rfl, nz⟩ := Es hb
  have ok := Df h
  obtain ⟨b1, b2⟩ := G6 ok pl
  rw [List.length_map] at b1 b2
  exact BK.own g hk hN hE bas ((E8 hR ok pl).resolve_left nz) b1 b2 hM pl
theorem D3 {C : List Cell} {k : Nat} {c : Cell} (h : C[k]? = some c) : (fL C k) = c := by
  unfold fL
  rw [h]
  rfl
theorem xw {g : Nat → Bo} {n : Nat} : ∀ {ns : List Nat}, ns.Pairwise (· < ·) → n ∈ ns → tbs (ns.map g) = (tbs ((ns.filter fun k : Nat => decide ((k : Int) ≠ (n : Int))).map g)).add (g n).tb
  | k :: ns, h, hn => by
    have h2 := List.pairwise_cons.mp h
    by_cases e : k = n
    · subst e
      have f : (k :: ns).filter (fun j : Nat => decide ((j : Int) ≠ (k : Int))) = ns := by
        rw [List.filter_cons, if_neg (by simp)]
        refine List.filter_eq_self.mpr fun j hj => ?_
        have := h2.1 j hj
        simp
        omega
      rw [f]
      show (g k).tb.add (tbs (ns.map g)) = _
      exact Tb.add_comm ..
    · have hn' : n ∈ ns := by simpa [Ne.symm e] using hn
      rw [List.filter_cons, if_pos (by simp; omega)]
      show (g k).tb.add (tbs (ns.map g)) = ((g k).tb.add (tbs _)).add (g n).tb
      rw [xw h2.2 hn', Tb.add_assoc]
theorem DP {g : Nat → Bo} {k : Nat} {N : List Bo} : (List.range' k N.length).map (gN g k N) = N := by
  refine List.ext_getElem (by simp) fun i h1 h2 => ?_
  rw [List.getElem_map, List.getElem_range']
  unfold gN
  rw [if_neg (by omega), show k + 1 * i - k = i by omega, List.getElem?_eq_getElem h2]
  rfl
theorem EX {d D : Int} {M : Nat} {tn : Bool} {s : As} {x : Dd × Nat × Nat} (h : Stp d tn s x) (ht : x.1.isT = false) (up : s.ns.Pairwise (· < ·)) (lt : ∀ n ∈ s.ns, n < s.k) (ob : ∀ n ∈ s.ns, BoD d D M (s.g n)) : tbs ((s.next x).ns.map (s.next x).g) = tbs (s.ns.map s.g) := by
  obtain ⟨e, n, m⟩ := x
  have h0 := h.nms
  have on := ob n h0.hn
  have om := ob m h0.hm
  have key : tbs ((s.next (e, n, m)).ns.map (s.next (e, n, m)).g) = (tbs ((yf s.ns e.names).map s.g)).add (tbs (e.new (s.g n) (s.g m))) := by
    show tbs ((yf s.ns e.names ++ List.range' s.k (e.new (s.g n) (s.g m)).length).map (gN s.g s.k (e.new (s.g n) (s.g m)))) = _
    rw [List.map_append, wp, DP, List.map_congr_left (g := s.g) fun j hj => FH (lt j (mem_ndrop.mp hj).1)]
  rw [key]
  clear key
  have one : ∀ l : List Bo, tbs l = (s.g n).tb → (tbs ((yf s.ns [(n : Int)]).map s.g)).add (tbs l) = tbs (s.ns.map s.g) := fun l hl => by
    rw [hl]
    exact (xw (g := s.g) up h0.hn).symm
  have two : ∀ b1 b2 : Bo, tbs [b1, b2] = b1.tb.add b2.tb := fun b1 b2 => by
    show b1.tb.add (b2.tb.add Tb.zero) = _
    rw [Tb.add_comm b2.tb, Tb.zero_add]
  have hnm := h0.nm
  have hfit := h.fit
  have ht : e.isT = false := ht
  have hnm : e.names = if e.two then [(n : Int), (m : Int)] else [(n : Int)] := hnm
  have hfit : e.Fit d (s.g n) (s.g m) := hfit
  cases e with
  | cut al a t =>
    rw [hnm]
    refine one _ ?_
    cases al with
    | false =>
      obtain ⟨_, ss, _, _⟩ := hfit
      exact (two _ _).trans (Hq on.1.ne ss.ne)
    | true =>
      obtain ⟨_, ss, _, _⟩ := hfit
      exact (two _ _).trans (GM on.2.ne ss.ne)
  | shift al a k =>
    rw [hnm]
    have hk : k ≠ 0 := by have := hfit.1; omega
    refine one _ ?_
    cases al with
    | false => exact (xC _).trans (Hu on.1.ne on.2.ne hk)
    | true => exact (xC _).trans (Gu on.1.ne on.2.ne hk)
  | turn a => exact nomatch ht
  | glue al a b =>
    rw [hnm]
    have nm : n ≠ m := h0.ne rfl
    have up2 : (s.ns.filter fun k : Nat => decide ((k : Int) ≠ (n : Int))).Pairwise (· < ·) := up.filter _
    have hm2 : m ∈ s.ns.filter fun k : Nat => decide ((k : Int) ≠ (n : Int)) := List.mem_filter.mpr ⟨h0.hm, by simp; omega⟩
    have e1 := xw (g := s.g) up h0.hn
    have e2 := xw (g := s.g) up2 hm2
    show (tbs ((((s.ns.filter fun k : Nat => decide ((k : Int) ≠ (n : Int))).filter fun k : Nat => decide ((k : Int) ≠ (m : Int)))).map s.g)).add _ = _
    rw [e1, e2, Tb.add_assoc]
    congr 1
    rw [Tb.add_comm]
    cases al with
    | false =>
      obtain ⟨eh, _, _⟩ := hfit
      refine (xC _).trans ((GF on.1.ne om.1.ne).trans ?_)
      show (Bo.tb _).add (⟨(s.g m).w, (s.g n).h⟩ : Bo).tb = (s.g n).tb.add (s.g m).tb
      rw [show (⟨(s.g m).w, (s.g n).h⟩ : Bo) = s.g m from by rw [eh]]
    | true =>
      obtain ⟨eh, _, _⟩ := hfit
      refine (xC _).trans ((Gm on.2.ne om.2.ne).trans ?_)
      show (Bo.tb _).add (⟨(s.g n).w, (s.g m).h⟩ : Bo).tb = (s.g n).tb.add (s.g m).tb
      rw [show (⟨(s.g n).w, (s.g m).h⟩ : Bo) = s.g m from by rw [eh]]
theorem Gp {C : List Cell} (h1 : 1 ≤ C.length) : As.Ok C.length (As.st C) 0 := ⟨List.pairwise_lt_range, fun n hn => List.mem_range.mp hn, fun h => by have h : List.range C.length = [] := h; rw [List.range_eq_nil] at h; omega, by show (List.range C.length).length ≤ _; rw [List.length_range]; omega, by show C.length ≤ _; omega⟩
theorem E3 (C : List Cell) : (As.st C).ns.map (As.st C).g = C.map Cell.b := by
  show (List.range C.length).map (fun n => (fL C n).b) = C.map Cell.b
  refine List.ext_getElem (by simp) fun i h1 h2 => ?_
  have hi : i < C.length := by rw [List.length_map] at h2; exact h2
  rw [List.getElem_map, List.getElem_range, List.getElem_map, D3 (List.getElem?_eq_getElem hi)]
theorem uR {D X Y : Int} (hD : 1 ≤ D) : (sdO D X Y).p = Rat.divInt X D ∧ (sdO D X Y).q = Rat.divInt Y D := by
  have r := yS (D := D) (X := X) (Y := Y) hD
  have z := r.z1
  exact ⟨yl (by omega) (by omega) r.x, yl (by omega) (by omega) r.y⟩
def TbX (s : B4) (E D : Int) (l : List Bx) : Tb := ⟨Rat.divInt (s.a * E * hX 0 l + s.c * E * hX 1 l) (D * D), Rat.divInt (s.a * E * hY 0 l + s.c * E * hY 1 l) (D * D), Rat.divInt (s.b * E * hX 0 l + s.e * E * hX 1 l) (D * D), Rat.divInt (s.b * E * hY 0 l + s.e * E * hY 1 l) (D * D)⟩
theorem vv {d N E : Int} {s : B4} {M0 M : Nat} (hD : 1 ≤ N * E) : ∀ {L : List Bo}, (∀ b ∈ L, BK d s N E M0 M b) → tbs L = TbX s E (N * E) (L.map (bxD s N (N * E)))
  | [], _ => by
    unfold TbX
    show Tb.zero = _
    simp only [hX, hY, sI, List.map_nil, Int.mul_zero, Int.add_zero, Rat.zero_divInt]
    rfl
  | b :: L, h => by
    have hb := h b List.mem_cons_self
    have ih := vv hD (L := L) fun c hc => h c (List.mem_cons_of_mem _ hc)
    have n0 : N * E * (N * E) ≠ 0 := Int.mul_ne_zero (by omega) (by omega)
    have ew : b.w = sdO (N * E) (s.a * E * (bxD s N (N * E) b).i + s.c * E * (bxD s N (N * E) b).j) (s.b * E * (bxD s N (N * E) b).i + s.e * E * (bxD s N (N * E) b).j) := congrArg Bo.w hb.bo
    have eh : b.h = sdO (N * E) (bxD s N (N * E) b).x (bxD s N (N * E) b).y := congrArg Bo.h hb.bo
    have e1 : b.w.p = _ := (congrArg Sd.p ew).trans (uR hD).1
    have e2 : b.w.q = _ := (congrArg Sd.q ew).trans (uR hD).2
    have e3 : b.h.p = _ := (congrArg Sd.p eh).trans (uR hD).1
    have e4 : b.h.q = _ := (congrArg Sd.q eh).trans (uR hD).2
    show b.tb.add (tbs L) = _
    rw [ih]
    unfold TbX
    show (⟨b.w.p * b.h.p + _, b.w.p * b.h.q + _, b.w.q * b.h.p + _, b.w.q * b.h.q + _⟩ : Tb) = _
    rw [e1, e2, e3, e4, ← wN, ← wN, ← wN, ← wN, vf n0, vf n0, vf n0, vf n0]
    have cx : ∀ pl, hX pl ((b :: L).map (bxD s N (N * E))) = cn pl (bxD s N (N * E) b) * (bxD s N (N * E) b).x + hX pl (L.map (bxD s N (N * E))) := fun pl => rfl
    have cy : ∀ pl, hY pl ((b :: L).map (bxD s N (N * E))) = cn pl (bxD s N (N * E) b) * (bxD s N (N * E) b).y + hY pl (L.map (bxD s N (N * E))) := fun pl => rfl
    rw [cx, cx, cy, cy, show cn 0 (bxD s N (N * E) b) = (bxD s N (N * E) b).i from rfl, show cn 1 (bxD s N (N * E) b) = (bxD s N (N * E) b).j from rfl]
    generalize (bxD s N (N * E) b).i = i
    generalize (bxD s N (N * E) b).j = j
    generalize (bxD s N (N * E) b).x = x
    generalize (bxD s N (N * E) b).y = y
    generalize hX 0 (L.map (bxD s N (N * E))) = x0
    generalize hX 1 (L.map (bxD s N (N * E))) = x1
    generalize hY 0 (L.map (bxD s N (N * E))) = y0
    generalize hY 1 (L.map (bxD s N (N * E))) = y1
    clear cx cy e1 e2 e3 e4 ew eh hb h ih
    refine Tb.ext ?_ ?_ ?_ ?_ <;> (dsimp only; congr 1; grind)
theorem lin2 {d : Int} {k : Nat} {s : B4} {E x y x' y' : Int} (g : GB d k s) (hE : 1 ≤ E) (h1 : s.a * E * x + s.c * E * y = s.a * E * x' + s.c * E * y') (h2 : s.b * E * x + s.e * E * y = s.b * E * x' + s.e * E * y') : x = x' ∧ y = y' := by
  have n : E ≠ 0 := by omega
  have a1 : s.a * (x - x') + s.c * (y - y') = 0 := by
    have : E * (s.a * (x - x') + s.c * (y - y')) = 0 := by grind
    rcases Int.mul_eq_zero.mp this with z | z
    · exact absurd z n
    · exact z
  have a2 : s.b * (x - x') + s.e * (y - y') = 0 := by
    have : E * (s.b * (x - x') + s.e * (y - y')) = 0 := by grind
    rcases Int.mul_eq_zero.mp this with z | z
    · exact absurd z n
    · exact z
  have dt : s.a * s.e - s.b * s.c ≠ 0 := by
    rcases g.det with z | z <;> omega
  have b1 : (s.a * s.e - s.b * s.c) * (x - x') = 0 := by grind
  have b2 : (s.a * s.e - s.b * s.c) * (y - y') = 0 := by grind
  constructor
  · rcases Int.mul_eq_zero.mp b1 with z | z
    · exact absurd z dt
    · omega
  · rcases Int.mul_eq_zero.mp b2 with z | z
    · exact absurd z dt
    · omega
theorem t7 {d N E : Int} {s : B4} {k M0 M M0' M' : Nat} {L L' : List Bo} (g : GB d k s) (hN : 1 ≤ N) (hE : 1 ≤ E) (h : ∀ b ∈ L, BK d s N E M0 M b) (h' : ∀ b ∈ L', BK d s N E M0' M' b) (e : tbs L = tbs L') : nrmD s N E L = nrmD s N E L' := by
  have hD : 1 ≤ N * E := Int.mul_pos (by omega) (by omega)
  have n0 : N * E * (N * E) ≠ 0 := Int.mul_ne_zero (by omega) (by omega)
  rw [vv hD h, vv hD h'] at e
  have cut : ∀ {a b : Int}, Rat.divInt a (N * E * (N * E)) = Rat.divInt b (N * E * (N * E)) → a = b := fun z => Int.eq_of_mul_eq_mul_right n0 ((Rat.divInt_eq_divInt_iff n0 n0).mp z)
  obtain ⟨x0, x1⟩ := lin2 g hE (cut (congrArg Tb.a e)) (cut (congrArg Tb.c e))
  obtain ⟨y0, y1⟩ := lin2 g hE (cut (congrArg Tb.b e)) (cut (congrArg Tb.e e))
  exact By ⟨x0, y0⟩ ⟨x1, y1⟩
theorem Cc {d N E : Int} {s : B4} {k : Nat} {L : List Bo} (g : GB d k s) (hN : 1 ≤ N) (hE : 1 ≤ E) : (nrmD s N E L).map (bxD s N (N * E)) = fbx (L.map (bxD s N (N * E))) := by
  unfold nrmD fbx
  rw [vi]
  generalize L.map (bxD s N (N * E)) = l
  rw [List.map_append]
  congr 1
  · split
    · rfl
    · rw [List.map_cons, List.map_nil, (Bi g hN hE).1]
  · split
    · rfl
    · rw [List.map_cons, List.map_nil, (Bi g hN hE).2]
theorem A7 {d N E : Int} {s : B4} {k M0 M : Nat} {L : List Bo} (hR : Rt d) (g : GB d k s) (hk : k ≤ 900) (hN : 1 ≤ N) (hE : 1 ≤ E) (bas : Bas d M (s.a * E) (s.b * E) (s.c * E) (s.e * E)) (h : ∀ b ∈ L, BK d s N E M0 M b) (hM : M0 + L.length ≤ M) : tbs (nrmD s N E L) = tbs L := by
  have hD : 1 ≤ N * E := Int.mul_pos (by omega) (by omega)
  rw [vv hD h, vv hD (DE hR g hk hN hE bas h hM), Cc g hN hE]
  obtain ⟨a, b, c, e⟩ := Gx (L.map (bxD s N (N * E)))
  unfold TbX
  rw [a, b, c, e]
theorem CM {f z D : Int} (hf : 1 ≤ f) (hz : 1 ≤ z) (h1 : f ∣ D) (h2 : z ∣ D) : lcmI f z ∣ D := by
  obtain ⟨s, u, v, hs, s1, u1, v1, ez, ez', fu, fv, guv⟩ := u9 hf hz
  unfold lcmI
  rw [← hs, fu]
  obtain ⟨t, ht⟩ := h2
  have h3 : u ∣ v * t := by
    obtain ⟨w, hw⟩ := h1
    refine ⟨w, Int.eq_of_mul_eq_mul_left (show s ≠ 0 by omega) ?_⟩
    have e1 : s * (v * t) = D := by rw [ht, ez', Int.mul_assoc]
    have e2 : s * (u * w) = D := by rw [hw, ez, Int.mul_assoc]
    rw [e1, e2]
  have h4 : u ∣ t := Int.natAbs_dvd_natAbs.mp (Nat.Coprime.dvd_of_dvd_mul_left (show Nat.gcd u.natAbs v.natAbs = 1 from guv) (by rw [← Int.natAbs_mul]; exact Int.natAbs_dvd_natAbs.mpr h3))
  obtain ⟨w, hw⟩ := h4
  exact ⟨w, by rw [ht, hw]; grind⟩
theorem Ae {D : Int} : ∀ (zs : List Int) (f : Int), 1 ≤ f → f ∣ D → (∀ z ∈ zs, 1 ≤ z ∧ z ∣ D) → zs.foldl lcmI f ∣ D
  | [], _, _, h, _ => h
  | z :: zs, f, hf, h, hz => by
    have h1 := hz z List.mem_cons_self
    exact Ae zs _ (xk hf h1.1).1 (CM hf h1.1 h h1.2) fun u hu => hz u (List.mem_cons_of_mem _ hu)
theorem wP : ∀ (zs : List Int) (f : Int), 1 ≤ f → (∀ z ∈ zs, 1 ≤ z) → 1 ≤ zs.foldl lcmI f ∧ f ∣ zs.foldl lcmI f ∧ ∀ z ∈ zs, z ∣ zs.foldl lcmI f
  | [], _, h, _ => ⟨h, Int.dvd_refl _, fun z hz => absurd hz (by simp)⟩
  | z :: zs, f, hf, h => by
    obtain ⟨a1, a2, a3, _⟩ := xk hf (h z List.mem_cons_self)
    obtain ⟨b1, b2, b3⟩ := wP zs (lcmI f z) a1 fun u hu => h u (List.mem_cons_of_mem _ hu)
    exact ⟨b1, Int.dvd_trans a2 b2, fun u hu => by
      rcases List.mem_cons.mp hu with e | e
      · subst e; exact Int.dvd_trans a3 b2
      · exact b3 u e⟩
theorem So.dvd {d D : Int} {M : Nat} {s : Sd} (h : So d D M s) (hD : 1 ≤ D) : s.z ∣ D := by
  obtain ⟨X, Y, _, _, hx, hy⟩ := h.r
  rw [(zL h.z1 h.g (show D ≠ 0 by omega) hx hy).2.2]
  exact ⟨gd X Y D, lN_mul.symm⟩
theorem Bd.dvd_le {k : Nat} {a b : Int} (h : Bd k b) (hb : 1 ≤ b) (d : a ∣ b) : Bd k a := by
  obtain ⟨t, ht⟩ := d
  refine h.of_le ?_
  rw [ht, Int.natAbs_mul]
  refine Nat.le_mul_of_pos_right _ ?_
  have : t ≠ 0 := fun z => by rw [z, Int.mul_zero] at ht; omega
  omega
theorem So.num {d D N : Int} {M : Nat} {s : Sd} (h : So d D M s) (hD : 1 ≤ D) (ND : N ∣ D) (zN : s.z ∣ N) : Bd M (N / s.z * s.x) ∧ Bd M (N / s.z * s.y) := by
  obtain ⟨X, Y, bX, bY, hx, hy⟩ := h.r
  obtain ⟨t, ht⟩ := ND
  obtain ⟨u, hu⟩ := zN
  have z1 := h.z1
  have eu : N / s.z = u := by rw [hu]; exact Int.mul_ediv_cancel_left _ (by omega)
  have t0 : t ≠ 0 := fun z => by rw [z, Int.mul_zero] at ht; omega
  have ex : u * s.x * t = X := Int.eq_of_mul_eq_mul_right (show s.z ≠ 0 by omega) (by rw [← hx, ht, hu]; grind)
  have ey : u * s.y * t = Y := Int.eq_of_mul_eq_mul_right (show s.z ≠ 0 by omega) (by rw [← hy, ht, hu]; grind)
  rw [eu]
  exact ⟨bX.of_le (by rw [← ex, Int.natAbs_mul (u * s.x)]; exact Nat.le_mul_of_pos_right _ (by omega)), bY.of_le (by rw [← ey, Int.natAbs_mul (u * s.y)]; exact Nat.le_mul_of_pos_right _ (by omega))⟩
theorem So.num2 {d N E : Int} {M kN : Nat} {s : Sd} (h : So d E M s) (hE : 1 ≤ E) (bN : Bd kN N) : Bd (kN + M) (N * E / s.z * s.x) ∧ Bd (kN + M) (N * E / s.z * s.y) := by
  obtain ⟨X, Y, bX, bY, hx, hy⟩ := h.r
  obtain ⟨u, hu⟩ := h.dvd hE
  have z1 := h.z1
  have eu : N * E / s.z = N * u := by rw [hu, show N * (s.z * u) = s.z * (N * u) by grind]; exact Int.mul_ediv_cancel_left _ (by omega)
  have ex : u * s.x = X := Int.eq_of_mul_eq_mul_right (show s.z ≠ 0 by omega) (by rw [← hx, hu]; grind)
  have ey : u * s.y = Y := Int.eq_of_mul_eq_mul_right (show s.z ≠ 0 by omega) (by rw [← hy, hu]; grind)
  rw [eu, Int.mul_assoc, Int.mul_assoc, ex, ey]
  exact ⟨bN.mul bX, bN.mul bY⟩
theorem BK.so {d N E D : Int} {k Mw Mh kN kE M0 M : Nat} {s : B4} {b : Bo} (hR : Rt d) (g : GB d k s) (hN : 1 ≤ N) (hE : 1 ≤ E) (hD : 1 ≤ D) (ow : So d D Mw b.w) (wd : b.w.z ∣ N) (ND : N ∣ D) (oh : So d E Mh b.h) (sv : s.srv b.w.x b.w.y) (bN : Bd kN N) (bE : Bd kE E)
    (l1 : Mw ≤ 900) (l2 : Mw + k + 2 ≤ 1200) (l3 : kN + Mh ≤ M) (l4 : k + kE + (Mw + k + 2) + 1 ≤ M) (l5 : Mw + k + 2 + (kN + Mh) ≤ M0) : BK d s N E M0 M b := by
  obtain ⟨n1, n2⟩ := ow.num hD ND wd
  obtain ⟨m1, m2⟩ := oh.num2 hE bN
  obtain ⟨t1, _⟩ := vW ow.z1 hN bN wd
  exact BK.gen (k := k) (kw := Mw) (kh := kN + Mh) (kE := kE) hR g hN hE ow.z1 ow.g ow.up wd oh.z1 oh.g oh.up (Int.dvd_trans (oh.dvd hE) (Int.dvd_mul_left _ _)) (fun pl => by
    have := (BR t1).mpr sv
    unfold mny
    split
    · exact this.1
    · exact this.2) bE n1 n2 m1 m2 l1 l2 l3 l4 l5
theorem CO {d D : Int} {M : Nat} {s : As} {x : Dd × Nat × Nat} (lt : ∀ n ∈ s.ns, n < s.k) (ob : ∀ n ∈ s.ns, BoD d D M (s.g n)) (nb : ∀ b ∈ x.1.new (s.g x.2.1) (s.g x.2.2), BoD d D M b) : ∀ n ∈ (s.next x).ns, BoD d D M ((s.next x).g n) := fun n hn => by
  rcases mem_next.mp hn with ⟨h1, _⟩ | ⟨h1, h2⟩
  · have : (s.next x).g n = s.g n := FH (lt n h1)
    rw [this]
    exact ob n h1
  · obtain ⟨j, rfl⟩ : ∃ j, n = s.k + j := ⟨n - s.k, by omega⟩
    have hj : j < (x.1.new (s.g x.2.1) (s.g x.2.2)).length := by rw [Dd.puts_new]; omega
    have e : (s.next x).g (s.k + j) = (x.1.new (s.g x.2.1) (s.g x.2.2))[j] := G2 (List.getElem?_eq_getElem hj)
    rw [e]
    exact nb _ (List.getElem_mem hj)
theorem cutB {d D p m : Int} {M K' : Nat} {tn al : Bool} {s : As} {n : Nat} (hR : Rt d) (z : Sz (D * m) K' (M + 8)) (hn : n ∈ s.ns) (ob : BoD d D M (s.g n)) (p1 : 1 ≤ p) (pm : p < m) (bm : Bd 4 m) :
    Stp d tn s (.cut al n (shS (if al then (s.g n).h else (s.g n).w) p m), n, n) ∧ ∀ b ∈ (Dd.cut al n (shS (if al then (s.g n).h else (s.g n).w) p m)).new (s.g n) (s.g n), BoD d (D * m) (M + 8) b := by
  have bp : Bd 4 p := bm.of_le (by omega)
  have key : ∀ w, So d D M w → So d (D * m) (M + 8) w ∧ So d (D * m) (M + 8) (shS w p m) ∧ So d (D * m) (M + 8) (tkS w (shS w p m)) := fun w ow => by
    have sw := ow.scale bm
    have sa := DC hR ow p1 (by omega) bp (k := m)
    exact ⟨sw.mono (by omega), sa.mono (by omega), (Gr hR sw sa (GN hR ow.z1 ow.up p1 pm)).mono (by omega)⟩
  obtain ⟨w1, w2, w3⟩ := key _ ob.1
  obtain ⟨h1, h2, h3⟩ := key _ ob.2
  cases al with
  | false =>
    refine ⟨⟨⟨rfl, hn, hn, (fun h => nomatch h), fun _ => rfl⟩, z.sy w2, BU hR z w1 w2 w3, (fun h => nomatch h)⟩, fun b hb => ?_⟩
    rcases List.mem_cons.mp hb with rfl | hb
    · exact ⟨w2, h1⟩
    · rw [List.mem_singleton.mp hb]; exact ⟨w3, h1⟩
  | true =>
    refine ⟨⟨⟨rfl, hn, hn, (fun h => nomatch h), fun _ => rfl⟩, z.sy h2, BU hR z h1 h2 h3, (fun h => nomatch h)⟩, fun b hb => ?_⟩
    rcases List.mem_cons.mp hb with rfl | hb
    · exact ⟨w1, h2⟩
    · rw [List.mem_singleton.mp hb]; exact ⟨w1, h3⟩
theorem Fe {d D m : Int} {M K' : Nat} {tn al : Bool} {s : As} {n : Nat} (hR : Rt d) (z : Sz (D * m) K' (M + 8)) (hn : n ∈ s.ns) (ob : BoD d D M (s.g n)) (m1 : 1 ≤ m) (bm : Bd 4 m) :
    Stp d tn s (.shift al n m, n, n) ∧ ∀ b ∈ (Dd.shift al n m).new (s.g n) (s.g n), BoD d (D * m) (M + 8) b := by
  have key : ∀ w, So d D M w → So d (D * m) (M + 8) w ∧ So d (D * m) (M + 8) (shS w 1 m) ∧ So d (D * m) (M + 8) (shS w m 1) := fun w ow => by
    have h2 := DC hR ow m1 (show (1 : Int) ≤ 1 by decide) bm (k := 1)
    rw [Int.mul_one] at h2
    exact ⟨(ow.scale bm).mono (by omega), (DC hR ow (show (1 : Int) ≤ 1 by decide) m1 (show Bd 1 1 by decide) (k := m)).mono (by omega), (h2.scale bm).mono (by omega)⟩
  obtain ⟨w1, w2, w3⟩ := key _ ob.1
  obtain ⟨h1, h2, h3⟩ := key _ ob.2
  refine ⟨Ao z hn m1 (bm.mono (by decide)) w1 h1, fun b hb => ?_⟩
  cases al with
  | false => rw [List.mem_singleton.mp hb]; exact ⟨w2, h3⟩
  | true => rw [List.mem_singleton.mp hb]; exact ⟨w3, h2⟩
theorem GP {d D : Int} {M K' : Nat} {tn al : Bool} {s : As} {n m : Nat} (hR : Rt d) (z : Sz D K' (M + 8)) (hn : n ∈ s.ns) (hm : m ∈ s.ns) (nm : n ≠ m) (ob : BoD d D M (s.g n)) (ob' : BoD d D M (s.g m)) (e : if al then (s.g n).w = (s.g m).w else (s.g n).h = (s.g m).h) :
    Stp d tn s (.glue al n m, n, m) ∧ ∀ b ∈ (Dd.glue al n m).new (s.g n) (s.g m), BoD d D (M + 8) b := by
  have sy : ∀ w, So d D M w → SY w := fun w h => z.sy (h.mono (by omega))
  cases al with
  | false =>
    refine ⟨⟨⟨rfl, hn, hm, fun _ => nm, (fun h => nomatch h)⟩, trivial, ⟨e, sy _ ob.1, sy _ ob'.1⟩, (fun h => nomatch h)⟩, fun b hb => ?_⟩
    rw [List.mem_singleton.mp hb]
    exact ⟨(Dx hR ob.1 ob'.1).mono (by omega), ob.2.mono (by omega)⟩
  | true =>
    refine ⟨⟨⟨rfl, hn, hm, fun _ => nm, (fun h => nomatch h)⟩, trivial, ⟨e, sy _ ob.2, sy _ ob'.2⟩, (fun h => nomatch h)⟩, fun b hb => ?_⟩
    rw [List.mem_singleton.mp hb]
    exact ⟨ob.1.mono (by omega), (Dx hR ob.2 ob'.2).mono (by omega)⟩
structure YI (d D0 D : Int) (T : Tb) (i : Nat) (s : As) : Prop where
  d1 : 1 ≤ D
  dv : D0 ∣ D
  bd : Bd (220 + 4 * i) D
  ob : ∀ n ∈ s.ns, BoD d D (240 + 8 * i) (s.g n)
  up : s.ns.Pairwise (· < ·)
  lt : ∀ n ∈ s.ns, n < s.k
  ne : s.ns ≠ []
  nl : s.ns.length ≤ 20
  kl : s.k ≤ 10 + 2 * i
  tb : tbs (s.ns.map s.g) = T
theorem YI.sz {d D0 D m : Int} {T : Tb} {i : Nat} {s : As} (h : YI d D0 D T i s) (m1 : 1 ≤ m) (bm : Bd 4 m) (hi : i ≤ 60) : Sz (D * m) (220 + 4 * i + 4) (240 + 8 * i + 8) := ⟨Int.mul_pos (by have := h.d1; omega) (by omega), h.bd.mul bm, by omega, by omega⟩
theorem YI.step {d D0 D m : Int} {T : Tb} {i : Nat} {s : As} {x : Dd × Nat × Nat} (h : YI d D0 D T i s) (m1 : 1 ≤ m) (bm : Bd 4 m) (st : Stp d false s x) (nb : ∀ b ∈ x.1.new (s.g x.2.1) (s.g x.2.2), BoD d (D * m) (240 + 8 * i + 8) b) (hl : x.1.puts = 1 ∨ s.ns.length < 20) : YI d D0 (D * m) T (i + 1) (s.next x) := by
  have ok := As.Ok.next (B := s.ns.length + s.k) (i := 0) ⟨h.up, h.lt, h.ne, by omega, by omega⟩ st.nms
  have d1 := h.d1
  have hnx : (x.2.1 : Int) ∈ x.1.names := by rw [st.nms.nm]; split <;> exact List.mem_cons_self
  have hdr := u5 h.up st.nms.hn hnx
  have pl := DO x.1
  have nl := h.nl
  have kl := h.kl
  refine ⟨Int.mul_pos (by omega) (by omega), Int.dvd_trans h.dv (Int.dvd_mul_right _ _), (h.bd.mul bm).mono (by omega), CO h.lt (fun n hn => ?_) (fun b hb => (nb b hb)), ok.up, ok.lt, ok.ne, ?_, by rw [FB]; omega, ?_⟩
  · have := h.ob n hn
    exact ⟨(this.1.scale bm).mono (by omega), (this.2.scale bm).mono (by omega)⟩
  · show (yf s.ns x.1.names ++ List.range' s.k (x.1.new (s.g x.2.1) (s.g x.2.2)).length).length ≤ 20
    rw [List.length_append, List.length_range', Dd.puts_new]
    omega
  · refine (EX (D := D) (M := 240 + 8 * i) st ?_ h.up h.lt h.ob).trans h.tb
    cases e : x.1.isT with
    | false => rfl
    | true => exact nomatch st.tn e
theorem Ea (sd : Bool) (x y : Addr) : atI [V.ref x, V.ref y] (if sd then 1 else 0) = some (.ref (if sd then y else x)) := by cases sd <;> rfl
theorem DZ {H : Hp} {c : Cell} (h : c.At H) (sd : Bool) : H (if sd then c.ph else c.pw) = some (.tup [.int (if sd then c.b.h else c.b.w).x, .int (if sd then c.b.h else c.b.w).y, .int (if sd then c.b.h else c.b.w).z]) := by
  cases sd
  · exact h.w
  · exact h.h
theorem Hm {b b' : Bo} {sd : Bool} (h : (if sd then b.h else b.w).x = (if sd then b'.h else b'.w).x ∧ (if sd then b.h else b.w).y = (if sd then b'.h else b'.w).y ∧ (if sd then b.h else b.w).z = (if sd then b'.h else b'.w).z) : if sd then b.h = b'.h else b.w = b'.w := by
  have e : ∀ s t : Sd, s.x = t.x ∧ s.y = t.y ∧ s.z = t.z → s = t := fun s t h => by
    cases s
    cases t
    obtain ⟨rfl, rfl, rfl⟩ := h
    rfl
  cases sd
  · exact e _ _ h
  · exact e _ _ h
theorem Ct {p m : Int} (p1 : 1 ≤ p) (pm : p < m) : lB p 0 m = 0 ∧ 1 ≤ lA p 0 m ∧ lA p 0 m < lN p 0 m ∧ lN p 0 m ≤ m := by
  have n0 : m ≠ 0 := by omega
  have a := l_a (a := p) (b := 0) (n := m)
  have b := l_b (a := p) (b := 0) (n := m)
  have z := l_n (a := p) (b := 0) n0
  have dv : lN p 0 m * gd p 0 m = m := lN_mul
  rw [Int.zero_mul] at b
  refine ⟨?_, ?_, ?_, ?_⟩
  · rcases Int.mul_eq_zero.mp b with h | h
    · exact h
    · exact absurd h n0
  · refine Int.not_lt.mp fun q => ?_
    have h1 := Int.mul_pos (show (0 : Int) < p by omega) (show (0 : Int) < lN p 0 m by omega)
    have h2 := Int.mul_nonpos_of_nonpos_of_nonneg (show lA p 0 m ≤ 0 by omega) (show (0 : Int) ≤ m by omega)
    omega
  · refine Int.not_le.mp fun q => ?_
    have h1 := Int.mul_lt_mul_of_pos_right pm (show (0 : Int) < lN p 0 m by omega)
    have h2 := Int.mul_le_mul_of_nonneg_right q (show (0 : Int) ≤ m by omega)
    rw [Int.mul_comm m] at h1
    omega
  · have g1 : 1 ≤ gd p 0 m := by
      refine Int.not_lt.mp fun q => ?_
      have := Int.mul_nonpos_of_nonneg_of_nonpos (show (0 : Int) ≤ lN p 0 m by omega) (show gd p 0 m ≤ 0 by omega)
      omega
    have := Int.mul_le_mul_of_nonneg_left g1 (show (0 : Int) ≤ lN p 0 m by omega)
    omega
theorem YI.skip {d D0 D : Int} {T : Tb} {i : Nat} {s : As} (h : YI d D0 D T i s) : YI d D0 D T (i + 1) s := ⟨h.d1, h.dv, h.bd.mono (by omega), fun n hn => ⟨(h.ob n hn).1.mono (by omega), (h.ob n hn).2.mono (by omega)⟩, h.up, h.lt, h.ne, h.nl, by have := h.kl; omega, h.tb⟩
theorem GQ {p q : Prop} [Decidable p] {X Y B : Prop} (hX : p ∨ q → X) (hB : ¬ p → (q → X) → B) : if decide p = true then (if true = true then X else Y) else B := by
  by_cases h : p
  · rw [if_pos (decide_eq_true h), if_pos rfl]; exact hX (.inl h)
  · rw [if_neg (by rw [decide_eq_false h]; decide)]; exact hB h fun z => hX (.inr z)
theorem bd4 {m : Int} (h : 1 ≤ m) (h2 : m ≤ 15) : Bd 4 m := by
  unfold Bd
  have : (2 : Nat) ^ 4 = 16 := by decide
  omega
theorem So.low {d D : Int} {a b : Nat} {s : Sd} (hD : 1 ≤ D) (z1 : 1 ≤ s.z) (g : g3 s.x s.y s.z = 1) (up : sgn d s.x s.y = 1) (dv : s.z ∣ D) (bx : Bd a s.x) (by' : Bd a s.y) (bD : Bd b D) : So d D (b + a) s := by
  obtain ⟨_, tb⟩ := vW z1 hD bD dv
  obtain ⟨t, ht⟩ := dv
  have et : D / s.z = t := by rw [ht]; exact Int.mul_ediv_cancel_left _ (by omega)
  rw [et] at tb
  exact ⟨z1, g, up, t * s.x, t * s.y, tb.mul bx, tb.mul by', by rw [ht]; grind, by rw [ht]; grind⟩
def pzb : List Bo → Int
  | [] => 1
  | b :: l => b.w.z * b.h.z * pzb l
theorem vU {k : Nat} : ∀ {l : List Bo}, (∀ b ∈ l, 1 ≤ b.w.z ∧ 1 ≤ b.h.z ∧ Bd k b.w.z ∧ Bd k b.h.z) → 1 ≤ pzb l ∧ Bd (2 * k * l.length + 1) (pzb l) ∧ ∀ b ∈ l, b.w.z ∣ pzb l ∧ b.h.z ∣ pzb l
  | [], _ => ⟨Int.le_refl _, Bd.mono (show Bd 1 1 by decide) (Nat.le_add_left _ _), fun b h => absurd h (by simp)⟩
  | b :: l, h => by
    obtain ⟨w1, h1, bw, bh⟩ := h b List.mem_cons_self
    obtain ⟨i1, i2, i3⟩ := vU (l := l) fun c hc => h c (List.mem_cons_of_mem _ hc)
    refine ⟨Int.mul_pos (Int.mul_pos (by omega) (by omega)) (by omega), ((bw.mul bh).mul i2).mono (by rw [List.length_cons, Nat.mul_succ]; omega), fun c hc => ?_⟩
    rcases List.mem_cons.mp hc with rfl | hc
    · exact ⟨⟨c.h.z * pzb l, by show c.w.z * c.h.z * pzb l = _; grind⟩, ⟨c.w.z * pzb l, by show c.w.z * c.h.z * pzb l = _; grind⟩⟩
    · exact ⟨Int.dvd_trans (i3 c hc).1 (Int.dvd_mul_left _ _), Int.dvd_trans (i3 c hc).2 (Int.dvd_mul_left _ _)⟩
theorem Cr {d N E : Int} {s : B4} {M0 M : Nat} {L : List Bo} {w h h' : Sd} (hR : Rt d) (h1 : ∀ b ∈ L ++ [⟨w, h⟩], BK d s N E M0 M b) (h2 : BK d s N E M0 M ⟨w, h'⟩) : (nrmD s N E (L ++ [⟨w, h'⟩])).length = (nrmD s N E (L ++ [⟨w, h⟩])).length := by
  have hb := h1 ⟨w, h⟩ (by simp)
  have key : ∀ pl, (hX pl ((L ++ [(⟨w, h'⟩ : Bo)]).map (bxD s N (N * E))) = 0 ∧ hY pl ((L ++ [(⟨w, h'⟩ : Bo)]).map (bxD s N (N * E))) = 0) ↔ (hX pl ((L ++ [(⟨w, h⟩ : Bo)]).map (bxD s N (N * E))) = 0 ∧ hY pl ((L ++ [(⟨w, h⟩ : Bo)]).map (bxD s N (N * E))) = 0) := fun pl => by
    have ex : ∀ b : Bo, hX pl ((L ++ [b]).map (bxD s N (N * E))) = hX pl (L.map (bxD s N (N * E))) + cn pl (bxD s N (N * E) b) * (bxD s N (N * E) b).x := fun b => by rw [List.map_append]; exact xT _ _ _
    have ey : ∀ b : Bo, hY pl ((L ++ [b]).map (bxD s N (N * E))) = hY pl (L.map (bxD s N (N * E))) + cn pl (bxD s N (N * E) b) * (bxD s N (N * E) b).y := fun b => by rw [List.map_append]; exact xT _ _ _
    have ec : cn pl (bxD s N (N * E) ⟨w, h'⟩) = cn pl (bxD s N (N * E) ⟨w, h⟩) := rfl
    have up := E8 hR (Df fun b hb' => h1 b (List.mem_append_left _ hb')) pl
    have c0 : 0 ≤ cn pl (bxD s N (N * E) ⟨w, h⟩) := by
      unfold cn
      split
      · exact hb.ok.i0
      · exact hb.ok.j0
    rw [ex, ex, ey, ey, ec]
    have u1 := hb.ok.up
    have u2 := h2.ok.up
    generalize cn pl (bxD s N (N * E) ⟨w, h⟩) = c at *
    generalize hX pl (L.map (bxD s N (N * E))) = X at *
    generalize hY pl (L.map (bxD s N (N * E))) = Y at *
    generalize (bxD s N (N * E) ⟨w, h⟩).x = x at *
    generalize (bxD s N (N * E) ⟨w, h⟩).y = y at *
    generalize (bxD s N (N * E) ⟨w, h'⟩).x = x' at *
    generalize (bxD s N (N * E) ⟨w, h'⟩).y = y' at *
    by_cases z : c = 0
    · rw [z, Int.zero_mul, Int.zero_mul, Int.zero_mul, Int.zero_mul]
    · have no : ∀ x y : Int, sgn d x y = 1 → ¬ (X + c * x = 0 ∧ Y + c * y = 0) := fun x y u q => by
        have v := xP hR (m := c) (by omega) u
        have t : sgn d (X + c * x) (Y + c * y) = 1 := by
          rcases up with ⟨a, b⟩ | a
          · rw [a, b, Int.zero_add, Int.zero_add]; exact v
          · exact wT hR a v
        rw [q.1, q.2] at t
        exact absurd t (by unfold sgn; simp)
      exact ⟨fun q => absurd q (no _ _ u2), fun q => absurd q (no _ _ u1)⟩
  unfold nrmD
  rw [vi, vi, List.length_append, List.length_append]
  have one : ∀ (p q : Prop) [Decidable p] [Decidable q] (a b : Bo), (p ↔ q) → (if p then [] else [a]).length = (if q then [] else [b]).length := fun p q _ _ a b e => by
    by_cases c : p
    · rw [if_pos c, if_pos (e.mp c)]
    · rw [if_neg c, if_neg fun z => c (e.mpr z)]; rfl
  rw [one _ _ _ _ (key 0), one _ _ _ _ (key 1)]
theorem w8 {a b : Int} (hb : b ≠ 0) (h : Rat.divInt a b = 0) : a = 0 := by
  rw [show (0 : Rat) = Rat.divInt 0 1 by decide +kernel] at h
  have := (Rat.divInt_eq_divInt_iff hb (by decide)).mp h
  omega
theorem En {d : Int} {L : List Bo} {w h t : Sd} (wz : w.z ≠ 0) (hz : h.z ≠ 0) (tz : t.z ≠ 0) (up : sgn d w.x w.y = 1) (tx : t.x ≠ 0) (ty : t.y = 0) : tbs (L ++ [⟨w, adS h t⟩]) ≠ tbs (L ++ [⟨w, h⟩]) := fun e => by
  rw [wO, wO, Gm (w := w) hz tz] at e
  have key : ∀ a b c : Tb, a.add (b.add c) = a.add b → c = Tb.zero := fun a b c q => by
    have qa := congrArg Tb.a q
    have qb := congrArg Tb.b q
    have qc := congrArg Tb.c q
    have qe := congrArg Tb.e q
    simp only [Tb.add] at qa qb qc qe
    refine Tb.ext ?_ ?_ ?_ ?_ <;> simp only [Tb.zero] <;> grind
  have z := key _ _ _ e
  have z1 : w.p * t.p = 0 := congrArg Tb.a z
  have z2 : w.q * t.p = 0 := congrArg Tb.c z
  have tp : t.p ≠ 0 := fun q => by
    unfold Sd.p at q
    exact tx (w8 tz q)
  have w1 : w.x = 0 := by
    rcases Rat.mul_eq_zero.mp z1 with q | q
    · exact w8 wz q
    · exact absurd q tp
  have w2 : w.y = 0 := by
    rcases Rat.mul_eq_zero.mp z2 with q | q
    · exact w8 wz q
    · exact absurd q tp
  rw [w1, w2] at up
  exact absurd up (by unfold sgn; simp)
theorem EG {C : List Cell} {i : Nat} {c : Cell} (h : C[i]? = some c) : (C.take (i + 1)).map Cell.b = (C.take i).map Cell.b ++ [c.b] := tX h
theorem vb {x y wz hz sh B : Int} (h1 : wz ≠ 0) (h2 : hz ≠ 0) (e : sh * (wz * hz) = B) : ((x * y * sh : Int) : Rat) = (B : Rat) * (Rat.divInt x wz * Rat.divInt y hz) := by
  have n0 : wz * hz ≠ 0 := Int.mul_ne_zero h1 h2
  have eB : (B : Rat) = Rat.divInt B 1 := (uT (B : Rat)).symm
  have eX : ((x * y * sh : Int) : Rat) = Rat.divInt (x * y * sh) 1 := (uT ((x * y * sh : Int) : Rat)).symm
  rw [← wN, eB, ← wN, eX, Int.one_mul]
  refine (Rat.divInt_eq_divInt_iff (by decide) n0).mpr ?_
  rw [← e]
  grind
theorem xz (a b : Int) : ((a + b : Int) : Rat) = (a : Rat) + (b : Rat) := Rat.intCast_add a b
structure LOb (d : Int) (k : Nat) (s : Sd) : Prop where
  z1 : 1 ≤ s.z
  g : g3 s.x s.y s.z = 1
  up : sgn d s.x s.y = 1
  bx : Bd k s.x
  by' : Bd k s.y
  bz : Bd 890 s.z
structure LsB (d : Int) (k : Nat) (H : Hp) (p : Addr) (L : List Ln) : Prop where
  l : H p = some (.lst (L.map Ln.v))
  at' : ∀ c ∈ L, SdAt H c.p c.s
  ok : ∀ c ∈ L, LOb d k c.s
theorem LsB.same {d : Int} {k : Nat} {H H' : Hp} {p : Addr} {L : List Ln} (h : LsB d k H p L) (s : Same H H') : LsB d k H' p L := ⟨s _ _ h.l, fun c hc => s _ _ (h.at' c hc), h.ok⟩
theorem ED {d : Int} {k : Nat} {L : List Ln} (ok : ∀ c ∈ L, LOb d k c.s) : ∀ z ∈ L.map (fun c => c.s.z), 1 ≤ z ∧ Bd 890 z := fun z hz => by
  obtain ⟨c, hc, e⟩ := List.mem_map.mp hz
  subst e
  exact ⟨(ok c hc).z1, (ok c hc).bz⟩
theorem CH {d : Int} {k : Nat} {L : List Ln} (ok : ∀ c ∈ L, LOb d k c.s) (hb : Bd 890 (cbs (L.map fun c => c.s.z))) (i : Nat) : 1 ≤ cbs ((L.take i).map fun c => c.s.z) ∧ Bd 890 (cbs ((L.take i).map fun c => c.s.z)) := by
  have z1 : ∀ z ∈ L.map (fun c => c.s.z), 1 ≤ z := fun z hz => (ED ok z hz).1
  have a : 1 ≤ cbs ((L.take i).map fun c : Ln => c.s.z) := (wP ((L.take i).map fun c : Ln => c.s.z) 1 (by decide) fun z hz => z1 z (by rw [List.map_take] at hz; exact List.mem_of_mem_take hz)).1
  have e : cbs (L.map fun c => c.s.z) = ((L.drop i).map fun c => c.s.z).foldl lcmI (cbs ((L.take i).map fun c => c.s.z)) := by
    conv => lhs; rw [← List.take_append_drop i L, List.map_append]
    unfold cbs
    rw [List.foldl_append]
  obtain ⟨b1, b2, _⟩ := wP ((L.drop i).map fun c : Ln => c.s.z) (cbs ((L.take i).map fun c : Ln => c.s.z)) a fun z hz => z1 z (by rw [List.map_drop] at hz; exact List.mem_of_mem_drop hz)
  rw [← e] at b1 b2
  exact ⟨a, Bd.dvd_le hb b1 b2⟩
theorem BV {t : Int} (h : -1000 ≤ t ∧ t ≤ 1000) : Bd 10 t := by
  unfold Bd
  have : (2 : Nat) ^ 10 = 1024 := by decide
  omega
theorem Ek {d : Int} {k : Nat} {L : List Ln} (ok : ∀ c ∈ L, LOb d k c.s) : (∀ u ∈ L.map Ln.u, sgn d u.1 u.2 = 1) ∧ ∀ u ∈ L.map Ln.u, Bd k u.1 ∧ Bd k u.2 := by
  constructor
  · intro u hu
    obtain ⟨c, hc, e⟩ := List.mem_map.mp hu
    subst e
    exact (ok c hc).up
  · intro u hu
    obtain ⟨c, hc, e⟩ := List.mem_map.mp hu
    subst e
    exact ⟨(ok c hc).bx, (ok c hc).by'⟩
theorem Dv {d : Int} {k : Nat} {L : List Ln} (ok : ∀ c ∈ L, LOb d k c.s) (i : Nat) : ∀ c ∈ L.take i, LOb d k c.s := fun c hc => ok c (List.mem_of_mem_take hc)
theorem Ei {i j m : Int} (h : m = i ∨ m = j) (h1 : m ≤ i) (h2 : m ≤ j) : m < 0 ↔ ¬ (0 ≤ i ∧ 0 ≤ j) := by omega
inductive sp_is_whole (vs : List V) (H : Hp) (Q : VK) (E : XK) : Prop
  | mk (i : Int) (_ : vs = [.int i]) (_ : Q (.bl true) H) : sp_is_whole vs H Q E
theorem tR {i : Int} {H : Hp} {Q : VK} {E : XK} (q : Q (.bl true) H) : sp_is_whole ([.int i] ++ []) H Q E := ⟨i, rfl, q⟩
local macro_rules | `(tactic| walk_at "rd") => `(tactic| with_reducible refine tR ?_)
inductive sp_common_divisor (vs : List V) (H : Hp) (Q : VK) (E : XK) : Prop
  | mk (a b : Int) (_ : vs = [.int a, .int b]) (_ : Bd 8192 b) (_ : Q (.int (Int.gcd a b : Nat)) H) : sp_common_divisor vs H Q E
theorem xr {a b : Int} {H : Hp} {Q : VK} {E : XK} (hb : Bd 8192 b) (q : Q (.int (Int.gcd a b : Nat)) H) : sp_common_divisor ([.int a, .int b] ++ []) H Q E := ⟨a, b, rfl, hb, q⟩
local macro_rules | `(tactic| walk_at "rd") => `(tactic| ((with_reducible refine xr ?_ ?_); focus (walk_at "b8")))
inductive sp_with_sign_of (vs : List V) (H : Hp) (Q : VK) (E : XK) : Prop
  | mk (g n : Int) (_ : vs = [.int g, .int n]) (_ : Q (.int (if n < 0 then -g else g)) H) : sp_with_sign_of vs H Q E
theorem wo {g n : Int} {H : Hp} {Q : VK} {E : XK} (q : Q (.int (if n < 0 then -g else g)) H) : sp_with_sign_of ([.int g, .int n] ++ []) H Q E := ⟨g, n, rfl, q⟩
local macro_rules | `(tactic| walk_at "rd") => `(tactic| with_reducible refine wo ?_)
inductive sp_is_above_nought (vs : List V) (H : Hp) (Q : VK) (E : XK) : Prop
  | mk (d a b : Int) (_ : vs = [.int d, .int a, .int b]) (_ : Bd 64 d) (_ : Bd 8000 a) (_ : Bd 8000 b) (_ : Q (.bl (decide (0 < sgn d a b))) H) : sp_is_above_nought vs H Q E
theorem xh {d a b : Int} {H : Hp} {Q : VK} {E : XK} (hd : Bd 64 d) (ha : Bd 8000 a) (hb : Bd 8000 b) (q : Q (.bl (decide (0 < sgn d a b))) H) : sp_is_above_nought ([.int d, .int a, .int b] ++ []) H Q E := ⟨d, a, b, rfl, hd, ha, hb, q⟩
inductive sp_crossed (vs : List V) (H : Hp) (Q : VK) (E : XK) : Prop
  | mk (p p' : Addr) (x y z x' y' z' : Int) (_ : vs = [.ref p, .ref p']) (_ : H p = some (.tup [.int x, .int y, .int z])) (_ : H p' = some (.tup [.int x', .int y', .int z'])) (_ : (Bd 900 x ∧ Bd 900 y ∧ Bd 900 x' ∧ Bd 900 y')) (_ : Q (.int (x * y' - y * x')) H) : sp_crossed vs H Q E
theorem wa {p p' : Addr} {x y z x' y' z' : Int} {H : Hp} {Q : VK} {E : XK} (h1 : H p = some (.tup [.int x, .int y, .int z])) (h2 : H p' = some (.tup [.int x', .int y', .int z'])) (b1 : Bd 900 x) (b2 : Bd 900 y) (b3 : Bd 900 x') (b4 : Bd 900 y') (q : Q (.int (x * y' - y * x')) H) : sp_crossed ([.ref p, .ref p'] ++ []) H Q E := ⟨p, p', x, y, z, x', y', z', rfl, h1, h2, ⟨b1, b2, b3, b4⟩, q⟩
inductive sp_names_taken (vs : List V) (H : Hp) (Q : VK) (E : XK) : Prop
  | mk (p : Addr) (e : Dd) (_ : vs = [.ref p]) (_ : DdAt H p e) (_ : ∀ (r : Addr) (H' : Hp), Same H H' → H r = none → H' r = some (.lst (e.names.map V.int)) → Q (.ref r) H') : sp_names_taken vs H Q E
theorem wQ {p : Addr} {e : Dd} {H : Hp} {Q : VK} {E : XK} (he : DdAt H p e) (q : ∀ (r : Addr) (H' : Hp), Same H H' → H r = none → H' r = some (.lst (e.names.map V.int)) → Q (.ref r) H') : sp_names_taken ([.ref p] ++ []) H Q E := ⟨p, e, rfl, he, q⟩
inductive sp_turned (vs : List V) (H : Hp) (Q : VK) (E : XK) : Prop
  | mk (c : Cell) (_ : vs = [.ref c.p]) (_ : c.At H) (_ : ∀ (r : Addr) (H' : Hp), Same H H' → H r = none → Cell.At H' ⟨r, c.ph, c.pw, ⟨c.b.h, c.b.w⟩⟩ → Q (.ref r) H') : sp_turned vs H Q E
theorem yp {c : Cell} {H : Hp} {Q : VK} {E : XK} (hc : c.At H) (q : ∀ (r : Addr) (H' : Hp), Same H H' → H r = none → Cell.At H' ⟨r, c.ph, c.pw, ⟨c.b.h, c.b.w⟩⟩ → Q (.ref r) H') : sp_turned ([.ref c.p] ++ []) H Q E := ⟨c, rfl, hc, q⟩
inductive sp__law_cell (K : PySem.W.Frag) (vs : List V) (H : Hp) (Q : VK) (E : XK) : Prop
  | mk (p : Addr) (ns : List Int) (k : Int) (_ : vs = [.ref p, .int k]) (_ : SqL K H p (ns.map V.int)) (_ : 0 ≤ k) (_ : (∀ x ∈ ns, Bd 1048576 x)) (_ : ∀ c : Int, Bd 1048576 c → Q (.int c) H) : sp__law_cell K vs H Q E
theorem uj {K : PySem.W.Frag} {p : Addr} {ns : List Int} {k : Int} {H : Hp} {Q : VK} {E : XK} (hS : SqL K H p (ns.map V.int)) (hk : 0 ≤ k) (hb : ∀ x ∈ ns, Bd 1048576 x) (q : ∀ c : Int, Bd 1048576 c → Q (.int c) H) : sp__law_cell K ([.ref p, .int k] ++ []) H Q E := ⟨p, ns, k, rfl, hS, hk, hb, q⟩
inductive sp__law_digits (vs : List V) (H : Hp) (Q : VK) (E : XK) : Prop
  | mk (c k m : Int) (_ : vs = [.int c, .int k, .int m]) (_ : Bd 1048576 c) (_ : (0 ≤ k ∧ k ≤ 100)) (_ : (0 ≤ m ∧ m ≤ 20)) (_ : ∀ (l : Addr) (H' : Hp) (ds : List Int), Same H H' → H' l = some (.lst (ds.map V.int)) → (ds.length : Int) = m → (∀ x ∈ ds, 0 ≤ x ∧ x < 1000000) → Q (.ref l) H') : sp__law_digits vs H Q E
theorem yC {c k m : Int} {H : Hp} {Q : VK} {E : XK} (hc : Bd 1048576 c) (k0 : 0 ≤ k) (k1 : k ≤ 100) (m0 : 0 ≤ m) (m1 : m ≤ 20) (q : ∀ (l : Addr) (H' : Hp) (ds : List Int), Same H H' → H' l = some (.lst (ds.map V.int)) → (ds.length : Int) = m → (∀ x ∈ ds, 0 ≤ x ∧ x < 1000000) → Q (.ref l) H') : sp__law_digits ([.int c, .int k, .int m] ++ []) H Q E := ⟨c, k, m, rfl, hc, ⟨k0, k1⟩, ⟨m0, m1⟩, q⟩
inductive sp__law_divisor (vs : List V) (H : Hp) (Q : VK) (E : XK) : Prop
  | mk (a b : Int) (_ : vs = [.int a, .int b]) (_ : 0 ≤ a) (_ : 0 ≤ b) (_ : Q (.int (Int.gcd a b : Nat)) H) : sp__law_divisor vs H Q E
theorem wn {a b : Int} {H : Hp} {Q : VK} {E : XK} (ha : 0 ≤ a) (hb : 0 ≤ b) (q : Q (.int (Int.gcd a b : Nat)) H) : sp__law_divisor ([.int a, .int b] ++ []) H Q E := ⟨a, b, rfl, ha, hb, q⟩
inductive sp__law_above (vs : List V) (H : Hp) (Q : VK) (E : XK) : Prop
  | mk (d : Int) (p p' : Addr) (f g f' g' : Int) (_ : vs = [.int d, .ref p, .ref p']) (_ : H p = some (.tup [.int f, .int g])) (_ : H p' = some (.tup [.int f', .int g'])) (_ : Rt d) (_ : (Bd 700 f ∧ Bd 700 g ∧ Bd 700 f' ∧ Bd 700 g')) (_ : Q (.bl (decide (0 < sgn d (f * g') (f' * g)))) H) : sp__law_above vs H Q E
theorem xo {d : Int} {p p' : Addr} {f g f' g' : Int} {H : Hp} {Q : VK} {E : XK} (h : H p = some (.tup [.int f, .int g]) ∧ H p' = some (.tup [.int f', .int g']) ∧ Rt d ∧ (Bd 700 f ∧ Bd 700 g ∧ Bd 700 f' ∧ Bd 700 g')) (q : Q (.bl (decide (0 < sgn d (f * g') (f' * g)))) H) : sp__law_above ([.int d, .ref p, .ref p'] ++ []) H Q E := ⟨d, p, p', f, g, f', g', rfl, h.1, h.2.1, h.2.2.1, h.2.2.2, q⟩
inductive sp__law_tab (vs : List V) (H : Hp) (Q : VK) (E : XK) : Prop
  | mk (p : Addr) (C : List Cell) (_ : vs = [.ref p]) (_ : H p = some (.lst (C.map Cell.v))) (_ : (∀ c ∈ C, c.At H)) (_ : (∀ c ∈ C, SK 620 345 c.b.w ∧ SK 620 345 c.b.h)) (_ : C.length ≤ 20) (_ : ∀ (l pl : Addr) (H' : Hp) (P0 P1 P2 P3 B : Int), Same H H' → H' l = some (.lst [.ref pl, .int B]) → H' pl = some (.lst [.int P0, .int P1, .int P2, .int P3]) → 1 ≤ B → ((P0 : Rat) = (B : Rat) * (tbs (C.map Cell.b)).a ∧ (P1 : Rat) = (B : Rat) * (tbs (C.map Cell.b)).b ∧ (P2 : Rat) = (B : Rat) * (tbs (C.map Cell.b)).c ∧ (P3 : Rat) = (B : Rat) * (tbs (C.map Cell.b)).e) → (Bd 16000 B ∧ Bd 16000 P0 ∧ Bd 16000 P1 ∧ Bd 16000 P2 ∧ Bd 16000 P3) → Q (.ref l) H') : sp__law_tab vs H Q E
theorem ww {p : Addr} {C : List Cell} {H : Hp} {Q : VK} {E : XK} (h : H p = some (.lst (C.map Cell.v)) ∧ (∀ c ∈ C, c.At H) ∧ (∀ c ∈ C, SK 620 345 c.b.w ∧ SK 620 345 c.b.h) ∧ C.length ≤ 20) (q : ∀ (l pl : Addr) (H' : Hp) (P0 P1 P2 P3 B : Int), Same H H' → H' l = some (.lst [.ref pl, .int B]) → H' pl = some (.lst [.int P0, .int P1, .int P2, .int P3]) → 1 ≤ B → ((P0 : Rat) = (B : Rat) * (tbs (C.map Cell.b)).a ∧ (P1 : Rat) = (B : Rat) * (tbs (C.map Cell.b)).b ∧ (P2 : Rat) = (B : Rat) * (tbs (C.map Cell.b)).c ∧ (P3 : Rat) = (B : Rat) * (tbs (C.map Cell.b)).e) → (Bd 16000 B ∧ Bd 16000 P0 ∧ Bd 16000 P1 ∧ Bd 16000 P2 ∧ Bd 16000 P3) → Q (.ref l) H') : sp__law_tab ([.ref p] ++ []) H Q E := ⟨p, C, rfl, h.1, h.2.1, h.2.2.1, h.2.2.2, q⟩
inductive sp__law_pair (vs : List V) (H : Hp) (Q : VK) (E : XK) : Prop
  | mk (a : Addr) (prs : List Addr) (cl : List Cell) (ns : List Nat) (sd : Bool) (_ : vs = [.ref a, .int (if sd then 1 else 0)]) (_ : H a = some (.lst (prs.map V.ref))) (_ : Prs cl ns H prs) (_ : (∀ c ∈ cl, c.At H)) (_ : ns.Pairwise (· < ·)) (_ : ns.length ≤ 60) (_ : Q .non H) (_ : (∀ (r : Addr) (H' : Hp) (n m : Nat) (c c' : Cell), Same H H' → H' r = some (.tup [.int (n : Int), .int (m : Int)]) → n ∈ ns → m ∈ ns → n ≠ m → cl[n]? = some c → cl[m]? = some c' → (if sd then c.b.h = c'.b.h else c.b.w = c'.b.w) → Q (.ref r) H')) : sp__law_pair vs H Q E
theorem uz {a : Addr} {prs : List Addr} {cl : List Cell} {ns : List Nat} {sd : Bool} {H : Hp} {Q : VK} {E : XK} (ha : H a = some (.lst (prs.map V.ref))) (hp : Prs cl ns H prs) (hA : (∀ c ∈ cl, c.At H)) (up : ns.Pairwise (· < ·)) (hl : ns.length ≤ 60) (qn : Q .non H) (q : (∀ (r : Addr) (H' : Hp) (n m : Nat) (c c' : Cell), Same H H' → H' r = some (.tup [.int (n : Int), .int (m : Int)]) → n ∈ ns → m ∈ ns → n ≠ m → cl[n]? = some c → cl[m]? = some c' → (if sd then c.b.h = c'.b.h else c.b.w = c'.b.w) → Q (.ref r) H')) : sp__law_pair ([.ref a, .int (if sd then 1 else 0)] ++ []) H Q E := ⟨a, prs, cl, ns, sd, rfl, ha, hp, hA, up, hl, qn, q⟩
inductive sp_Yard___init__ (cs : Cs) (vs : List V) (H : Hp) (Q : VK) (E : XK) : Prop
  | mk (p dx hp : Addr) (d : Int) (tn : Bool) (cl : List Cell) (_ : vs = [.ref p, .int d, .ref hp, .bl tn]) (_ : H p = some (.ins cs.Yard dx [])) (_ : H hp = some (.lst (cl.map Cell.v))) (_ : (∀ c ∈ cl, c.At H)) (_ : cl.length ≤ 60) (_ : ∀ (y : Yd) (H' : Hp), y.p = p → y.dx = dx → (∀ b o, H b = some o → b ≠ p → H' b = some o) → YdAt cs.Yard H' y d tn cl (List.range cl.length) [] → H y.k = none → H y.l = none → H y.t = none → Q .non H') : sp_Yard___init__ cs vs H Q E
theorem xH {cs : Cs} {x dx hp : Addr} {d : Int} {tn : Bool} {cl : List Cell} {vs : List V} {H1 : Hp} {Q : VK} {E : XK} (hv : vs = [.ref x, .int d, .ref hp, .bl tn]) (n1 : H1 x = none) (n2 : H1 dx = none) (hh : H1 hp = some (.lst (cl.map Cell.v))) (hat : ∀ c ∈ cl, c.At H1) (hl : cl.length ≤ 60)
    (q : ∀ (y : Yd) (H' : Hp), y.p = x → Same H1 H' → YdAt cs.Yard H' y d tn cl (List.range cl.length) [] → H1 y.k = none → H1 y.l = none → H1 y.t = none → Q .non H') :
    sp_Yard___init__ cs vs (upd (upd H1 dx (.own x)) x (.ins cs.Yard dx [])) Q E := by
  subst hv
  have k : ∀ b o, H1 b = some o → (upd (upd H1 dx (.own x)) x (.ins cs.Yard dx [])) b = some o := fun b o e => by
    rw [zt (zj e n1), zt (zj e n2)]; exact e
  have nn : ∀ b, (upd (upd H1 dx (.own x)) x (.ins cs.Yard dx [])) b = none → H1 b = none := fun b h => by
    cases e : H1 b with
    | none => rfl
    | some o => rw [k b o e] at h; cases h
  exact ⟨x, dx, hp, d, tn, cl, rfl, zm, k _ _ hh, fun c hc => ⟨k _ _ (hat c hc).t, k _ _ (hat c hc).w, k _ _ (hat c hc).h⟩, hl, fun y H' e1 _ fr hy h1 h2 h3 => q y H' e1 (fun b o e => fr b o (k b o e) (zj e n1)) hy (nn _ h1) (nn _ h2) (nn _ h3)⟩
inductive sp_Yard_boards (cs : Cs) (vs : List V) (H : Hp) (Q : VK) (E : XK) : Prop
  | mk (y : Yd) (d : Int) (tn : Bool) (cl : List Cell) (ns : List Nat) (lg : List V) (_ : vs = [.ref y.p]) (_ : YdAt cs.Yard H y d tn cl ns lg) (_ : ∀ (r : Addr) (H' : Hp) (ps : List Addr), Same H H' → H r = none → H' r = some (.lst (ps.map V.ref)) → Prs cl ns H' ps → Q (.ref r) H') : sp_Yard_boards cs vs H Q E
theorem wS {cs : Cs} {y : Yd} {d : Int} {tn : Bool} {cl : List Cell} {ns : List Nat} {lg : List V} {H : Hp} {Q : VK} {E : XK} (hy : YdAt cs.Yard H y d tn cl ns lg) (q : ∀ (r : Addr) (H' : Hp) (ps : List Addr), Same H H' → H r = none → H' r = some (.lst (ps.map V.ref)) → Prs cl ns H' ps → Q (.ref r) H') : sp_Yard_boards cs ([.ref y.p] ++ []) H Q E := ⟨y, d, tn, cl, ns, lg, rfl, hy, q⟩
inductive sp_Yard_heap (cs : Cs) (vs : List V) (H : Hp) (Q : VK) (E : XK) : Prop
  | mk (y : Yd) (d : Int) (tn : Bool) (cl : List Cell) (ns : List Nat) (lg : List V) (_ : vs = [.ref y.p]) (_ : YdAt cs.Yard H y d tn cl ns lg) (_ : ∀ (r : Addr) (H' : Hp), Same H H' → H r = none → H' r = some (.lst ((pick cl ns).map Cell.v)) → Q (.ref r) H') : sp_Yard_heap cs vs H Q E
theorem ud {cs : Cs} {y : Yd} {d : Int} {tn : Bool} {cl : List Cell} {ns : List Nat} {lg : List V} {H : Hp} {Q : VK} {E : XK} (hy : YdAt cs.Yard H y d tn cl ns lg) (q : ∀ (r : Addr) (H' : Hp), Same H H' → H r = none → H' r = some (.lst ((pick cl ns).map Cell.v)) → Q (.ref r) H') : sp_Yard_heap cs ([.ref y.p] ++ []) H Q E := ⟨y, d, tn, cl, ns, lg, rfl, hy, q⟩
inductive sp_length (vs : List V) (H : Hp) (Q : VK) (E : XK) : Prop
  | mk (a b n : Int) (_ : vs = [.int a, .int b, .int n]) (_ : n ≠ 0) (_ : Bd 8000 n) (_ : (Bd 8192 a ∧ Bd 8192 b)) (_ : ∀ p H', Same H H' → H' p = some (.tup [.int (lA a b n), .int (lB a b n), .int (lN a b n)]) → Q (.ref p) H') : sp_length vs H Q E
theorem z5 {a b n : Int} {vs : List V} {H : Hp} {Q : VK} {E : XK} (e : vs = [.int a, .int b, .int n]) (hn : n ≠ 0) (hb : Bd 8000 n) (q : ∀ p H', Same H H' → H' p = some (.tup [.int (lA a b n), .int (lB a b n), .int (lN a b n)]) → Q (.ref p) H') (ha8 : Bd 8192 a := by walk_at "b8") (hb8 : Bd 8192 b := by walk_at "b8") : sp_length vs H Q E := ⟨a, b, n, e, hn, hb, ⟨ha8, hb8⟩, q⟩
inductive sp_by_parts (vs : List V) (H : Hp) (Q : VK) (E : XK) : Prop
  | mk (p p' : Addr) (t b t' b' : Int) (_ : vs = [.ref p, .ref p']) (_ : H p = some (.tup [.int t, .int b])) (_ : H p' = some (.tup [.int t', .int b'])) (_ : 1 ≤ b) (_ : 1 ≤ b') (_ : Int.gcd t b = 1) (_ : Int.gcd t' b' = 1) (_ : (Bd 3900 t ∧ Bd 3900 b ∧ Bd 3900 t' ∧ Bd 3900 b')) (_ : ∀ (r : Addr) (H' : Hp), Same H H' → H' r = some (.tup [.int (lA (t * b') (t' * b) (b * b')), .int (lB (t * b') (t' * b) (b * b')), .int (lN (t * b') (t' * b) (b * b'))]) → Q (.ref r) H') : sp_by_parts vs H Q E
theorem tI {p p' : Addr} {t b t' b' : Int} {H : Hp} {Q : VK} {E : XK} (h1 : H p = some (.tup [.int t, .int b])) (h2 : H p' = some (.tup [.int t', .int b'])) (n1 : 1 ≤ b) (n2 : 1 ≤ b') (k1 : Int.gcd t b = 1) (k2 : Int.gcd t' b' = 1) (b1 : Bd 3900 t) (b2 : Bd 3900 b) (b3 : Bd 3900 t') (b4 : Bd 3900 b') (q : ∀ (r : Addr) (H' : Hp), Same H H' → H' r = some (.tup [.int (lA (t * b') (t' * b) (b * b')), .int (lB (t * b') (t' * b) (b * b')), .int (lN (t * b') (t' * b) (b * b'))]) → Q (.ref r) H') : sp_by_parts ([.ref p, .ref p'] ++ []) H Q E := ⟨p, p', t, b, t', b', rfl, h1, h2, n1, n2, k1, k2, ⟨b1, b2, b3, b4⟩, q⟩
inductive sp_added (K : PySem.W.Frag) (vs : List V) (H : Hp) (Q : VK) (E : XK) : Prop
  | mk (p q : Addr) (x y z x' y' z' : Int) (_ : vs = [.ref p, .ref q]) (_ : SqT K H p [.int x, .int y, .int z]) (_ : H q = some (.tup [.int x', .int y', .int z'])) (_ : 1 ≤ z) (_ : 1 ≤ z') (_ : g3 x y z = 1) (_ : g3 x' y' z' = 1) (_ : (Bd 3900 x ∧ Bd 3900 y ∧ Bd 3900 z ∧ Bd 3900 x' ∧ Bd 3900 y' ∧ Bd 3900 z')) (_ : ∀ (r : Addr) (H' : Hp), Same H H' → H' r = some (.tup [.int (lA (x * z' + x' * z) (y * z' + y' * z) (z * z')), .int (lB (x * z' + x' * z) (y * z' + y' * z) (z * z')), .int (lN (x * z' + x' * z) (y * z' + y' * z) (z * z'))]) → Q (.ref r) H') : sp_added K vs H Q E
theorem wK {K : PySem.W.Frag} {p p' : Addr} {x y z x' y' z' : Int} {H : Hp} {Q : VK} {E : XK} (h1 : SqT K H p [.int x, .int y, .int z]) (h2 : H p' = some (.tup [.int x', .int y', .int z'])) (n1 : 1 ≤ z) (n2 : 1 ≤ z') (k1 : g3 x y z = 1) (k2 : g3 x' y' z' = 1) (b1 : Bd 3900 x) (b2 : Bd 3900 y) (b3 : Bd 3900 z) (b4 : Bd 3900 x') (b5 : Bd 3900 y') (b6 : Bd 3900 z') (q : ∀ (r : Addr) (H' : Hp), Same H H' → H' r = some (.tup [.int (lA (x * z' + x' * z) (y * z' + y' * z) (z * z')), .int (lB (x * z' + x' * z) (y * z' + y' * z) (z * z')), .int (lN (x * z' + x' * z) (y * z' + y' * z) (z * z'))]) → Q (.ref r) H') : sp_added K ([.ref p, .ref p'] ++ []) H Q E := ⟨p, p', x, y, z, x', y', z', rfl, h1, h2, n1, n2, k1, k2, ⟨b1, b2, b3, b4, b5, b6⟩, q⟩
inductive sp_under (K : PySem.W.Frag) (vs : List V) (H : Hp) (Q : VK) (E : XK) : Prop
  | mk (d : Int) (p p' : Addr) (x y z x' y' z' : Int) (_ : vs = [.int d, .ref p, .ref p']) (_ : SqT K H p [.int x, .int y, .int z]) (_ : H p' = some (.tup [.int x', .int y', .int z'])) (_ : Bd 64 d) (_ : (Bd 2500 x ∧ Bd 2500 y ∧ Bd 2500 z ∧ Bd 2500 x' ∧ Bd 2500 y' ∧ Bd 2500 z')) (_ : Q (.bl (decide (0 < sgn d (x' * z - x * z') (y' * z - y * z')))) H) : sp_under K vs H Q E
theorem uv {K : PySem.W.Frag} {d : Int} {p p' : Addr} {x y z x' y' z' : Int} {H : Hp} {Q : VK} {E : XK} (h1 : SqT K H p [.int x, .int y, .int z]) (h2 : H p' = some (.tup [.int x', .int y', .int z'])) (hd : Bd 64 d) (b1 : Bd 2500 x) (b2 : Bd 2500 y) (b3 : Bd 2500 z) (b4 : Bd 2500 x') (b5 : Bd 2500 y') (b6 : Bd 2500 z') (q : Q (.bl (decide (0 < sgn d (x' * z - x * z') (y' * z - y * z')))) H) : sp_under K ([.int d, .ref p, .ref p'] ++ []) H Q E := ⟨d, p, p', x, y, z, x', y', z', rfl, h1, h2, hd, ⟨b1, b2, b3, b4, b5, b6⟩, q⟩
inductive sp_counts (vs : List V) (H : Hp) (Q : VK) (E : XK) : Prop
  | mk (d d' : Int) (p r1 r2 o : Addr) (s : B4) (N x y : Int) (_ : vs = [.int d, .ref p, .ref o]) (_ : BsAt H p r1 r2 s N) (_ : H o = some (.tup [.int (lA x y N), .int (lB x y N), .int (lN x y N)])) (_ : 1 ≤ N) (_ : Bd 900 N) (_ : GB d' 900 s) (_ : (Bd 900 x ∧ Bd 900 y)) (_ : ∀ (r : Addr) (H' : Hp), Same H H' → H' r = some (.tup [.int (s.i x y), .int (s.j x y)]) → Q (.ref r) H') : sp_counts vs H Q E
theorem tD {d d' : Int} {p r1 r2 o : Addr} {s : B4} {N x y : Int} {H : Hp} {Q : VK} {E : XK} (h : BsAt H p r1 r2 s N) (ho : H o = some (.tup [.int (lA x y N), .int (lB x y N), .int (lN x y N)])) (hN : 1 ≤ N) (hb : Bd 900 N) (g : GB d' 900 s) (bx : Bd 900 x) (by' : Bd 900 y) (q : ∀ (r : Addr) (H' : Hp), Same H H' → H' r = some (.tup [.int (s.i x y), .int (s.j x y)]) → Q (.ref r) H') : sp_counts ([.int d, .ref p, .ref o] ++ []) H Q E := ⟨d, d', p, r1, r2, o, s, N, x, y, rfl, h, ho, hN, hb, g, ⟨bx, by'⟩, q⟩
inductive sp_common_bottom (K : PySem.W.Frag) (vs : List V) (H : Hp) (Q : VK) (E : XK) : Prop
  | mk (d : Int) (k : Nat) (p : Addr) (L : List Ln) (_ : vs = [.ref p]) (_ : LsB d k H p L) (_ : L.length ≤ 40) (_ : Bd 890 (cbs (L.map fun c => c.s.z))) (_ : Q (.int (cbs (L.map fun c => c.s.z))) H) : sp_common_bottom K vs H Q E
theorem we {K : PySem.W.Frag} {d : Int} {k : Nat} {p : Addr} {L : List Ln} {H : Hp} {Q : VK} {E : XK} (hL : LsB d k H p L) (hlen : L.length ≤ 40) (hNb : Bd 890 (cbs (L.map fun c => c.s.z))) (q : Q (.int (cbs (L.map fun c => c.s.z))) H) : sp_common_bottom K ([.ref p] ++ []) H Q E := ⟨d, k, p, L, rfl, hL, hlen, hNb, q⟩
inductive sp__law_root (K : PySem.W.Frag) (vs : List V) (H : Hp) (Q : VK) (E : XK) : Prop
  | mk (p : Addr) (ns : List Int) (_ : vs = [.ref p]) (_ : SqL K H p (ns.map V.int)) (_ : (∀ x ∈ ns, Bd 1048576 x)) (_ : ∀ (d : Int) (H' : Hp), Rt d → Same H H' → Q (.int d) H') : sp__law_root K vs H Q E
theorem uf {K : PySem.W.Frag} {p : Addr} {ns : List Int} {H : Hp} {Q : VK} {E : XK} (hS : SqL K H p (ns.map V.int)) (hb : ∀ x ∈ ns, Bd 1048576 x) (q : ∀ (d : Int) (H' : Hp), Rt d → Same H H' → Q (.int d) H') : sp__law_root K ([.ref p] ++ []) H Q E := ⟨p, ns, rfl, hS, hb, q⟩
inductive sp__law_fraction (vs : List V) (H : Hp) (Q : VK) (E : XK) : Prop
  | mk (p : Addr) (ds : List Int) (_ : vs = [.ref p, .bl false]) (_ : H p = some (.lst (ds.map V.int))) (_ : (ds.length : Int) = 3) (_ : (∀ x ∈ ds, 0 ≤ x ∧ x < 1000000)) (_ : ∀ (r : Addr) (H' : Hp) (t b : Int), Same H H' → H' r = some (.tup [.int t, .int b]) → 1 ≤ b → Int.gcd t b = 1 → Bd 10 t → Bd 6 b → Q (.ref r) H') : sp__law_fraction vs H Q E
theorem yN {p : Addr} {ds : List Int} {H : Hp} {Q : VK} {E : XK} (h1 : H p = some (.lst (ds.map V.int))) (hl : (ds.length : Int) = 3) (hds : ∀ x ∈ ds, 0 ≤ x ∧ x < 1000000) (q : ∀ (r : Addr) (H' : Hp) (t b : Int), Same H H' → H' r = some (.tup [.int t, .int b]) → 1 ≤ b → Int.gcd t b = 1 → Bd 10 t → Bd 6 b → Q (.ref r) H') : sp__law_fraction ([.ref p, .bl false] ++ []) H Q E := ⟨p, ds, rfl, h1, hl, hds, q⟩
inductive sp__law_like (vs : List V) (H : Hp) (Q : VK) (E : XK) : Prop
  | mk (p p' : Addr) (C C' : List Cell) (_ : vs = [.ref p, .ref p']) (_ : (H p = some (.lst (C.map Cell.v)) ∧ (∀ c ∈ C, c.At H) ∧ (∀ c ∈ C, SK 620 345 c.b.w ∧ SK 620 345 c.b.h) ∧ C.length ≤ 20)) (_ : (H p' = some (.lst (C'.map Cell.v)) ∧ (∀ c ∈ C', c.At H) ∧ (∀ c ∈ C', SK 620 345 c.b.w ∧ SK 620 345 c.b.h) ∧ C'.length ≤ 20)) (_ : tbs (C.map Cell.b) = tbs (C'.map Cell.b)) (_ : ∀ H', Same H H' → Q (.bl true) H') : sp__law_like vs H Q E
theorem uH {p p' : Addr} {C C' : List Cell} {H : Hp} {Q : VK} {E : XK} (h1 : H p = some (.lst (C.map Cell.v)) ∧ (∀ c ∈ C, c.At H) ∧ (∀ c ∈ C, SK 620 345 c.b.w ∧ SK 620 345 c.b.h) ∧ C.length ≤ 20) (h2 : H p' = some (.lst (C'.map Cell.v)) ∧ (∀ c ∈ C', c.At H) ∧ (∀ c ∈ C', SK 620 345 c.b.w ∧ SK 620 345 c.b.h) ∧ C'.length ≤ 20) (ht : tbs (C.map Cell.b) = tbs (C'.map Cell.b)) (q : ∀ H', Same H H' → Q (.bl true) H') : sp__law_like ([.ref p, .ref p'] ++ []) H Q E := ⟨p, p', C, C', rfl, h1, h2, ht, q⟩
inductive sp_Yard_check_names (cs : Cs) (vs : List V) (H : Hp) (Q : VK) (E : XK) : Prop
  | mk (y : Yd) (d : Int) (tn : Bool) (cl : List Cell) (ns : List Nat) (lg : List V) (a : Addr) (ms : List Int) (_ : vs = [.ref y.p, .ref a]) (_ : YdAt cs.Yard H y d tn cl ns lg) (_ : H a = some (.lst (ms.map V.int))) (_ : (∀ m ∈ ms, ∃ n ∈ ns, m = (n : Int))) (_ : ms.Nodup) (_ : ms.length ≤ 2) (_ : Q .non H) : sp_Yard_check_names cs vs H Q E
theorem y3 {cs : Cs} {y : Yd} {d : Int} {tn : Bool} {cl : List Cell} {ns : List Nat} {lg : List V} {a : Addr} {ms : List Int} {H : Hp} {Q : VK} {E : XK} (hy : YdAt cs.Yard H y d tn cl ns lg) (ha : H a = some (.lst (ms.map V.int))) (hm : ∀ m ∈ ms, ∃ n ∈ ns, m = (n : Int)) (hn : ms.Nodup) (hl : ms.length ≤ 2) (q : Q .non H) : sp_Yard_check_names cs ([.ref y.p, .ref a] ++ []) H Q E := ⟨y, d, tn, cl, ns, lg, a, ms, rfl, hy, ha, hm, hn, hl, q⟩
inductive sp_taken (vs : List V) (H : Hp) (Q : VK) (E : XK) : Prop
  | mk (p q : Addr) (x y z x' y' z' : Int) (_ : vs = [.ref p, .ref q]) (_ : H p = some (.tup [.int x, .int y, .int z])) (_ : H q = some (.tup [.int x', .int y', .int z'])) (_ : 1 ≤ z) (_ : 1 ≤ z') (_ : g3 x y z = 1) (_ : g3 x' y' z' = 1) (_ : (Bd 3900 x ∧ Bd 3900 y ∧ Bd 3900 z ∧ Bd 3900 x' ∧ Bd 3900 y' ∧ Bd 3900 z')) (_ : ∀ (r : Addr) (H' : Hp), Same H H' → H' r = some (.tup [.int (lA (x * z' + -x' * z) (y * z' + -y' * z) (z * z')), .int (lB (x * z' + -x' * z) (y * z' + -y' * z) (z * z')), .int (lN (x * z' + -x' * z) (y * z' + -y' * z) (z * z'))]) → Q (.ref r) H') : sp_taken vs H Q E
theorem ur {p p' : Addr} {x y z x' y' z' : Int} {H : Hp} {Q : VK} {E : XK} (h1 : H p = some (.tup [.int x, .int y, .int z])) (h2 : H p' = some (.tup [.int x', .int y', .int z'])) (n1 : 1 ≤ z) (n2 : 1 ≤ z') (k1 : g3 x y z = 1) (k2 : g3 x' y' z' = 1) (b1 : Bd 3900 x) (b2 : Bd 3900 y) (b3 : Bd 3900 z) (b4 : Bd 3900 x') (b5 : Bd 3900 y') (b6 : Bd 3900 z') (q : ∀ (r : Addr) (H' : Hp), Same H H' → H' r = some (.tup [.int (lA (x * z' + -x' * z) (y * z' + -y' * z) (z * z')), .int (lB (x * z' + -x' * z) (y * z' + -y' * z) (z * z')), .int (lN (x * z' + -x' * z) (y * z' + -y' * z) (z * z'))]) → Q (.ref r) H') : sp_taken ([.ref p, .ref p'] ++ []) H Q E := ⟨p, p', x, y, z, x', y', z', rfl, h1, h2, n1, n2, k1, k2, ⟨b1, b2, b3, b4, b5, b6⟩, q⟩
inductive sp_timed (vs : List V) (H : Hp) (Q : VK) (E : XK) : Prop
  | mk (d : Int) (p p' : Addr) (x y z x' y' z' : Int) (_ : vs = [.int d, .ref p, .ref p']) (_ : H p = some (.tup [.int x, .int y, .int z])) (_ : H p' = some (.tup [.int x', .int y', .int z'])) (_ : Bd 64 d) (_ : (Bd 1990 x ∧ Bd 1990 y ∧ Bd 1990 z ∧ Bd 1990 x' ∧ Bd 1990 y' ∧ Bd 1990 z')) (_ : z ≠ 0) (_ : z' ≠ 0) (_ : ∀ (r : Addr) (H' : Hp), Same H H' → H' r = some (.tup [.int (lA (x * x' + d * y * y') (x * y' + y * x') (z * z')), .int (lB (x * x' + d * y * y') (x * y' + y * x') (z * z')), .int (lN (x * x' + d * y * y') (x * y' + y * x') (z * z'))]) → Q (.ref r) H') : sp_timed vs H Q E
theorem AO {d : Int} {p p' : Addr} {x y z x' y' z' : Int} {H : Hp} {Q : VK} {E : XK} (h1 : H p = some (.tup [.int x, .int y, .int z])) (h2 : H p' = some (.tup [.int x', .int y', .int z'])) (hd : Bd 64 d) (b1 : Bd 1990 x) (b2 : Bd 1990 y) (b3 : Bd 1990 z) (b4 : Bd 1990 x') (b5 : Bd 1990 y') (b6 : Bd 1990 z') (n1 : z ≠ 0) (n2 : z' ≠ 0) (q : ∀ (r : Addr) (H' : Hp), Same H H' → H' r = some (.tup [.int (lA (x * x' + d * y * y') (x * y' + y * x') (z * z')), .int (lB (x * x' + d * y * y') (x * y' + y * x') (z * z')), .int (lN (x * x' + d * y * y') (x * y' + y * x') (z * z'))]) → Q (.ref r) H') : sp_timed ([.int d, .ref p, .ref p'] ++ []) H Q E := ⟨d, p, p', x, y, z, x', y', z', rfl, h1, h2, hd, ⟨b1, b2, b3, b4, b5, b6⟩, n1, n2, q⟩
inductive sp_first_base (vs : List V) (H : Hp) (Q : VK) (E : XK) : Prop
  | mk (d N : Int) (_ : vs = [.int d, .int N]) (_ : 1 ≤ N) (_ : Bd 900 N) (_ : ∀ (p' r1' r2' : Addr) (H' : Hp), Same H H' → BsAt H' p' r1' r2' b4 N → Q (.ref p') H') : sp_first_base vs H Q E
theorem vI {d N : Int} {H : Hp} {Q : VK} {E : XK} (hN : 1 ≤ N) (hb : Bd 900 N) (q : ∀ (p' r1' r2' : Addr) (H' : Hp), Same H H' → BsAt H' p' r1' r2' b4 N → Q (.ref p') H') : sp_first_base ([.int d, .int N] ++ []) H Q E := ⟨d, N, rfl, hN, hb, q⟩
inductive sp_is_length (vs : List V) (H : Hp) (Q : VK) (E : XK) : Prop
  | mk (p : Addr) (s : Sd) (_ : vs = [.ref p]) (_ : SdAt H p s) (_ : SK 2400 2100 s) (_ : ∀ H', Same H H' → Q (.bl true) H') : sp_is_length vs H Q E
theorem xK {p : Addr} {s : Sd} {H : Hp} {Q : VK} {E : XK} (h : SdAt H p s) (ok : SK 2400 2100 s) (q : ∀ H', Same H H' → Q (.bl true) H') : sp_is_length ([.ref p] ++ []) H Q E := ⟨p, s, rfl, h, ok, q⟩
inductive sp_glued_beside (vs : List V) (H : Hp) (Q : VK) (E : XK) : Prop
  | mk (c c' : Cell) (_ : vs = [.ref c.p, .ref c'.p]) (_ : c.At H) (_ : c'.At H) (_ : c.b.h = c'.b.h) (_ : SY c.b.w) (_ : SY c'.b.w) (_ : ∀ (c1 : Cell) (H' : Hp), Same H H' → H c1.p = none → c1.At H' → c1.b = ⟨adS c.b.w c'.b.w, c.b.h⟩ → Q (.ref c1.p) H') : sp_glued_beside vs H Q E
theorem yU {c c' : Cell} {H : Hp} {Q : VK} {E : XK} (hc : c.At H) (hc' : c'.At H) (eh : c.b.h = c'.b.h) (okw : SY c.b.w) (oks : SY c'.b.w) (q : ∀ (c1 : Cell) (H' : Hp), Same H H' → H c1.p = none → c1.At H' → c1.b = ⟨adS c.b.w c'.b.w, c.b.h⟩ → Q (.ref c1.p) H') : sp_glued_beside ([.ref c.p, .ref c'.p] ++ []) H Q E := ⟨c, c', rfl, hc, hc', eh, okw, oks, q⟩
inductive sp_stacked (vs : List V) (H : Hp) (Q : VK) (E : XK) : Prop
  | mk (c : Cell) (k : Int) (_ : vs = [.ref c.p, .int k]) (_ : c.At H) (_ : 1 ≤ k) (_ : Bd 1200 k) (_ : SY c.b.w) (_ : SY c.b.h) (_ : ∀ (c1 : Cell) (H' : Hp), Same H H' → H c1.p = none → c1.At H' → c1.b = ⟨shS c.b.w 1 k, shS c.b.h k 1⟩ → Q (.ref c1.p) H') : sp_stacked vs H Q E
theorem vL {c : Cell} {k : Int} {H : Hp} {Q : VK} {E : XK} (hc : c.At H) (k1 : 1 ≤ k) (bk : Bd 1200 k) (okw : SY c.b.w) (okh : SY c.b.h) (q : ∀ (c1 : Cell) (H' : Hp), Same H H' → H c1.p = none → c1.At H' → c1.b = ⟨shS c.b.w 1 k, shS c.b.h k 1⟩ → Q (.ref c1.p) H') : sp_stacked ([.ref c.p, .int k] ++ []) H Q E := ⟨c, k, rfl, hc, k1, bk, okw, okh, q⟩
inductive sp__law_side (vs : List V) (H : Hp) (Q : VK) (E : XK) : Prop
  | mk (d : Int) (p : Addr) (ds : List Int) (_ : vs = [.int d, .ref p, .bl false]) (_ : H p = some (.lst (ds.map V.int))) (_ : (ds.length : Int) = 7) (_ : (∀ x ∈ ds, 0 ≤ x ∧ x < 1000000)) (_ : Rt d) (_ : ∀ (r r1 r2 : Addr) (H' : Hp) (t b t' b' : Int), Same H H' → H' r = some (.tup [.ref r1, .ref r2]) → H' r1 = some (.tup [.int t, .int b]) → H' r2 = some (.tup [.int t', .int b']) → (1 ≤ b ∧ 1 ≤ b') → (Int.gcd t b = 1 ∧ Int.gcd t' b' = 1) → (Bd 10 t ∧ Bd 6 b ∧ Bd 10 t' ∧ Bd 6 b') → sgn d (t * b') (t' * b) = 1 → Q (.ref r) H') : sp__law_side vs H Q E
theorem uG {d : Int} {p : Addr} {ds : List Int} {H : Hp} {Q : VK} {E : XK} (h1 : H p = some (.lst (ds.map V.int))) (hl : (ds.length : Int) = 7) (hds : ∀ x ∈ ds, 0 ≤ x ∧ x < 1000000) (hR : Rt d) (q : ∀ (r r1 r2 : Addr) (H' : Hp) (t b t' b' : Int), Same H H' → H' r = some (.tup [.ref r1, .ref r2]) → H' r1 = some (.tup [.int t, .int b]) → H' r2 = some (.tup [.int t', .int b']) → (1 ≤ b ∧ 1 ≤ b') → (Int.gcd t b = 1 ∧ Int.gcd t' b' = 1) → (Bd 10 t ∧ Bd 6 b ∧ Bd 10 t' ∧ Bd 6 b') → sgn d (t * b') (t' * b) = 1 → Q (.ref r) H') : sp__law_side ([.int d, .ref p, .bl false] ++ []) H Q E := ⟨d, p, ds, rfl, h1, hl, hds, hR, q⟩
inductive sp_next_base (vs : List V) (H : Hp) (Q : VK) (E : XK) : Prop
  | mk (d : Int) (p r1 r2 : Addr) (s : B4) (N : Int) (_ : vs = [.int d, .ref p]) (_ : BsAt H p r1 r2 s N) (_ : Rt d) (_ : 1 ≤ N) (_ : Bd 900 N) (_ : GB d 900 s) (_ : ∀ (p' r1' r2' : Addr) (H' : Hp), Same H H' → BsAt H' p' r1' r2' (s.nx d) N → Q (.ref p') H') : sp_next_base vs H Q E
theorem uD {d : Int} {p r1 r2 : Addr} {s : B4} {N : Int} {H : Hp} {Q : VK} {E : XK} (h : BsAt H p r1 r2 s N) (hR : Rt d) (hN : 1 ≤ N) (hb : Bd 900 N) (g : GB d 900 s) (q : ∀ (p' r1' r2' : Addr) (H' : Hp), Same H H' → BsAt H' p' r1' r2' (s.nx d) N → Q (.ref p') H') : sp_next_base ([.int d, .ref p] ++ []) H Q E := ⟨d, p, r1, r2, s, N, rfl, h, hR, hN, hb, g, q⟩
inductive sp_times_over (vs : List V) (H : Hp) (Q : VK) (E : XK) : Prop
  | mk (d m : Int) (p : Addr) (s : Sd) (_ : vs = [.int d, .int m, .ref p]) (_ : SdAt H p s) (_ : Bd 64 d) (_ : Bd 1200 m) (_ : SK 900 900 s) (_ : ∀ (r : Addr) (H' : Hp), Same H H' → SdAt H' r (tmS m s) → Q (.ref r) H') : sp_times_over vs H Q E
theorem ub {d m : Int} {p : Addr} {s : Sd} {H : Hp} {Q : VK} {E : XK} (h1 : SdAt H p s) (hd : Bd 64 d) (hm : Bd 1200 m) (ok : SK 900 900 s) (q : ∀ (r : Addr) (H' : Hp), Same H H' → SdAt H' r (tmS m s) → Q (.ref r) H') : sp_times_over ([.int d, .int m, .ref p] ++ []) H Q E := ⟨d, m, p, s, rfl, h1, hd, hm, ok, q⟩
inductive sp_is_deed (vs : List V) (H : Hp) (Q : VK) (E : XK) : Prop
  | mk (p : Addr) (e : Dd) (_ : vs = [.ref p]) (_ : DdAt H p e) (_ : e.Ok) (_ : ∀ H', Same H H' → Q (.bl true) H') : sp_is_deed vs H Q E
theorem Bq {p : Addr} {e : Dd} {H : Hp} {Q : VK} {E : XK} (he : DdAt H p e) (ok : e.Ok) (q : ∀ H', Same H H' → Q (.bl true) H') : sp_is_deed ([.ref p] ++ []) H Q E := ⟨p, e, rfl, he, ok, q⟩
inductive sp_cut_across (vs : List V) (H : Hp) (Q : VK) (E : XK) : Prop
  | mk (d : Int) (c : Cell) (p : Addr) (s : Sd) (_ : vs = [.int d, .ref c.p, .ref p]) (_ : c.At H) (_ : SdAt H p s) (_ : Bd 64 d) (_ : SY c.b.w) (_ : SY s) (_ : 0 < sgn d s.x s.y) (_ : 0 < sgn d (c.b.w.x * s.z - s.x * c.b.w.z) (c.b.w.y * s.z - s.y * c.b.w.z)) (_ : ∀ (r : Addr) (c1 c2 : Cell) (H' : Hp), Same H H' → H r = none → H' r = some (.lst [.ref c1.p, .ref c2.p]) → c1.At H' → c2.At H' → c1.b = ⟨s, c.b.h⟩ → c2.b = ⟨tkS c.b.w s, c.b.h⟩ → Q (.ref r) H') : sp_cut_across vs H Q E
theorem xq {d : Int} {c : Cell} {p : Addr} {s : Sd} {H : Hp} {Q : VK} {E : XK} (hc : c.At H) (hs : SdAt H p s) (hd : Bd 64 d) (okw : SY c.b.w) (oks : SY s) (up : 0 < sgn d s.x s.y) (un : 0 < sgn d (c.b.w.x * s.z - s.x * c.b.w.z) (c.b.w.y * s.z - s.y * c.b.w.z)) (q : ∀ (r : Addr) (c1 c2 : Cell) (H' : Hp), Same H H' → H r = none → H' r = some (.lst [.ref c1.p, .ref c2.p]) → c1.At H' → c2.At H' → c1.b = ⟨s, c.b.h⟩ → c2.b = ⟨tkS c.b.w s, c.b.h⟩ → Q (.ref r) H') : sp_cut_across ([.int d, .ref c.p, .ref p] ++ []) H Q E := ⟨d, c, p, s, rfl, hc, hs, hd, okw, oks, up, un, q⟩
inductive sp__law_length (vs : List V) (H : Hp) (Q : VK) (E : XK) : Prop
  | mk (d : Int) (p : Addr) (ds : List Int) (_ : vs = [.int d, .ref p]) (_ : H p = some (.lst (ds.map V.int))) (_ : (ds.length : Int) = 7) (_ : (∀ x ∈ ds, 0 ≤ x ∧ x < 1000000)) (_ : Rt d) (_ : ∀ (r : Addr) (H' : Hp) (s : Sd), Same H H' → SdAt H' r s → SK 20 12 s → sgn d s.x s.y = 1 → Q (.ref r) H') : sp__law_length vs H Q E
theorem xf {d : Int} {p : Addr} {ds : List Int} {H : Hp} {Q : VK} {E : XK} (h1 : H p = some (.lst (ds.map V.int))) (hl : (ds.length : Int) = 7) (hds : ∀ x ∈ ds, 0 ≤ x ∧ x < 1000000) (hR : Rt d) (q : ∀ (r : Addr) (H' : Hp) (s : Sd), Same H H' → SdAt H' r s → SK 20 12 s → sgn d s.x s.y = 1 → Q (.ref r) H') : sp__law_length ([.int d, .ref p] ++ []) H Q E := ⟨d, p, ds, rfl, h1, hl, hds, hR, q⟩
inductive sp_serving (K : PySem.W.Frag) (vs : List V) (H : Hp) (Q : VK) (E : XK) : Prop
  | mk (d : Int) (p : Addr) (L : List Ln) (k : Nat) (_ : vs = [.int d, .ref p]) (_ : LsB d 700 H p L) (_ : Rt d) (_ : L.length ≤ 40) (_ : Fst d (L.map Ln.u) k) (_ : Bd 890 (cbs (L.map fun c => c.s.z))) (_ : ∀ (p' r1 r2 : Addr) (H' : Hp), Same H H' → BsAt H' p' r1 r2 (st d k) (cbs (L.map fun c => c.s.z)) → Q (.ref p') H') : sp_serving K vs H Q E
theorem Aw {K : PySem.W.Frag} {d : Int} {p : Addr} {L : List Ln} {k : Nat} {H : Hp} {Q : VK} {E : XK} (hL : LsB d 700 H p L) (hR : Rt d) (hlen : L.length ≤ 40) (hF : Fst d (L.map Ln.u) k) (hNb : Bd 890 (cbs (L.map fun c => c.s.z))) (q : ∀ (p' r1 r2 : Addr) (H' : Hp), Same H H' → BsAt H' p' r1 r2 (st d k) (cbs (L.map fun c => c.s.z)) → Q (.ref p') H') : sp_serving K ([.int d, .ref p] ++ []) H Q E := ⟨d, p, L, k, rfl, hL, hR, hlen, hF, hNb, q⟩
inductive sp_normal_heap (vs : List V) (H : Hp) (Q : VK) (E : XK) : Prop
  | mk (d d' : Int) (p pb r1 r2 : Addr) (s' : B4) (N D : Int) (C : List Cell) (hb : List Bx) (_ : vs = [.int d, .ref p, .ref pb]) (_ : H p = some (.lst (C.map Cell.v))) (_ : (∀ c ∈ C, c.At H)) (_ : BsAt H pb r1 r2 s' N) (_ : 1 ≤ N) (_ : Bd 900 N) (_ : GB d' 900 s') (_ : C.length = hb.length) (_ : 1 ≤ hb.length) (_ : hb.length ≤ 60) (_ : Bd 64 d) (_ : 1 ≤ D) (_ : Bd 900 D) (_ : (∀ (k : Nat) (c : Cell) (b : Bx), C[k]? = some c → hb[k]? = some b → (∃ X Y, c.b.w = sdO N X Y ∧ Bd 900 X ∧ Bd 900 Y ∧ b.i = s'.i X Y ∧ b.j = s'.j X Y) ∧ c.b.h = sdO D b.x b.y)) (_ : (∀ b ∈ hb, Bd 1200 b.i ∧ Bd 1200 b.j ∧ Bd 900 b.x ∧ Bd 900 b.y)) (_ : (∀ (l : Addr) (H' : Hp) (R : List Cell), H l = none → Same H H' → H' l = some (.lst (R.map Cell.v)) → (∀ c ∈ R, c.At H') → R.map Cell.b = nrx s' N D hb 2 → Q (.ref l) H')) : sp_normal_heap vs H Q E
theorem ve {d d' : Int} {p pb r1 r2 : Addr} {s' : B4} {N D : Int} {C : List Cell} {hb : List Bx} {H : Hp} {Q : VK} {E : XK} (hl : H p = some (.lst (C.map Cell.v))) (hA : (∀ c ∈ C, c.At H)) (fb : BsAt H pb r1 r2 s' N) (hN : 1 ≤ N) (hNb : Bd 900 N) (gb : GB d' 900 s') (hlen : C.length = hb.length) (h1 : 1 ≤ hb.length) (h60 : hb.length ≤ 60) (hd : Bd 64 d) (hD : 1 ≤ D) (bD : Bd 900 D) (hc : (∀ (k : Nat) (c : Cell) (b : Bx), C[k]? = some c → hb[k]? = some b → (∃ X Y, c.b.w = sdO N X Y ∧ Bd 900 X ∧ Bd 900 Y ∧ b.i = s'.i X Y ∧ b.j = s'.j X Y) ∧ c.b.h = sdO D b.x b.y)) (hb' : (∀ b ∈ hb, Bd 1200 b.i ∧ Bd 1200 b.j ∧ Bd 900 b.x ∧ Bd 900 b.y)) (q : (∀ (l : Addr) (H' : Hp) (R : List Cell), H l = none → Same H H' → H' l = some (.lst (R.map Cell.v)) → (∀ c ∈ R, c.At H') → R.map Cell.b = nrx s' N D hb 2 → Q (.ref l) H')) : sp_normal_heap ([.int d, .ref p, .ref pb] ++ []) H Q E := ⟨d, d', p, pb, r1, r2, s', N, D, C, hb, rfl, hl, hA, fb, hN, hNb, gb, hlen, h1, h60, hd, hD, bD, hc, hb', q⟩
inductive sp__law_heap (vs : List V) (H : Hp) (Q : VK) (E : XK) : Prop
  | mk (d : Int) (p : Addr) (ns : List Int) (_ : vs = [.int d, .ref p]) (_ : H p = some (.lst (ns.map V.int))) (_ : (∀ x ∈ ns, Bd 1048576 x)) (_ : ns.length ≤ 20) (_ : Rt d) (_ : ∀ (r : Addr) (H' : Hp) (C : List Cell), Same H H' → H' r = some (.lst (C.map Cell.v)) → (∀ c ∈ C, c.At H') → (∀ c ∈ C, (SK 20 12 c.b.w ∧ SK 20 12 c.b.h) ∧ sgn d c.b.w.x c.b.w.y = 1 ∧ sgn d c.b.h.x c.b.h.y = 1) → C.length = ns.length → Q (.ref r) H') : sp__law_heap vs H Q E
theorem uB {d : Int} {p : Addr} {ns : List Int} {H : Hp} {Q : VK} {E : XK} (h1 : H p = some (.lst (ns.map V.int))) (hb : ∀ x ∈ ns, Bd 1048576 x) (hlen : ns.length ≤ 20) (hR : Rt d) (q : ∀ (r : Addr) (H' : Hp) (C : List Cell), Same H H' → H' r = some (.lst (C.map Cell.v)) → (∀ c ∈ C, c.At H') → (∀ c ∈ C, (SK 20 12 c.b.w ∧ SK 20 12 c.b.h) ∧ sgn d c.b.w.x c.b.w.y = 1 ∧ sgn d c.b.h.x c.b.h.y = 1) → C.length = ns.length → Q (.ref r) H') : sp__law_heap ([.int d, .ref p] ++ []) H Q E := ⟨d, p, ns, rfl, h1, hb, hlen, hR, q⟩
inductive sp_Yard_put_by (cs : Cs) (vs : List V) (H : Hp) (Q : VK) (E : XK) : Prop
  | mk (y : Yd) (d : Int) (tn : Bool) (cl : List Cell) (ns : List Nat) (lg : List V) (p a : Addr) (e : Dd) (c c' : Cell) (_ : vs = [.ref y.p, .ref p, .ref a]) (_ : YdAt cs.Yard H y d tn cl ns lg) (_ : DdAt H p e) (_ : H a = some (.lst (if e.two then [.ref c.p, .ref c'.p] else [.ref c.p]))) (_ : c.At H) (_ : c'.At H) (_ : Bd 64 d) (_ : e.Fit d c.b c'.b) (_ : (∀ (r : Addr) (N : List Cell) (H' : Hp), Same H H' → H r = none → H' r = some (.lst (N.map Cell.v)) → (∀ x ∈ N, x.At H') → N.map Cell.b = e.new c.b c'.b → Q (.ref r) H')) : sp_Yard_put_by cs vs H Q E
theorem w6 {cs : Cs} {y : Yd} {d : Int} {tn : Bool} {cl : List Cell} {ns : List Nat} {lg : List V} {p a : Addr} {e : Dd} {c c' : Cell} {H : Hp} {Q : VK} {E : XK} (hy : YdAt cs.Yard H y d tn cl ns lg) (he : DdAt H p e) (ha : H a = some (.lst (if e.two then [.ref c.p, .ref c'.p] else [.ref c.p]))) (hc : c.At H) (hc' : c'.At H) (hd : Bd 64 d) (hf : e.Fit d c.b c'.b) (q : (∀ (r : Addr) (N : List Cell) (H' : Hp), Same H H' → H r = none → H' r = some (.lst (N.map Cell.v)) → (∀ x ∈ N, x.At H') → N.map Cell.b = e.new c.b c'.b → Q (.ref r) H')) : sp_Yard_put_by cs ([.ref y.p, .ref p, .ref a] ++ []) H Q E := ⟨y, d, tn, cl, ns, lg, p, a, e, c, c', rfl, hy, he, ha, hc, hc', hd, hf, q⟩
inductive sp_Yard_do (cs : Cs) (vs : List V) (H : Hp) (Q : VK) (E : XK) : Prop
  | mk (y : Yd) (d : Int) (tn : Bool) (cl : List Cell) (ns : List Nat) (lg : List V) (p : Addr) (e : Dd) (c c' : Cell) (_ : vs = [.ref y.p, .ref p]) (_ : YdAt cs.Yard H y d tn cl ns lg) (_ : DdAt H p e) (_ : e.Ok) (_ : (∀ m ∈ e.names, ∃ n ∈ ns, m = (n : Int))) (_ : e.names.Nodup) (_ : (e.isT = true → tn = true)) (_ : CellsOf cl e c c') (_ : e.Fit d c.b c'.b) (_ : Bd 64 d) (_ : cl.length ≤ 398) (_ : lg.length ≤ 199) (_ : (∀ (N : List Cell) (H' : Hp), YdAt cs.Yard H' y d tn (cl ++ N) (yf ns e.names ++ List.range' cl.length N.length) (lg ++ [.ref p]) → N.map Cell.b = e.new c.b c'.b → (∀ b o, H b = some o → b ≠ y.k → b ≠ y.l → b ≠ y.t → H' b = some o) → Q .non H')) : sp_Yard_do cs vs H Q E
theorem xV {cs : Cs} {y : Yd} {d : Int} {tn : Bool} {cl : List Cell} {ns : List Nat} {lg : List V} {p : Addr} {e : Dd} {c c' : Cell} {H : Hp} {Q : VK} {E : XK} (hy : YdAt cs.Yard H y d tn cl ns lg) (he : DdAt H p e) (ok : e.Ok) (hm : (∀ m ∈ e.names, ∃ n ∈ ns, m = (n : Int))) (hn : e.names.Nodup) (ht : (e.isT = true → tn = true)) (hc : CellsOf cl e c c') (hf : e.Fit d c.b c'.b) (hd : Bd 64 d) (l1 : cl.length ≤ 398) (l2 : lg.length ≤ 199) (q : (∀ (N : List Cell) (H' : Hp), YdAt cs.Yard H' y d tn (cl ++ N) (yf ns e.names ++ List.range' cl.length N.length) (lg ++ [.ref p]) → N.map Cell.b = e.new c.b c'.b → (∀ b o, H b = some o → b ≠ y.k → b ≠ y.l → b ≠ y.t → H' b = some o) → Q .non H')) : sp_Yard_do cs ([.ref y.p, .ref p] ++ []) H Q E := ⟨y, d, tn, cl, ns, lg, p, e, c, c', rfl, hy, he, ok, hm, hn, ht, hc, hf, hd, l1, l2, q⟩
inductive sp__law_done (cs : Cs) (vs : List V) (H : Hp) (Q : VK) (E : XK) : Prop
  | mk (y : Yd) (d D0 D : Int) (T : Tb) (i : Nat) (s : As) (lg : List V) (pm : Addr) (ms : List Int) (_ : vs = [.int d, .ref y.p, .ref pm, .int 20]) (_ : YdS cs.Yard H y d false s lg) (_ : YI d D0 D T i s) (_ : Rt d) (_ : H pm = some (.lst (ms.map V.int))) (_ : (ms.length : Int) = 5) (_ : (∀ x ∈ ms, 0 ≤ x ∧ x < 1000000)) (_ : i ≤ 30) (_ : lg.length ≤ i) (_ : (∀ (H' : Hp) (s' : As) (D' : Int) (lg' : List V), Frm y H H' → YdS cs.Yard H' y d false s' lg' → YI d D0 D' T (i + 1) s' → lg'.length ≤ i + 1 → Q .non H')) : sp__law_done cs vs H Q E
theorem uJ {cs : Cs} {y : Yd} {d D0 D : Int} {T : Tb} {i : Nat} {s : As} {lg : List V} {pm : Addr} {ms : List Int} {H : Hp} {Q : VK} {E : XK} (hy : YdS cs.Yard H y d false s lg) (yi : YI d D0 D T i s) (hR : Rt d) (hm : H pm = some (.lst (ms.map V.int))) (hml : (ms.length : Int) = 5) (hms : (∀ x ∈ ms, 0 ≤ x ∧ x < 1000000)) (hi : i ≤ 30) (hlg : lg.length ≤ i) (q : (∀ (H' : Hp) (s' : As) (D' : Int) (lg' : List V), Frm y H H' → YdS cs.Yard H' y d false s' lg' → YI d D0 D' T (i + 1) s' → lg'.length ≤ i + 1 → Q .non H')) : sp__law_done cs ([.int d, .ref y.p, .ref pm, .int 20] ++ []) H Q E := ⟨y, d, D0, D, T, i, s, lg, pm, ms, rfl, hy, yi, hR, hm, hml, hms, hi, hlg, q⟩
theorem uE : FnScope ["thing"] ["thing"] (defScope s_is_whole) := ⟨rfl, rfl, rfl, by decide +kernel, rfl, by decide +kernel, by decide +kernel⟩
theorem sc_common_divisor : FnScope ["one", "other", "pair", "rest"] ["one", "other"] (defScope s_common_divisor) := ⟨rfl, rfl, rfl, by decide +kernel, rfl, by decide +kernel, by decide +kernel⟩
theorem xF : FnScope ["divisor", "bottom"] ["divisor", "bottom"] (defScope s_with_sign_of) := ⟨rfl, rfl, rfl, by decide +kernel, rfl, by decide +kernel, by decide +kernel⟩
theorem y4 : FnScope ["d", "a", "b"] ["d", "a", "b"] (defScope s_is_above_nought) := ⟨rfl, rfl, rfl, by decide +kernel, rfl, by decide +kernel, by decide +kernel⟩
theorem tY : FnScope ["one", "other"] ["one", "other"] (defScope s_crossed) := ⟨rfl, rfl, rfl, by decide +kernel, rfl, by decide +kernel, by decide +kernel⟩
theorem wl : FnScope ["deed"] ["deed"] (defScope s_names_taken) := ⟨rfl, rfl, rfl, by decide +kernel, rfl, by decide +kernel, by decide +kernel⟩
theorem AQ : FnScope ["one"] ["one"] (defScope s_turned) := ⟨rfl, rfl, rfl, by decide +kernel, rfl, by decide +kernel, by decide +kernel⟩
theorem vp : FnScope ["_law_script", "_law_k"] ["_law_script", "_law_k"] (defScope s__law_cell) := ⟨rfl, rfl, rfl, by decide +kernel, rfl, by decide +kernel, by decide +kernel⟩
theorem sc__law_digits : FnScope ["_law_cell_here", "_law_k", "_law_many", "_law_found", "_law_rest", "_law_number", "_law_j"] ["_law_cell_here", "_law_k", "_law_many"] (defScope s__law_digits) := ⟨rfl, rfl, rfl, by decide +kernel, rfl, by decide +kernel, by decide +kernel⟩
theorem sc__law_divisor : FnScope ["_law_one", "_law_other"] ["_law_one", "_law_other"] (defScope s__law_divisor) := ⟨rfl, rfl, rfl, by decide +kernel, rfl, by decide +kernel, by decide +kernel⟩
theorem sc__law_above : FnScope ["_law_d", "_law_first", "_law_second", "_law_a", "_law_b"] ["_law_d", "_law_first", "_law_second"] (defScope s__law_above) := ⟨rfl, rfl, rfl, by decide +kernel, rfl, by decide +kernel, by decide +kernel⟩
theorem sc__law_tab : FnScope ["_law_heap_here", "_law_bottom", "_law_width", "_law_height", "_law_places", "_law_share", "_law_k"] ["_law_heap_here"] (defScope s__law_tab) := ⟨rfl, rfl, rfl, by decide +kernel, rfl, by decide +kernel, by decide +kernel⟩
theorem sc__law_pair : FnScope ["_law_boards", "_law_side_here", "_law_k", "_law_j"] ["_law_boards", "_law_side_here"] (defScope s__law_pair) := ⟨rfl, rfl, rfl, by decide +kernel, rfl, by decide +kernel, by decide +kernel⟩
theorem xt : FnScope ["self", "d", "heap", "turning"] ["self", "d", "heap", "turning"] (defScope s_Yard___init__) := ⟨rfl, rfl, rfl, by decide +kernel, rfl, by decide +kernel, by decide +kernel⟩
theorem wk : FnScope ["self"] ["self"] (defScope s_Yard_boards) := ⟨rfl, rfl, rfl, by decide +kernel, rfl, by decide +kernel, by decide +kernel⟩
theorem vG : FnScope ["self"] ["self"] (defScope s_Yard_heap) := ⟨rfl, rfl, rfl, by decide +kernel, rfl, by decide +kernel, by decide +kernel⟩
theorem sc_length : FnScope ["a", "b", "n", "divisor"] ["a", "b", "n"] (defScope s_length) := ⟨rfl, rfl, rfl, by decide +kernel, rfl, by decide +kernel, by decide +kernel⟩
theorem sc_by_parts : FnScope ["f", "g", "shared"] ["f", "g"] (defScope s_by_parts) := ⟨rfl, rfl, rfl, by decide +kernel, rfl, by decide +kernel, by decide +kernel⟩
theorem sc_added : FnScope ["one", "other", "shared", "ahead", "behind", "a", "b", "left"] ["one", "other"] (defScope s_added) := ⟨rfl, rfl, rfl, by decide +kernel, rfl, by decide +kernel, by decide +kernel⟩
theorem CP : FnScope ["d", "one", "other"] ["d", "one", "other"] (defScope s_under) := ⟨rfl, rfl, rfl, by decide +kernel, rfl, by decide +kernel, by decide +kernel⟩
theorem sc_counts : FnScope ["d", "base", "one", "p", "q", "bottom"] ["d", "base", "one"] (defScope s_counts) := ⟨rfl, rfl, rfl, by decide +kernel, rfl, by decide +kernel, by decide +kernel⟩
theorem sc_common_bottom : FnScope ["lengths", "bottom", "one"] ["lengths"] (defScope s_common_bottom) := ⟨rfl, rfl, rfl, by decide +kernel, rfl, by decide +kernel, by decide +kernel⟩
theorem sc__law_root : FnScope ["_law_script", "_law_d"] ["_law_script"] (defScope s__law_root) := ⟨rfl, rfl, rfl, by decide +kernel, rfl, by decide +kernel, by decide +kernel⟩
theorem sc__law_fraction : FnScope ["_law_some", "_law_great", "_law_top", "_law_bottom", "_law_thing"] ["_law_some", "_law_great"] (defScope s__law_fraction) := ⟨rfl, rfl, rfl, by decide +kernel, rfl, by decide +kernel, by decide +kernel⟩
theorem sc__law_like : FnScope ["_law_one", "_law_other", "_law_first", "_law_second"] ["_law_one", "_law_other"] (defScope s__law_like) := ⟨rfl, rfl, rfl, by decide +kernel, rfl, by decide +kernel, by decide +kernel⟩
theorem sc_Yard_check_names : FnScope ["self", "names", "name"] ["self", "names"] (defScope s_Yard_check_names) := ⟨rfl, rfl, rfl, by decide +kernel, rfl, by decide +kernel, by decide +kernel⟩
theorem B2 : FnScope ["one", "other"] ["one", "other"] (defScope s_taken) := ⟨rfl, rfl, rfl, by decide +kernel, rfl, by decide +kernel, by decide +kernel⟩
theorem BZ : FnScope ["d", "one", "other"] ["d", "one", "other"] (defScope s_timed) := ⟨rfl, rfl, rfl, by decide +kernel, rfl, by decide +kernel, by decide +kernel⟩
theorem w4 : FnScope ["d", "n"] ["d", "n"] (defScope s_first_base) := ⟨rfl, rfl, rfl, by decide +kernel, rfl, by decide +kernel, by decide +kernel⟩
theorem v0 : FnScope ["thing"] ["thing"] (defScope s_is_length) := ⟨rfl, rfl, rfl, by decide +kernel, rfl, by decide +kernel, by decide +kernel⟩
theorem xZ : FnScope ["one", "other"] ["one", "other"] (defScope s_glued_beside) := ⟨rfl, rfl, rfl, by decide +kernel, rfl, by decide +kernel, by decide +kernel⟩
theorem sc_stacked : FnScope ["one", "many", "width", "height"] ["one", "many"] (defScope s_stacked) := ⟨rfl, rfl, rfl, by decide +kernel, rfl, by decide +kernel, by decide +kernel⟩
theorem sc__law_side : FnScope ["_law_d", "_law_some", "_law_great", "_law_first", "_law_second"] ["_law_d", "_law_some", "_law_great"] (defScope s__law_side) := ⟨rfl, rfl, rfl, by decide +kernel, rfl, by decide +kernel, by decide +kernel⟩
theorem sc_next_base : FnScope ["d", "base", "p", "q"] ["d", "base"] (defScope s_next_base) := ⟨rfl, rfl, rfl, by decide +kernel, rfl, by decide +kernel, by decide +kernel⟩
theorem wH : FnScope ["d", "many", "one"] ["d", "many", "one"] (defScope s_times_over) := ⟨rfl, rfl, rfl, by decide +kernel, rfl, by decide +kernel, by decide +kernel⟩
theorem tV : FnScope ["thing"] ["thing"] (defScope s_is_deed) := ⟨rfl, rfl, rfl, by decide +kernel, rfl, by decide +kernel, by decide +kernel⟩
theorem wI : FnScope ["d", "one", "at"] ["d", "one", "at"] (defScope s_cut_across) := ⟨rfl, rfl, rfl, by decide +kernel, rfl, by decide +kernel, by decide +kernel⟩
theorem sc__law_length : FnScope ["_law_d", "_law_some", "_law_parts_of_it"] ["_law_d", "_law_some"] (defScope s__law_length) := ⟨rfl, rfl, rfl, by decide +kernel, rfl, by decide +kernel, by decide +kernel⟩
theorem sc_serving : FnScope ["d", "lengths", "base", "one", "tops", "bottom"] ["d", "lengths"] (defScope s_serving) := ⟨rfl, rfl, rfl, by decide +kernel, rfl, by decide +kernel, by decide +kernel⟩
theorem sc_normal_heap : FnScope ["d", "heap", "base", "told", "place", "height", "one", "many"] ["d", "heap", "base"] (defScope s_normal_heap) := ⟨rfl, rfl, rfl, by decide +kernel, rfl, by decide +kernel, by decide +kernel⟩
theorem sc__law_heap : FnScope ["_law_d", "_law_cells", "_law_found", "_law_k", "_law_some"] ["_law_d", "_law_cells"] (defScope s__law_heap) := ⟨rfl, rfl, rfl, by decide +kernel, rfl, by decide +kernel, by decide +kernel⟩
theorem sc_Yard_put_by : FnScope ["self", "deed", "boards", "word"] ["self", "deed", "boards"] (defScope s_Yard_put_by) := ⟨rfl, rfl, rfl, by decide +kernel, rfl, by decide +kernel, by decide +kernel⟩
theorem sc_Yard_do : FnScope ["self", "deed", "names", "fresh", "name", "one"] ["self", "deed"] (defScope s_Yard_do) := ⟨rfl, rfl, rfl, by decide +kernel, rfl, by decide +kernel, by decide +kernel⟩
theorem sc__law_done : FnScope ["_law_d", "_law_yard", "_law_some", "_law_most", "_law_boards", "_law_name", "_law_one", "_law_way", "_law_many", "_law_side_here", "_law_at", "_law_pair_here"] ["_law_d", "_law_yard", "_law_some", "_law_most"] (defScope s__law_done) := ⟨rfl, rfl, rfl, by decide +kernel, rfl, by decide +kernel, by decide +kernel⟩
theorem sc_law : FnScope ["_law_script", "_law_d", "_law_heap_here", "_law_yard", "_law_k", "_law_other", "_law_base", "_law_found", "_law_width", "_law_height"] ["_law_script"] (defScope s_law) := ⟨rfl, rfl, rfl, by decide +kernel, rfl, by decide +kernel, by decide +kernel⟩
section
variable {P : Program} {w : World} {K : PySem.W.Frag} {mg : Str → Option Value} {base : Heap} {cs : Cs}
theorem ok_is_whole {f : Addr} {fd : FuncData} (F : Fun K "is_whole" "is_whole" s_is_whole f fd) (B : Bl mg)   : FnOk P w K mg base CX0 1 f fd ["thing"] sp_is_whole := by
  refine F.ok (k := 0) uE (fun vs H Q E h => ?_) (fun cdv A outer s H vs Q E hr h => ?_)
  · obtain ⟨i, rfl, q⟩ := h
    rfl
  obtain ⟨i, rfl, q⟩ := h
  refine ⟨_, (zf (zr (C4 (zw yc rfl B.isinstance zV (za (pv 0) (za (xQ (v := .ty "int") rfl B.int Dl rfl) ze))) (A9 (E7 (zw yc rfl B.isinstance zV (za (pv 0) (za (xQ (v := .ty "bool") rfl B.bool DN rfl) ze)))))))), ?_⟩
  refine zE (σ' := [some (.int i)]) rfl ?_
  try dsimp only [cx_K]
  walk_at "r"
  exact q
theorem ok_common_divisor {f : Addr} {fd : FuncData} (F : Fun K "common_divisor" "common_divisor" s_common_divisor f fd) (B : Bl mg) (g_GREAT_BITS : TopI mg "GREAT_BITS" (8192))  : FnOk P w K mg base CX0 1 f fd ["one", "other"] sp_common_divisor := by
  obtain ⟨u_GREAT_BITS, m_GREAT_BITS, r_GREAT_BITS⟩ := g_GREAT_BITS
  refine F.ok (k := 0) sc_common_divisor (fun vs H Q E h => ?_) (fun cdv A outer s H vs Q E hr h => ?_)
  · obtain ⟨a, b, rfl, hb, q⟩ := h
    rfl
  obtain ⟨a, b, rfl, hb, q⟩ := h
  refine ⟨_, (zd (zF (zp xI (Gf PySem.F.plainAttrs_int PySem.F.slot_int_bit_length PySem.F.type_int_bit_length DA (pv 1)) (yt (v := .int (8192)) rfl m_GREAT_BITS r_GREAT_BITS) (zu _)) AN zv) (zd (xv PassesOwn.never (zp Bs (pv 1) zc (zu _)) (zd (zo (i := 3) sc_common_divisor.nd rfl (Or.inl rfl) (zk Ez (pv 0) (pv 1))) (zd (zo (i := 0) sc_common_divisor.nd rfl (Or.inl rfl) (pv 1)) (zf (zo (i := 1) sc_common_divisor.nd rfl (Or.inl rfl) (pv 3)))))) (zf (zr (zw xN rfl B.abs BJ (za (pv 0) ze)))))), ?_⟩
  refine zE (σ' := [some (.int a), some (.int b), none, none]) rfl ?_
  try dsimp only [cx_K]
  walk_at "r"
  refine if_d (fun c => absurd c (Ej hb)) (fun _ => ?_)
  walk_at "r"
  refine BX (fun σ' H' => ∃ (x y : Int) (r : Option V), σ' = [some (.int x), some (.int y), none, r] ∧ H' = H ∧ Int.gcd x y = Int.gcd a b) (fun σ' _ => match σ' with | [_, some (.int y), _, _] => y.natAbs | _ => 0) ⟨a, b, none, rfl, rfl, rfl⟩ ?_ ?_
  · rintro σ' H' ⟨x, y, r, rfl, rfl, hg⟩
    walk_at "r"
    refine vq (fun c => ?_) (fun c => ?_)
    · walk_at "r"
      exact ⟨⟨y, x.fmod y, _, rfl, rfl, (CI x y).trans hg⟩, D7 c⟩
    · walk_at "r"
      have e : (if x < 0 then -x else x) = ((Int.gcd a b : Nat) : Int) := by
        rw [← hg, c, Int.gcd_zero_right]
        split <;> omega
      rw [e]
      exact q
  · intro σ H Q Q' hq h
    obtain ⟨v, e, hs, k, e2, z⟩ := h
    exact ⟨v, e, hs, k, e2, hq _ _ z⟩
theorem ok_with_sign_of {f : Addr} {fd : FuncData} (F : Fun K "with_sign_of" "with_sign_of" s_with_sign_of f fd) (B : Bl mg)   : FnOk P w K mg base CX0 1 f fd ["divisor", "bottom"] sp_with_sign_of := by
  refine F.ok (k := 0) xF (fun vs H Q E h => ?_) (fun cdv A outer s H vs Q E hr h => ?_)
  · obtain ⟨g, n, rfl, q⟩ := h
    rfl
  obtain ⟨g, n, rfl, q⟩ := h
  refine ⟨_, (zf (zr (tu (zp wL (pv 1) zc (zu _)) (Am vn (pv 0)) (pv 0)))), ?_⟩
  refine zE (σ' := [some (.int g), some (.int n)]) rfl ?_
  try dsimp only [cx_K]
  walk_at "r"
  refine if_d (fun c => ?_) (fun c => ?_)
  · walk_at "r"
    rw [if_pos c] at q
    exact q
  · walk_at "r"
    rw [if_neg c] at q
    exact q
theorem ok_is_above_nought {f : Addr} {fd : FuncData} (F : Fun K "is_above_nought" "is_above_nought" s_is_above_nought f fd) (B : Bl mg)   : FnOk P w K mg base CX0 1 f fd ["d", "a", "b"] sp_is_above_nought := by
  refine F.ok (k := 0) y4 (fun vs H Q E h => ?_) (fun cdv A outer s H vs Q E hr h => ?_)
  · obtain ⟨d, a, b, rfl, hd, ha, hb, q⟩ := h
    rfl
  obtain ⟨d, a, b, rfl, hd, ha, hb, q⟩ := h
  refine ⟨_, (zd (zF (PW.pt (ym (zp A6 (pv 1) zc (zu _)) (zX (zp A6 (pv 2) zc (zu _))))) (zf (zr (GI (zP xI (pv 1) zc (zu _)) (A9 (zP xI (pv 2) zc (zu _)))))) zv) (zd (zF (PW.pt (ym (zp Ca (pv 1) zc (zu _)) (zX (zp Ca (pv 2) zc (zu _))))) (zf (zr xS)) zv) (zd (zF (zp xI (pv 1) zc (zu _)) (zf (zr (zP xI (zk zn (pv 1) (pv 1)) (zk zn (zk zn (pv 0) (pv 2)) (pv 2)) (zu _)))) zv) (zf (zr (zP xI (zk zn (zk zn (pv 0) (pv 2)) (pv 2)) (zk zn (pv 1) (pv 1)) (zu _))))))), ?_⟩
  refine zE (σ' := [some (.int d), some (.int a), some (.int b)]) rfl ?_
  try dsimp only [cx_K]
  walk_at "r"
  refine if_d (fun c1 => ?_) (fun c1 => ?_)
  · walk_at "r"
    refine if_d (fun c2 => ?_) (fun c2 => ?_)
    · walk_at "r"
      refine if_d (fun c3 => ?_) (fun c3 => ?_)
      · exact bl_q (Eq.symm (decide_eq_true (by unfold sgn; rw [if_pos ⟨c1, c2⟩, if_pos (by omega)]; decide))) q
      · walk_at "r"
        exact bl_q (decide_eq_decide.mpr (by unfold sgn; rw [if_pos ⟨c1, c2⟩]; split <;> omega)) q
    · walk_at "r"
      refine if_d (fun c3 => ?_) (fun c3 => ?_)
      · walk_at "r"
        refine if_d (fun c4 => ?_) (fun c4 => ?_)
        · walk_at "r"
          exact bl_q (Eq.symm (decide_eq_false (by unfold sgn; rw [if_neg (by omega), if_pos ⟨c3, c4⟩]; decide))) q
        · omega
      · walk_at "r"
        refine if_d (fun c4 => ?_) (fun c4 => ?_)
        · walk_at "r"
          exact bl_q (decide_eq_decide.mpr (by unfold sgn; rw [if_neg (by omega), if_neg (by omega), if_pos c4]; split <;> omega)) q
        · omega
  · walk_at "r"
    refine if_d (fun c3 => ?_) (fun c3 => ?_)
    · walk_at "r"
      refine if_d (fun c4 => ?_) (fun c4 => ?_)
      · walk_at "r"
        exact bl_q (Eq.symm (decide_eq_false (by unfold sgn; rw [if_neg (by omega), if_pos ⟨c3, c4⟩]; decide))) q
      · walk_at "r"
        refine if_d (fun c5 => ?_) (fun c5 => ?_)
        · omega
        · walk_at "r"
          exact bl_q (decide_eq_decide.mpr (by unfold sgn; rw [if_neg (by omega), if_neg (by omega), if_neg c5]; split <;> omega)) q
    · omega
theorem ok_crossed {f : Addr} {fd : FuncData} (F : Fun K "crossed" "crossed" s_crossed f fd) (B : Bl mg)   : FnOk P w K mg base CX0 1 f fd ["one", "other"] sp_crossed := by
  refine F.ok (k := 0) tY (fun vs H Q E h => ?_) (fun cdv A outer s H vs Q E hr h => ?_)
  · obtain ⟨p, p', x, y, z, x', y', z', rfl, h1, h2, ⟨b1, b2, b3, b4⟩, q⟩ := h
    rfl
  obtain ⟨p, p', x, y, z, x', y', z', rfl, h1, h2, ⟨b1, b2, b3, b4⟩, q⟩ := h
  refine ⟨_, (zf (zr (zk yG (zk zn (zh zg (pv 0) zc (fun _ _ => rfl)) (zh zg (pv 1) zc (fun _ _ => rfl))) (zk zn (zh zg (pv 0) zc (fun _ _ => rfl)) (zh zg (pv 1) zc (fun _ _ => rfl)))))), ?_⟩
  refine zE (σ' := [some (.ref p), some (.ref p')]) rfl ?_
  try dsimp only [cx_K]
  walk_at "r"
  exact q
theorem ok_names_taken {f : Addr} {fd : FuncData} (F : Fun K "names_taken" "names_taken" s_names_taken f fd) (B : Bl mg) (g_GLUINGS : TopT K mg "GLUINGS" [.str "beside", .str "atop"])  : FnOk P w K mg base CX0 1 f fd ["deed"] sp_names_taken := by
  obtain ⟨a_GLUINGS, m_GLUINGS, q_GLUINGS⟩ := g_GLUINGS
  refine F.ok (k := 0) wl (fun vs H Q E h => ?_) (fun cdv A outer s H vs Q E hr h => ?_)
  · obtain ⟨p, e, rfl, he, q⟩ := h
    rfl
  obtain ⟨p, e, rfl, he, q⟩ := h
  refine ⟨_, (zf (zr (tu (zp yK (zh zg (pv 0) zc (fun _ _ => rfl)) (yt (v := .ref a_GLUINGS) rfl m_GLUINGS rfl) (by with_unfolding_all rfl)) (zM (za (zh zg (pv 0) zc (fun _ _ => rfl)) (za (zh zg (pv 0) zc (fun _ _ => rfl)) ze))) (zM (za (zh zg (pv 0) zc (fun _ _ => rfl)) ze))))), ?_⟩
  refine zE (σ' := [some (.ref p)]) rfl ?_
  try dsimp only [cx_K]
  cases e with
  | cut al n s =>
    obtain ⟨pq, h0, hs⟩ := he
    cases al with
    | false =>
      have h0 : H p = some (.tup [.str (Str.ofString "across"), .int n, .ref pq]) := h0
      walk_at "r"
      refine ⟨_, _, rfl, .inr (q_GLUINGS H), rfl, rfl, ?_⟩
      rw [show (if false = true then !inV _ _ else inV _ _) = false from by decide +kernel]
      walk_at "r"
      refine zH (by simp) fun r H1 hr s1 e1 => ?_
      exact q r H1 s1 hr e1
    | true =>
      have h0 : H p = some (.tup [.str (Str.ofString "along"), .int n, .ref pq]) := h0
      walk_at "r"
      refine ⟨_, _, rfl, .inr (q_GLUINGS H), rfl, rfl, ?_⟩
      rw [show (if false = true then !inV _ _ else inV _ _) = false from by decide +kernel]
      walk_at "r"
      refine zH (by simp) fun r H1 hr s1 e1 => ?_
      exact q r H1 s1 hr e1
  | glue al n m =>
    have h0 := he
    cases al with
    | false =>
      have h0 : H p = some (.tup [.str (Str.ofString "beside"), .int n, .int m]) := h0
      walk_at "r"
      refine ⟨_, _, rfl, .inr (q_GLUINGS H), rfl, rfl, ?_⟩
      rw [show (if false = true then !inV _ _ else inV _ _) = true from by decide +kernel]
      walk_at "r"
      refine zH (by simp) fun r H1 hr s1 e1 => ?_
      exact q r H1 s1 hr e1
    | true =>
      have h0 : H p = some (.tup [.str (Str.ofString "atop"), .int n, .int m]) := h0
      walk_at "r"
      refine ⟨_, _, rfl, .inr (q_GLUINGS H), rfl, rfl, ?_⟩
      rw [show (if false = true then !inV _ _ else inV _ _) = true from by decide +kernel]
      walk_at "r"
      refine zH (by simp) fun r H1 hr s1 e1 => ?_
      exact q r H1 s1 hr e1
  | shift al n k =>
    have h0 := he
    cases al with
    | false =>
      have h0 : H p = some (.tup [.str (Str.ofString "stack"), .int n, .int k]) := h0
      walk_at "r"
      refine ⟨_, _, rfl, .inr (q_GLUINGS H), rfl, rfl, ?_⟩
      rw [show (if false = true then !inV _ _ else inV _ _) = false from by decide +kernel]
      walk_at "r"
      refine zH (by simp) fun r H1 hr s1 e1 => ?_
      exact q r H1 s1 hr e1
    | true =>
      have h0 : H p = some (.tup [.str (Str.ofString "spread"), .int n, .int k]) := h0
      walk_at "r"
      refine ⟨_, _, rfl, .inr (q_GLUINGS H), rfl, rfl, ?_⟩
      rw [show (if false = true then !inV _ _ else inV _ _) = false from by decide +kernel]
      walk_at "r"
      refine zH (by simp) fun r H1 hr s1 e1 => ?_
      exact q r H1 s1 hr e1
  | turn n =>
    have h0 := he
    have h0 : H p = some (.tup [.str (Str.ofString "turn"), .int n]) := h0
    walk_at "r"
    refine ⟨_, _, rfl, .inr (q_GLUINGS H), rfl, rfl, ?_⟩
    rw [show (if false = true then !inV _ _ else inV _ _) = false from by decide +kernel]
    walk_at "r"
    refine zH (by simp) fun r H1 hr s1 e1 => ?_
    exact q r H1 s1 hr e1
theorem ok_turned {f : Addr} {fd : FuncData} (F : Fun K "turned" "turned" s_turned f fd) (B : Bl mg)   : FnOk P w K mg base CX0 1 f fd ["one"] sp_turned := by
  refine F.ok (k := 0) AQ (fun vs H Q E h => ?_) (fun cdv A outer s H vs Q E hr h => ?_)
  · obtain ⟨c, rfl, hc, q⟩ := h
    rfl
  obtain ⟨c, rfl, hc, q⟩ := h
  refine ⟨_, (zf (zr (zA (za (zh zg (pv 0) zc (fun _ _ => rfl)) (za (zh zg (pv 0) zc (fun _ _ => rfl)) ze))))), ?_⟩
  refine zE (σ' := [some (.ref c.p)]) rfl ?_
  try dsimp only [cx_K]
  have ct := hc.t
  walk_at "r"
  refine yZ (by simp) fun r H1 hr s1 e1 => ?_
  exact q r H1 s1 hr ⟨e1, s1 _ _ hc.h, s1 _ _ hc.w⟩
theorem ok__law_cell {f : Addr} {fd : FuncData} (F : Fun K "_law_cell" "_law_cell" s__law_cell f fd) (B : Bl mg)   : FnOk P w K mg base CX0 1 f fd ["_law_script", "_law_k"] (sp__law_cell K) := by
  refine F.ok (k := 0) vp (fun vs H Q E h => ?_) (fun cdv A outer s H vs Q E hr h => ?_)
  · obtain ⟨p, ns, k, rfl, hS, hk, hb, q⟩ := h
    rfl
  obtain ⟨p, ns, k, rfl, hS, hk, hb, q⟩ := h
  refine ⟨_, (zd (zF (zp wL (pv 1) (zw zy rfl B.len PySem.boot_len (za (pv 0) ze)) (zu _)) (zf (zr (zh zq (pv 0) (pv 1) (fun _ _ => rfl)))) zv) (zf (zr zc))), ?_⟩
  refine zE (σ' := [some (.ref p), some (.int k)]) rfl ?_
  try dsimp only [cx_K]
  walk_at "r"
  refine ⟨p, _, rfl, .inl hS, ?_⟩
  walk_at "r"
  refine if_d (fun c => ?_) (fun c => ?_)
  · walk_at "r"
    rw [List.length_map] at c
    obtain ⟨d, hd, e⟩ := uY (xs := ns) (i := k) hk c
    exact ⟨p, _, _, _, rfl, rfl, hS, e, q d (hb d hd)⟩
  · walk_at "r"
    exact q 0 (by exact (wc 0).mono (by decide +kernel))
theorem dig {ds : List Int} {m : Int} (hl : (ds.length : Int) = m) (hd : ∀ x ∈ ds, 0 ≤ x ∧ x < 1000000) (i : Int) (h0 : 0 ≤ i) (h1 : i < m) : ∃ x : Int, atI (ds.map V.int) i = some (.int x) ∧ 0 ≤ x ∧ x < 1000000 := by
  obtain ⟨x, hx, e⟩ := uY (xs := ds) (i := i) h0 (by omega)
  exact ⟨x, e, hd x hx⟩
theorem ok__law_digits {f : Addr} {fd : FuncData} (F : Fun K "_law_digits" "_law_digits" s__law_digits f fd) (B : Bl mg)   : FnOk P w K mg base CX0 1 f fd ["_law_cell_here", "_law_k", "_law_many"] sp__law_digits := by
  refine F.ok (k := 0) sc__law_digits (fun vs H Q E h => ?_) (fun cdv A outer s H vs Q E hr h => ?_)
  · obtain ⟨c, k, m, rfl, hc, ⟨k0, k1⟩, ⟨m0, m1⟩, q⟩ := h
    rfl
  obtain ⟨c, k, m, rfl, hc, ⟨k0, k1⟩, ⟨m0, m1⟩, q⟩ := h
  refine ⟨_, (zd (zo (i := 3) sc__law_digits.nd rfl (Or.inl rfl) (zM ze)) (zd (zo (i := 4) sc__law_digits.nd rfl (Or.inl rfl) (zk zn (zk yz (zw xN rfl B.abs BJ (za (pv 0) ze)) zc) (zk yG zc (zk zG (pv 0) zc)))) (zd (xv PassesOwn.never (PW.pt (ym (zp xI (pv 4) zc (zu _)) (zX (zp wL (zw zy rfl B.len PySem.boot_len (za (pv 3) ze)) (pv 2) (zu _))))) (zd (z9 (tJ PySem.F.plainAttrs_list PySem.F.slot_list_append PySem.F.type_list_append yg (pv 3) (za (zk zG (pv 4) (zk yV zc zc)) ze))) (zf (zo (i := 4) sc__law_digits.nd rfl (Or.inl rfl) (zk yz (pv 4) (zk yV zc zc)))))) (zd (zo (i := 5) sc__law_digits.nd rfl (Or.inl rfl) (zk zS (zk zS (zk zG (pv 0) zc) (zk zn (pv 1) (pv 1))) zc)) (zd (ye PassesOwn.never rfl (vM rfl B.range (za (zw zy rfl B.len PySem.boot_len (za (pv 3) ze)) (za (pv 2) ze))) (zx (i := 6) sc__law_digits.nd rfl (Or.inl rfl)) (zd (zo (i := 5) sc__law_digits.nd rfl (Or.inl rfl) (zk zG (zk zS (zk zS (zk zn (pv 5) zc) (zk zn (pv 6) (pv 6))) (pv 1)) zc)) (zf (z9 (tJ PySem.F.plainAttrs_list PySem.F.slot_list_append PySem.F.type_list_append yg (pv 3) (za (zk zG (zk yz (zk zG (zk zn (pv 5) (pv 5)) zc) zc) (zk yV zc zc)) ze)))))) (zf (zr (pv 3)))))))), ?_⟩
  refine zE (σ' := [some (.int c), some (.int k), some (.int m), none, none, none, none]) rfl ?_
  try dsimp only [cx_K]
  have e6 : (10 : Int) ^ (6 : Int).toNat = 1000000 := by decide +kernel
  have kb : Bd 20 k := wW 20 (by omega) (by omega) (by decide)
  have cm : Bd 62 (c % 2305843009213693951) := yn (B := 2305843009213693951) (by omega) (by omega) (by decide +kernel)
  walk_at "r"
  refine zH (by simp) fun l H1 hl s1 e1 => ?_
  walk_at "r"
  obtain ⟨R, hR, R0⟩ : ∃ R : Int, (if c < 0 then -c else c) / 2 * (1 - c % 2) = R ∧ 0 ≤ R := ⟨_, rfl, Int.mul_nonneg (by split <;> omega) (by omega)⟩
  rw [hR]
  refine A5 (fun σ' H' => ∃ (r : Int) (ds : List Int), σ' = [some (.int c), some (.int k), some (.int m), some (.ref l), some (.int r), none, none] ∧ SameX l H1 H' ∧ H' l = some (.lst (ds.map V.int)) ∧ (∀ x ∈ ds, 0 ≤ x ∧ x < 1000000) ∧ (ds.length : Int) ≤ m ∧ 0 ≤ r) (fun σ' _ => match σ' with | [_, _, _, _, some (.int r), _, _] => r.natAbs | _ => 0) ⟨R, [], rfl, fun b o e _ => e, e1, fun x hx => absurd hx (by simp), by simpa using m0, R0⟩ ?_
  rintro σ' H' ⟨r, ds, rfl, sx, el, hds, hlen, r0⟩
  walk_at "r"
  refine if_d (fun c1 => ?_) (fun c1 => ?_)
  · walk_at "r"
    rw [List.length_map]
    refine if_d (fun c2 => ?_) (fun c2 => ?_)
    · refine wgo ?_
      walk_at "r"
      rw [e6]
      refine zD el (by rw [List.length_map]; omega) fun H2 sx2 e2 => ?_
      walk_at "r"
      rw [e6]
      refine ⟨⟨r / 1000000, ds ++ [r % 1000000], rfl, sx.trans sx2, by rw [List.map_append]; exact e2, fun x hx => ?_, by rw [List.length_append]; simp only [List.length_cons, List.length_nil]; omega, by omega⟩, ?_⟩
      · rcases List.mem_append.mp hx with h | h
        · exact hds x h
        · have : x = r % 1000000 := by simpa using h
          subst this
          omega
      · show (r / 1000000).natAbs < r.natAbs
        omega
    · walk_at "r"
      refine uI ?_
      walk_at "r"
      rw [List.length_map]
      refine ⟨(ds.length : Int), m, rfl, ⟨by omega, by omega, by omega, by omega⟩, z8 (lo := (ds.length : Int)) (n := (m - ds.length).toNat) (fun i σ H2 => ∃ (n : Int) (v6 : Option V) (es : List Int), σ = [some (.int c), some (.int k), some (.int m), some (.ref l), some (.int r), some (.int n), v6] ∧ SameX l H1 H2 ∧ es.length = ds.length + i ∧ H2 l = some (.lst (es.map V.int)) ∧ (∀ x ∈ es, 0 ≤ x ∧ x < 1000000) ∧ Bd 120 n) ⟨_, _, ds, rfl, sx, rfl, el, hds, Bd.mono (xD (xD cm (kb.mul kb)) (wc 7)) (by decide +kernel)⟩ ?_ ?_⟩
      · rintro i σ H2 hi ⟨n, v6, es, rfl, sx2, hle, el2, hes, nb⟩
        have jb : Bd 20 ((ds.length : Int) + (i : Int)) := wW 20 (by omega) (by omega) (by decide)
        walk_at "r"
        obtain ⟨w, hw, w0, w1⟩ : ∃ w : Int, (n * 1181783497276652981 + ((ds.length : Int) + (i : Int)) * ((ds.length : Int) + (i : Int)) + k) % 2305843009213693951 = w ∧ 0 ≤ w ∧ w < 2305843009213693951 := ⟨_, rfl, by omega, by omega⟩
        rw [hw]
        have wb : Bd 62 w := yn (B := 2305843009213693951) w0 (by omega) (by decide +kernel)
        walk_at "r"
        rw [e6]
        refine zD el2 (by rw [List.length_map]; omega) fun H3 sx3 e3 => ?_
        walk_at "r"
        refine ⟨_, _, es ++ [w * w % 2305843009213693921 / 1048576 % 1000000], rfl, sx2.trans sx3, by rw [List.length_append, hle]; rfl, by rw [List.map_append]; exact e3, fun x hx => ?_, wb.mono (by decide)⟩
        rcases List.mem_append.mp hx with h | h
        · exact hes x h
        · have : x = w * w % 2305843009213693921 / 1048576 % 1000000 := by simpa using h
          subst this
          exact ⟨Int.emod_nonneg _ (by decide), Int.emod_lt_of_pos _ (by decide)⟩
      · rintro σ H2 ⟨n, v6, es, rfl, sx2, hle, el2, hes, nb⟩
        walk_at "r"
        exact q l H2 es (fun b o e => sx2 b o (s1 b o e) (zj e hl)) el2 (by omega) hes
  · walk_at "r"
    refine uI ?_
    walk_at "r"
    rw [List.length_map]
    refine ⟨(ds.length : Int), m, rfl, ⟨by omega, by omega, by omega, by omega⟩, z8 (lo := (ds.length : Int)) (n := (m - ds.length).toNat) (fun i σ H2 => ∃ (n : Int) (v6 : Option V) (es : List Int), σ = [some (.int c), some (.int k), some (.int m), some (.ref l), some (.int r), some (.int n), v6] ∧ SameX l H1 H2 ∧ es.length = ds.length + i ∧ H2 l = some (.lst (es.map V.int)) ∧ (∀ x ∈ es, 0 ≤ x ∧ x < 1000000) ∧ Bd 120 n) ⟨_, _, ds, rfl, sx, rfl, el, hds, Bd.mono (xD (xD cm (kb.mul kb)) (wc 7)) (by decide +kernel)⟩ ?_ ?_⟩
    · rintro i σ H2 hi ⟨n, v6, es, rfl, sx2, hle, el2, hes, nb⟩
      have jb : Bd 20 ((ds.length : Int) + (i : Int)) := wW 20 (by omega) (by omega) (by decide)
      walk_at "r"
      obtain ⟨w, hw, w0, w1⟩ : ∃ w : Int, (n * 1181783497276652981 + ((ds.length : Int) + (i : Int)) * ((ds.length : Int) + (i : Int)) + k) % 2305843009213693951 = w ∧ 0 ≤ w ∧ w < 2305843009213693951 := ⟨_, rfl, by omega, by omega⟩
      rw [hw]
      have wb : Bd 62 w := yn (B := 2305843009213693951) w0 (by omega) (by decide +kernel)
      walk_at "r"
      rw [e6]
      refine zD el2 (by rw [List.length_map]; omega) fun H3 sx3 e3 => ?_
      walk_at "r"
      refine ⟨_, _, es ++ [w * w % 2305843009213693921 / 1048576 % 1000000], rfl, sx2.trans sx3, by rw [List.length_append, hle]; rfl, by rw [List.map_append]; exact e3, fun x hx => ?_, wb.mono (by decide)⟩
      rcases List.mem_append.mp hx with h | h
      · exact hes x h
      · have : x = w * w % 2305843009213693921 / 1048576 % 1000000 := by simpa using h
        subst this
        exact ⟨Int.emod_nonneg _ (by decide), Int.emod_lt_of_pos _ (by decide)⟩
    · rintro σ H2 ⟨n, v6, es, rfl, sx2, hle, el2, hes, nb⟩
      walk_at "r"
      exact q l H2 es (fun b o e => sx2 b o (s1 b o e) (zj e hl)) el2 (by omega) hes
theorem ok__law_divisor {f : Addr} {fd : FuncData} (F : Fun K "_law_divisor" "_law_divisor" s__law_divisor f fd) (B : Bl mg)   : FnOk P w K mg base CX0 1 f fd ["_law_one", "_law_other"] sp__law_divisor := by
  refine F.ok (k := 0) sc__law_divisor (fun vs H Q E h => ?_) (fun cdv A outer s H vs Q E hr h => ?_)
  · obtain ⟨a, b, rfl, ha, hb, q⟩ := h
    rfl
  obtain ⟨a, b, rfl, ha, hb, q⟩ := h
  refine ⟨_, (zd (xv PassesOwn.never (zp Bs (pv 1) zc (zu _)) (zf (Gb (i := 0) (j := 1) rfl sc__law_divisor.nd rfl rfl (by decide) rfl rfl (za (pv 1) (za (zk zG (pv 0) (pv 1)) ze)) rfl))) (zf (zr (pv 0)))), ?_⟩
  refine zE (σ' := [some (.int a), some (.int b)]) rfl ?_
  try dsimp only [cx_K]
  walk_at "r"
  refine A5 (fun σ' H' => ∃ x y : Int, σ' = [some (.int x), some (.int y)] ∧ H' = H ∧ 0 ≤ x ∧ 0 ≤ y ∧ Int.gcd x y = Int.gcd a b) (fun σ' _ => match σ' with | [_, some (.int y)] => y.natAbs | _ => 0) ⟨a, b, rfl, rfl, ha, hb, rfl⟩ ?_
  rintro σ' H' ⟨x, y, rfl, rfl, hx, hy, hg⟩
  walk_at "r"
  refine vq (fun c => ?_) (fun c => ?_)
  · have y0' : 0 < y := by omega
    refine wgo ?_
    walk_at "r"
    refine ⟨⟨y, x % y, rfl, rfl, hy, Int.emod_nonneg _ (by omega), (B0 x y).trans hg⟩, ?_⟩
    have h1 := Int.emod_nonneg x (show y ≠ 0 by omega)
    have h2 := Int.emod_lt_of_pos x y0'
    show (x % y).natAbs < y.natAbs
    omega
  · walk_at "r"
    refine GD ?_ q
    rw [← hg, c, Int.gcd_zero_right]
    omega
theorem wA {d a b : Int} (hR : Rt d) (n1 : ¬ (0 ≤ a ∧ 0 ≤ b)) (n2 : ¬ (a ≤ 0 ∧ b ≤ 0)) : decide (decide (0 < a) = decide (d * b * b < a * a)) = decide (0 < sgn d a b) := by
  by_cases ha0 : 0 < a
  · rw [BD ha0 (by omega), decide_eq_true ha0]
    by_cases z : d * b * b < a * a
    · rw [decide_eq_true z, if_pos z]; rfl
    · rw [decide_eq_false z, if_neg z]; rfl
  · rw [AW (by omega) (by omega), decide_eq_false ha0]
    have ne : a * a ≠ d * b * b := fun e => by
      have := irr hR e
      omega
    by_cases z : d * b * b < a * a
    · rw [decide_eq_true z, if_neg (show ¬ a * a < d * b * b by omega)]; rfl
    · rw [decide_eq_false z, if_pos (show a * a < d * b * b by omega)]; rfl
theorem ok__law_above {f : Addr} {fd : FuncData} (F : Fun K "_law_above" "_law_above" s__law_above f fd) (B : Bl mg)   : FnOk P w K mg base CX0 1 f fd ["_law_d", "_law_first", "_law_second"] sp__law_above := by
  refine F.ok (k := 0) sc__law_above (fun vs H Q E h => ?_) (fun cdv A outer s H vs Q E hr h => ?_)
  · obtain ⟨d, p, p', f, g, f', g', rfl, h1, h2, hR, ⟨b1, b2, b3, b4⟩, q⟩ := h
    rfl
  obtain ⟨d, p, p', f, g, f', g', rfl, h1, h2, hR, ⟨b1, b2, b3, b4⟩, q⟩ := h
  refine ⟨_, (zd (zo (i := 3) sc__law_above.nd rfl (Or.inl rfl) (zk zn (zh zg (pv 1) zc (fun _ _ => rfl)) (zh zg (pv 2) zc (fun _ _ => rfl)))) (zd (zo (i := 4) sc__law_above.nd rfl (Or.inl rfl) (zk zn (zh zg (pv 2) zc (fun _ _ => rfl)) (zh zg (pv 1) zc (fun _ _ => rfl)))) (zd (zF (PW.pt (ym (zp A6 (pv 3) zc (zu _)) (zX (zp A6 (pv 4) zc (zu _))))) (zf (zr (zP xI (zk zS (pv 3) (pv 4)) zc (zu _)))) zv) (zd (zF (PW.pt (ym (zp Ca (pv 3) zc (zu _)) (zX (zp Ca (pv 4) zc (zu _))))) (zf (zr xS)) zv) (zf (zr (zP yq (zP xI (pv 3) zc (zu _)) (zP xI (zk zn (pv 3) (pv 3)) (zk zn (zk zn (pv 0) (pv 4)) (pv 4)) (zu _)) (zu _)))))))), ?_⟩
  refine zE (σ' := [some (.int d), some (.ref p), some (.ref p'), none, none]) rfl ?_
  try dsimp only [cx_K]
  have dlo := hR.lo
  have dhi := hR.hi
  have hd : Bd 64 d := yn (B := 99) (by omega) hR.hi (by decide +kernel)
  have ba : Bd 1400 (f * g') := b1.mul b4
  have bb : Bd 1400 (f' * g) := b3.mul b2
  walk_at "r"
  refine if_d (fun c1 => ?_) (fun c1 => ?_)
  · walk_at "r"
    refine if_d (fun c2 => ?_) (fun c2 => ?_)
    · walk_at "r"
      exact bl_q (decide_eq_decide.mpr (by rw [wy c1 c2]; split <;> omega)) q
    · walk_at "r"
      refine if_d (fun c3 => ?_) (fun c3 => ?_)
      · walk_at "r"
        refine if_d (fun c4 => ?_) (fun c4 => ?_)
        · walk_at "r"
          exact bl_q (Eq.symm (decide_eq_false (by rw [u3 (by omega) c3 c4]; decide))) q
        · omega
      · walk_at "r"
        exact bl_q (wA hR (by omega) (by omega)) q
  · walk_at "r"
    refine if_d (fun c3 => ?_) (fun c3 => ?_)
    · walk_at "r"
      refine if_d (fun c4 => ?_) (fun c4 => ?_)
      · walk_at "r"
        exact bl_q (Eq.symm (decide_eq_false (by rw [u3 (by omega) c3 c4]; decide))) q
      · walk_at "r"
        exact bl_q (wA hR (by omega) (by omega)) q
    · omega
theorem ok__law_tab {f : Addr} {fd : FuncData} (F : Fun K "_law_tab" "_law_tab" s__law_tab f fd) (B : Bl mg)   : FnOk P w K mg base CX0 1 f fd ["_law_heap_here"] sp__law_tab := by
  refine F.ok (k := 0) sc__law_tab (fun vs H Q E h => ?_) (fun cdv A outer s H vs Q E hr h => ?_)
  · obtain ⟨p, C, rfl, hp, hA, hO, hlen, q⟩ := h
    rfl
  obtain ⟨p, C, rfl, hp, hA, hO, hlen, q⟩ := h
  refine ⟨_, (zd (zo (i := 1) sc__law_tab.nd rfl (Or.inl rfl) zc) (zd (ye PassesOwn.never rfl (zZ (pv 0)) (vO (n := 2) rfl (z4 (zx (i := 2) sc__law_tab.nd rfl (Or.inl rfl)) (z4 (zx (i := 3) sc__law_tab.nd rfl (Or.inl rfl)) x8))) (zf (zo (i := 1) sc__law_tab.nd rfl (Or.inl rfl) (zk zn (zk zn (pv 1) (zh zg (pv 2) zc (fun _ _ => rfl))) (zh zg (pv 3) zc (fun _ _ => rfl)))))) (zd (zo (i := 4) sc__law_tab.nd rfl (Or.inl rfl) (zM (za zc (za zc (za zc (za zc ze)))))) (zd (ye PassesOwn.never rfl (zZ (pv 0)) (vO (n := 2) rfl (z4 (zx (i := 2) sc__law_tab.nd rfl (Or.inl rfl)) (z4 (zx (i := 3) sc__law_tab.nd rfl (Or.inl rfl)) x8))) (zd (zo (i := 5) sc__law_tab.nd rfl (Or.inl rfl) (zk yz (pv 1) (zk zn (zh zg (pv 2) zc (fun _ _ => rfl)) (zh zg (pv 3) zc (fun _ _ => rfl))))) (zf (ye PassesOwn.never rfl (yw rfl B.range (za zc ze)) (zx (i := 6) sc__law_tab.nd rfl (Or.inl rfl)) (zf (Ax (zk zS (zh zq (pv 4) (pv 6) (fun _ _ => rfl)) (zk zn (zk zn (zh zg (pv 2) (zk yz (pv 6) zc) (fun _ _ => rfl)) (zh zg (pv 3) (zk zG (pv 6) zc) (fun _ _ => rfl))) (pv 5))) (FV (pv 4) (pv 6) Cv))))))) (zf (zr (zM (za (pv 4) (za (pv 1) ze))))))))), ?_⟩
  refine zE (σ' := [some (.ref p), none, none, none, none, none, none]) rfl ?_
  try dsimp only [cx_K]
  walk_at "r"
  refine xp ?_
  walk_at "r"
  refine ⟨p, rfl, ⟨_, SqL.of hp⟩, yh (K := K) (a := p) (xs := C.map Cell.v) (fun i σ H' => ∃ (B : Int) (v2 v3 : Option V), σ = [some (.ref p), some (.int B), v2, v3, none, none, none] ∧ H' = H ∧ 1 ≤ B ∧ Bd (1 + 690 * i) B ∧ ∀ c ∈ C.take i, c.b.w.z * c.b.h.z ∣ B) ⟨1, _, _, rfl, rfl, by decide, by decide, fun c hc => absurd hc (by simp)⟩ (fun i σ H' _ ⟨_, _, _, _, e, _⟩ => by rw [e]; exact SqL.of hp) ?_ ?_⟩
  · rintro i y σ H' hi ⟨B, v2, v3, rfl, rfl, B1, Bb, Bd'⟩
    obtain ⟨c, rfl, hc, hic⟩ := xA hi
    have hi' := (List.getElem?_eq_some_iff.mp hi).1
    rw [List.length_map] at hi'
    have ct := (hA c hc).t
    have cw : H' c.pw = some (.tup [.int c.b.w.x, .int c.b.w.y, .int c.b.w.z]) := (hA c hc).w
    have ch : H' c.ph = some (.tup [.int c.b.h.x, .int c.b.h.y, .int c.b.h.z]) := (hA c hc).h
    have ok := hO c hc
    have z1 := ok.1.z1
    have z2 := ok.2.z1
    have bw := ok.1.bz
    have bh := ok.2.bz
    have BB : Bd 14000 B := Bb.mono (by omega)
    walk_at "r"
    refine ⟨B * c.b.w.z * c.b.h.z, _, _, rfl, rfl, Int.mul_pos (Int.mul_pos (by omega) (by omega)) (by omega), ((Bb.mul bw).mul bh).mono (by omega), fun c' hc' => ?_⟩
    rw [List.take_add_one, hic] at hc'
    rcases List.mem_append.mp hc' with h | h
    · obtain ⟨t, ht⟩ := Bd' c' h
      exact ⟨t * (c.b.w.z * c.b.h.z), by rw [ht]; grind⟩
    · have : c' = c := by simpa using h
      subst this
      exact ⟨B, by grind⟩
  rintro σ H' ⟨B, v2, v3, rfl, rfl, B1, Bb, Bd'⟩
  rw [List.length_map] at Bb Bd'
  rw [List.take_length] at Bd'
  have BB : Bd 14000 B := Bb.mono (by omega)
  walk_at "r"
  refine zH (by simp) fun pl H1 hpl s1 e1 => ?_
  have npl : p ≠ pl := zj hp hpl
  walk_at "r"
  refine xp ?_
  walk_at "r"
  refine ⟨p, rfl, ⟨_, SqL.of (s1 _ _ hp)⟩, yh (K := K) (a := p) (xs := C.map Cell.v) (fun i σ H2 => ∃ (P0 P1 P2 P3 : Int) (v2 v3 v5 v6 : Option V), σ = [some (.ref p), some (.int B), v2, v3, some (.ref pl), v5, v6] ∧ SameX pl H1 H2 ∧ H2 pl = some (.lst [.int P0, .int P1, .int P2, .int P3]) ∧ ((P0 : Rat) = (B : Rat) * (tbs ((C.take i).map Cell.b)).a ∧ (P1 : Rat) = (B : Rat) * (tbs ((C.take i).map Cell.b)).b ∧ (P2 : Rat) = (B : Rat) * (tbs ((C.take i).map Cell.b)).c ∧ (P3 : Rat) = (B : Rat) * (tbs ((C.take i).map Cell.b)).e) ∧ (Bd (15300 + i) P0 ∧ Bd (15300 + i) P1 ∧ Bd (15300 + i) P2 ∧ Bd (15300 + i) P3)) ⟨0, 0, 0, 0, _, _, _, _, rfl, fun b o e _ => e, e1, ⟨by rw [show (tbs ((C.take 0).map Cell.b)).a = 0 from rfl, Rat.mul_zero]; rfl, by rw [show (tbs ((C.take 0).map Cell.b)).b = 0 from rfl, Rat.mul_zero]; rfl, by rw [show (tbs ((C.take 0).map Cell.b)).c = 0 from rfl, Rat.mul_zero]; rfl, by rw [show (tbs ((C.take 0).map Cell.b)).e = 0 from rfl, Rat.mul_zero]; rfl⟩, by decide +kernel, by decide +kernel, by decide +kernel, by decide +kernel⟩ (fun i σ H2 _ ⟨_, _, _, _, _, _, _, _, _, s, _⟩ => SqL.of (s _ _ (s1 _ _ hp) npl)) ?_ ?_⟩
  · rintro i y σ H2 hi ⟨P0, P1, P2, P3, v2, v3, v5, v6, rfl, sx, el, ⟨q0, q1, q2, q3⟩, p0, p1, p2, p3⟩
    obtain ⟨c, rfl, hc, hic⟩ := xA hi
    have hi' := (List.getElem?_eq_some_iff.mp hi).1
    rw [List.length_map] at hi'
    have ct := sx.tup (s1 _ _ (hA c hc).t) e1
    have cw : H2 c.pw = some (.tup [.int c.b.w.x, .int c.b.w.y, .int c.b.w.z]) := sx.tup (s1 _ _ (hA c hc).w) e1
    have ch : H2 c.ph = some (.tup [.int c.b.h.x, .int c.b.h.y, .int c.b.h.z]) := sx.tup (s1 _ _ (hA c hc).h) e1
    obtain ⟨okw, okh⟩ := hO c hc
    have z1 := okw.z1
    have z2 := okh.z1
    have zz : 0 < c.b.w.z * c.b.h.z := Int.mul_pos (by omega) (by omega)
    have bw := okw.bz
    have bh := okh.bz
    have bwx := okw.bx
    have bwy := okw.by'
    have bhx := okh.bx
    have bhy := okh.by'
    have bz : Bd 690 (c.b.w.z * c.b.h.z) := bw.mul bh
    have hcf : CFp B (c.b.w.z * c.b.h.z) := ⟨zz, Nat.lt_of_le_of_lt bz.log (by decide)⟩
    obtain ⟨sh, hsh⟩ := Bd' c hc
    have esh : B / (c.b.w.z * c.b.h.z) = sh := by rw [hsh]; exact Int.mul_ediv_cancel_left _ (by omega)
    have ex : sh * (c.b.w.z * c.b.h.z) = B := by rw [hsh, Int.mul_comm]
    have bsh : Bd 14000 sh := BB.of_le (by rw [hsh, Int.natAbs_mul]; exact Nat.le_mul_of_pos_left _ (by omega))
    have w0 := vb (x := c.b.w.x) (y := c.b.h.x) okw.ne okh.ne ex
    have w1 := vb (x := c.b.w.x) (y := c.b.h.y) okw.ne okh.ne ex
    have w2 := vb (x := c.b.w.y) (y := c.b.h.x) okw.ne okh.ne ex
    have w3 := vb (x := c.b.w.y) (y := c.b.h.y) okw.ne okh.ne ex
    have t0 : Bd 15300 (c.b.w.x * c.b.h.x * sh) := ((bwx.mul bhx).mul bsh).mono (by decide)
    have t1 : Bd 15300 (c.b.w.x * c.b.h.y * sh) := ((bwx.mul bhy).mul bsh).mono (by decide)
    have t2 : Bd 15300 (c.b.w.y * c.b.h.x * sh) := ((bwy.mul bhx).mul bsh).mono (by decide)
    have t3 : Bd 15300 (c.b.w.y * c.b.h.y * sh) := ((bwy.mul bhy).mul bsh).mono (by decide)
    have b0 : Bd 15400 P0 := p0.mono (by omega)
    have b1 : Bd 15400 P1 := p1.mono (by omega)
    have b2 : Bd 15400 P2 := p2.mono (by omega)
    have b3 : Bd 15400 P3 := p3.mono (by omega)
    walk_at "r"
    rw [esh]
    refine xL ?_
    walk_at "r"
    refine ⟨4, rfl, by decide, by decide, z8 (lo := 0) (n := 4) (fun k σ H3 => ∃ (v6 : Option V), σ = [some (.ref p), some (.int B), some (.ref c.pw), some (.ref c.ph), some (.ref pl), some (.int sh), v6] ∧ SameX pl H2 H3 ∧ H3 pl = some (.lst [.int (if 0 < k then P0 + c.b.w.x * c.b.h.x * sh else P0), .int (if 1 < k then P1 + c.b.w.x * c.b.h.y * sh else P1), .int (if 2 < k then P2 + c.b.w.y * c.b.h.x * sh else P2), .int (if 3 < k then P3 + c.b.w.y * c.b.h.y * sh else P3)])) ⟨_, rfl, fun b o e _ => e, el⟩ ?_ ?_⟩
    · rintro k σ H3 hk ⟨v6, rfl, s3x, el3⟩
      have ct := s3x.tup ct el
      have cw := s3x.tup cw el
      have ch := s3x.tup ch el
      have hk4 : k = 0 ∨ k = 1 ∨ k = 2 ∨ k = 3 := by omega
      rcases hk4 with rfl | rfl | rfl | rfl
      · walk_at "r"
        refine uV ?_
        walk_at "r"
        refine uW el3 (by decide) (by simp) fun H4 sx4 e4 => ?_
        walk_at "r"
        exact ⟨_, rfl, s3x.trans sx4, e4⟩
      · walk_at "r"
        refine uV ?_
        walk_at "r"
        refine uW el3 (by decide) (by simp) fun H4 sx4 e4 => ?_
        walk_at "r"
        exact ⟨_, rfl, s3x.trans sx4, e4⟩
      · walk_at "r"
        refine uV ?_
        walk_at "r"
        refine uW el3 (by decide) (by simp) fun H4 sx4 e4 => ?_
        walk_at "r"
        exact ⟨_, rfl, s3x.trans sx4, e4⟩
      · walk_at "r"
        refine uV ?_
        walk_at "r"
        refine uW el3 (by decide) (by simp) fun H4 sx4 e4 => ?_
        walk_at "r"
        exact ⟨_, rfl, s3x.trans sx4, e4⟩
    · rintro σ H3 ⟨v6, rfl, s3x, el3⟩
      walk_at "r"
      have snoc : tbs ((C.take (i + 1)).map Cell.b) = (tbs ((C.take i).map Cell.b)).add c.b.tb := by rw [EG hic, wO]
      rw [snoc]
      refine ⟨_, _, _, _, _, _, _, _, rfl, sx.trans s3x, el3, ⟨?_, ?_, ?_, ?_⟩, (p0.add (t0.mono (by omega))).mono (by omega), (p1.add (t1.mono (by omega))).mono (by omega), (p2.add (t2.mono (by omega))).mono (by omega), (p3.add (t3.mono (by omega))).mono (by omega)⟩
      · show ((P0 + c.b.w.x * c.b.h.x * sh : Int) : Rat) = _ * (_ + _)
        rw [xz, q0, w0, Rat.mul_add]; rfl
      · show ((P1 + c.b.w.x * c.b.h.y * sh : Int) : Rat) = _ * (_ + _)
        rw [xz, q1, w1, Rat.mul_add]; rfl
      · show ((P2 + c.b.w.y * c.b.h.x * sh : Int) : Rat) = _ * (_ + _)
        rw [xz, q2, w2, Rat.mul_add]; rfl
      · show ((P3 + c.b.w.y * c.b.h.y * sh : Int) : Rat) = _ * (_ + _)
        rw [xz, q3, w3, Rat.mul_add]; rfl
  · rintro σ H2 ⟨P0, P1, P2, P3, v2, v3, v5, v6, rfl, sx, el, hq, p0, p1, p2, p3⟩
    rw [List.length_map, List.take_length] at hq
    rw [List.length_map] at p0 p1 p2 p3
    walk_at "r"
    refine xc (by simp) fun l H3 s3 e3 => ?_
    have s2 : Same H' H2 := fun b o e => sx b o (s1 b o e) (zj e hpl)
    exact q l pl H3 P0 P1 P2 P3 B (s2.trans s3) e3 (s3 _ _ el) B1 hq ⟨BB.mono (by decide), p0.mono (by omega), p1.mono (by omega), p2.mono (by omega), p3.mono (by omega)⟩
theorem ok__law_pair {f : Addr} {fd : FuncData} (F : Fun K "_law_pair" "_law_pair" s__law_pair f fd) (B : Bl mg)   : FnOk P w K mg base CX0 1 f fd ["_law_boards", "_law_side_here"] sp__law_pair := by
  refine F.ok (k := 0) sc__law_pair (fun vs H Q E h => ?_) (fun cdv A outer s H vs Q E hr h => ?_)
  · obtain ⟨a, prs, cl, ns, sd, rfl, ha, hp, hA, up, hl, qn, q⟩ := h
    rfl
  obtain ⟨a, prs, cl, ns, sd, rfl, ha, hp, hA, up, hl, qn, q⟩ := h
  refine ⟨_, (zd (ye PassesOwn.never rfl (yw rfl B.range (za (zw zy rfl B.len PySem.boot_len (za (pv 0) ze)) ze)) (zx (i := 2) sc__law_pair.nd rfl (Or.inl rfl)) (zf (ye PassesOwn.never rfl (yw rfl B.range (za (zw zy rfl B.len PySem.boot_len (za (pv 0) ze)) ze)) (zx (i := 3) sc__law_pair.nd rfl (Or.inl rfl)) (zf (zF (PW.pt (ym (zp Bs (pv 3) (pv 2) (zu _)) (zX (zp (Dp hr.units) (zh zg (zh zg (zh zq (pv 0) (pv 2) (fun _ _ => rfl)) zc (fun _ _ => rfl)) (pv 1) (fun _ _ => rfl)) (zh zg (zh zg (zh zq (pv 0) (pv 3) (fun _ _ => rfl)) zc (fun _ _ => rfl)) (pv 1) (fun _ _ => rfl)) (zu _))))) (zf (zr (zA (za (zh zg (zh zq (pv 0) (pv 2) (fun _ _ => rfl)) zc (fun _ _ => rfl)) (za (zh zg (zh zq (pv 0) (pv 3) (fun _ _ => rfl)) zc (fun _ _ => rfl)) ze))))) zv))))) (zf (zr CY))), ?_⟩
  refine zE (σ' := [some (.ref a), some (.int (if sd then 1 else 0)), none, none]) rfl ?_
  try dsimp only [cx_K]
  walk_at "r"
  refine xL ?_
  walk_at "r"
  rw [List.length_map, hp.1]
  refine ⟨(ns.length : Int), rfl, by omega, by omega, z8 (lo := 0) (n := (ns.length : Int).toNat) (fun i σ H' => ∃ v1 v2, σ = [some (.ref a), some (.int (if sd then 1 else 0)), v1, v2] ∧ H' = H) ⟨_, _, rfl, rfl⟩ ?_ ?_⟩
  · rintro i σ H' hi ⟨v1, v2, rfl, rfl⟩
    walk_at "r"
    refine xL ?_
    walk_at "r"
    rw [List.length_map, hp.1]
    refine ⟨(ns.length : Int), rfl, by omega, by omega, z8 (lo := 0) (n := (ns.length : Int).toNat) (fun j σ H2 => ∃ v2, σ = [some (.ref a), some (.int (if sd then 1 else 0)), some (.int (0 + (i : Int))), v2] ∧ H2 = H') ⟨_, rfl, rfl⟩ ?_ ?_⟩
    · rintro j σ H2 hj ⟨v2, rfl, rfl⟩
      have hi' : i < prs.length := by rw [hp.1]; omega
      have hj' : j < prs.length := by rw [hp.1]; omega
      obtain ⟨n, c, hn, hc, en⟩ := hp.2 i _ (List.getElem?_eq_getElem hi')
      obtain ⟨m, c', hm, hc', em⟩ := hp.2 j _ (List.getElem?_eq_getElem hj')
      have gi : atI (prs.map V.ref) (0 + (i : Int)) = some (.ref prs[i]) := by rw [Int.zero_add]; exact yJ (by rw [List.getElem?_map, List.getElem?_eq_getElem hi']; rfl)
      have gj : atI (prs.map V.ref) (0 + (j : Int)) = some (.ref prs[j]) := by rw [Int.zero_add]; exact yJ (by rw [List.getElem?_map, List.getElem?_eq_getElem hj']; rfl)
      generalize prs[i] = pi at *
      generalize prs[j] = pj at *
      have ac := hA c (List.mem_of_getElem? hc)
      have ac' := hA c' (List.mem_of_getElem? hc')
      have act := ac.t
      have act' := ac'.t
      walk_at "r"
      refine vq (fun c1 => ?_) (fun c1 => ?_)
      · walk_at "r"
        refine zU ha gi ?_
        walk_at "r"
        refine uF act (Ea sd c.pw c.ph) ?_
        walk_at "r"
        refine zU ha gj ?_
        walk_at "r"
        refine uF act' (Ea sd c'.pw c'.ph) ?_
        walk_at "r"
        refine F6 (DZ ac sd) (DZ ac' sd) ?_
        walk_at "r"
        refine if_d (fun c2 => ?_) (fun c2 => ?_)
        · walk_at "r"
          refine zU ha gi ?_
          walk_at "r"
          refine zU ha gj ?_
          walk_at "r"
          refine zC (by simp) fun r H3 s3 e3 => ?_
          have nij : i ≠ j := fun z => c1 (by rw [z])
          refine q r H3 n m c c' s3 e3 (List.mem_of_getElem? hn) (List.mem_of_getElem? hm) (fun z => nij ?_) hc hc' (Hm c2)
          subst z
          exact (List.getElem?_inj (List.getElem?_eq_some_iff.mp hn).1 (CN up)).mp (hn.trans hm.symm)
        · walk_at "r"
          exact ⟨_, rfl, rfl⟩
      · walk_at "r"
        exact ⟨_, rfl, rfl⟩
    · rintro σ H2 ⟨v2, rfl, rfl⟩
      walk_at "r"
      exact ⟨_, _, rfl, rfl⟩
  rintro σ H' ⟨v1, v2, rfl, rfl⟩
  walk_at "r"
  exact qn
theorem ok_Yard___init__ {f : Addr} {fd : FuncData} {its : List Value} (F : FunD K "__init__" "Yard.__init__" s_Yard___init__ f fd its) (B : Bl mg) (X : Xs K mg cs)  : FnOk P w K mg base CX0 1 f fd ["self", "d", "heap", "turning"] (sp_Yard___init__ cs) := by
  refine F.ok (k := 0) xt (fun vs H Q E h => ?_) (fun cdv A outer s H vs Q E hr h => ?_)
  · obtain ⟨p, dx, hp, d, tn, cl, rfl, h0, hh, hat, hlen, q⟩ := h
    rfl
  obtain ⟨p, dx, hp, d, tn, cl, rfl, h0, hh, hat, hlen, q⟩ := h
  refine ⟨_, (zd (vy (pv 0) (pv 1) rfl) (zd (vy (pv 0) (pv 3) rfl) (zd (vy (pv 0) (y9 AG rfl B.list Dy (za (pv 2) ze)) rfl) (zd (vy (pv 0) (y9 (tQ rfl) rfl B.dict DJ (za (yO ["name"] [] rfl (yw rfl B.range (za (zw zy rfl B.len PySem.boot_len (za (pv 2) ze)) ze)) (fun _ _ _ _ _ => (zx (i := 0) (show List.Nodup (α := Str) ["name"] by decide +kernel) rfl (Or.inl rfl))) (fun _ _ _ _ _ => z6) (fun _ _ _ _ _ => (zA (za (pv 0) (za xS ze))))) ze)) rfl) (zf (vy (pv 0) (zM ze) rfl)))))), ?_⟩
  refine zE (σ' := [some (.ref p), some (.int d), some (.ref hp), some (.bl tn)]) rfl ?_
  try dsimp only [cx_K]
  walk_at "r"
  refine vY h0 X.c_Yard X.n_Yard_root (by simp) fun H1 x1 e1 => ?_
  walk_at "r"
  refine vY e1 X.c_Yard X.n_Yard_turning (yr (by simp)) fun H2 x2 e2 => ?_
  have np : hp ≠ p := yb hh h0 (fun z => nomatch z)
  have hh2 := x2 _ _ (x1 _ _ hh np) np
  walk_at "r"
  refine DG hh2 fun k H3 nk s3 ek => ?_
  have e3 := s3 _ _ e2
  have kp : k ≠ p := yb ek e3 (fun z => nomatch z)
  walk_at "r"
  refine vY e3 X.c_Yard X.n_Yard_known (yr (yr (by simp))) fun H4 x4 e4 => ?_
  have ek4 := x4 _ _ ek kp
  have hh4 := x4 _ _ (s3 _ _ hh2) np
  walk_at "r"
  refine Cu ?_
  walk_at "r"
  refine ⟨_, rfl, by simp only [List.length_map]; omega, by simp only [List.length_map]; omega, fun D hD => tG (lo := 0) (n := ((cl.map Cell.v).length : Int).toNat) (fun i xs σ' H' => ∃ (v : Option V) (ps : List Addr), σ' = [v] ∧ xs = ps.map V.ref ∧ ps.length = i ∧ H' D = some (.lst xs) ∧ SameX D H4 H' ∧ ∀ (j : Nat) (p' : Addr), ps[j]? = some p' → H' p' = some (.tup [.int (j : Int), .bl true])) ⟨none, [], rfl, rfl, rfl, zm, fun b o e n => by rw [zt n]; exact e, by simp⟩ ?_ ?_⟩
  · rintro i xs σ' H' hi ⟨v, ps, rfl, rfl, hl, eD, sx, hps⟩
    walk_at "r"
    refine yZ (by simp) fun r H5 hr s5 e5 => ?_
    walk_at "r"
    have hi' : i < 61 := by simp only [List.length_map] at hi; omega
    refine zD (s5 _ _ eD) (by rw [List.length_map]; omega) fun H6 x6 e6 => ?_
    have rD : r ≠ D := yb e5 (s5 _ _ eD) (fun z => nomatch z)
    refine xE hi ⟨_, ps ++ [r], rfl, rfl, by rw [List.length_append, hl]; rfl, by rw [List.map_append]; exact e6, sx.trans ((SameX.of s5).trans x6), ?_⟩
    intro j p' hj
    by_cases c : j < ps.length
    · rw [List.getElem?_append_left c] at hj
      have := hps j p' hj
      exact x6.tup (s5 _ _ this) (s5 _ _ eD)
    · rw [List.getElem?_append_right (by omega)] at hj
      have hj1 := (List.getElem?_eq_some_iff.mp hj).1
      have j0 : j - ps.length = 0 := by simpa using hj1
      rw [j0] at hj
      injection hj with hj
      subst hj
      have : j = i := by omega
      subst this
      have := x6.tup e5 (s5 _ _ eD)
      simpa using this
  · rintro xs σ' H' ⟨v, ps, rfl, rfl, hl, eD, sx, hps⟩
    have s5 : Same H4 H' := fun b o e => sx b o e (zj e hD)
    have hl : ps.length = cl.length := by rw [hl]; simp
    walk_at "r"
    refine DW (kvs := nmK (List.range cl.length)) eD (by simp [nmK, hl]) (fun i p' kv h1 h2 => ?_) (Bu List.pairwise_lt_range) (by simp [nmK]; omega) fun l H6 nl s6 el => ?_
    · have h3 := hps i p' h1
      have hi := (List.getElem?_eq_some_iff.mp h1).1
      rw [nmK, List.getElem?_map, List.getElem?_range (by omega)] at h2
      injection h2 with h2
      rw [← h2]
      exact h3
    have e6 := s6 _ _ (s5 _ _ e4)
    have lp : l ≠ p := yb el e6 (fun z => nomatch z)
    walk_at "r"
    refine vY e6 X.c_Yard X.n_Yard_lying (yr (yr (yr (by simp)))) fun H7 x7 e7 => ?_
    walk_at "r"
    refine zH (by simp) fun t H8 nt s8 et => ?_
    have e8 := s8 _ _ e7
    have tp : t ≠ p := yb et e8 (fun z => nomatch z)
    walk_at "r"
    refine vY e8 X.c_Yard X.n_Yard_done (yr (yr (yr (yr (by simp))))) fun H9 x9 e9 => ?_
    have ek7 := x7 _ _ (s6 _ _ (s5 _ _ ek4)) kp
    have xx : SameX p H H9 := x1.trans (x2.trans ((SameX.of s3).trans (x4.trans ((SameX.of (s5.trans s6)).trans (x7.trans ((SameX.of s8).trans x9))))))
    have pn : ∀ {b : Addr} {G : Hp}, SameX p H G → b ≠ p → G b = none → H b = none := fun {b G} x n g => by
      cases e : H b with
      | none => rfl
      | some o => rw [x _ _ e n] at g; cases g
    refine q ⟨p, dx, k, l, t⟩ H9 rfl rfl xx ⟨e9, x9 _ _ (s8 _ _ ek7) kp, x9 _ _ (s8 _ _ (x7 _ _ el lp)) lp, x9 _ _ et tp, zj ek7 nt, fun c hc => ?_, List.pairwise_lt_range, fun n hn => List.mem_range.mp hn, by omega, by simp⟩ (pn (x1.trans x2) kp nk) (pn (x1.trans (x2.trans ((SameX.of s3).trans (x4.trans (SameX.of s5))))) lp nl) (pn (x1.trans (x2.trans ((SameX.of s3).trans (x4.trans ((SameX.of (s5.trans s6)).trans x7))))) tp nt)
    have hc := hat c hc
    exact ⟨xx _ _ hc.t (yb hc.t h0 (fun z => nomatch z)), xx _ _ hc.w (yb hc.w h0 (fun z => nomatch z)), xx _ _ hc.h (yb hc.h h0 (fun z => nomatch z))⟩
theorem ok_Yard_boards {f : Addr} {fd : FuncData} (F : Fun K "boards" "Yard.boards" s_Yard_boards f fd) (B : Bl mg) (X : Xs K mg cs)  : FnOk P w K mg base CX0 1 f fd ["self"] (sp_Yard_boards cs) := by
  refine F.ok (k := 0) wk (fun vs H Q E h => ?_) (fun cdv A outer s H vs Q E hr h => ?_)
  · obtain ⟨y, d, tn, cl, ns, lg, rfl, hy, q⟩ := h
    rfl
  obtain ⟨y, d, tn, cl, ns, lg, rfl, hy, q⟩ := h
  refine ⟨_, (zf (zr (u7 ["name"] [0] rfl (BI (zW (K := K) rfl (pv 0) rfl)) (fun _ _ _ _ _ => (zx (i := 0) (show List.Nodup (α := Str) ["name", "self"] by decide +kernel) rfl (Or.inl rfl))) (fun _ _ _ _ _ => z6) (fun _ _ _ _ _ => (zA (za (pv 0) (za (zh (r := rIxL K) zq (zW (K := K) rfl (pv 1) rfl) (pv 0) (fun _ _ => rfl)) ze))))))), ?_⟩
  refine zE (σ' := [some (.ref y.p)]) rfl ?_
  try dsimp only [cx_K]
  refine i_ret ?_
  refine AB ?_
  walk_at "r"
  refine ⟨_, _, _, _, _, rfl, hy.o, X.c_Yard, X.n_Yard_lying, rfl, ?_⟩
  refine ⟨y.l, nmK ns, rfl, hy.l, fun ob nf D hD => vV (d := y.l) (ob := ob) (kvs := nmK ns) (fun i xs σ' H' => ∃ v : Option V, σ' = [v, some (.ref y.p)] ∧ (∃ ps : List Addr, xs = ps.map V.ref ∧ ps.length = i ∧ ∀ (j : Nat) (p : Addr), ps[j]? = some p → ∃ n c, ns[j]? = some n ∧ cl[n]? = some c ∧ H' p = some (.tup [.int (n : Int), .ref c.p])) ∧ H' D = some (.lst xs) ∧ H' y.l = some (.frz ob (.dK (nmK ns))) ∧ ∀ b o, H b = some o → b ≠ y.l → H' b = some o) ?_ (fun i xs σ' H' _ z => by obtain ⟨_, _, _, _, z, _⟩ := z; exact z) ?_ ?_⟩
  · have nl : D ≠ y.l := fun c => by rw [c, zm] at hD; cases hD
    have hD' : H D = none := by rw [zt nl] at hD; exact hD
    exact ⟨none, rfl, ⟨[], rfl, rfl, by simp⟩, zm, by rw [zt (Ne.symm nl), zm], fun b o e n => by rw [zt (zj e hD'), zt n]; exact e⟩
  · rintro i kv xs σ' H' hi ⟨v, rfl, ⟨ps, rfl, hl, hps⟩, eD, el, sx⟩
    have nl0 : D ≠ y.l := fun c => by rw [c, zm] at hD; cases hD
    have hD' : H D = none := by rw [zt nl0] at hD; exact hD
    rw [nmK, List.getElem?_map] at hi
    obtain ⟨n, hn, rfl⟩ := Option.map_eq_some_iff.mp hi
    have hlt := hy.lt n (List.mem_of_getElem? hn)
    obtain ⟨c, hc⟩ : ∃ c, cl[n]? = some c := ⟨_, List.getElem?_eq_getElem hlt⟩
    have nl : ∀ {b : Addr} {o : HO}, H b = some o → (∀ k, o ≠ .dK k) → b ≠ y.l := fun e h z => by rw [z, hy.l] at e; injection e with e; exact h _ e.symm
    have eo := sx _ _ hy.o (nl hy.o (fun _ z => nomatch z))
    have ek := sx _ _ hy.k (nl hy.k (fun _ z => nomatch z))
    walk_at "r"
    refine ⟨_, _, _, _, _, rfl, eo, X.c_Yard, X.n_Yard_known, rfl, ?_⟩
    walk_at "r"
    refine zU ek (v := c.v) (yJ (by rw [List.getElem?_map, hc]; rfl)) ?_
    have hi3 := (List.getElem?_eq_some_iff.mp hn).1
    have l1 := Aq hy.up hy.lt
    have l2 := hy.lc
    walk_at "r"
    refine yZ (by simp) fun r H5 hr s5 e5 => ?_
    walk_at "r"
    have eD5 := s5 _ _ eD
    refine zD eD5 (by rw [List.length_map]; omega) fun H3 x3 e3 => ?_
    refine xE (by simp only [nmK, List.length_map]; exact hi3) ⟨_, rfl, ⟨ps ++ [r], rfl, by rw [List.length_append, hl]; rfl, ?_⟩, by rw [List.map_append]; exact e3, x3 _ _ (s5 _ _ el) (yb (s5 _ _ el) eD5 (fun z => nomatch z)), fun b o e n => x3 _ _ (s5 _ _ (sx b o e n)) (zj e hD')⟩
    intro j p' hj
    by_cases cj : j < ps.length
    · rw [List.getElem?_append_left cj] at hj
      obtain ⟨n', c', h1, h2, h3⟩ := hps j p' hj
      exact ⟨n', c', h1, h2, x3.tup (s5 _ _ h3) eD5⟩
    · rw [List.getElem?_append_right (by omega)] at hj
      have hj1 := (List.getElem?_eq_some_iff.mp hj).1
      have j0 : j - ps.length = 0 := by simpa using hj1
      rw [j0] at hj
      injection hj with hj
      subst hj
      have : j = i := by omega
      subst this
      exact ⟨n, c, hn, hc, x3.tup e5 eD5⟩
  · rintro xs σ' H' ⟨v, rfl, ⟨ps, rfl, hl, hps⟩, eD, el, sx⟩
    have nl0 : D ≠ y.l := fun c => by rw [c, zm] at hD; cases hD
    have hD' : H D = none := by rw [zt nl0] at hD; exact hD
    refine ⟨y.l, ob, nmK ns, nf, el, ?_⟩
    refine q D _ ps (fun b o e => ?_) hD' (by rw [zt nl0]; exact eD) ⟨by rw [hl, nmK, List.length_map], fun j p' hj => ?_⟩
    rotate_left
    · obtain ⟨n', c', h1, h2, h3⟩ := hps j p' hj
      exact ⟨n', c', h1, h2, by rw [zt (yb h3 el (fun z => nomatch z))]; exact h3⟩
    by_cases c : b = y.l
    · rw [c, zm]; rw [c, hy.l] at e; exact e
    · rw [zt c]; exact sx b o e c
theorem ok_Yard_heap {f : Addr} {fd : FuncData} (F : Fun K "heap" "Yard.heap" s_Yard_heap f fd) (B : Bl mg) (X : Xs K mg cs)  : FnOk P w K mg base CX0 1 f fd ["self"] (sp_Yard_heap cs) := by
  refine F.ok (k := 0) vG (fun vs H Q E h => ?_) (fun cdv A outer s H vs Q E hr h => ?_)
  · obtain ⟨y, d, tn, cl, ns, lg, rfl, hy, q⟩ := h
    rfl
  obtain ⟨y, d, tn, cl, ns, lg, rfl, hy, q⟩ := h
  refine ⟨_, (zf (zr (u7 ["name"] [0] rfl (BI (zW (K := K) rfl (pv 0) rfl)) (fun _ _ _ _ _ => (zx (i := 0) (show List.Nodup (α := Str) ["name", "self"] by decide +kernel) rfl (Or.inl rfl))) (fun _ _ _ _ _ => z6) (fun _ _ _ _ _ => (zh (r := rIxL K) zq (zW (K := K) rfl (pv 1) rfl) (pv 0) (fun _ _ => rfl)))))), ?_⟩
  refine zE (σ' := [some (.ref y.p)]) rfl ?_
  try dsimp only [cx_K]
  refine i_ret ?_
  refine AB ?_
  walk_at "r"
  refine ⟨_, _, _, _, _, rfl, hy.o, X.c_Yard, X.n_Yard_lying, rfl, ?_⟩
  refine ⟨y.l, nmK ns, rfl, hy.l, fun ob nf D hD => vV (d := y.l) (ob := ob) (kvs := nmK ns) (fun i xs σ' H' => ∃ v : Option V, σ' = [v, some (.ref y.p)] ∧ xs = (pick cl (ns.take i)).map Cell.v ∧ H' D = some (.lst xs) ∧ H' y.l = some (.frz ob (.dK (nmK ns))) ∧ ∀ b o, H b = some o → b ≠ y.l → H' b = some o) ?_ (fun i xs σ' H' _ z => by obtain ⟨_, _, _, _, z, _⟩ := z; exact z) ?_ ?_⟩
  · have nl : D ≠ y.l := fun c => by rw [c, zm] at hD; cases hD
    have hD' : H D = none := by rw [zt nl] at hD; exact hD
    exact ⟨none, rfl, rfl, zm, by rw [zt (Ne.symm nl), zm], fun b o e n => by rw [zt (zj e hD'), zt n]; exact e⟩
  · rintro i kv xs σ' H' hi ⟨v, rfl, rfl, eD, el, sx⟩
    have nl0 : D ≠ y.l := fun c => by rw [c, zm] at hD; cases hD
    have hD' : H D = none := by rw [zt nl0] at hD; exact hD
    rw [nmK, List.getElem?_map] at hi
    obtain ⟨n, hn, rfl⟩ := Option.map_eq_some_iff.mp hi
    have hlt := hy.lt n (List.mem_of_getElem? hn)
    obtain ⟨c, hc⟩ : ∃ c, cl[n]? = some c := ⟨_, List.getElem?_eq_getElem hlt⟩
    have nl : ∀ {b : Addr} {o : HO}, H b = some o → (∀ k, o ≠ .dK k) → b ≠ y.l := fun e h z => by rw [z, hy.l] at e; injection e with e; exact h _ e.symm
    have eo := sx _ _ hy.o (nl hy.o (fun _ z => nomatch z))
    have ek := sx _ _ hy.k (nl hy.k (fun _ z => nomatch z))
    walk_at "r"
    refine ⟨_, _, _, _, _, rfl, eo, X.c_Yard, X.n_Yard_known, rfl, ?_⟩
    walk_at "r"
    refine zU ek (v := c.v) (yJ (by rw [List.getElem?_map, hc]; rfl)) ?_
    have hi3 := (List.getElem?_eq_some_iff.mp hn).1
    have l1 := Aq hy.up hy.lt
    have l2 := hy.lc
    have l3 := tw (cl := cl) (ns := ns.take i)
    rw [List.length_take] at l3
    walk_at "r"
    refine zD eD (by rw [List.length_map]; omega) fun H3 x3 e3 => ?_
    refine xE (by simp only [nmK, List.length_map]; exact hi3) ⟨_, rfl, rfl, by rw [A3 hn hc, List.map_append]; exact e3, x3 _ _ el (yb el eD (fun z => nomatch z)), fun b o e n => x3 _ _ (sx b o e n) (zj e hD')⟩
  · rintro xs σ' H' ⟨v, rfl, rfl, eD, el, sx⟩
    have nl0 : D ≠ y.l := fun c => by rw [c, zm] at hD; cases hD
    have hD' : H D = none := by rw [zt nl0] at hD; exact hD
    refine ⟨y.l, ob, nmK ns, nf, el, ?_⟩
    rw [show ns.take (nmK ns).length = ns by rw [nmK, List.length_map, List.take_length]] at eD
    refine q D _ (fun b o e => ?_) hD' (by rw [zt nl0]; exact eD)
    by_cases c : b = y.l
    · rw [c, zm]; rw [c, hy.l] at e; exact e
    · rw [zt c]; exact sx b o e c
theorem ok_length {f : Addr} {fd : FuncData} {its : List Value} (F : FunD K "length" "length" s_length f fd its) (B : Bl mg)  (o_with_sign_of : Own P w K mg base 1 "with_sign_of" ["divisor", "bottom"] [] sp_with_sign_of) (o_common_divisor : Own P w K mg base 1 "common_divisor" ["one", "other"] [] sp_common_divisor) (o_is_whole : Own P w K mg base 1 "is_whole" ["thing"] [] sp_is_whole) : FnOk P w K mg base CX0 2 f fd ["a", "b", "n"] sp_length := by
  refine F.ok (k := 1) sc_length (fun vs H Q E h => ?_) (fun cdv A outer s H vs Q E hr h => ?_)
  · obtain ⟨a, b, n, rfl, hn, hb, ⟨ha8, hb8⟩, q⟩ := h
    rfl
  obtain ⟨a, b, n, rfl, hn, hb, ⟨ha8, hb8⟩, q⟩ := h
  refine ⟨_, (zd (zF (yF (PW.pt (ym (ya (zl o_is_whole hr rfl (za (pv 0) ze))) (ym (ya (zl o_is_whole hr rfl (za (pv 1) ze))) (zX (ya (zl o_is_whole hr rfl (za (pv 2) ze)))))))) (zf yj) zv) (zd (zF (zp yq (pv 2) zc (zu _)) (zf yj) zv) (zd (zo (i := 3) sc_length.nd rfl (Or.inl rfl) (zl o_with_sign_of hr rfl (za (zl o_common_divisor hr rfl (za (zl o_common_divisor hr rfl (za (pv 2) (za (pv 0) ze))) (za (pv 1) ze))) (za (pv 2) ze)))) (zf (zr (zA (za (zk zJ (pv 0) (pv 3)) (za (zk zJ (pv 1) (pv 3)) (za (zk zJ (pv 2) (pv 3)) ze))))))))), ?_⟩
  refine zE (σ' := [some (.int a), some (.int b), some (.int n), none]) rfl ?_
  try dsimp only [cx_K]
  have hc : ∀ x, CFd x (gd a b n) := fun x => ⟨G8 hn, Nat.lt_of_le_of_lt (Hs hn hb).log (by decide)⟩
  walk_at "r"
  refine if_d (fun c => absurd c hn) (fun _ => ?_)
  walk_at "r"
  · exact zC (by simp) fun p H' s e => q p H' s e
  all_goals exact hc _
theorem ok_by_parts {f : Addr} {fd : FuncData} (F : Fun K "by_parts" "by_parts" s_by_parts f fd) (B : Bl mg)  (o_common_divisor : Own P w K mg base 1 "common_divisor" ["one", "other"] [] sp_common_divisor) : FnOk P w K mg base CX0 2 f fd ["f", "g"] sp_by_parts := by
  refine F.ok (k := 1) sc_by_parts (fun vs H Q E h => ?_) (fun cdv A outer s H vs Q E hr h => ?_)
  · obtain ⟨p, p', t, b, t', b', rfl, h1, h2, n1, n2, k1, k2, ⟨b1, b2, b3, b4⟩, q⟩ := h
    rfl
  obtain ⟨p, p', t, b, t', b', rfl, h1, h2, n1, n2, k1, k2, ⟨b1, b2, b3, b4⟩, q⟩ := h
  refine ⟨_, (zd (zo (i := 2) sc_by_parts.nd rfl (Or.inl rfl) (zl o_common_divisor hr rfl (za (zh zg (pv 0) zc (fun _ _ => rfl)) (za (zh zg (pv 1) zc (fun _ _ => rfl)) ze)))) (zf (zr (zA (za (zk zn (zh zg (pv 0) zc (fun _ _ => rfl)) (zk zJ (zh zg (pv 1) zc (fun _ _ => rfl)) (pv 2))) (za (zk zn (zh zg (pv 1) zc (fun _ _ => rfl)) (zk zJ (zh zg (pv 0) zc (fun _ _ => rfl)) (pv 2))) (za (zk zn (zk zJ (zh zg (pv 0) zc (fun _ _ => rfl)) (pv 2)) (zh zg (pv 1) zc (fun _ _ => rfl))) ze))))))), ?_⟩
  refine zE (σ' := [some (.ref p), some (.ref p'), none]) rfl ?_
  try dsimp only [cx_K]
  obtain ⟨as1, ea, eb, en⟩ := uc n1 n2 k1 k2
  have gb : Bd 3900 (aS b b') := xU (by omega) b2
  have hs : ∀ t, CFd t (aS b b') := fun t => ⟨by omega, Nat.lt_of_le_of_lt gb.log (by decide)⟩
  rw [← ea, ← eb, ← en] at q
  walk_at "r"
  · exact zC (by simp) fun r H' s e => q r H' s e
  all_goals exact hs _
theorem ok_added {f : Addr} {fd : FuncData} (F : Fun K "added" "added" s_added f fd) (B : Bl mg)  (o_common_divisor : Own P w K mg base 1 "common_divisor" ["one", "other"] [] sp_common_divisor) : FnOk P w K mg base CX0 2 f fd ["one", "other"] (sp_added K) := by
  refine F.ok (k := 1) sc_added (fun vs H Q E h => ?_) (fun cdv A outer s H vs Q E hr h => ?_)
  · obtain ⟨p, p', x, y, z, x', y', z', rfl, h1, h2, n1, n2, k1, k2, ⟨b1, b2, b3, b4, b5, b6⟩, q⟩ := h
    rfl
  obtain ⟨p, p', x, y, z, x', y', z', rfl, h1, h2, n1, n2, k1, k2, ⟨b1, b2, b3, b4, b5, b6⟩, q⟩ := h
  refine ⟨_, (zd (zo (i := 2) sc_added.nd rfl (Or.inl rfl) (zl o_common_divisor hr rfl (za (zh zg (pv 0) zc (fun _ _ => rfl)) (za (zh zg (pv 1) zc (fun _ _ => rfl)) ze)))) (zd (zo (i := 3) sc_added.nd rfl (Or.inl rfl) (zk zJ (zh zg (pv 1) zc (fun _ _ => rfl)) (pv 2))) (zd (zo (i := 4) sc_added.nd rfl (Or.inl rfl) (zk zJ (zh zg (pv 0) zc (fun _ _ => rfl)) (pv 2))) (zd (zo (i := 5) sc_added.nd rfl (Or.inl rfl) (zk zS (zk zn (zh zg (pv 0) zc (fun _ _ => rfl)) (pv 3)) (zk zn (zh zg (pv 1) zc (fun _ _ => rfl)) (pv 4)))) (zd (zo (i := 6) sc_added.nd rfl (Or.inl rfl) (zk zS (zk zn (zh zg (pv 0) zc (fun _ _ => rfl)) (pv 3)) (zk zn (zh zg (pv 1) zc (fun _ _ => rfl)) (pv 4)))) (zd (zo (i := 7) sc_added.nd rfl (Or.inl rfl) (zl o_common_divisor hr rfl (za (zl o_common_divisor hr rfl (za (pv 2) (za (pv 5) ze))) (za (pv 6) ze)))) (zf (zr (zA (za (zk zJ (pv 5) (pv 7)) (za (zk zJ (pv 6) (pv 7)) (za (zk zn (pv 4) (zk zJ (zh zg (pv 1) zc (fun _ _ => rfl)) (pv 7))) ze)))))))))))), ?_⟩
  refine zE (σ' := [some (.ref p), some (.ref p'), none, none, none, none, none, none]) rfl ?_
  try dsimp only [cx_K]
  obtain ⟨as1, al1, ea, eb, en⟩ := DD n1 n2 k1 k2
  have gb : Bd 3900 (aS z z') := xU (by omega) b3
  have lb : Bd 3900 (aL x y z x' y' z') := xU (by have := Int.gcd_pos_of_ne_zero_left (aA x z x' z') (show aS z z' ≠ 0 by omega); omega) (xU (by omega) gb)
  have ba8 : Bd 8192 (aA x z x' z') := Bd.mono (Bd.add (k := 7800) (b1.mul (b6.fdiv _)) (b4.mul (b3.fdiv _))) (by decide)
  have bb8 : Bd 8192 (aA y z y' z') := Bd.mono (Bd.add (k := 7800) (b2.mul (b6.fdiv _)) (b5.mul (b3.fdiv _))) (by decide)
  have hs : ∀ t, CFd t (aS z z') := fun t => ⟨by omega, Nat.lt_of_le_of_lt gb.log (by decide)⟩
  have hl : ∀ t, CFd t (aL x y z x' y' z') := fun t => ⟨by omega, Nat.lt_of_le_of_lt lb.log (by decide)⟩
  rw [← ea, ← eb, ← en] at q
  walk_at "r"
  · exact zC (by simp) fun r H' s e => q r H' s e
  all_goals first | exact hs _ | exact hl _
theorem ok_under {f : Addr} {fd : FuncData} (F : Fun K "under" "under" s_under f fd) (B : Bl mg)  (o_is_above_nought : Own P w K mg base 1 "is_above_nought" ["d", "a", "b"] [] sp_is_above_nought) : FnOk P w K mg base CX0 2 f fd ["d", "one", "other"] (sp_under K) := by
  refine F.ok (k := 1) CP (fun vs H Q E h => ?_) (fun cdv A outer s H vs Q E hr h => ?_)
  · obtain ⟨d, p, p', x, y, z, x', y', z', rfl, h1, h2, hd, ⟨b1, b2, b3, b4, b5, b6⟩, q⟩ := h
    rfl
  obtain ⟨d, p, p', x, y, z, x', y', z', rfl, h1, h2, hd, ⟨b1, b2, b3, b4, b5, b6⟩, q⟩ := h
  refine ⟨_, (zf (zr (zl o_is_above_nought hr rfl (za (pv 0) (za (zk yG (zk zn (zh zg (pv 2) zc (fun _ _ => rfl)) (zh zg (pv 1) zc (fun _ _ => rfl))) (zk zn (zh zg (pv 1) zc (fun _ _ => rfl)) (zh zg (pv 2) zc (fun _ _ => rfl)))) (za (zk yG (zk zn (zh zg (pv 2) zc (fun _ _ => rfl)) (zh zg (pv 1) zc (fun _ _ => rfl))) (zk zn (zh zg (pv 1) zc (fun _ _ => rfl)) (zh zg (pv 2) zc (fun _ _ => rfl)))) ze)))))), ?_⟩
  refine zE (σ' := [some (.int d), some (.ref p), some (.ref p')]) rfl ?_
  try dsimp only [cx_K]
  walk_at "r"
  exact xh hd ((Bd.sub (b4.mul b3) (b1.mul b6)).mono (by decide)) ((Bd.sub (b5.mul b3) (b2.mul b6)).mono (by decide)) q
theorem ok_counts {f : Addr} {fd : FuncData} (F : Fun K "counts" "counts" s_counts f fd) (B : Bl mg)  (o_crossed : Own P w K mg base 1 "crossed" ["one", "other"] [] sp_crossed) : FnOk P w K mg base CX0 2 f fd ["d", "base", "one"] sp_counts := by
  refine F.ok (k := 1) sc_counts (fun vs H Q E h => ?_) (fun cdv A outer s H vs Q E hr h => ?_)
  · obtain ⟨d, d', p, r1, r2, o, s, N, x, y, rfl, ⟨h0, h1, h2⟩, ho, hN, hb, g, ⟨bx, by'⟩, q⟩ := h
    rfl
  obtain ⟨d, d', p, r1, r2, o, s, N, x, y, rfl, ⟨h0, h1, h2⟩, ho, hN, hb, g, ⟨bx, by'⟩, q⟩ := h
  refine ⟨_, (zd (zo (i := 3) sc_counts.nd rfl (Or.inl rfl) (zh zg (pv 1) zc (fun _ _ => rfl))) (zd (zo (i := 4) sc_counts.nd rfl (Or.inl rfl) (zh zg (pv 1) zc (fun _ _ => rfl))) (zd (zo (i := 5) sc_counts.nd rfl (Or.inl rfl) (zk zn (zh zg (pv 2) zc (fun _ _ => rfl)) (zl o_crossed hr rfl (za (pv 3) (za (pv 4) ze))))) (zf (zr (zA (za (zk zJ (zk zn (zl o_crossed hr rfl (za (pv 2) (za (pv 4) ze))) (zh zg (pv 3) zc (fun _ _ => rfl))) (pv 5)) (za (zk zJ (zk zn (zl o_crossed hr rfl (za (pv 3) (za (pv 2) ze))) (zh zg (pv 4) zc (fun _ _ => rfl))) (pv 5)) ze)))))))), ?_⟩
  refine zE (σ' := [some (.int d), some (.ref p), some (.ref o), none, none, none]) rfl ?_
  try dsimp only [cx_K]
  obtain ⟨b0, ci, cj⟩ := GH (x := x) (y := y) g hN
  have k1 : Bd 900 (lA s.a s.b N) := g.ba.fdiv _
  have k2 : Bd 900 (lB s.a s.b N) := g.bb.fdiv _
  have k3 : Bd 900 (lN s.a s.b N) := hb.fdiv _
  have k4 : Bd 900 (lA s.c s.e N) := g.bc.fdiv _
  have k5 : Bd 900 (lB s.c s.e N) := g.be.fdiv _
  have k6 : Bd 900 (lN s.c s.e N) := hb.fdiv _
  have k7 : Bd 900 (lA x y N) := bx.fdiv _
  have k8 : Bd 900 (lB x y N) := by'.fdiv _
  have k9 : Bd 900 (lN x y N) := hb.fdiv _
  have bb : Bd 4000 (lN x y N * (lA s.a s.b N * lB s.c s.e N - lB s.a s.b N * lA s.c s.e N)) := Bd.mono (k9.mul ((k1.mul k5).sub (k2.mul k4))) (by decide)
  have hc : ∀ t, CFd t (lN x y N * (lA s.a s.b N * lB s.c s.e N - lB s.a s.b N * lA s.c s.e N)) := fun t => ⟨b0, Nat.lt_of_le_of_lt bb.log (by decide)⟩
  rw [← ci, ← cj] at q
  walk_at "r"
  refine wa h1 h2 k1 k2 k4 k5 ?_
  walk_at "r"
  refine wa ho h2 k7 k8 k4 k5 ?_
  walk_at "r"
  · refine wa h1 ho k1 k2 k7 k8 ?_
    walk_at "r"
    · exact zC (by simp) fun r H' s' e => q r H' s' e
    exact hc _
  all_goals exact hc _
theorem ok_common_bottom {f : Addr} {fd : FuncData} (F : Fun K "common_bottom" "common_bottom" s_common_bottom f fd) (B : Bl mg)  (o_common_divisor : Own P w K mg base 1 "common_divisor" ["one", "other"] [] sp_common_divisor) : FnOk P w K mg base CX0 2 f fd ["lengths"] (sp_common_bottom K) := by
  refine F.ok (k := 1) sc_common_bottom (fun vs H Q E h => ?_) (fun cdv A outer s H vs Q E hr h => ?_)
  · obtain ⟨d, k, p, L, rfl, hL, hlen, hNb, q⟩ := h
    rfl
  obtain ⟨d, k, p, L, rfl, hL, hlen, hNb, q⟩ := h
  refine ⟨_, (zd (zo (i := 1) sc_common_bottom.nd rfl (Or.inl rfl) zc) (zd (ye PassesOwn.never rfl (zZ (pv 0)) (zx (i := 2) sc_common_bottom.nd rfl (Or.inl rfl)) (zf (zo (i := 1) sc_common_bottom.nd rfl (Or.inl rfl) (zk zn (zk zJ (pv 1) (zl o_common_divisor hr rfl (za (pv 1) (za (zh zg (pv 2) zc (fun _ _ => rfl)) ze)))) (zh zg (pv 2) zc (fun _ _ => rfl)))))) (zf (zr (pv 1))))), ?_⟩
  refine zE (σ' := [some (.ref p), none, none]) rfl ?_
  try dsimp only [cx_K]
  walk_at "r"
  refine xp ?_
  walk_at "r"
  refine ⟨p, rfl, ⟨_, SqL.of hL.l⟩, yh (K := K) (a := p) (xs := L.map Ln.v) (fun i σ H' => ∃ (v : Option V), σ = [some (.ref p), some (.int (cbs ((L.take i).map fun c => c.s.z))), v] ∧ H' = H) ⟨none, rfl, rfl⟩ (fun i σ H' _ ⟨_, _, e⟩ => by rw [e]; exact SqL.of hL.l) ?_ ?_⟩
  · rintro i y σ H' hi ⟨v, rfl, rfl⟩
    obtain ⟨c, rfl, hc, hic⟩ := EV hi
    have e0 := hL.at' c hc
    have ok := hL.ok c hc
    have bz := ok.bz
    have z1 := ok.z1
    obtain ⟨f1, fb⟩ := CH hL.ok hNb i
    have hn : 0 < Int.gcd (cbs ((L.take i).map fun c => c.s.z)) c.s.z := Int.gcd_pos_of_ne_zero_left _ (by omega)
    have gb : Bd 890 ((Int.gcd (cbs ((L.take i).map fun c => c.s.z)) c.s.z : Nat) : Int) := xU (by omega) fb
    have hcf : ∀ t, CFd t ((Int.gcd (cbs ((L.take i).map fun c => c.s.z)) c.s.z : Nat) : Int) := fun t => ⟨by omega, Nat.lt_of_le_of_lt gb.log (by decide)⟩
    walk_at "r"
    · exact ⟨some (.ref c.p), by rw [uo hic, Cy]; rfl, rfl⟩
    all_goals exact hcf _
  · rintro σ H' ⟨v, rfl, rfl⟩
    rw [List.length_map, List.take_length]
    walk_at "r"
    exact q
theorem ok__law_root {f : Addr} {fd : FuncData} (F : Fun K "_law_root" "_law_root" s__law_root f fd) (B : Bl mg)  (o__law_digits : Own P w K mg base 1 "_law_digits" ["_law_cell_here", "_law_k", "_law_many"] [] sp__law_digits) (o__law_cell : Own P w K mg base 1 "_law_cell" ["_law_script", "_law_k"] [] (sp__law_cell K)) : FnOk P w K mg base CX0 2 f fd ["_law_script"] (sp__law_root K) := by
  refine F.ok (k := 1) sc__law_root (fun vs H Q E h => ?_) (fun cdv A outer s H vs Q E hr h => ?_)
  · obtain ⟨p, ns, rfl, hS, hb, q⟩ := h
    rfl
  obtain ⟨p, ns, rfl, hS, hb, q⟩ := h
  refine ⟨_, (zd (zo (i := 1) sc__law_root.nd rfl (Or.inl rfl) (zk zS zc (zk zG (zh zq (zl o__law_digits hr rfl (za (zl o__law_cell hr rfl (za (pv 0) (za zc ze))) (za zc (za zc ze)))) zc (fun _ _ => rfl)) zc))) (zd (zF (zp yK (pv 1) (zM (za zc (za zc (za zc (za zc (za zc (za zc (za zc (za zc ze))))))))) (by with_unfolding_all rfl)) (zf (zr (zk zS (pv 1) zc))) zv) (zf (zr (pv 1))))), ?_⟩
  refine zE (σ' := [some (.ref p), none]) rfl ?_
  try dsimp only [cx_K]
  walk_at "r"
  refine uj hS (by decide) hb fun c0 hc0 => ?_
  walk_at "r"
  refine yC hc0 (by decide) (by decide) (by decide) (by decide) fun l H1 ds s1 e1 hl hds => ?_
  obtain ⟨x, gx, x0, x1⟩ := dig hl hds 0 (by decide) (by decide)
  walk_at "r"
  refine zU e1 gx ?_
  walk_at "r"
  refine xc (by simp) fun l2 H2 s2 e2 => ?_
  refine Gq e2 rfl rfl ?_
  rw [DH]
  have hsq : ∀ t : Int, sqs.contains t = true ↔ (t = 4 ∨ t = 9 ∨ t = 16 ∨ t = 25 ∨ t = 36 ∨ t = 49 ∨ t = 64 ∨ t = 81) := fun t => by simp [sqs]
  walk_at "r"
  by_cases c : sqs.contains (2 + x % 98) = true
  · rw [c]
    have h := (hsq _).mp c
    walk_at "r"
    exact q _ H2 (Fa (by omega) (by omega)) (s1.trans s2)
  · have h := mt (hsq (2 + x % 98)).mpr c
    rw [Bool.not_eq_true] at c
    rw [c]
    walk_at "r"
    exact q _ H2 (Fa (by omega) (by omega)) (s1.trans s2)
theorem GC {i : Int} (h0 : 0 ≤ i) (h1 : i < 7) : ∃ r : Int, atI [V.int 1, V.int 1, V.int 2, V.int 3, V.int 4, V.int 6, V.int 12] i = some (.int r) ∧ 1 ≤ r ∧ r ≤ 12 := by
  have h : i = 0 ∨ i = 1 ∨ i = 2 ∨ i = 3 ∨ i = 4 ∨ i = 5 ∨ i = 6 := by omega
  rcases h with h | h | h | h | h | h | h <;> subst h
  · exact ⟨1, rfl, by decide, by decide⟩
  · exact ⟨1, rfl, by decide, by decide⟩
  · exact ⟨2, rfl, by decide, by decide⟩
  · exact ⟨3, rfl, by decide, by decide⟩
  · exact ⟨4, rfl, by decide, by decide⟩
  · exact ⟨6, rfl, by decide, by decide⟩
  · exact ⟨12, rfl, by decide, by decide⟩
theorem ok__law_fraction {f : Addr} {fd : FuncData} (F : Fun K "_law_fraction" "_law_fraction" s__law_fraction f fd) (B : Bl mg)  (o__law_divisor : Own P w K mg base 1 "_law_divisor" ["_law_one", "_law_other"] [] sp__law_divisor) : FnOk P w K mg base CX0 2 f fd ["_law_some", "_law_great"] sp__law_fraction := by
  refine F.ok (k := 1) sc__law_fraction (fun vs H Q E h => ?_) (fun cdv A outer s H vs Q E hr h => ?_)
  · obtain ⟨p, ds, rfl, h1, hl, hds, q⟩ := h
    rfl
  obtain ⟨p, ds, rfl, h1, hl, hds, q⟩ := h
  refine ⟨_, (zd (zo (i := 2) sc__law_fraction.nd rfl (Or.inl rfl) (zk yG (zk zG (zh zq (pv 0) zc (fun _ _ => rfl)) zc) zc)) (zd (zo (i := 3) sc__law_fraction.nd rfl (Or.inl rfl) (zh zq (zM (za zc (za zc (za zc (za zc (za zc (za zc (za zc ze)))))))) (zk zG (zh zq (pv 0) zc (fun _ _ => rfl)) zc) (fun _ _ => rfl))) (zd (wC (zF (zp yq (zk zG (zh zq (pv 0) zc (fun _ _ => rfl)) zc) zc (zu _)) (zd (zo (i := 2) sc__law_fraction.nd rfl (Or.inl rfl) (zk yG (zk zG (zh zq (pv 0) zc (fun _ _ => rfl)) zc) zc)) (zf (zo (i := 3) sc__law_fraction.nd rfl (Or.inl rfl) (zk zS zc (zk zG (zh zq (pv 0) zc (fun _ _ => rfl)) zc))))) zv)) (zd (wC (zF (PW.pt (ym (zp yq (zk zG (zh zq (pv 0) zc (fun _ _ => rfl)) zc) zc (zu _)) (zX (ya (pv 1))))) (zd (zo (i := 2) sc__law_fraction.nd rfl (Or.inl rfl) (zk zS (zk zn (zk yG (zk zS (zk zn (zh zq (pv 0) zc (fun _ _ => rfl)) (zk yV zc zc)) (zh zq (pv 0) zc (fun _ _ => rfl))) (zk zn zc (zk yV zc zc))) (zk yV zc zc)) (zh zq (pv 0) zc (fun _ _ => rfl)))) (zf (zo (i := 3) sc__law_fraction.nd rfl (Or.inl rfl) (zk zS (zk zS zc (zk zn (zh zq (pv 0) zc (fun _ _ => rfl)) (zk yV zc zc))) (zh zq (pv 0) zc (fun _ _ => rfl)))))) zv)) (zd (zo (i := 4) sc__law_fraction.nd rfl (Or.inl rfl) (zl o__law_divisor hr rfl (za (zw xN rfl B.abs BJ (za (pv 2) ze)) (za (pv 3) ze)))) (zf (zr (zA (za (zk yz (pv 2) (pv 4)) (za (zk yz (pv 3) (pv 4)) ze)))))))))), ?_⟩
  refine zE (σ' := [some (.ref p), some (.bl false), none, none, none]) rfl ?_
  try dsimp only [cx_K]
  obtain ⟨x0, g0, x00, x01⟩ := dig hl hds 0 (by decide) (by decide)
  obtain ⟨x1, g1, x10, x11⟩ := dig hl hds 1 (by decide) (by decide)
  obtain ⟨x2, g2, x20, x21⟩ := dig hl hds 2 (by decide) (by decide)
  walk_at "r"
  refine zU h1 g0 ?_
  walk_at "r"
  refine xc (by simp) fun l H1 s1 e1 => ?_
  have h1 := s1 _ _ h1
  walk_at "r"
  refine zU h1 g1 ?_
  walk_at "r"
  obtain ⟨r, hr, r0, r1⟩ := GC (i := x1 % 7) (by omega) (by omega)
  refine zU e1 hr ?_
  walk_at "r"
  refine tK (T := fun σ' H2 => ∃ (t b : Int), σ' = [some (.ref p), some (.bl false), some (.int t), some (.int b), none] ∧ H2 = H1 ∧ (-1000 ≤ t ∧ t ≤ 1000) ∧ (1 ≤ b ∧ b ≤ 60)) ?_ ?_
  · walk_at "r"
    refine zU h1 g2 ?_
    walk_at "r"
    refine if_d (fun c => ?_) (fun c => ?_)
    · walk_at "r"
      refine zU h1 g0 ?_
      walk_at "r"
      refine zU h1 g1 ?_
      walk_at "r"
      exact ⟨_, _, rfl, rfl, by omega, by omega⟩
    · walk_at "r"
      exact ⟨_, _, rfl, rfl, by omega, by omega⟩
  rintro σ' H2 ⟨t, b, rfl, rfl, ⟨t0, t1⟩, hb, hb1⟩
  walk_at "r"
  refine tK (T := fun σ' H3 => σ' = [some (.ref p), some (.bl false), some (.int t), some (.int b), none] ∧ H3 = H2) ?_ ?_
  · walk_at "r"
    refine zU h1 g2 ?_
    walk_at "r"
    refine if_d (fun c => ?_) (fun c => ?_)
    · walk_at "r"
      exact ⟨rfl, rfl⟩
    · walk_at "r"
      exact ⟨rfl, rfl⟩
  rintro σ' H3 ⟨rfl, rfl⟩
  have ha : 0 ≤ (if t < 0 then -t else t) := by split <;> omega
  have hg : Int.gcd (if t < 0 then -t else t) b = Int.gcd t b := by
    split
    · exact Int.neg_gcd
    · rfl
  have bt : Bd 10 t := BV (by omega)
  have bb : Bd 6 b := yn (B := 60) (by omega) hb1 (by decide +kernel)
  walk_at "r"
  refine wn ha (by omega) ?_
  rw [hg]
  have gp := vR (a := t) hb
  have gb : Bd 6 ((Int.gcd t b : Nat) : Int) := Ge (by omega) bb
  have hc : ∀ x, CFp x ((Int.gcd t b : Nat) : Int) := fun x => ⟨gp, Nat.lt_of_le_of_lt gb.log (by decide)⟩
  have c1 := hc t
  walk_at "r"
  refine zC (by simp) fun p4 H4 s4 e4 => ?_
  exact q p4 H4 _ _ (s1.trans s4) e4 (Cn hb gp (Int.gcd_dvd_right ..)) (Cq hb) (Dn bt gp) (Dn bb gp)
theorem y6 {P P' B B' : Int} {x : Rat} (h : (P : Rat) = (B : Rat) * x) (h' : (P' : Rat) = (B' : Rat) * x) : P * B' = P' * B := by
  have e : ((P * B' : Int) : Rat) = ((P' * B : Int) : Rat) := by
    rw [Rat.intCast_mul, Rat.intCast_mul, h, h']
    grind
  exact Rat.intCast_inj.mp e
theorem ok__law_like {f : Addr} {fd : FuncData} (F : Fun K "_law_like" "_law_like" s__law_like f fd) (B : Bl mg)  (o__law_tab : Own P w K mg base 1 "_law_tab" ["_law_heap_here"] [] sp__law_tab) : FnOk P w K mg base CX0 2 f fd ["_law_one", "_law_other"] sp__law_like := by
  refine F.ok (k := 1) sc__law_like (fun vs H Q E h => ?_) (fun cdv A outer s H vs Q E hr h => ?_)
  · obtain ⟨p, p', C, C', rfl, h1, h2, ht, q⟩ := h
    rfl
  obtain ⟨p, p', C, C', rfl, h1, h2, ht, q⟩ := h
  refine ⟨_, (zd (zo (i := 2) sc__law_like.nd rfl (Or.inr rfl) (zl o__law_tab hr rfl (za (pv 0) ze))) (zd (zo (i := 3) sc__law_like.nd rfl (Or.inr rfl) (zl o__law_tab hr rfl (za (pv 1) ze))) (zf (zr (zP (FS hr.units) (yO ["_law_place"] [3] rfl (zZ (zh zq (pv 2) zc (fun _ _ => rfl))) (fun _ _ _ _ _ => (zx (i := 0) (show List.Nodup (α := Str) ["_law_place", "_law_second"] by decide +kernel) rfl (Or.inl rfl))) (fun _ _ _ _ _ => z6) (fun _ _ _ _ _ => (zk zn (pv 0) (zh (r := rIxL K) zq (pv 1) zc (fun _ _ => rfl))))) (yO ["_law_place"] [2] rfl (zZ (zh zq (pv 3) zc (fun _ _ => rfl))) (fun _ _ _ _ _ => (zx (i := 0) (show List.Nodup (α := Str) ["_law_place", "_law_first"] by decide +kernel) rfl (Or.inl rfl))) (fun _ _ _ _ _ => z6) (fun _ _ _ _ _ => (zk zn (pv 0) (zh (r := rIxL K) zq (pv 1) zc (fun _ _ => rfl))))) (zu _)))))), ?_⟩
  refine zE (σ' := [some (.ref p), some (.ref p'), none, none]) rfl ?_
  try dsimp only [cx_K]
  walk_at "r"
  refine ww h1 fun l pl H1 P0 P1 P2 P3 B s1 e1 ep1 B1 q1 b1 => ?_
  obtain ⟨c0, c1, c2, c3, c4⟩ := b1
  walk_at "r"
  refine ww ⟨s1 _ _ h2.1, fun c hc => (h2.2.1 c hc).same s1, h2.2.2⟩ fun l' pl' H2 R0 R1 R2 R3 B' s2 e2 ep2 B1' q2 b2 => ?_
  obtain ⟨d0, d1, d2, d3, d4⟩ := b2
  have e1 := s2 _ _ e1
  have ep1 := s2 _ _ ep1
  rw [ht] at q1
  have x0 := y6 q1.1 q2.1
  have x1 := y6 q1.2.1 q2.2.1
  have x2 := y6 q1.2.2.1 q2.2.2.1
  have x3 := y6 q1.2.2.2 q2.2.2.2
  walk_at "r"
  refine xM ?_
  walk_at "r"
  refine ⟨pl, rfl, ⟨_, SqL.of ep1⟩, fun D hD => yH (K := K) (a := pl) (ys := ([P0, P1, P2, P3] : List Int).map V.int) (fun i xs σ' H' => ∃ (v : Option V), σ' = [v, some (.ref l')] ∧ xs = (([P0, P1, P2, P3] : List Int).take i).map (fun x => V.int (x * B')) ∧ H' D = some (.lst xs) ∧ SameX D H2 H') ⟨none, rfl, rfl, zm, fun b o e n => by rw [zt n]; exact e⟩ (fun i xs σ' H' _ z => by obtain ⟨v, _, _, _, z⟩ := z; exact SqL.of (z _ _ ep1 (zj ep1 hD))) ?_ ?_⟩
  · rintro i x xs σ' H' hi ⟨v, rfl, rfl, eD, sx⟩
    have hi' := (List.getElem?_eq_some_iff.mp hi).1
    obtain ⟨z, rfl, hz⟩ := Bm hi
    have zb : Bd 16000 z := by
      have h4 : z = P0 ∨ z = P1 ∨ z = P2 ∨ z = P3 := by simpa using hz
      rcases h4 with rfl | rfl | rfl | rfl <;> assumption
    have el := sx _ _ e2 (zj e2 hD)
    have hzi : ([P0, P1, P2, P3] : List Int)[i]? = some z := by
      rw [List.getElem?_map] at hi
      cases e : ([P0, P1, P2, P3] : List Int)[i]? with
      | none => rw [e] at hi; cases hi
      | some w =>
        rw [e] at hi
        have : V.int w = V.int z := by simpa using hi
        have : w = z := by simpa using this
        rw [this]
    walk_at "r"
    refine zD eD (by rw [List.length_map, List.length_take]; simp only [List.length_cons, List.length_nil]; omega) fun H6 sx6 e6 => ?_
    refine xE hi' ⟨_, rfl, ?_, e6, sx.trans sx6⟩
    rw [List.take_add_one, hzi, List.map_append]
    rfl
  rintro xs σ' H3 ⟨v, rfl, rfl, eD, sx⟩
  have s3 : Same H2 H3 := fun b o e => sx b o e (zj e hD)
  have e1 := s3 _ _ e1
  have e2 := s3 _ _ e2
  have ep2 := s3 _ _ ep2
  have eD3 : H3 D = some (.lst (([P0 * B', P1 * B', P2 * B', P3 * B'] : List Int).map V.int)) := eD
  clear sx hD eD
  walk_at "r"
  refine xM ?_
  walk_at "r"
  refine ⟨pl', rfl, ⟨_, SqL.of ep2⟩, fun D2 hD2 => yH (K := K) (a := pl') (ys := ([R0, R1, R2, R3] : List Int).map V.int) (fun i xs σ' H' => ∃ (v : Option V), σ' = [v, some (.ref l)] ∧ xs = (([R0, R1, R2, R3] : List Int).take i).map (fun x => V.int (x * B)) ∧ H' D2 = some (.lst xs) ∧ SameX D2 H3 H') ⟨none, rfl, rfl, zm, fun b o e n => by rw [zt n]; exact e⟩ (fun i xs σ' H' _ z => by obtain ⟨v, _, _, _, z⟩ := z; exact SqL.of (z _ _ ep2 (zj ep2 hD2))) ?_ ?_⟩
  · rintro i x xs σ' H' hi ⟨v, rfl, rfl, eD, sx⟩
    have hi' := (List.getElem?_eq_some_iff.mp hi).1
    obtain ⟨z, rfl, hz⟩ := Bm hi
    have zb : Bd 16000 z := by
      have h4 : z = R0 ∨ z = R1 ∨ z = R2 ∨ z = R3 := by simpa using hz
      rcases h4 with rfl | rfl | rfl | rfl <;> assumption
    have el := sx _ _ e1 (zj e1 hD2)
    have hzi : ([R0, R1, R2, R3] : List Int)[i]? = some z := by
      rw [List.getElem?_map] at hi
      cases e : ([R0, R1, R2, R3] : List Int)[i]? with
      | none => rw [e] at hi; cases hi
      | some w =>
        rw [e] at hi
        have : V.int w = V.int z := by simpa using hi
        have : w = z := by simpa using this
        rw [this]
    walk_at "r"
    refine zD eD (by rw [List.length_map, List.length_take]; simp only [List.length_cons, List.length_nil]; omega) fun H6 sx6 e6 => ?_
    refine xE hi' ⟨_, rfl, ?_, e6, sx.trans sx6⟩
    rw [List.take_add_one, hzi, List.map_append]
    rfl
  rintro xs σ' H4 ⟨v, rfl, rfl, eD, sx⟩
  have s4 : Same H3 H4 := fun b o e => sx b o e (zj e hD2)
  have eD4 : H4 D2 = some (.lst (([R0 * B, R1 * B, R2 * B, R3 * B] : List Int).map V.int)) := eD
  rw [← x0, ← x1, ← x2, ← x3] at eD4
  exact F9 (s4 _ _ eD3) eD4 (q H4 (((s1.trans s2).trans s3).trans s4))
theorem ok_Yard_check_names {f : Addr} {fd : FuncData} (F : Fun K "check_names" "Yard.check_names" s_Yard_check_names f fd) (B : Bl mg) (X : Xs K mg cs) (o_is_whole : Own P w K mg base 1 "is_whole" ["thing"] [] sp_is_whole) : FnOk P w K mg base CX0 2 f fd ["self", "names"] (sp_Yard_check_names cs) := by
  refine F.ok (k := 1) sc_Yard_check_names (fun vs H Q E h => ?_) (fun cdv A outer s H vs Q E hr h => ?_)
  · obtain ⟨y, d, tn, cl, ns, lg, a, ms, rfl, hy, ha, hm, hn, hl, q⟩ := h
    rfl
  obtain ⟨y, d, tn, cl, ns, lg, a, ms, rfl, hy, ha, hm, hn, hl, q⟩ := h
  refine ⟨_, (zd (ye PassesOwn.never rfl (zZ (pv 1)) (zx (i := 2) sc_Yard_check_names.nd rfl (Or.inl rfl)) (zf (zF (PW.pt (tZ (yF (ya (zl o_is_whole hr rfl (za (pv 2) ze)))) (vK (F0 (BE (EL hr) (pv 2) (zW (K := K) rfl (pv 0) rfl)))))) (zf yj) zv))) (zf (zF (PW.pt (ym (zp yq (zw zy rfl B.len PySem.boot_len (za (pv 1) ze)) zc (zu _)) (zX (zp yq (zh zq (pv 1) zc (fun _ _ => rfl)) (zh zq (pv 1) zc (fun _ _ => rfl)) (zu _))))) (zf yj) zv))), ?_⟩
  refine zE (σ' := [some (.ref y.p), some (.ref a), none]) rfl ?_
  try dsimp only [cx_K]
  refine GY ?_
  refine xp ?_
  walk_at "r"
  refine ⟨a, rfl, ⟨_, SqL.of ha⟩, yh (K := K) (a := a) (xs := ms.map V.int) (fun i σ H' => ∃ v, σ = [some (.ref y.p), some (.ref a), v] ∧ H' = H) ⟨none, rfl, rfl⟩ (fun i σ H' _ ⟨_, _, e⟩ => by rw [e]; exact SqL.of ha) ?_ ?_⟩
  · rintro i x σ H' hi ⟨v, rfl, rfl⟩
    obtain ⟨m, hm', rfl⟩ := List.mem_map.mp (List.mem_of_getElem? hi)
    obtain ⟨n, hn', rfl⟩ := hm m hm'
    walk_at "r"
    refine ⟨_, _, _, _, _, rfl, hy.o, X.c_Yard, X.n_Yard_lying, rfl, ?_⟩
    refine ⟨y.l, _, rfl, DGet.k (k := .inl (n : Int)) hy.l, ?_⟩
    rw [vj hn', show (!(some (V.bl true)).isSome) = false from rfl]
    walk_at "r"
    exact ⟨_, rfl, rfl⟩
  · rintro σ H' ⟨v, rfl, rfl⟩
    walk_at "r"
    rcases ms with _ | ⟨m1, _ | ⟨m2, _ | ⟨m3, ms⟩⟩⟩
    · refine if_d (fun c => absurd c (by simp)) (fun _ => ?_)
      walk_at "r"
      exact q
    · refine if_d (fun c => absurd c (by simp)) (fun _ => ?_)
      walk_at "r"
      exact q
    · have ha : H' a = some (.lst [.int m1, .int m2]) := ha
      refine if_d (fun _ => ?_) (fun c => absurd (by simp) c)
      walk_at "r"
      have ne : m1 ≠ m2 := by simpa using hn
      refine if_d (fun c => absurd c ne) (fun _ => ?_)
      walk_at "r"
      exact q
    · simp at hl
theorem ok_taken {f : Addr} {fd : FuncData} (F : Fun K "taken" "taken" s_taken f fd) (B : Bl mg)  (o_added : Own P w K mg base 2 "added" ["one", "other"] [] (sp_added K)) : FnOk P w K mg base CX0 3 f fd ["one", "other"] sp_taken := by
  refine F.ok (k := 2) B2 (fun vs H Q E h => ?_) (fun cdv A outer s H vs Q E hr h => ?_)
  · obtain ⟨p, p', x, y, z, x', y', z', rfl, h1, h2, n1, n2, k1, k2, ⟨b1, b2, b3, b4, b5, b6⟩, q⟩ := h
    rfl
  obtain ⟨p, p', x, y, z, x', y', z', rfl, h1, h2, n1, n2, k1, k2, ⟨b1, b2, b3, b4, b5, b6⟩, q⟩ := h
  refine ⟨_, (zf (zr (zl o_added hr rfl (za (pv 0) (za (zA (za (Am vn (zh zg (pv 1) zc (fun _ _ => rfl))) (za (Am vn (zh zg (pv 1) zc (fun _ _ => rfl))) (za (zh zg (pv 1) zc (fun _ _ => rfl)) ze)))) ze))))), ?_⟩
  refine zE (σ' := [some (.ref p), some (.ref p')]) rfl ?_
  try dsimp only [cx_K]
  walk_at "r"
  refine zC (by simp) fun t H2 s2 e2 => ?_
  walk_at "r"
  exact wK (K := K) (SqT.of (s2 _ _ h1)) e2 n1 n2 k1 (by rw [Fl]; exact k2) b1 b2 b3 b4.neg b5.neg b6 fun r H' s' e' => q r H' (s2.trans s') e'
theorem ok_timed {f : Addr} {fd : FuncData} (F : Fun K "timed" "timed" s_timed f fd) (B : Bl mg)  (o_length : Own P w K mg base 2 "length" ["a", "b", "n"] [] sp_length) : FnOk P w K mg base CX0 3 f fd ["d", "one", "other"] sp_timed := by
  refine F.ok (k := 2) BZ (fun vs H Q E h => ?_) (fun cdv A outer s H vs Q E hr h => ?_)
  · obtain ⟨d, p, p', x, y, z, x', y', z', rfl, h1, h2, hd, ⟨b1, b2, b3, b4, b5, b6⟩, n1, n2, q⟩ := h
    rfl
  obtain ⟨d, p, p', x, y, z, x', y', z', rfl, h1, h2, hd, ⟨b1, b2, b3, b4, b5, b6⟩, n1, n2, q⟩ := h
  refine ⟨_, (zf (zr (zl o_length hr rfl (za (zk zS (zk zn (zh zg (pv 1) zc (fun _ _ => rfl)) (zh zg (pv 2) zc (fun _ _ => rfl))) (zk zn (zk zn (pv 0) (zh zg (pv 1) zc (fun _ _ => rfl))) (zh zg (pv 2) zc (fun _ _ => rfl)))) (za (zk zS (zk zn (zh zg (pv 1) zc (fun _ _ => rfl)) (zh zg (pv 2) zc (fun _ _ => rfl))) (zk zn (zh zg (pv 1) zc (fun _ _ => rfl)) (zh zg (pv 2) zc (fun _ _ => rfl)))) (za (zk zn (zh zg (pv 1) zc (fun _ _ => rfl)) (zh zg (pv 2) zc (fun _ _ => rfl))) ze)))))), ?_⟩
  refine zE (σ' := [some (.int d), some (.ref p), some (.ref p')]) rfl ?_
  try dsimp only [cx_K]
  walk_at "r"
  exact z5 rfl (Int.mul_ne_zero n1 n2) (Bd.mono (b3.mul b6) (by decide)) q (GW hd b1 b2 b4 b5 (by decide)) (Go b1 b2 b4 b5 (by decide))
theorem ok_first_base {f : Addr} {fd : FuncData} (F : Fun K "first_base" "first_base" s_first_base f fd) (B : Bl mg)  (o_length : Own P w K mg base 2 "length" ["a", "b", "n"] [] sp_length) : FnOk P w K mg base CX0 3 f fd ["d", "n"] sp_first_base := by
  refine F.ok (k := 2) w4 (fun vs H Q E h => ?_) (fun cdv A outer s H vs Q E hr h => ?_)
  · obtain ⟨d, N, rfl, hN, hb, q⟩ := h
    rfl
  obtain ⟨d, N, rfl, hN, hb, q⟩ := h
  refine ⟨_, (zf (zr (zA (za (zl o_length hr rfl (za zc (za zc (za (pv 1) ze)))) (za (zl o_length hr rfl (za zc (za zc (za (pv 1) ze)))) ze))))), ?_⟩
  refine zE (σ' := [some (.int d), some (.int N)]) rfl ?_
  try dsimp only [cx_K]
  walk_at "r"
  refine z5 rfl (by omega) (hb.mono (by decide)) fun r1 H1 s1 e1 => ?_
  walk_at "r"
  refine z5 rfl (by omega) (hb.mono (by decide)) fun r2 H2 s2 e2 => ?_
  walk_at "r"
  exact zC (by simp) fun p H' s e => q p r1 r2 H' ((s1.trans s2).trans s) ⟨e, s _ _ (s2 _ _ e1), s _ _ e2⟩
theorem ok_is_length {f : Addr} {fd : FuncData} (F : Fun K "is_length" "is_length" s_is_length f fd) (B : Bl mg)  (o_length : Own P w K mg base 2 "length" ["a", "b", "n"] [] sp_length) (o_is_whole : Own P w K mg base 1 "is_whole" ["thing"] [] sp_is_whole) : FnOk P w K mg base CX0 3 f fd ["thing"] sp_is_length := by
  refine F.ok (k := 2) v0 (fun vs H Q E h => ?_) (fun cdv A outer s H vs Q E hr h => ?_)
  · obtain ⟨p, s, rfl, h1, ok, q⟩ := h
    rfl
  obtain ⟨p, s, rfl, h1, ok, q⟩ := h
  refine ⟨_, (zd (zF (PW.pt (tZ (yF (ya (zw yc rfl B.isinstance zV (za (pv 0) (za (xQ (v := .ty "tuple") rfl B.tuple wF rfl) ze))))) (vK (zp Bs (zw zy rfl B.len PySem.boot_len (za (pv 0) ze)) zc (zu _))))) (zf (zr xS)) zv) (zd (zF (PW.pt (tZ (yF (ya (zw (AE rfl) rfl B.all EQ (za (yO ["number"] [] rfl (C9 (pv 0)) (fun _ _ _ _ _ => (zx (i := 0) (show List.Nodup (α := Str) ["number"] by decide +kernel) rfl (Or.inl rfl))) (fun _ _ _ _ _ => z6) (fun _ _ _ _ _ => (zl o_is_whole hr rfl (za (pv 0) ze)))) ze)))) (vK (zp wL (zh zg (pv 0) zc (fun _ _ => rfl)) zc (zu _))))) (zf (zr xS)) zv) (zf (zr (zP (Dp hr.units) (zl o_length hr rfl (za (zh zg (pv 0) zc (fun _ _ => rfl)) (za (zh zg (pv 0) zc (fun _ _ => rfl)) (za (zh zg (pv 0) zc (fun _ _ => rfl)) ze)))) (pv 0) (zu _)))))), ?_⟩
  refine zE (σ' := [some (.ref p)]) rfl ?_
  try dsimp only [cx_K]
  have z1 := ok.z1
  walk_at "r"
  refine uh (by rfl) ?_
  walk_at "r"
  refine Ag ?_
  walk_at "r"
  refine ⟨p, rfl, ⟨_, SqT.of h1⟩, fun D hD => u6 (ys := [V.int s.x, V.int s.y, V.int s.z]) (fun i ys σ' H' => (∃ v, σ' = [v]) ∧ ys = ([V.int s.x, V.int s.y, V.int s.z].take i).map (fun _ => V.bl true) ∧ H' D = some (.lst ys) ∧ SameX D H H') ⟨⟨none, rfl⟩, rfl, zm, fun b o e n => by rw [zt n]; exact e⟩ (fun i ys σ' H' _ p => SqT.of (p.2.2.2 _ _ h1 (zj h1 hD))) ?_ ?_⟩
  · rintro i x ys σ' H' hi ⟨⟨v, rfl⟩, rfl, eD, sx⟩
    obtain ⟨n, rfl⟩ : ∃ n : Int, x = .int n := by
      have := List.mem_of_getElem? hi
      simp only [List.mem_cons, List.not_mem_nil, or_false] at this
      rcases this with rfl | rfl | rfl <;> exact ⟨_, rfl⟩
    have hi3 := (List.getElem?_eq_some_iff.mp hi).1
    walk_at "r"
    refine zD eD (by rw [List.length_map, List.length_take]; simp only [List.length_cons, List.length_nil] at hi3 ⊢; omega) fun H3 sx3 e3 => ?_
    refine xE hi3 ⟨⟨_, rfl⟩, rfl, ?_, sx.trans sx3⟩
    rw [List.take_succ, hi, List.map_append]
    exact e3
  · rintro ys σ' H' ⟨_, rfl, eD, sx⟩
    have s' : Same H H' := fun b o e => sx b o e (zj e hD)
    have h1' := s' _ _ h1
    have eD' : H' D = some (.lst ([true, true, true].map V.bl)) := eD
    walk_at "r"
    refine E4 (SqL.of eD') ?_
    rw [show ([true, true, true] : List Bool).all id = true from rfl]
    walk_at "r"
    refine if_d (fun c => absurd c (by omega)) (fun _ => ?_)
    walk_at "r"
    refine z5 rfl ok.ne (ok.bz.mono (by decide)) (fun r H2 s2 e2 => ?_) (ok.bx.mono (by decide)) (ok.by'.mono (by decide))
    walk_at "r"
    refine F6 e2 (s2 _ _ h1') ?_
    exact bl_q (decide_eq_true (Co ok.z1 ok.g)) (q H2 (s'.trans s2))
theorem ok_glued_beside {f : Addr} {fd : FuncData} (F : Fun K "glued_beside" "glued_beside" s_glued_beside f fd) (B : Bl mg)  (o_added : Own P w K mg base 2 "added" ["one", "other"] [] (sp_added K)) : FnOk P w K mg base CX0 3 f fd ["one", "other"] sp_glued_beside := by
  refine F.ok (k := 2) xZ (fun vs H Q E h => ?_) (fun cdv A outer s H vs Q E hr h => ?_)
  · obtain ⟨c, c', rfl, hc, hc', eh, okw, oks, q⟩ := h
    rfl
  obtain ⟨c, c', rfl, hc, hc', eh, okw, oks, q⟩ := h
  refine ⟨_, (zd (zF (zp (C6 hr.units) (zh zg (pv 0) zc (fun _ _ => rfl)) (zh zg (pv 1) zc (fun _ _ => rfl)) (zu _)) (zf yj) zv) (zf (zr (zA (za (zl o_added hr rfl (za (zh zg (pv 0) zc (fun _ _ => rfl)) (za (zh zg (pv 1) zc (fun _ _ => rfl)) ze))) (za (zh zg (pv 0) zc (fun _ _ => rfl)) ze)))))), ?_⟩
  refine zE (σ' := [some (.ref c.p), some (.ref c'.p)]) rfl ?_
  try dsimp only [cx_K]
  have ct := hc.t
  have ct' := hc'.t
  have cw : H c.pw = some (.tup [.int c.b.w.x, .int c.b.w.y, .int c.b.w.z]) := hc.w
  have cw' : H c'.pw = some (.tup [.int c'.b.w.x, .int c'.b.w.y, .int c'.b.w.z]) := hc'.w
  have ch : H c.ph = some (.tup [.int c.b.h.x, .int c.b.h.y, .int c.b.h.z]) := hc.h
  have ch' : H c'.ph = some (.tup [.int c'.b.h.x, .int c'.b.h.y, .int c'.b.h.z]) := hc'.h
  walk_at "r"
  refine GU ch ch' ?_
  rw [eh]
  walk_at "r"
  refine vq (fun c => absurd ⟨rfl, rfl, rfl⟩ c) (fun _ => ?_)
  walk_at "r"
  refine wK (K := K) (SqT.of cw) cw' okw.z1 oks.z1 okw.g oks.g (okw.bx.mono (by decide)) (okw.by'.mono (by decide)) (okw.bz.mono (by decide)) (oks.bx.mono (by decide)) (oks.by'.mono (by decide)) (oks.bz.mono (by decide)) fun r2 H2 s2 e2 => ?_
  have ct2 := s2 _ _ ct
  walk_at "r"
  refine yZ (by simp) fun r3 H3 hr3 s3 e3 => ?_
  exact q ⟨r3, r2, c.ph, ⟨adS c.b.w c'.b.w, c.b.h⟩⟩ H3 (s2.trans s3) (Same.nn s2 hr3) ⟨e3, s3 _ _ e2, s3 _ _ (s2 _ _ hc.h)⟩ rfl
theorem ok_stacked {f : Addr} {fd : FuncData} (F : Fun K "stacked" "stacked" s_stacked f fd) (B : Bl mg)  (o_length : Own P w K mg base 2 "length" ["a", "b", "n"] [] sp_length) : FnOk P w K mg base CX0 3 f fd ["one", "many"] sp_stacked := by
  refine F.ok (k := 2) sc_stacked (fun vs H Q E h => ?_) (fun cdv A outer s H vs Q E hr h => ?_)
  · obtain ⟨c, k, rfl, hc, k1, bk, okw, okh, q⟩ := h
    rfl
  obtain ⟨c, k, rfl, hc, k1, bk, okw, okh, q⟩ := h
  refine ⟨_, (zd (zo (i := 2) sc_stacked.nd rfl (Or.inl rfl) (zh zg (pv 0) zc (fun _ _ => rfl))) (zd (zo (i := 3) sc_stacked.nd rfl (Or.inl rfl) (zh zg (pv 0) zc (fun _ _ => rfl))) (zf (zr (zA (za (zl o_length hr rfl (za (zh zg (pv 2) zc (fun _ _ => rfl)) (za (zh zg (pv 2) zc (fun _ _ => rfl)) (za (zk zn (zh zg (pv 2) zc (fun _ _ => rfl)) (pv 1)) ze)))) (za (zl o_length hr rfl (za (zk zn (zh zg (pv 3) zc (fun _ _ => rfl)) (pv 1)) (za (zk zn (zh zg (pv 3) zc (fun _ _ => rfl)) (pv 1)) (za (zh zg (pv 3) zc (fun _ _ => rfl)) ze)))) ze))))))), ?_⟩
  refine zE (σ' := [some (.ref c.p), some (.int k), none, none]) rfl ?_
  try dsimp only [cx_K]
  have ct := hc.t
  have cw : H c.pw = some (.tup [.int c.b.w.x, .int c.b.w.y, .int c.b.w.z]) := hc.w
  have ch : H c.ph = some (.tup [.int c.b.h.x, .int c.b.h.y, .int c.b.h.z]) := hc.h
  have m1 : IntMulOk c.b.w.z k := Bd.ok okw.bz bk (by decide +kernel)
  have m2 : IntMulOk c.b.h.x k := Bd.ok okh.bx bk (by decide +kernel)
  have m3 : IntMulOk c.b.h.y k := Bd.ok okh.by' bk (by decide +kernel)
  have bz : Bd 3300 (c.b.w.z * k) := okw.bz.mul bk
  have bx : Bd 3600 (c.b.h.x * k) := okh.bx.mul bk
  have by2 : Bd 3600 (c.b.h.y * k) := okh.by'.mul bk
  walk_at "r"
  refine z5 rfl (Int.mul_ne_zero okw.ne (by omega)) (bz.mono (by decide)) (fun r1 H1 s1 e1 => ?_) (okw.bx.mono (by decide)) (okw.by'.mono (by decide))
  have ch1 := s1 _ _ ch
  walk_at "r"
  refine z5 rfl okh.ne (okh.bz.mono (by decide)) (fun r2 H2 s2 e2 => ?_) (bx.mono (by decide)) (by2.mono (by decide))
  walk_at "r"
  refine yZ (by simp) fun r3 H3 hr3 s3 e3 => ?_
  refine q ⟨r3, r1, r2, ⟨shS c.b.w 1 k, shS c.b.h k 1⟩⟩ H3 ((s1.trans s2).trans s3) (Same.nn (s1.trans s2) hr3) ⟨e3, ?_, ?_⟩ rfl
  · have := s3 _ _ (s2 _ _ e1)
    simpa only [SdAt, shS, Int.mul_one] using this
  · have := s3 _ _ e2
    simpa only [SdAt, shS, Int.mul_one] using this
theorem ok__law_side {f : Addr} {fd : FuncData} (F : Fun K "_law_side" "_law_side" s__law_side f fd) (B : Bl mg)  (o__law_fraction : Own P w K mg base 2 "_law_fraction" ["_law_some", "_law_great"] [] sp__law_fraction) (o__law_above : Own P w K mg base 1 "_law_above" ["_law_d", "_law_first", "_law_second"] [] sp__law_above) : FnOk P w K mg base CX0 3 f fd ["_law_d", "_law_some", "_law_great"] sp__law_side := by
  refine F.ok (k := 2) sc__law_side (fun vs H Q E h => ?_) (fun cdv A outer s H vs Q E hr h => ?_)
  · obtain ⟨d, p, ds, rfl, h1, hl, hds, hR, q⟩ := h
    rfl
  obtain ⟨d, p, ds, rfl, h1, hl, hds, hR, q⟩ := h
  refine ⟨_, (zd (zo (i := 3) sc__law_side.nd rfl (Or.inl rfl) (zl o__law_fraction hr rfl (za (yP xm (pv 1) vc (yL zc)) (za (pv 2) ze)))) (zd (zo (i := 4) sc__law_side.nd rfl (Or.inl rfl) (zl o__law_fraction hr rfl (za (yP xm (pv 1) (yL zc) (yL zc)) (za (pv 2) ze)))) (zd (wC (zF (zp yq (zk zG (zh zq (pv 1) zc (fun _ _ => rfl)) zc) zc (zu _)) (zf (zo (i := 4) sc__law_side.nd rfl (Or.inl rfl) (zA (za zc (za zc ze))))) zv)) (zd (wC (zF (zp yq (zk zG (zh zq (pv 1) zc (fun _ _ => rfl)) zc) zc (zu _)) (zf (zo (i := 3) sc__law_side.nd rfl (Or.inl rfl) (zA (za zc (za zc ze))))) zv)) (zd (zF (PW.pt (ym (zp yq (zh zg (pv 3) zc (fun _ _ => rfl)) zc (zu _)) (zX (zp yq (zh zg (pv 4) zc (fun _ _ => rfl)) zc (zu _))))) (zf (zr (zA (za (zA (za zc (za zc ze))) (za (zA (za zc (za zc ze))) ze))))) zv) (zd (zF (yF (ya (zl o__law_above hr rfl (za (pv 0) (za (pv 3) (za (pv 4) ze)))))) (zf (zr (zA (za (zA (za (zk yG zc (zh zg (pv 3) zc (fun _ _ => rfl))) (za (zh zg (pv 3) zc (fun _ _ => rfl)) ze))) (za (zA (za (zk yG zc (zh zg (pv 4) zc (fun _ _ => rfl))) (za (zh zg (pv 4) zc (fun _ _ => rfl)) ze))) ze))))) zv) (zf (zr (zA (za (pv 3) (za (pv 4) ze))))))))))), ?_⟩
  refine zE (σ' := [some (.int d), some (.ref p), some (.bl false), none, none]) rfl ?_
  try dsimp only [cx_K]
  obtain ⟨x6, g6, x60, x61⟩ := dig hl hds 6 (by decide) (by decide)
  walk_at "r"
  refine Dk (by decide) (SqL.of h1) fun p1 H1 s1 e1 => ?_
  walk_at "r"
  refine yN e1 (by rw [List.length_take, show ds.length = 7 by omega]; rfl) (fun x hx => hds x (List.mem_of_mem_take hx)) fun r1 H2 t b s2 e2 hb hg bt bb => ?_
  have h2 := s2 _ _ (s1 _ _ h1)
  walk_at "r"
  refine F4 (i := 3) (j := 6) h2 fun p3 H3 s3 e3 => ?_
  rw [← List.map_drop, ← List.map_take] at e3
  walk_at "r"
  refine yN e3 (by rw [List.length_take, List.length_drop, show ds.length = 7 by omega]; rfl) (fun x hx => hds x (List.mem_of_mem_drop (List.mem_of_mem_take hx))) fun r2 H4 t' b' s4 e4 hb' hg' bt' bb' => ?_
  have h4 := s4 _ _ (s3 _ _ h2)
  have e2 := s4 _ _ (s3 _ _ e2)
  have S4 := ((s1.trans s2).trans s3).trans s4
  walk_at "r"
  refine tK (T := fun σ' H5 => ∃ (r2 : Addr) (t' b' : Int), σ' = [some (.int d), some (.ref p), some (.bl false), some (.ref r1), some (.ref r2)] ∧ Same H4 H5 ∧ H5 r2 = some (.tup [.int t', .int b']) ∧ 1 ≤ b' ∧ Int.gcd t' b' = 1 ∧ Bd 10 t' ∧ Bd 6 b') ?_ ?_
  · walk_at "r"
    refine zU h4 g6 ?_
    walk_at "r"
    refine if_d (fun c => ?_) (fun c => ?_)
    · walk_at "r"
      refine zC (by simp) fun p5 H5 s5 e5 => ?_
      walk_at "r"
      exact ⟨p5, 0, 1, rfl, s5, e5, by decide, by decide, by decide +kernel, by decide +kernel⟩
    · walk_at "r"
      exact ⟨r2, t', b', rfl, Same.refl _, e4, hb', hg', bt', bb'⟩
  rintro σ' H5 ⟨r2, t', b', rfl, s5, e5, hb', hg', bt', bb'⟩
  have h5 := s5 _ _ h4
  have e2 := s5 _ _ e2
  walk_at "r"
  refine tK (T := fun σ' H6 => ∃ (r1 : Addr) (t b : Int), σ' = [some (.int d), some (.ref p), some (.bl false), some (.ref r1), some (.ref r2)] ∧ Same H5 H6 ∧ H6 r1 = some (.tup [.int t, .int b]) ∧ 1 ≤ b ∧ Int.gcd t b = 1 ∧ Bd 10 t ∧ Bd 6 b) ?_ ?_
  · walk_at "r"
    refine zU h5 g6 ?_
    walk_at "r"
    refine if_d (fun c => ?_) (fun c => ?_)
    · walk_at "r"
      refine zC (by simp) fun p6 H6 s6 e6 => ?_
      walk_at "r"
      exact ⟨p6, 0, 1, rfl, s6, e6, by decide, by decide, by decide +kernel, by decide +kernel⟩
    · walk_at "r"
      exact ⟨r1, t, b, rfl, Same.refl _, e2, hb, hg, bt, bb⟩
  rintro σ' H6 ⟨r1, t, b, rfl, s6, e6, hb, hg, bt, bb⟩
  have e5 := s6 _ _ e5
  have S6 := (S4.trans s5).trans s6
  have bt0 : Bd 10 (0 - t) := by rw [Int.zero_sub]; exact bt.neg
  have bt0' : Bd 10 (0 - t') := by rw [Int.zero_sub]; exact bt'.neg
  have rest : ¬ (t = 0 ∧ t' = 0) → sgn d (t * b') (t' * b) = 1 ∨ sgn d (t * b') (t' * b) = -1 := fun n => by
    rcases sgn_tri hR (t * b') (t' * b) with h | h | ⟨h1, h2⟩
    · exact .inl h
    · exact .inr h
    · refine absurd ⟨?_, ?_⟩ n
      · rcases Int.mul_eq_zero.mp h1 with z | z
        · exact z
        · omega
      · rcases Int.mul_eq_zero.mp h2 with z | z
        · exact z
        · omega
  walk_at "r"
  refine if_d (fun c1 => ?_) (fun c1 => ?_)
  · walk_at "r"
    refine if_d (fun c2 => ?_) (fun c2 => ?_)
    · walk_at "r"
      refine zC (by simp) fun p7 H7 s7 e7 => ?_
      walk_at "r"
      refine zC (by simp) fun p8 H8 s8 e8 => ?_
      walk_at "r"
      refine zC (by simp) fun p9 H9 s9 e9 => ?_
      exact q p9 p7 p8 H9 1 1 0 1 (((S6.trans s7).trans s8).trans s9) e9 (s9 _ _ (s8 _ _ e7)) (s9 _ _ e8) ⟨by decide, by decide⟩ ⟨by decide, by decide⟩ ⟨by decide +kernel, by decide +kernel, by decide +kernel, by decide +kernel⟩ (by rw [show (1 : Int) * 1 = 1 by decide, show (0 : Int) * 1 = 0 by decide, wy (by decide) (by decide)]; rfl)
    · have rr := rest (fun z => by omega)
      walk_at "r"
      refine xo ⟨e6, e5, hR, bt.mono (by decide), bb.mono (by decide), bt'.mono (by decide), bb'.mono (by decide)⟩ ?_
      walk_at "r"
      refine vq (fun c3 => ?_) (fun c3 => ?_)
      · walk_at "r"
        refine zC (by simp) fun p7 H7 s7 e7 => ?_
        have e5 := s7 _ _ e5
        have e6 := s7 _ _ e6
        walk_at "r"
        refine zC (by simp) fun p8 H8 s8 e8 => ?_
        walk_at "r"
        refine zC (by simp) fun p9 H9 s9 e9 => ?_
        refine q p9 p7 p8 H9 (0 - t) b (0 - t') b' (((S6.trans s7).trans s8).trans s9) e9 (s9 _ _ (s8 _ _ e7)) (s9 _ _ e8) ⟨hb, hb'⟩ ⟨by rw [Int.zero_sub, Int.neg_gcd]; exact hg, by rw [Int.zero_sub, Int.neg_gcd]; exact hg'⟩ ⟨bt0, bb, bt0', bb'⟩ ?_
        rw [Int.zero_sub, Int.zero_sub, Int.neg_mul, Int.neg_mul, yX hR]
        omega
      · walk_at "r"
        refine zC (by simp) fun p9 H9 s9 e9 => ?_
        exact q p9 r1 r2 H9 t b t' b' (S6.trans s9) e9 (s9 _ _ e6) (s9 _ _ e5) ⟨hb, hb'⟩ ⟨hg, hg'⟩ ⟨bt, bb, bt', bb'⟩ (by omega)
  · have rr := rest (fun z => by omega)
    walk_at "r"
    refine xo ⟨e6, e5, hR, bt.mono (by decide), bb.mono (by decide), bt'.mono (by decide), bb'.mono (by decide)⟩ ?_
    walk_at "r"
    refine vq (fun c3 => ?_) (fun c3 => ?_)
    · walk_at "r"
      refine zC (by simp) fun p7 H7 s7 e7 => ?_
      have e5 := s7 _ _ e5
      have e6 := s7 _ _ e6
      walk_at "r"
      refine zC (by simp) fun p8 H8 s8 e8 => ?_
      walk_at "r"
      refine zC (by simp) fun p9 H9 s9 e9 => ?_
      refine q p9 p7 p8 H9 (0 - t) b (0 - t') b' (((S6.trans s7).trans s8).trans s9) e9 (s9 _ _ (s8 _ _ e7)) (s9 _ _ e8) ⟨hb, hb'⟩ ⟨by rw [Int.zero_sub, Int.neg_gcd]; exact hg, by rw [Int.zero_sub, Int.neg_gcd]; exact hg'⟩ ⟨bt0, bb, bt0', bb'⟩ ?_
      rw [Int.zero_sub, Int.zero_sub, Int.neg_mul, Int.neg_mul, yX hR]
      omega
    · walk_at "r"
      refine zC (by simp) fun p9 H9 s9 e9 => ?_
      exact q p9 r1 r2 H9 t b t' b' (S6.trans s9) e9 (s9 _ _ e6) (s9 _ _ e5) ⟨hb, hb'⟩ ⟨hg, hg'⟩ ⟨bt, bb, bt', bb'⟩ (by omega)
theorem ok_next_base {f : Addr} {fd : FuncData} (F : Fun K "next_base" "next_base" s_next_base f fd) (B : Bl mg)  (o_under : Own P w K mg base 2 "under" ["d", "one", "other"] [] (sp_under K)) (o_taken : Own P w K mg base 3 "taken" ["one", "other"] [] sp_taken) : FnOk P w K mg base CX0 4 f fd ["d", "base"] sp_next_base := by
  refine F.ok (k := 3) sc_next_base (fun vs H Q E h => ?_) (fun cdv A outer s H vs Q E hr h => ?_)
  · obtain ⟨d, p, r1, r2, s, N, rfl, ⟨h0, h1, h2⟩, hR, hN, hb, g, q⟩ := h
    rfl
  obtain ⟨d, p, r1, r2, s, N, rfl, ⟨h0, h1, h2⟩, hR, hN, hb, g, q⟩ := h
  refine ⟨_, (zd (zo (i := 2) sc_next_base.nd rfl (Or.inl rfl) (zh zg (pv 1) zc (fun _ _ => rfl))) (zd (zo (i := 3) sc_next_base.nd rfl (Or.inl rfl) (zh zg (pv 1) zc (fun _ _ => rfl))) (zd (zF (ya (zl o_under hr rfl (za (pv 0) (za (pv 3) (za (pv 2) ze))))) (zf (zr (zA (za (zl o_taken hr rfl (za (pv 2) (za (pv 3) ze))) (za (pv 3) ze))))) zv) (zf (zr (zA (za (pv 2) (za (zl o_taken hr rfl (za (pv 3) (za (pv 2) ze))) ze)))))))), ?_⟩
  refine zE (σ' := [some (.int d), some (.ref p), none, none]) rfl ?_
  try dsimp only [cx_K]
  have n0 : N ≠ 0 := by omega
  have dlo := hR.lo
  have dhi := hR.hi
  have hd : Bd 64 d := yn (B := 99) (by omega) hR.hi (by decide +kernel)
  have k1 : Bd 900 (lA s.a s.b N) := g.ba.fdiv _
  have k2 : Bd 900 (lB s.a s.b N) := g.bb.fdiv _
  have k3 : Bd 900 (lN s.a s.b N) := hb.fdiv _
  have k4 : Bd 900 (lA s.c s.e N) := g.bc.fdiv _
  have k5 : Bd 900 (lB s.c s.e N) := g.be.fdiv _
  have k6 : Bd 900 (lN s.c s.e N) := hb.fdiv _
  walk_at "r"
  refine uv (K := K) (SqT.of h2) h1 hd (k4.mono (by decide)) (k5.mono (by decide)) (k6.mono (by decide)) (k1.mono (by decide)) (k2.mono (by decide)) (k3.mono (by decide)) ?_
  rw [B3 hR hN]
  walk_at "r"
  refine if_d (fun c => ?_) (fun c => ?_)
  · have e : s.nx d = ⟨s.a - s.c, s.b - s.e, s.c, s.e⟩ := if_pos c
    rw [e] at q
    walk_at "r"
    refine ur h1 h2 (l_n n0) (l_n n0) (xn n0) (xn n0) (k1.mono (by decide)) (k2.mono (by decide)) (k3.mono (by decide)) (k4.mono (by decide)) (k5.mono (by decide)) (k6.mono (by decide)) fun r H1 s1 e1 => ?_
    obtain ⟨t1, t2, t3⟩ := tj (a := s.a) (b := s.b) (c := s.c) (e := s.e) hN
    rw [xy, xy, t1, t2, t3] at e1
    walk_at "r"
    exact zC (by simp) fun p' H' s' e' => q p' r r2 H' (s1.trans s') ⟨e', s' _ _ e1, s' _ _ (s1 _ _ h2)⟩
  · have e : s.nx d = ⟨s.a, s.b, s.c - s.a, s.e - s.b⟩ := if_neg c
    rw [e] at q
    walk_at "r"
    refine ur h2 h1 (l_n n0) (l_n n0) (xn n0) (xn n0) (k4.mono (by decide)) (k5.mono (by decide)) (k6.mono (by decide)) (k1.mono (by decide)) (k2.mono (by decide)) (k3.mono (by decide)) fun r H1 s1 e1 => ?_
    obtain ⟨t1, t2, t3⟩ := tj (a := s.c) (b := s.e) (c := s.a) (e := s.b) hN
    rw [xy, xy, t1, t2, t3] at e1
    walk_at "r"
    exact zC (by simp) fun p' H' s' e' => q p' r1 r H' (s1.trans s') ⟨e', s' _ _ (s1 _ _ h1), s' _ _ e1⟩
theorem ok_times_over {f : Addr} {fd : FuncData} (F : Fun K "times_over" "times_over" s_times_over f fd) (B : Bl mg)  (o_timed : Own P w K mg base 3 "timed" ["d", "one", "other"] [] sp_timed) : FnOk P w K mg base CX0 4 f fd ["d", "many", "one"] sp_times_over := by
  refine F.ok (k := 3) wH (fun vs H Q E h => ?_) (fun cdv A outer s H vs Q E hr h => ?_)
  · obtain ⟨d, m, p, s, rfl, h1, hd, hm, ok, q⟩ := h
    rfl
  obtain ⟨d, m, p, s, rfl, h1, hd, hm, ok, q⟩ := h
  refine ⟨_, (zf (zr (zl o_timed hr rfl (za (pv 0) (za (zA (za (pv 1) (za zc (za zc ze)))) (za (pv 2) ze)))))), ?_⟩
  refine zE (σ' := [some (.int d), some (.int m), some (.ref p)]) rfl ?_
  try dsimp only [cx_K]
  have z1 := ok.z1
  walk_at "r"
  refine zC (by simp) fun p1 H1 s1 e1 => ?_
  walk_at "r"
  refine AO e1 (s1 _ _ h1) hd (hm.mono (by decide)) (by decide +kernel) (by decide +kernel) (ok.bx.mono (by decide)) (ok.by'.mono (by decide)) (ok.bz.mono (by decide)) (by decide) (by omega) fun r H2 s2 e2 => ?_
  rw [show m * s.x + d * 0 * s.y = m * s.x by rw [Int.mul_zero, Int.zero_mul, Int.add_zero], show m * s.y + 0 * s.x = m * s.y by rw [Int.zero_mul, Int.add_zero], Int.one_mul] at e2
  exact q r H2 (s1.trans s2) e2
theorem ok_is_deed {f : Addr} {fd : FuncData} (F : Fun K "is_deed" "is_deed" s_is_deed f fd) (B : Bl mg) (g_CUTS : TopT K mg "CUTS" [.str "across", .str "along"]) (g_SHIFTS : TopT K mg "SHIFTS" [.str "stack", .str "spread"]) (g_GLUINGS : TopT K mg "GLUINGS" [.str "beside", .str "atop"]) (g_TURN : TopS mg "TURN" (Str.ofString "turn")) (o_is_length : Own P w K mg base 3 "is_length" ["thing"] [] sp_is_length) (o_is_whole : Own P w K mg base 1 "is_whole" ["thing"] [] sp_is_whole) : FnOk P w K mg base CX0 4 f fd ["thing"] sp_is_deed := by
  obtain ⟨a_CUTS, m_CUTS, q_CUTS⟩ := g_CUTS
  obtain ⟨a_SHIFTS, m_SHIFTS, q_SHIFTS⟩ := g_SHIFTS
  obtain ⟨a_GLUINGS, m_GLUINGS, q_GLUINGS⟩ := g_GLUINGS
  obtain ⟨u_TURN, m_TURN, r_TURN⟩ := g_TURN
  refine F.ok (k := 3) tV (fun vs H Q E h => ?_) (fun cdv A outer s H vs Q E hr h => ?_)
  · obtain ⟨p, e, rfl, he, ok, q⟩ := h
    rfl
  obtain ⟨p, e, rfl, he, ok, q⟩ := h
  refine ⟨_, (zd (zF (PW.pt (tZ (yF (ya (zw yc rfl B.isinstance zV (za (pv 0) (za (xQ (v := .ty "tuple") rfl B.tuple wF rfl) ze))))) (tZ (zp wL (zw zy rfl B.len PySem.boot_len (za (pv 0) ze)) zc (zu _)) (vK (yF (ya (zw yc rfl B.isinstance zV (za (zh zg (pv 0) zc (fun _ _ => rfl)) (za (xQ (v := .ty "str") rfl B.str F7 rfl) ze))))))))) (zf (zr xS)) zv) (zd (zF (zp yq (zw zy rfl B.len PySem.boot_len (za (pv 0) ze)) zc (zu _)) (zf (zr (zP yq (zh zg (pv 0) zc (fun _ _ => rfl)) (yt (v := .str (Str.ofString "turn")) rfl m_TURN r_TURN) (zu _)))) zv) (zd (zF (zp Bs (zw zy rfl B.len PySem.boot_len (za (pv 0) ze)) zc (zu _)) (zf (zr xS)) zv) (zd (zF (zp yK (zh zg (pv 0) zc (fun _ _ => rfl)) (yt (v := .ref a_CUTS) rfl m_CUTS rfl) (by with_unfolding_all rfl)) (zf (zr (zl o_is_length hr rfl (za (zh zg (pv 0) zc (fun _ _ => rfl)) ze)))) zv) (zd (zF (zp yK (zh zg (pv 0) zc (fun _ _ => rfl)) (yt (v := .ref a_SHIFTS) rfl m_SHIFTS rfl) (by with_unfolding_all rfl)) (zf (zr (C4 (zl o_is_whole hr rfl (za (zh zg (pv 0) zc (fun _ _ => rfl)) ze)) (A9 (zP A6 (zh zg (pv 0) zc (fun _ _ => rfl)) zc (zu _)))))) zv) (zf (zr (zP yK (zh zg (pv 0) zc (fun _ _ => rfl)) (yt (v := .ref a_GLUINGS) rfl m_GLUINGS rfl) (by with_unfolding_all rfl))))))))), ?_⟩
  refine zE (σ' := [some (.ref p)]) rfl ?_
  try dsimp only [cx_K]
  cases e with
  | cut al n s =>
    obtain ⟨pq, h0, hs⟩ := he
    cases al with
    | false =>
      have h0 : H p = some (.tup [.str (Str.ofString "across"), .int n, .ref pq]) := h0
      walk_at "r"
      refine if_d (fun c => absurd c (by simp)) (fun _ => ?_)
      walk_at "r"
      refine if_d (fun c => absurd c (by simp)) (fun _ => ?_)
      walk_at "r"
      refine uh (by simp) ?_
      walk_at "r"
      refine ⟨_, _, rfl, .inr (q_CUTS H), rfl, rfl, ?_⟩
      rw [show (if false = true then !inV _ _ else inV _ _) = true from by decide +kernel]
      walk_at "r"
      exact xK hs ok fun H' s1 => q H' s1
    | true =>
      have h0 : H p = some (.tup [.str (Str.ofString "along"), .int n, .ref pq]) := h0
      walk_at "r"
      refine if_d (fun c => absurd c (by simp)) (fun _ => ?_)
      walk_at "r"
      refine if_d (fun c => absurd c (by simp)) (fun _ => ?_)
      walk_at "r"
      refine uh (by simp) ?_
      walk_at "r"
      refine ⟨_, _, rfl, .inr (q_CUTS H), rfl, rfl, ?_⟩
      rw [show (if false = true then !inV _ _ else inV _ _) = true from by decide +kernel]
      walk_at "r"
      exact xK hs ok fun H' s1 => q H' s1
  | glue al n m =>
    have h0 := he
    cases al with
    | false =>
      have h0 : H p = some (.tup [.str (Str.ofString "beside"), .int n, .int m]) := h0
      walk_at "r"
      refine if_d (fun c => absurd c (by simp)) (fun _ => ?_)
      walk_at "r"
      refine if_d (fun c => absurd c (by simp)) (fun _ => ?_)
      walk_at "r"
      refine uh (by simp) ?_
      walk_at "r"
      refine ⟨_, _, rfl, .inr (q_CUTS H), rfl, rfl, ?_⟩
      rw [show (if false = true then !inV _ _ else inV _ _) = false from by decide +kernel]
      walk_at "r"
      refine ⟨_, _, rfl, .inr (q_SHIFTS H), rfl, rfl, ?_⟩
      rw [show (if false = true then !inV _ _ else inV _ _) = false from by decide +kernel]
      walk_at "r"
      refine ⟨_, _, rfl, .inr (q_GLUINGS H), rfl, rfl, ?_⟩
      rw [show (if false = true then !inV _ _ else inV _ _) = true from by decide +kernel]
      walk_at "r"
      exact q H (Same.refl H)
    | true =>
      have h0 : H p = some (.tup [.str (Str.ofString "atop"), .int n, .int m]) := h0
      walk_at "r"
      refine if_d (fun c => absurd c (by simp)) (fun _ => ?_)
      walk_at "r"
      refine if_d (fun c => absurd c (by simp)) (fun _ => ?_)
      walk_at "r"
      refine uh (by simp) ?_
      walk_at "r"
      refine ⟨_, _, rfl, .inr (q_CUTS H), rfl, rfl, ?_⟩
      rw [show (if false = true then !inV _ _ else inV _ _) = false from by decide +kernel]
      walk_at "r"
      refine ⟨_, _, rfl, .inr (q_SHIFTS H), rfl, rfl, ?_⟩
      rw [show (if false = true then !inV _ _ else inV _ _) = false from by decide +kernel]
      walk_at "r"
      refine ⟨_, _, rfl, .inr (q_GLUINGS H), rfl, rfl, ?_⟩
      rw [show (if false = true then !inV _ _ else inV _ _) = true from by decide +kernel]
      walk_at "r"
      exact q H (Same.refl H)
  | shift al n k =>
    have h0 := he
    cases al with
    | false =>
      have h0 : H p = some (.tup [.str (Str.ofString "stack"), .int n, .int k]) := h0
      walk_at "r"
      refine if_d (fun c => absurd c (by simp)) (fun _ => ?_)
      walk_at "r"
      refine if_d (fun c => absurd c (by simp)) (fun _ => ?_)
      walk_at "r"
      refine uh (by simp) ?_
      walk_at "r"
      refine ⟨_, _, rfl, .inr (q_CUTS H), rfl, rfl, ?_⟩
      rw [show (if false = true then !inV _ _ else inV _ _) = false from by decide +kernel]
      walk_at "r"
      refine ⟨_, _, rfl, .inr (q_SHIFTS H), rfl, rfl, ?_⟩
      rw [show (if false = true then !inV _ _ else inV _ _) = true from by decide +kernel]
      walk_at "r"
      exact bl_q (decide_eq_true ok.1) (q H (Same.refl H))
    | true =>
      have h0 : H p = some (.tup [.str (Str.ofString "spread"), .int n, .int k]) := h0
      walk_at "r"
      refine if_d (fun c => absurd c (by simp)) (fun _ => ?_)
      walk_at "r"
      refine if_d (fun c => absurd c (by simp)) (fun _ => ?_)
      walk_at "r"
      refine uh (by simp) ?_
      walk_at "r"
      refine ⟨_, _, rfl, .inr (q_CUTS H), rfl, rfl, ?_⟩
      rw [show (if false = true then !inV _ _ else inV _ _) = false from by decide +kernel]
      walk_at "r"
      refine ⟨_, _, rfl, .inr (q_SHIFTS H), rfl, rfl, ?_⟩
      rw [show (if false = true then !inV _ _ else inV _ _) = true from by decide +kernel]
      walk_at "r"
      exact bl_q (decide_eq_true ok.1) (q H (Same.refl H))
  | turn n =>
    have h0 := he
    have h0 : H p = some (.tup [.str (Str.ofString "turn"), .int n]) := h0
    walk_at "r"
    refine if_d (fun c => absurd c (by simp)) (fun _ => ?_)
    walk_at "r"
    refine if_d (fun _ => ?_) (fun c => absurd (by simp) c)
    walk_at "r"
    exact bl_q (by decide +kernel) (q H (Same.refl H))
theorem ok_cut_across {f : Addr} {fd : FuncData} (F : Fun K "cut_across" "cut_across" s_cut_across f fd) (B : Bl mg) (g_NOUGHT : TopT K mg "NOUGHT" [.int 0, .int 0, .int 1]) (o_under : Own P w K mg base 2 "under" ["d", "one", "other"] [] (sp_under K)) (o_taken : Own P w K mg base 3 "taken" ["one", "other"] [] sp_taken) : FnOk P w K mg base CX0 4 f fd ["d", "one", "at"] sp_cut_across := by
  obtain ⟨a_NOUGHT, m_NOUGHT, q_NOUGHT⟩ := g_NOUGHT
  refine F.ok (k := 3) wI (fun vs H Q E h => ?_) (fun cdv A outer s H vs Q E hr h => ?_)
  · obtain ⟨d, c, p, s, rfl, hc, hs, hd, okw, oks, up, un, q⟩ := h
    rfl
  obtain ⟨d, c, p, s, rfl, hc, hs, hd, okw, oks, up, un, q⟩ := h
  refine ⟨_, (zd (zF (yF (PW.pt (ym (ya (zl o_under hr rfl (za (pv 0) (za (yt (v := .ref a_NOUGHT) rfl m_NOUGHT rfl) (za (pv 2) ze))))) (zX (ya (zl o_under hr rfl (za (pv 0) (za (pv 2) (za (zh zg (pv 1) zc (fun _ _ => rfl)) ze))))))))) (zf yj) zv) (zf (zr (zM (za (zA (za (pv 2) (za (zh zg (pv 1) zc (fun _ _ => rfl)) ze))) (za (zA (za (zl o_taken hr rfl (za (zh zg (pv 1) zc (fun _ _ => rfl)) (za (pv 2) ze))) (za (zh zg (pv 1) zc (fun _ _ => rfl)) ze))) ze)))))), ?_⟩
  refine zE (σ' := [some (.int d), some (.ref c.p), some (.ref p)]) rfl ?_
  try dsimp only [cx_K]
  have ct := hc.t
  have cw := hc.w
  have hs' : H p = some (.tup [.int s.x, .int s.y, .int s.z]) := hs
  have cw' : H c.pw = some (.tup [.int c.b.w.x, .int c.b.w.y, .int c.b.w.z]) := cw
  walk_at "r"
  refine uv (q_NOUGHT H) hs' hd (by decide +kernel) (by decide +kernel) (by decide +kernel) (oks.bx.mono (by decide)) (oks.by'.mono (by decide)) (oks.bz.mono (by decide)) ?_
  rw [show decide (0 < sgn d (s.x * 1 - 0 * s.z) (s.y * 1 - 0 * s.z)) = true from decide_eq_true (by simpa only [Int.mul_one, Int.zero_mul, Int.sub_zero] using up)]
  walk_at "r"
  refine uv (SqT.of hs') cw' hd (oks.bx.mono (by decide)) (oks.by'.mono (by decide)) (oks.bz.mono (by decide)) (okw.bx.mono (by decide)) (okw.by'.mono (by decide)) (okw.bz.mono (by decide)) ?_
  rw [show decide (0 < sgn d (c.b.w.x * s.z - s.x * c.b.w.z) (c.b.w.y * s.z - s.y * c.b.w.z)) = true from decide_eq_true un]
  walk_at "r"
  refine yZ (by simp) fun r1 H1 hr1 s1 e1 => ?_
  have ct1 := s1 _ _ ct
  walk_at "r"
  refine ur (s1 _ _ cw') (s1 _ _ hs') okw.z1 oks.z1 okw.g oks.g (okw.bx.mono (by decide)) (okw.by'.mono (by decide)) (okw.bz.mono (by decide)) (oks.bx.mono (by decide)) (oks.by'.mono (by decide)) (oks.bz.mono (by decide)) fun r2 H2 s2 e2 => ?_
  have ct2 := s2 _ _ ct1
  walk_at "r"
  refine yZ (by simp) fun r3 H3 hr3 s3 e3 => ?_
  walk_at "r"
  refine zH (by simp) fun r H4 hr s4 e4 => ?_
  have t4 := ((s1.trans s2).trans s3).trans s4
  exact q r ⟨r1, p, c.ph, ⟨s, c.b.h⟩⟩ ⟨r3, r2, c.ph, ⟨tkS c.b.w s, c.b.h⟩⟩ H4 t4 (Same.nn ((s1.trans s2).trans s3) hr) e4 ⟨s4 _ _ (s3 _ _ (s2 _ _ e1)), t4 _ _ hs, t4 _ _ hc.h⟩ ⟨s4 _ _ e3, s4 _ _ (s3 _ _ e2), t4 _ _ hc.h⟩ rfl rfl
theorem ok__law_length {f : Addr} {fd : FuncData} (F : Fun K "_law_length" "_law_length" s__law_length f fd) (B : Bl mg)  (o__law_side : Own P w K mg base 3 "_law_side" ["_law_d", "_law_some", "_law_great"] [] sp__law_side) (o_by_parts : Own P w K mg base 2 "by_parts" ["f", "g"] [] sp_by_parts) : FnOk P w K mg base CX0 4 f fd ["_law_d", "_law_some"] sp__law_length := by
  refine F.ok (k := 3) sc__law_length (fun vs H Q E h => ?_) (fun cdv A outer s H vs Q E hr h => ?_)
  · obtain ⟨d, p, ds, rfl, h1, hl, hds, hR, q⟩ := h
    rfl
  obtain ⟨d, p, ds, rfl, h1, hl, hds, hR, q⟩ := h
  refine ⟨_, (zd (zo (i := 2) sc__law_length.nd rfl (Or.inl rfl) (zl o__law_side hr rfl (za (pv 0) (za (pv 1) (za xS ze))))) (zf (zr (zl o_by_parts hr rfl (za (zh zg (pv 2) zc (fun _ _ => rfl)) (za (zh zg (pv 2) zc (fun _ _ => rfl)) ze)))))), ?_⟩
  refine zE (σ' := [some (.int d), some (.ref p), none]) rfl ?_
  try dsimp only [cx_K]
  walk_at "r"
  refine uG h1 hl hds hR fun r r1 r2 H1 t b t' b' s1 e0 e1 e2 hb hg bd up => ?_
  obtain ⟨bt, bb, bt', bb'⟩ := bd
  walk_at "r"
  refine tI e1 e2 hb.1 hb.2 hg.1 hg.2 (bt.mono (by decide)) (bb.mono (by decide)) (bt'.mono (by decide)) (bb'.mono (by decide)) fun r3 H3 s3 e3 => ?_
  have nn : 1 ≤ b * b' := Int.mul_pos (by omega) (by omega)
  have n0 : b * b' ≠ 0 := by omega
  exact q r3 H3 ⟨lA (t * b') (t' * b) (b * b'), lB (t * b') (t' * b) (b * b'), lN (t * b') (t' * b) (b * b')⟩ (s1.trans s3) e3 ⟨l_n n0, xn n0, Bd.fdiv ((bt.mul bb').mono (by decide)) _, Bd.fdiv ((bt'.mul bb).mono (by decide)) _, Bd.fdiv (bb.mul bb') _⟩ ((yv hR nn).trans up)
theorem ok_serving {f : Addr} {fd : FuncData} (F : Fun K "serving" "serving" s_serving f fd) (B : Bl mg)  (o_first_base : Own P w K mg base 3 "first_base" ["d", "n"] [] sp_first_base) (o_common_bottom : Own P w K mg base 2 "common_bottom" ["lengths"] [] (sp_common_bottom K)) (o_next_base : Own P w K mg base 4 "next_base" ["d", "base"] [] sp_next_base) (o_length : Own P w K mg base 2 "length" ["a", "b", "n"] [] sp_length) (o_counts : Own P w K mg base 2 "counts" ["d", "base", "one"] [] sp_counts) : FnOk P w K mg base CX0 5 f fd ["d", "lengths"] (sp_serving K) := by
  refine F.ok (k := 4) sc_serving (fun vs H Q E h => ?_) (fun cdv A outer s H vs Q E hr h => ?_)
  · obtain ⟨d, p, L, k, rfl, hL, hR, hlen, hF, hNb, q⟩ := h
    rfl
  obtain ⟨d, p, L, k, rfl, hL, hR, hlen, hF, hNb, q⟩ := h
  refine ⟨_, (zd (zo (i := 2) sc_serving.nd rfl (Or.inl rfl) (zl o_first_base hr rfl (za (pv 0) (za zc ze)))) (zd (ye PassesOwn.never rfl (zZ (pv 1)) (zx (i := 3) sc_serving.nd rfl (Or.inl rfl)) (zd (zo (i := 4) sc_serving.nd rfl (Or.inl rfl) (zA (za (zh zg (pv 3) zc (fun _ _ => rfl)) (za (zh zg (pv 3) zc (fun _ _ => rfl)) (za zc ze))))) (zf (xv PassesOwn.never (zp wL (zw (Az rfl) rfl B.min C2 (za (zl o_counts hr rfl (za (pv 0) (za (pv 2) (za (pv 4) ze)))) ze)) zc (zu _)) (zf (zo (i := 2) sc_serving.nd rfl (Or.inl rfl) (zl o_next_base hr rfl (za (pv 0) (za (pv 2) ze))))))))) (zd (zo (i := 5) sc_serving.nd rfl (Or.inr rfl) (zl o_common_bottom hr rfl (za (pv 1) ze))) (zf (zr (y9 Bh rfl B.tuple wF (za (yO ["side"] [5] rfl (C9 (pv 2)) (fun _ _ _ _ _ => (zx (i := 0) (show List.Nodup (α := Str) ["side", "bottom"] by decide +kernel) rfl (Or.inl rfl))) (fun _ _ _ _ _ => z6) (fun _ _ _ _ _ => (zl o_length hr rfl (za (zh (r := rIxT K) zg (pv 0) zc (fun _ _ => rfl)) (za (zh (r := rIxT K) zg (pv 0) zc (fun _ _ => rfl)) (za (pv 1) ze)))))) ze))))))), ?_⟩
  refine zE (σ' := [some (.int d), some (.ref p), none, none, none, none]) rfl ?_
  try dsimp only [cx_K]
  obtain ⟨N1, _, _⟩ := AM (ED hL.ok)
  obtain ⟨ups, bds⟩ := Ek hL.ok
  have gK := Fst.gb hR (by decide) hF ups bds
  walk_at "r"
  refine vI (by decide) (by decide +kernel) fun p0 a1 a2 H1 s1 f1 => ?_
  walk_at "r"
  refine xp ?_
  walk_at "r"
  refine ⟨p, rfl, ⟨_, SqL.of (hL.same s1).l⟩, yh (K := K) (a := p) (xs := L.map Ln.v) (fun i σ H' => ∃ (pb r1 r2 : Addr) (n : Nat) (v3 v4 v5 : Option V), σ = [some (.int d), some (.ref p), some (.ref pb), v3, v4, v5] ∧ Same H1 H' ∧ BsAt H' pb r1 r2 (st d n) 1 ∧ Fst d ((L.take i).map Ln.u) n) ⟨p0, a1, a2, 0, _, _, _, rfl, Same.refl _, f1, fun u hu => absurd hu (by simp), fun n hn => absurd hn (by omega)⟩ (fun i σ H' _ ⟨_, _, _, _, _, _, _, _, s, _⟩ => SqL.of ((hL.same s1).same s).l) ?_ ?_⟩
  · rintro i y σ H' hi ⟨pb, r1, r2, n, v3, v4, v5, rfl, si, fb, hn⟩
    obtain ⟨c, rfl, hc, hic⟩ := EV hi
    have e0 : H' c.p = some (.tup [.int c.s.x, .int c.s.y, .int c.s.z]) := si _ _ (s1 _ _ (hL.at' c hc))
    have ok := hL.ok c hc
    obtain ⟨ups', bds'⟩ := Ek (Dv hL.ok (i + 1))
    obtain ⟨M, hM⟩ := Da hR ups'
    rw [uo hic] at hM ups' bds'
    have ucM : c.u ∈ (L.take i).map Ln.u ++ [c.u] := by simp
    have hnM : n ≤ M := by
      refine Nat.not_lt.mp fun z => ?_
      obtain ⟨u, hu, nu⟩ := hn.2 M z
      exact nu (hM.1 u (List.mem_append_left _ hu))
    walk_at "r"
    refine zC (by simp) fun t H2 s2 e2 => ?_
    obtain ⟨o1, o2, o3⟩ := ux c.s.x c.s.y
    have e2' : H2 t = some (.tup [.int (lA c.s.x c.s.y 1), .int (lB c.s.x c.s.y 1), .int (lN c.s.x c.s.y 1)]) := by rw [o1, o2, o3]; exact e2
    walk_at "r"
    refine DS (fun m σ H' => ∃ (pb r1 r2 : Addr) (n : Nat), σ = [some (.int d), some (.ref p), some (.ref pb), some (.ref c.p), some (.ref t), v5] ∧ Same H2 H' ∧ BsAt H' pb r1 r2 (st d n) 1 ∧ n + m = M ∧ ∀ u ∈ (L.take i).map Ln.u, (st d n).srv u.1 u.2) ⟨M - n, pb, r1, r2, n, rfl, Same.refl _, fb.same s2, by omega, hn.1⟩ ?_
    rintro m σ H3 ⟨pb, r1, r2, n, rfl, s3, fb, hm, hs⟩
    have g : GB d 900 (st d n) := (Fst.gb_le hR (k := 700) (by decide) hM (show n ≤ M by omega) ups' bds').mono (by decide)
    walk_at "r"
    refine tD fb (s3 _ _ e2') (by decide) (by decide +kernel) g (ok.bx.mono (by decide)) (ok.by'.mono (by decide)) fun r H4 s4 e4 => ?_
    walk_at "r"
    refine Fb e4 fun w hw w1 w2 => ?_
    have hw0 := Ei hw w1 w2
    walk_at "r"
    refine if_d (fun cc => ?_) (fun cc => ?_)
    · have ns : ¬ (st d n).srv c.u.1 c.u.2 := hw0.mp cc
      have lt : n < M := by
        refine Nat.not_le.mp fun z => ?_
        exact ns (Bz (hM.1 c.u ucM) z)
      refine wgn ?_
      walk_at "r"
      refine uD (fb.same s4) hR (by decide) (by decide +kernel) g fun pb' r1' r2' H5 s5 f5 => ?_
      walk_at "r"
      exact ⟨m - 1, by omega, pb', r1', r2', n + 1, rfl, (s3.trans s4).trans s5, f5, by omega, fun u hu => C0 d (hs u hu)⟩
    · have sv : (st d n).srv c.u.1 c.u.2 := Decidable.byContradiction fun z => cc (hw0.mpr z)
      have all : ∀ u ∈ (L.take i).map Ln.u ++ [c.u], (st d n).srv u.1 u.2 := fun u hu => by
        rcases List.mem_append.mp hu with z | z
        · exact hs u z
        · have : u = c.u := by simpa using z
          subst this
          exact sv
      have eq : n = M := by
        refine Nat.le_antisymm (by omega) (Nat.not_lt.mp fun z => ?_)
        obtain ⟨u, hu, nu⟩ := hM.2 n z
        exact nu (all u hu)
      walk_at "r"
      refine ⟨pb, r1, r2, n, _, _, _, rfl, ((si.trans s2).trans s3).trans s4, fb.same s4, ?_⟩
      rw [uo hic, eq]
      exact hM
  · rintro σ H' ⟨pb, r1, r2, n, v3, v4, v5, rfl, si, fb, hn⟩
    rw [List.length_map, List.take_length] at hn
    have en := hn.unique (fun _ => Iff.rfl) hF
    subst en
    have q1 := gK.ba
    have q2 := gK.bb
    have q3 := gK.bc
    have q4 := gK.be
    have hL' := (hL.same s1).same si
    walk_at "r"
    refine we hL' hlen hNb ?_
    have hNb8 : Bd 8000 (cbs (L.map fun c => c.s.z)) := hNb.mono (by decide)
    generalize cbs (L.map fun c => c.s.z) = N at *
    obtain ⟨o1, o2, o3⟩ := ux (st d n).a (st d n).b
    obtain ⟨o4, o5, o6⟩ := ux (st d n).c (st d n).e
    obtain ⟨f0, f1, f2⟩ := fb
    rw [o1, o2, o3] at f1
    rw [o4, o5, o6] at f2
    walk_at "r"
    refine Ag ?_
    walk_at "r"
    refine ⟨pb, rfl, ⟨_, SqT.of f0⟩, fun D hD => u6 (K := K) (a := pb) (ys := [.ref r1, .ref r2]) (fun i xs σ' H2 => ∃ (v : Option V), σ' = [v, some (.int N)] ∧ H2 D = some (.lst xs) ∧ SameX D H' H2 ∧ ((i = 0 ∧ xs = []) ∨ (i = 1 ∧ ∃ q1, xs = [.ref q1] ∧ H2 q1 = some (.tup [.int (lA (st d n).a (st d n).b N), .int (lB (st d n).a (st d n).b N), .int (lN (st d n).a (st d n).b N)])) ∨ (i = 2 ∧ ∃ q1 q2, xs = [.ref q1, .ref q2] ∧ H2 q1 = some (.tup [.int (lA (st d n).a (st d n).b N), .int (lB (st d n).a (st d n).b N), .int (lN (st d n).a (st d n).b N)]) ∧ H2 q2 = some (.tup [.int (lA (st d n).c (st d n).e N), .int (lB (st d n).c (st d n).e N), .int (lN (st d n).c (st d n).e N)])))) ⟨none, rfl, zm, fun b o e n => by rw [zt n]; exact e, .inl ⟨rfl, rfl⟩⟩ (fun i xs σ' H2 _ z => by obtain ⟨v, _, _, z, _⟩ := z; exact SqT.of (z _ _ f0 (zj f0 hD))) ?_ ?_⟩
    · rintro i x xs σ' H2 hi ⟨v, rfl, eD, sx, hx⟩
      have k1 : H2 r1 = some (.tup [.int (st d n).a, .int (st d n).b, .int 1]) := sx _ _ f1 (zj f1 hD)
      have k2 : H2 r2 = some (.tup [.int (st d n).c, .int (st d n).e, .int 1]) := sx _ _ f2 (zj f2 hD)
      have hi' := (List.getElem?_eq_some_iff.mp hi).1
      rcases hx with ⟨rfl, rfl⟩ | ⟨rfl, q1, rfl, hq1⟩ | ⟨rfl, _⟩
      · obtain rfl : V.ref r1 = x := Option.some.inj hi
        walk_at "r"
        refine z5 rfl (by omega) hNb8 fun t H3 s3 e3 => ?_
        have eD3 := s3 _ _ eD
        refine zD eD3 (by simp) fun H4 sx4 e4 => ?_
        exact xE hi' ⟨_, rfl, e4, (sx.trans (s3.sameX D)).trans sx4, .inr (.inl ⟨rfl, t, rfl, sx4.tup e3 eD3⟩)⟩
      · obtain rfl : V.ref r2 = x := Option.some.inj hi
        walk_at "r"
        refine z5 rfl (by omega) hNb8 fun t H3 s3 e3 => ?_
        have eD3 := s3 _ _ eD
        refine zD eD3 (by simp) fun H4 sx4 e4 => ?_
        exact xE hi' ⟨_, rfl, e4, (sx.trans (s3.sameX D)).trans sx4, .inr (.inr ⟨rfl, q1, t, rfl, sx4.tup (s3 _ _ hq1) eD3, sx4.tup e3 eD3⟩)⟩
      · exact absurd hi' (by simp)
    · rintro xs σ' H2 ⟨v, rfl, eD, sx, hx⟩
      rcases hx with ⟨h0, _⟩ | ⟨h0, _⟩ | ⟨_, q1, q2, rfl, hq1, hq2⟩
      · exact absurd h0 (by simp)
      · exact absurd h0 (by simp)
      have sD : Same H' H2 := fun b o e => sx b o e (zj e hD)
      walk_at "r"
      refine EH eD fun t H3 s3 e3 => ?_
      exact q t q1 q2 H3 (((s1.trans si).trans sD).trans s3) ⟨e3, s3 _ _ hq1, s3 _ _ hq2⟩
theorem ok_normal_heap {f : Addr} {fd : FuncData} (F : Fun K "normal_heap" "normal_heap" s_normal_heap f fd) (B : Bl mg) (g_NOUGHT : TopT K mg "NOUGHT" [.int 0, .int 0, .int 1]) (o_added : Own P w K mg base 2 "added" ["one", "other"] [] (sp_added K)) (o_counts : Own P w K mg base 2 "counts" ["d", "base", "one"] [] sp_counts) (o_times_over : Own P w K mg base 4 "times_over" ["d", "many", "one"] [] sp_times_over) : FnOk P w K mg base CX0 5 f fd ["d", "heap", "base"] sp_normal_heap := by
  obtain ⟨a_NOUGHT, m_NOUGHT, q_NOUGHT⟩ := g_NOUGHT
  refine F.ok (k := 4) sc_normal_heap (fun vs H Q E h => ?_) (fun cdv A outer s H vs Q E hr h => ?_)
  · obtain ⟨d, d', p, pb, r1, r2, s', N, D, C, hb, rfl, hl, hA, fb, hN, hNb, gb, hlen, h1, h60, hd, hD, bD, hc, hb', q⟩ := h
    rfl
  obtain ⟨d, d', p, pb, r1, r2, s', N, D, C, hb, rfl, hl, hA, fb, hN, hNb, gb, hlen, h1, h60, hd, hD, bD, hc, hb', q⟩ := h
  refine ⟨_, (zd (zo (i := 3) sc_normal_heap.nd rfl (Or.inl rfl) (zM ze)) (zd (ye PassesOwn.never rfl (yw rfl B.range (za zc ze)) (zx (i := 4) sc_normal_heap.nd rfl (Or.inl rfl)) (zd (zo (i := 5) sc_normal_heap.nd rfl (Or.inl rfl) (yt (v := .ref a_NOUGHT) rfl m_NOUGHT rfl)) (zd (ye PassesOwn.never rfl (zZ (pv 1)) (zx (i := 6) sc_normal_heap.nd rfl (Or.inl rfl)) (zd (zo (i := 7) sc_normal_heap.nd rfl (Or.inl rfl) (zh zg (zl o_counts hr rfl (za (pv 0) (za (pv 2) (za (zh zg (pv 6) zc (fun _ _ => rfl)) ze)))) (pv 4) (fun _ _ => rfl))) (zf (zo (i := 5) sc_normal_heap.nd rfl (Or.inl rfl) (zl o_added hr rfl (za (pv 5) (za (zl o_times_over hr rfl (za (pv 0) (za (pv 7) (za (zh zg (pv 6) zc (fun _ _ => rfl)) ze)))) ze))))))) (zf (zF (zp (C6 hr.units) (pv 5) (yt (v := .ref a_NOUGHT) rfl m_NOUGHT rfl) (zu _)) (zf (z9 (tJ PySem.F.plainAttrs_list PySem.F.slot_list_append PySem.F.type_list_append yg (pv 3) (za (zA (za (zh zg (pv 2) (pv 4) (fun _ _ => rfl)) (za (pv 5) ze))) ze)))) zv))))) (zf (zr (pv 3))))), ?_⟩
  refine zE (σ' := [some (.int d), some (.ref p), some (.ref pb), none, none, none, none, none]) rfl ?_
  try dsimp only [cx_K]
  have bcn : ∀ i, ∀ b ∈ hb, Bd 1200 (cn i b) := fun i b h => by
    unfold cn
    split
    · exact (hb' b h).1
    · exact (hb' b h).2.1
  have bX : ∀ i j, Bd 2160 (hX i (hb.take j)) := fun i j => (BQ (M0 := 2100) fun b h => (bcn i b (List.mem_of_mem_take h)).mul (hb' b (List.mem_of_mem_take h)).2.2.1).mono (by rw [List.length_take]; omega)
  have bY : ∀ i j, Bd 2160 (hY i (hb.take j)) := fun i j => (BQ (M0 := 2100) fun b h => (bcn i b (List.mem_of_mem_take h)).mul (hb' b (List.mem_of_mem_take h)).2.2.2).mono (by rw [List.length_take]; omega)
  walk_at "r"
  refine zH (by simp) fun l H1 hl0 s1 e1 => ?_
  have npl : p ≠ l := zj hl hl0
  walk_at "r"
  refine xL ?_
  walk_at "r"
  refine ⟨2, rfl, by decide, by decide, z8 (lo := 0) (n := 2) (fun i σ H' => ∃ (v4 v5 v6 v7 : Option V) (R : List Cell), σ = [some (.int d), some (.ref p), some (.ref pb), some (.ref l), v4, v5, v6, v7] ∧ SameX l H1 H' ∧ H' l = some (.lst (R.map Cell.v)) ∧ (∀ c ∈ R, c.At H') ∧ R.map Cell.b = nrx s' N D hb i) ⟨_, _, _, _, [], rfl, fun b o e _ => e, e1, fun c hc => absurd hc (by simp), rfl⟩ ?_ ?_⟩
  · rintro i σ H2 hi ⟨v4, v5, v6, v7, R, rfl, sx, el, hAR, hR⟩
    have hp2 : H2 p = some (.lst (C.map Cell.v)) := sx _ _ (s1 _ _ hl) npl
    have at2 : ∀ c ∈ C, c.At H2 := fun c hc => (((hA c hc).same s1).sameX sx e1)
    have fb1 := fb.same s1
    have fb2 : BsAt H2 pb r1 r2 s' N := ⟨sx.tup fb1.t e1, sx.tup fb1.f e1, sx.tup fb1.g e1⟩
    have hRl : R.length ≤ 2 := by
      have e := congrArg List.length hR
      rw [List.length_map] at e
      have := Bc s' N D hb i
      omega
    walk_at "r"
    refine xp ?_
    walk_at "r"
    refine ⟨p, rfl, ⟨_, SqL.of hp2⟩, yh (K := K) (a := p) (xs := C.map Cell.v) (fun j σ H3 => ∃ (r : Addr) (v6 v7 : Option V), σ = [some (.int d), some (.ref p), some (.ref pb), some (.ref l), some (.int (0 + (i : Int))), some (.ref r), v6, v7] ∧ Same H2 H3 ∧ SqT K H3 r [.int (sdO D (hX i (hb.take j)) (hY i (hb.take j))).x, .int (sdO D (hX i (hb.take j)) (hY i (hb.take j))).y, .int (sdO D (hX i (hb.take j)) (hY i (hb.take j))).z] ∧ (j = 0 ∨ SdAt H3 r (sdO D (hX i (hb.take j)) (hY i (hb.take j))))) ⟨_, _, _, rfl, Same.refl _, by show SqT K H2 _ [.int (sdO D 0 0).x, .int (sdO D 0 0).y, .int (sdO D 0 0).z]; rw [vk hD]; exact q_NOUGHT H2, .inl rfl⟩ (fun j σ H3 _ ⟨_, _, _, _, s, _⟩ => SqL.of (s _ _ hp2)) ?_ ?_⟩
    · rintro j y σ H3 hj ⟨r, v6, v7, rfl, s3, sq3, _⟩
      obtain ⟨c, rfl, hcm, hjc⟩ := xA hj
      have hj' : j < hb.length := by rw [← hlen]; exact (List.getElem?_eq_some_iff.mp hjc).1
      obtain ⟨b, hbj⟩ : ∃ b, hb[j]? = some b := ⟨_, List.getElem?_eq_getElem hj'⟩
      have hbm := List.mem_of_getElem? hbj
      obtain ⟨⟨X, Y, hw, bX', bY', hbi, hbj'⟩, hh⟩ := hc j c b hjc hbj
      have ct := s3 _ _ (at2 c hcm).t
      have cw : H3 c.pw = some (.tup [.int (lA X Y N), .int (lB X Y N), .int (lN X Y N)]) := s3 _ _ (by have := (at2 c hcm).w; rw [hw] at this; exact this)
      have ch : SdAt H3 c.ph (sdO D b.x b.y) := s3 _ _ (by have := (at2 c hcm).h; rw [hh] at this; exact this)
      have ok0 := BS hD (bX i j) (bY i j) bD
      have okt := BS hD (Bd.mul (hb' b hbm).2.2.1 (bcn i b hbm)) (Bd.mul (hb' b hbm).2.2.2 (bcn i b hbm)) bD
      have snoc : adS (sdO D (hX i (hb.take j)) (hY i (hb.take j))) (sdO D (b.x * cn i b) (b.y * cn i b)) = sdO D (hX i (hb.take (j + 1))) (hY i (hb.take (j + 1))) := by
        rw [EU hD]
        have e : hb.take (j + 1) = hb.take j ++ [b] := by rw [List.take_succ, hbj]; rfl
        unfold hX hY
        rw [e, xT, xT, Int.mul_comm b.x, Int.mul_comm b.y]
      rw [← snoc]
      walk_at "r"
      refine tD (fb2.same s3) cw hN hNb gb bX' bY' fun r4 H4 s4 e4 => ?_
      rw [← hbi, ← hbj'] at e4
      walk_at "r"
      refine uF e4 (GL hi) ?_
      have ct := s4 _ _ ct
      have ch := s4 _ _ ch
      walk_at "r"
      refine ub ch hd (bcn i b hbm) (BS hD (hb' b hbm).2.2.1 (hb' b hbm).2.2.2 bD) fun r5 H5' s5 e5 => ?_
      rw [EF hD] at e5
      walk_at "r"
      refine wK ((s4.trans s5).sqT sq3) e5 ok0.z1 okt.z1 ok0.g okt.g (ok0.bx.mono (by decide)) (ok0.by'.mono (by decide)) (ok0.bz.mono (by decide)) (okt.bx.mono (by decide)) (okt.by'.mono (by decide)) (okt.bz.mono (by decide)) fun r6 H6 s6 e6 => ?_
      walk_at "r"
      exact ⟨r6, _, _, rfl, ((s3.trans s4).trans s5).trans s6, SqT.of e6, .inr e6⟩
    rintro σ H3 ⟨r, v6, v7, rfl, s3, sq3, hr⟩
    rw [List.length_map, hlen, List.take_length] at sq3 hr
    have er : SdAt H3 r (sdO D (hX i hb) (hY i hb)) := hr.resolve_left (by omega)
    have zi := DR (X := hX i hb) (Y := hY i hb) hD
    have fb3 := fb2.same s3
    have bt3 := fb3.t
    have el3 := s3 _ _ el
    walk_at "r"
    refine F8 sq3 (q_NOUGHT H3) ?_
    walk_at "r"
    refine vq (fun cc => ?_) (fun cc => ?_)
    · have nz : ¬ (hX i hb = 0 ∧ hY i hb = 0) := fun z => cc (zi.mpr z)
      walk_at "r"
      refine uF bt3 (Fo hi) ?_
      walk_at "r"
      refine zC (by simp) fun r7 H7 s7 e7 => ?_
      have el7 := s7 _ _ (s3 _ _ el)
      walk_at "r"
      refine zD el7 (by rw [List.length_map]; omega) fun H8 sx8 e8 => ?_
      walk_at "r"
      refine ⟨_, _, _, _, R ++ [⟨r7, if i = 0 then r1 else r2, r, ⟨bwq s' N i, sdO D (hX i hb) (hY i hb)⟩⟩], rfl, (sx.trans ((s3.trans s7).sameX l)).trans sx8, by rw [List.map_append]; exact e8, fun c hc => ?_, ?_⟩
      · rcases List.mem_append.mp hc with hc | hc
        · exact ((hAR c hc).same (s3.trans s7)).sameX sx8 el7
        · have hc : c = ⟨r7, if i = 0 then r1 else r2, r, ⟨bwq s' N i, sdO D (hX i hb) (hY i hb)⟩⟩ := by simpa using hc
          subst hc
          exact Cell.At.sameX ⟨e7, s7 _ _ (FW fb3 i), s7 _ _ er⟩ sx8 el7
      · rw [List.map_append, hR]
        show _ = nrx s' N D hb i ++ _
        rw [if_neg nz]
        rfl
    · walk_at "r"
      refine ⟨_, _, _, _, R, rfl, sx.trans (s3.sameX l), s3 _ _ el, fun c hc => (hAR c hc).same s3, ?_⟩
      rw [hR]
      show _ = nrx s' N D hb i ++ _
      rw [if_pos (zi.mp cc), List.append_nil]
  · rintro σ H2 ⟨v4, v5, v6, v7, R, rfl, sx, el, hAR, hR⟩
    walk_at "r"
    exact q l H2 R hl0 (fun b o e => sx b o (s1 b o e) (zj e hl0)) el hAR hR
theorem ok__law_heap {f : Addr} {fd : FuncData} (F : Fun K "_law_heap" "_law_heap" s__law_heap f fd) (B : Bl mg)  (o__law_digits : Own P w K mg base 1 "_law_digits" ["_law_cell_here", "_law_k", "_law_many"] [] sp__law_digits) (o__law_length : Own P w K mg base 4 "_law_length" ["_law_d", "_law_some"] [] sp__law_length) : FnOk P w K mg base CX0 5 f fd ["_law_d", "_law_cells"] sp__law_heap := by
  refine F.ok (k := 4) sc__law_heap (fun vs H Q E h => ?_) (fun cdv A outer s H vs Q E hr h => ?_)
  · obtain ⟨d, p, ns, rfl, h1, hb, hlen, hR, q⟩ := h
    rfl
  obtain ⟨d, p, ns, rfl, h1, hb, hlen, hR, q⟩ := h
  refine ⟨_, (zd (zo (i := 2) sc__law_heap.nd rfl (Or.inl rfl) (zM ze)) (zd (ye PassesOwn.never rfl (yw rfl B.range (za (zw zy rfl B.len PySem.boot_len (za (pv 1) ze)) ze)) (zx (i := 3) sc__law_heap.nd rfl (Or.inl rfl)) (zd (zo (i := 4) sc__law_heap.nd rfl (Or.inl rfl) (zl o__law_digits hr rfl (za (zh zq (pv 1) (pv 3) (fun _ _ => rfl)) (za (zk zS (pv 3) zc) (za zc ze))))) (zf (z9 (tJ PySem.F.plainAttrs_list PySem.F.slot_list_append PySem.F.type_list_append yg (pv 2) (za (zA (za (zl o__law_length hr rfl (za (pv 0) (za (yP xm (pv 4) vc (yL zc)) ze))) (za (zl o__law_length hr rfl (za (pv 0) (za (yP xm (pv 4) (yL zc) vc) ze))) ze))) ze)))))) (zf (zr (pv 2))))), ?_⟩
  refine zE (σ' := [some (.int d), some (.ref p), none, none, none]) rfl ?_
  try dsimp only [cx_K]
  walk_at "r"
  refine zH (by simp) fun l H1 hl s1 e1 => ?_
  have h1' := s1 _ _ h1
  walk_at "r"
  refine xL ?_
  walk_at "r"
  rw [List.length_map]
  have np : p ≠ l := zj h1 hl
  refine ⟨(ns.length : Int), rfl, by omega, by omega, z8 (lo := 0) (n := (ns.length : Int).toNat) (fun i σ H' => ∃ (v3 v4 : Option V) (C : List Cell), σ = [some (.int d), some (.ref p), some (.ref l), v3, v4] ∧ SameX l H1 H' ∧ H' l = some (.lst (C.map Cell.v)) ∧ C.length = i ∧ (∀ c ∈ C, c.At H') ∧ (∀ c ∈ C, (SK 20 12 c.b.w ∧ SK 20 12 c.b.h) ∧ sgn d c.b.w.x c.b.w.y = 1 ∧ sgn d c.b.h.x c.b.h.y = 1)) ⟨_, _, [], rfl, fun b o e _ => e, e1, rfl, fun c hc => absurd hc (by simp), fun c hc => absurd hc (by simp)⟩ ?_ ?_⟩
  · rintro i σ H' hi ⟨v3, v4, C, rfl, sx, el, hC, hA, hO⟩
    have hp : H' p = some (.lst (ns.map V.int)) := sx _ _ h1' np
    obtain ⟨c0, hc0, ec⟩ := uY (xs := ns) (i := 0 + (i : Int)) (by omega) (by omega)
    walk_at "r"
    refine zU hp ec ?_
    walk_at "r"
    refine yC (hb c0 hc0) (by omega) (by omega) (by decide) (by decide) fun l2 H2 ds s2 e2 hl2 hds => ?_
    have hl14 : ds.length = 14 := by omega
    have el2 := s2 _ _ el
    walk_at "r"
    refine Dk (k := 7) (by decide) (SqL.of e2) fun p3 H3 s3 e3 => ?_
    walk_at "r"
    refine xf e3 (by simp only [List.length_take]; rw [hl14]; rfl) (fun x hx => hds x (List.mem_of_mem_take hx)) hR fun r4 H4 w s4 e4 okw upw => ?_
    walk_at "r"
    refine B6 (i := 7) (s4 _ _ (s3 _ _ e2)) fun p5 H5 s5 e5 => ?_
    rw [← List.map_drop] at e5
    walk_at "r"
    refine xf e5 (by simp only [List.length_drop]; rw [hl14]; rfl) (fun x hx => hds x (List.mem_of_mem_drop hx)) hR fun r6 H6 h s6 e6 okh uph => ?_
    walk_at "r"
    refine zC (by simp) fun r7 H7 s7 e7 => ?_
    have st := ((((s2.trans s3).trans s4).trans s5).trans s6).trans s7
    have el7 := st _ _ el
    walk_at "r"
    refine zD el7 (by rw [List.length_map]; omega) fun H8 sx8 e8 => ?_
    walk_at "r"
    refine ⟨_, _, C ++ [⟨r7, r4, r6, ⟨w, h⟩⟩], rfl, (sx.trans (st.sameX l)).trans sx8, by rw [List.map_append]; exact e8, by rw [List.length_append, hC]; rfl, fun c hc => ?_, fun c hc => ?_⟩
    · rcases List.mem_append.mp hc with hc | hc
      · exact ((hA c hc).same st).sameX sx8 el7
      · have hc : c = ⟨r7, r4, r6, ⟨w, h⟩⟩ := by simpa using hc
        subst hc
        exact Cell.At.sameX ⟨e7, s7 _ _ (s6 _ _ (s5 _ _ e4)), s7 _ _ e6⟩ sx8 el7
    · rcases List.mem_append.mp hc with hc | hc
      · exact hO c hc
      · have hc : c = ⟨r7, r4, r6, ⟨w, h⟩⟩ := by simpa using hc
        subst hc
        exact ⟨⟨okw, okh⟩, upw, uph⟩
  · rintro σ H' ⟨v3, v4, C, rfl, sx, el, hC, hA, hO⟩
    walk_at "r"
    exact q l H' C (fun b o e => sx b o (s1 b o e) (zj e hl)) el hA hO (by omega)
theorem ok_Yard_put_by {f : Addr} {fd : FuncData} (F : Fun K "put_by" "Yard.put_by" s_Yard_put_by f fd) (B : Bl mg) (X : Xs K mg cs) (o_cut_across : Own P w K mg base 4 "cut_across" ["d", "one", "at"] [] sp_cut_across) (o_turned : Own P w K mg base 1 "turned" ["one"] [] sp_turned) (o_glued_beside : Own P w K mg base 3 "glued_beside" ["one", "other"] [] sp_glued_beside) (o_stacked : Own P w K mg base 3 "stacked" ["one", "many"] [] sp_stacked) : FnOk P w K mg base CX0 5 f fd ["self", "deed", "boards"] (sp_Yard_put_by cs) := by
  refine F.ok (k := 4) sc_Yard_put_by (fun vs H Q E h => ?_) (fun cdv A outer s H vs Q E hr h => ?_)
  · obtain ⟨y, d, tn, cl, ns, lg, p, a, e, c, c', rfl, hy, he, ha, hc, hc', hd, hf, q⟩ := h
    rfl
  obtain ⟨y, d, tn, cl, ns, lg, p, a, e, c, c', rfl, hy, he, ha, hc, hc', hd, hf, q⟩ := h
  refine ⟨_, (zd (zo (i := 3) sc_Yard_put_by.nd rfl (Or.inl rfl) (zh zg (pv 1) zc (fun _ _ => rfl))) (zd (zF (zp yq (pv 3) yD (zu _)) (zf (zr (zl o_cut_across hr rfl (za (zW (K := K) rfl (pv 0) rfl) (za (zh zq (pv 2) zc (fun _ _ => rfl)) (za (zh zg (pv 1) zc (fun _ _ => rfl)) ze)))))) zv) (zd (zF (zp yq (pv 3) yD (zu _)) (zf (zr (yO ["one"] [] rfl (zZ (zl o_cut_across hr rfl (za (zW (K := K) rfl (pv 0) rfl) (za (zl o_turned hr rfl (za (zh zq (pv 2) zc (fun _ _ => rfl)) ze)) (za (zh zg (pv 1) zc (fun _ _ => rfl)) ze))))) (fun _ _ _ _ _ => (zx (i := 0) (show List.Nodup (α := Str) ["one"] by decide +kernel) rfl (Or.inl rfl))) (fun _ _ _ _ _ => z6) (fun _ _ _ _ _ => (zl o_turned hr rfl (za (pv 0) ze)))))) zv) (zd (zF (zp yq (pv 3) yD (zu _)) (zf (zr (zM (za (zl o_glued_beside hr rfl (za (zh zq (pv 2) zc (fun _ _ => rfl)) (za (zh zq (pv 2) zc (fun _ _ => rfl)) ze))) ze)))) zv) (zd (zF (zp yq (pv 3) yD (zu _)) (zf (zr (zM (za (zl o_turned hr rfl (za (zl o_glued_beside hr rfl (za (zl o_turned hr rfl (za (zh zq (pv 2) zc (fun _ _ => rfl)) ze)) (za (zl o_turned hr rfl (za (zh zq (pv 2) zc (fun _ _ => rfl)) ze)) ze))) ze)) ze)))) zv) (zd (zF (zp yq (pv 3) yD (zu _)) (zf (zr (zM (za (zl o_stacked hr rfl (za (zh zq (pv 2) zc (fun _ _ => rfl)) (za (zh zg (pv 1) zc (fun _ _ => rfl)) ze))) ze)))) zv) (zd (zF (zp yq (pv 3) yD (zu _)) (zf (zr (zM (za (zl o_turned hr rfl (za (zl o_stacked hr rfl (za (zl o_turned hr rfl (za (zh zq (pv 2) zc (fun _ _ => rfl)) ze)) (za (zh zg (pv 1) zc (fun _ _ => rfl)) ze))) ze)) ze)))) zv) (zf (zr (zM (za (zl o_turned hr rfl (za (zh zq (pv 2) zc (fun _ _ => rfl)) ze)) ze))))))))))), ?_⟩
  refine zE (σ' := [some (.ref y.p), some (.ref p), some (.ref a), none]) rfl ?_
  try dsimp only [cx_K]
  cases e with
  | cut al n s =>
    obtain ⟨pq, h0, hs⟩ := he
    cases al with
    | false =>
      have h0 : H p = some (.tup [.str (Str.ofString "across"), .int n, .ref pq]) := h0
      have ha : H a = some (.lst [.ref c.p]) := ha
      walk_at "r"
      refine if_d (fun _ => ?_) (fun c => absurd rfl c)
      walk_at "r"
      obtain ⟨f1, f2, f3, f4⟩ := hf
      refine ⟨_, _, _, _, _, rfl, hy.o, X.c_Yard, X.n_Yard_root, rfl, ?_⟩
      walk_at "r"
      refine xq hc hs hd f1 f2 f3 f4 fun r c1 c2 H1 s1 hr e1 a1 a2 b1 b2 => ?_
      refine q r [c1, c2] H1 s1 hr e1 (fun x hx => ?_) ?_
      · rcases List.mem_cons.mp hx with rfl | hx
        · exact a1
        · rw [List.mem_singleton.mp hx]; exact a2
      · show [c1.b, c2.b] = _
        rw [b1, b2]
        rfl
    | true =>
      have h0 : H p = some (.tup [.str (Str.ofString "along"), .int n, .ref pq]) := h0
      have ha : H a = some (.lst [.ref c.p]) := ha
      walk_at "r"
      refine if_d (fun c => absurd c (by decide +kernel)) (fun _ => ?_)
      walk_at "r"
      refine if_d (fun _ => ?_) (fun c => absurd rfl c)
      walk_at "r"
      obtain ⟨f1, f2, f3, f4⟩ := hf
      refine xM ?_
      walk_at "r"
      refine ⟨_, _, _, _, _, rfl, hy.o, X.c_Yard, X.n_Yard_root, rfl, ?_⟩
      walk_at "r"
      refine yp hc fun r1 H1 s1 nr1 a1 => ?_
      have h01 := s1 _ _ h0
      walk_at "r"
      refine xq a1 (s1 _ _ hs) hd f1 f2 f3 f4 fun r c1 c2 H2 s2 hr e2 a2 a3 b1 b2 => ?_
      have t2 := s1.trans s2
      have hat : ∀ x ∈ [c1, c2], x.At H2 := fun x hx => by
        rcases List.mem_cons.mp hx with rfl | hx
        · exact a2
        · rw [List.mem_singleton.mp hx]; exact a3
      refine ⟨r, rfl, ⟨_, SqL.of e2⟩, fun D hD => yH (K := K) (a := r) (ys := [c1, c2].map Cell.v) (fun i xs σ' H' => ∃ (v : Option V) (N : List Cell), σ' = [v] ∧ xs = N.map Cell.v ∧ H' D = some (.lst xs) ∧ SameX D H2 H' ∧ (∀ x ∈ N, x.At H') ∧ N.length = i ∧ N.map Cell.b = ([c1, c2].take i).map (fun x => ⟨x.b.h, x.b.w⟩)) ⟨none, [], rfl, rfl, zm, fun b o e n => by rw [zt n]; exact e, fun x hx => absurd hx (by simp), rfl, rfl⟩ (fun i xs σ' H' _ z => by obtain ⟨v, N, _, _, _, z, _⟩ := z; exact SqL.of (z _ _ e2 (zj e2 hD))) ?_ ?_⟩
      · rintro i x xs σ' H' hi ⟨v, N, rfl, rfl, eD, sx, hN, hl, hb⟩
        rw [List.getElem?_map] at hi
        obtain ⟨cx, hcx, rfl⟩ := Option.map_eq_some_iff.mp hi
        have hi3 := (List.getElem?_eq_some_iff.mp hcx).1
        have s' : Same H2 H' := fun b o e => sx b o e (zj e hD)
        walk_at "r"
        refine yp ((hat cx (List.mem_of_getElem? hcx)).same s') fun r3 H3 s3 nr3 a3 => ?_
        walk_at "r"
        refine zD (s3 _ _ eD) (by rw [List.length_map, hl]; simp only [List.length_cons, List.length_nil] at hi3; omega) fun H4 x4 e4 => ?_
        refine xE hi3 ⟨_, N ++ [⟨r3, cx.ph, cx.pw, ⟨cx.b.h, cx.b.w⟩⟩], rfl, rfl, by rw [List.map_append]; exact e4, sx.trans ((SameX.of s3).trans x4), fun x hx => ?_, by rw [List.length_append, hl]; rfl, ?_⟩
        · rcases List.mem_append.mp hx with hx | hx
          · exact ((hN x hx).same s3).sameX x4 (s3 _ _ eD)
          · rw [List.mem_singleton.mp hx]; exact a3.sameX x4 (s3 _ _ eD)
        · rw [List.take_succ, hcx, List.map_append, List.map_append, hb]
          rfl
      · rintro xs σ' H' ⟨v, N, rfl, rfl, eD, sx, hN, hl, hb⟩
        have s' : Same H2 H' := fun b o e => sx b o e (zj e hD)
        walk_at "r"
        refine q D N H' (t2.trans s') (Same.nn t2 hD) eD hN ?_
        rw [hb]
        show [(⟨c1.b.h, c1.b.w⟩ : Bo), ⟨c2.b.h, c2.b.w⟩] = _
        rw [b1, b2]
        rfl
  | glue al n m =>
    have h0 := he
    cases al with
    | false =>
      have h0 : H p = some (.tup [.str (Str.ofString "beside"), .int n, .int m]) := h0
      have ha : H a = some (.lst [.ref c.p, .ref c'.p]) := ha
      walk_at "r"
      refine if_d (fun c => absurd c (by decide +kernel)) (fun _ => ?_)
      walk_at "r"
      refine if_d (fun c => absurd c (by decide +kernel)) (fun _ => ?_)
      walk_at "r"
      refine if_d (fun _ => ?_) (fun c => absurd rfl c)
      walk_at "r"
      refine yU hc hc' hf.1 hf.2.1 hf.2.2 fun c1 H1 s1 n1 a1 hb => ?_
      walk_at "r"
      refine zH (by simp) fun r HL nr sL eL => ?_
      refine q r [c1] HL (Same.trans s1 sL) (Same.nn s1 nr) eL (fun x hx => ?_) ?_
      · rw [List.mem_singleton.mp hx]
        exact a1.same sL
      · exact congrArg (fun z => [z]) hb
    | true =>
      have h0 : H p = some (.tup [.str (Str.ofString "atop"), .int n, .int m]) := h0
      have ha : H a = some (.lst [.ref c.p, .ref c'.p]) := ha
      walk_at "r"
      refine if_d (fun c => absurd c (by decide +kernel)) (fun _ => ?_)
      walk_at "r"
      refine if_d (fun c => absurd c (by decide +kernel)) (fun _ => ?_)
      walk_at "r"
      refine if_d (fun c => absurd c (by decide +kernel)) (fun _ => ?_)
      walk_at "r"
      refine if_d (fun _ => ?_) (fun c => absurd rfl c)
      walk_at "r"
      refine yp hc fun r1 H1 s1 nr1 a1 => ?_
      have ha1 := s1 _ _ ha
      walk_at "r"
      refine yp (hc'.same s1) fun r2 H2 s2 nr2 a2 => ?_
      walk_at "r"
      refine yU (a1.same s2) a2 hf.1 hf.2.1 hf.2.2 fun c1 H3 s3 n3 a3 hb => ?_
      walk_at "r"
      refine yp a3 fun r4 H4 s4 nr4 a4 => ?_
      replace hb : (⟨c1.b.h, c1.b.w⟩ : Bo) = ⟨c.b.w, adS c.b.h c'.b.h⟩ := by rw [hb]
      walk_at "r"
      refine zH (by simp) fun r HL nr sL eL => ?_
      refine q r [⟨r4, c1.ph, c1.pw, ⟨c1.b.h, c1.b.w⟩⟩] HL (Same.trans (((s1.trans s2).trans s3).trans s4) sL) (Same.nn (((s1.trans s2).trans s3).trans s4) nr) eL (fun x hx => ?_) ?_
      · rw [List.mem_singleton.mp hx]
        exact a4.same sL
      · exact congrArg (fun z => [z]) hb
  | shift al n k =>
    have h0 := he
    cases al with
    | false =>
      have h0 : H p = some (.tup [.str (Str.ofString "stack"), .int n, .int k]) := h0
      have ha : H a = some (.lst [.ref c.p]) := ha
      walk_at "r"
      refine if_d (fun c => absurd c (by decide +kernel)) (fun _ => ?_)
      walk_at "r"
      refine if_d (fun c => absurd c (by decide +kernel)) (fun _ => ?_)
      walk_at "r"
      refine if_d (fun c => absurd c (by decide +kernel)) (fun _ => ?_)
      walk_at "r"
      refine if_d (fun c => absurd c (by decide +kernel)) (fun _ => ?_)
      walk_at "r"
      refine if_d (fun _ => ?_) (fun c => absurd rfl c)
      walk_at "r"
      refine vL hc hf.1 hf.2.1 hf.2.2.1 hf.2.2.2 fun c1 H1 s1 n1 a1 hb => ?_
      walk_at "r"
      refine zH (by simp) fun r HL nr sL eL => ?_
      refine q r [c1] HL (Same.trans s1 sL) (Same.nn s1 nr) eL (fun x hx => ?_) ?_
      · rw [List.mem_singleton.mp hx]
        exact a1.same sL
      · exact congrArg (fun z => [z]) hb
    | true =>
      have h0 : H p = some (.tup [.str (Str.ofString "spread"), .int n, .int k]) := h0
      have ha : H a = some (.lst [.ref c.p]) := ha
      walk_at "r"
      refine if_d (fun c => absurd c (by decide +kernel)) (fun _ => ?_)
      walk_at "r"
      refine if_d (fun c => absurd c (by decide +kernel)) (fun _ => ?_)
      walk_at "r"
      refine if_d (fun c => absurd c (by decide +kernel)) (fun _ => ?_)
      walk_at "r"
      refine if_d (fun c => absurd c (by decide +kernel)) (fun _ => ?_)
      walk_at "r"
      refine if_d (fun c => absurd c (by decide +kernel)) (fun _ => ?_)
      walk_at "r"
      refine if_d (fun _ => ?_) (fun c => absurd rfl c)
      walk_at "r"
      refine yp hc fun r1 H1 s1 nr1 a1 => ?_
      have h01 := s1 _ _ h0
      walk_at "r"
      refine vL a1 hf.1 hf.2.1 hf.2.2.2 hf.2.2.1 fun c1 H3 s3 n3 a3 hb => ?_
      walk_at "r"
      refine yp a3 fun r4 H4 s4 nr4 a4 => ?_
      replace hb : (⟨c1.b.h, c1.b.w⟩ : Bo) = ⟨shS c.b.w k 1, shS c.b.h 1 k⟩ := by rw [hb]
      walk_at "r"
      refine zH (by simp) fun r HL nr sL eL => ?_
      refine q r [⟨r4, c1.ph, c1.pw, ⟨c1.b.h, c1.b.w⟩⟩] HL (Same.trans ((s1.trans s3).trans s4) sL) (Same.nn ((s1.trans s3).trans s4) nr) eL (fun x hx => ?_) ?_
      · rw [List.mem_singleton.mp hx]
        exact a4.same sL
      · exact congrArg (fun z => [z]) hb
  | turn n =>
    have h0 := he
    have h0 : H p = some (.tup [.str (Str.ofString "turn"), .int n]) := h0
    have ha : H a = some (.lst [.ref c.p]) := ha
    walk_at "r"
    refine if_d (fun c => absurd c (by decide +kernel)) (fun _ => ?_)
    walk_at "r"
    refine if_d (fun c => absurd c (by decide +kernel)) (fun _ => ?_)
    walk_at "r"
    refine if_d (fun c => absurd c (by decide +kernel)) (fun _ => ?_)
    walk_at "r"
    refine if_d (fun c => absurd c (by decide +kernel)) (fun _ => ?_)
    walk_at "r"
    refine if_d (fun c => absurd c (by decide +kernel)) (fun _ => ?_)
    walk_at "r"
    refine if_d (fun c => absurd c (by decide +kernel)) (fun _ => ?_)
    walk_at "r"
    refine yp hc fun r1 H1 s1 nr1 a1 => ?_
    have hb : (⟨c.b.h, c.b.w⟩ : Bo) = ⟨c.b.h, c.b.w⟩ := rfl
    walk_at "r"
    refine zH (by simp) fun r HL nr sL eL => ?_
    refine q r [⟨r1, c.ph, c.pw, ⟨c.b.h, c.b.w⟩⟩] HL (Same.trans s1 sL) (Same.nn s1 nr) eL (fun x hx => ?_) ?_
    · rw [List.mem_singleton.mp hx]
      exact a1.same sL
    · exact congrArg (fun z => [z]) hb
theorem ok_Yard_do {f : Addr} {fd : FuncData} (F : Fun K "do" "Yard.do" s_Yard_do f fd) (B : Bl mg) (X : Xs K mg cs) (g_TURN : TopS mg "TURN" (Str.ofString "turn")) (o_names_taken : Own P w K mg base 1 "names_taken" ["deed"] [] sp_names_taken) (o_Yard_check_names : OwnM P w K mg base CX0 cs.Yard 2 "check_names" ["self", "names"] [] (sp_Yard_check_names cs)) (o_Yard_put_by : OwnM P w K mg base CX0 cs.Yard 5 "put_by" ["self", "deed", "boards"] [] (sp_Yard_put_by cs)) (o_is_deed : Own P w K mg base 4 "is_deed" ["thing"] [] sp_is_deed) : FnOk P w K mg base CX0 6 f fd ["self", "deed"] (sp_Yard_do cs) := by
  obtain ⟨u_TURN, m_TURN, r_TURN⟩ := g_TURN
  refine F.ok (k := 5) sc_Yard_do (fun vs H Q E h => ?_) (fun cdv A outer s H vs Q E hr h => ?_)
  · obtain ⟨y, d, tn, cl, ns, lg, p, e, c, c', rfl, hy, he, ok, hm, hn, ht, hc, hf, hd, l1, l2, q⟩ := h
    rfl
  obtain ⟨y, d, tn, cl, ns, lg, p, e, c, c', rfl, hy, he, ok, hm, hn, ht, hc, hf, hd, l1, l2, q⟩ := h
  refine ⟨_, (zd (zF (yF (ya (zl o_is_deed hr rfl (za (pv 1) ze)))) (zf yj) zv) (zd (zo (i := 2) sc_Yard_do.nd rfl (Or.inl rfl) (zl o_names_taken hr rfl (za (pv 1) ze))) (zd (z9 (xR o_Yard_check_names vd hr (pv 0) (za (pv 2) ze))) (zd (zF (PW.pt (ym (zp yq (zh zg (pv 1) zc (fun _ _ => rfl)) (yt (v := .str (Str.ofString "turn")) rfl m_TURN r_TURN) (zu _)) (zX (yF (ya (zW (K := K) rfl (pv 0) rfl)))))) (zf yj) zv) (zd (zo (i := 3) sc_Yard_do.nd rfl (Or.inl rfl) (xR o_Yard_put_by vd hr (pv 0) (za (pv 1) (za (yO ["name"] [0] rfl (zZ (pv 2)) (fun _ _ _ _ _ => (zx (i := 0) (show List.Nodup (α := Str) ["name", "self"] by decide +kernel) rfl (Or.inl rfl))) (fun _ _ _ _ _ => z6) (fun _ _ _ _ _ => (zh (r := rIxL K) zq (zW (K := K) rfl (pv 1) rfl) (pv 0) (fun _ _ => rfl)))) ze)))) (zd (ye PassesOwn.never rfl (zZ (pv 2)) (zx (i := 4) sc_Yard_do.nd rfl (Or.inl rfl)) (zf (z9 (Cj (zW (K := K) rfl (pv 0) rfl) (pv 4) ⟨rfl, rfl, rfl, rfl⟩)))) (zd (ye PassesOwn.never rfl (zZ (pv 3)) (zx (i := 5) sc_Yard_do.nd rfl (Or.inl rfl)) (zd (DT (EL hr) (zW (K := K) rfl (pv 0) rfl) (zw zy rfl B.len PySem.boot_len (za (zW (K := K) rfl (pv 0) rfl) ze)) xS rfl) (zf (z9 (tJ PySem.F.plainAttrs_list PySem.F.slot_list_append PySem.F.type_list_append yg (zW (K := K) rfl (pv 0) rfl) (za (pv 5) ze)))))) (zf (z9 (tJ PySem.F.plainAttrs_list PySem.F.slot_list_append PySem.F.type_list_append yg (zW (K := K) rfl (pv 0) rfl) (za (pv 1) ze))))))))))), ?_⟩
  refine zE (σ' := [some (.ref y.p), some (.ref p), none, none, none, none]) rfl ?_
  try dsimp only [cx_K]
  walk_at "r"
  refine Bq he ok fun H1 s1 => ?_
  walk_at "r"
  refine wQ (he.same s1) fun a H2 s2 na ea => ?_
  have t2 := s1.trans s2
  walk_at "r"
  have hy2 := hy.same t2
  have he2 := he.same t2
  refine ⟨_, _, _, rfl, hy2.o, rfl, ?_⟩
  walk_at "r"
  refine y3 hy2 ea hm hn e.names_len ?_
  walk_at "r"
  obtain ⟨rs, hp⟩ := he2.tup
  refine uF hp (yJ (j := 0) rfl) ?_
  walk_at "r"
  refine Hn ?_ (fun ct hB => ?_)
  rotate_left
  · walk_at "r"
    refine ⟨_, _, _, _, _, rfl, hy2.o, X.c_Yard, X.n_Yard_turning, rfl, ?_⟩
    rw [ht (Ep ct)]
    walk_at "rd"
    exact Fk hB
  walk_at "r"
  refine ⟨_, _, _, rfl, hy2.o, rfl, ?_⟩
  walk_at "r"
  refine xM ?_
  walk_at "r"
  refine ⟨a, rfl, ⟨_, SqL.of ea⟩, fun D hD => yH (K := K) (a := a) (ys := e.names.map V.int) (fun i xs σ' H' => ∃ v : Option V, σ' = [v, some (.ref y.p)] ∧ xs = ((e.cells c c').take i).map Cell.v ∧ H' D = some (.lst xs) ∧ SameX D H2 H') ⟨none, rfl, rfl, zm, fun b o e n => by rw [zt n]; exact e⟩ (fun i xs σ' H' _ z => by obtain ⟨v, _, _, _, z⟩ := z; exact SqL.of (z _ _ ea (zj ea hD))) ?_ ?_⟩
  · rintro i x xs σ' H' hi ⟨v, rfl, rfl, eD, sx⟩
    rw [List.getElem?_map] at hi
    obtain ⟨m, hm', rfl⟩ := Option.map_eq_some_iff.mp hi
    obtain ⟨n, x, rfl, hx, hcx⟩ := uk hc hm'
    have hi3 := (List.getElem?_eq_some_iff.mp hm').1
    have hn2 := e.names_len
    have s' : Same H2 H' := fun b o e => sx b o e (zj e hD)
    have hy' := hy2.same s'
    walk_at "r"
    refine ⟨_, _, _, _, _, rfl, hy'.o, X.c_Yard, X.n_Yard_known, rfl, ?_⟩
    walk_at "r"
    refine zU hy'.k (v := x.v) (yJ (by rw [List.getElem?_map, hx]; rfl)) ?_
    walk_at "r"
    refine zD eD (by rw [List.length_map, List.length_take]; omega) fun H3 x3 e3 => ?_
    refine xE (by rw [List.length_map]; exact hi3) ⟨_, rfl, rfl, ?_, sx.trans x3⟩
    rw [List.take_succ, hcx, List.map_append]
    exact e3
  rintro xs σ' H3 ⟨v, rfl, rfl, eD, sx⟩
  have s3 : Same H2 H3 := fun b o e => sx b o e (zj e hD)
  have t3 := t2.trans s3
  have hy3 := hy.same t3
  rw [List.length_map, ← e.cells_len c c', List.take_length] at eD
  walk_at "r"
  refine w6 hy3 (he.same t3) (by rw [eD]; unfold Dd.cells; cases e.two <;> rfl) (hy3.at' c hc.mem.1) (hy3.at' c' hc.mem.2) hd hf fun r N H4 s4 nr er hN hNb => ?_
  have t4 := t3.trans s4
  have hy4 := hy.same t4
  have ea4 := s4 _ _ (s3 _ _ ea)
  have kl : y.k ≠ y.l := yb hy4.k hy4.l (fun z => nomatch z)
  have tl : y.t ≠ y.l := yb hy4.t hy4.l (fun z => nomatch z)
  have ol : y.p ≠ y.l := yb hy4.o hy4.l (fun z => nomatch z)
  have ok' : y.p ≠ y.k := yb hy4.o hy4.k (fun z => nomatch z)
  have ot : y.p ≠ y.t := yb hy4.o hy4.t (fun z => nomatch z)
  have al : a ≠ y.l := yb ea4 hy4.l (fun z => nomatch z)
  have rl : r ≠ y.l := yb er hy4.l (fun z => nomatch z)
  have rk : r ≠ y.k := Ne.symm (zj hy3.k nr)
  walk_at "r"
  refine xp ?_
  walk_at "r"
  refine ⟨a, rfl, ⟨_, SqL.of ea4⟩, yh (K := K) (a := a) (xs := e.names.map V.int) (fun i σ H' => ∃ v, σ = [some (.ref y.p), some (.ref p), some (.ref a), some (.ref r), v, none] ∧ H' y.l = some (.dK (nmK (yf ns (e.names.take i)))) ∧ SameX y.l H4 H') ⟨_, rfl, hy4.l, fun b o e _ => e⟩ (fun i σ H' _ ⟨_, _, _, x⟩ => SqL.of (x _ _ ea4 al)) ?_ ?_⟩
  · rintro i x σ H' hi ⟨v, rfl, el, sx5⟩
    rw [List.getElem?_map] at hi
    obtain ⟨m, hm', rfl⟩ := Option.map_eq_some_iff.mp hi
    obtain ⟨n, hn', rfl⟩ := hm m (List.mem_of_getElem? hm')
    have hni : (n : Int) ∉ e.names.take i := by
      intro hh
      obtain ⟨j, hj⟩ := List.getElem?_of_mem hh
      have hj1 := (List.getElem?_eq_some_iff.mp hj).1
      rw [List.length_take] at hj1
      rw [List.getElem?_take_of_lt (by omega)] at hj
      have := (List.getElem?_inj (i := j) (by omega) hn).mp (hj.trans hm'.symm)
      omega
    have eo := sx5 _ _ hy4.o ol
    walk_at "r"
    refine ⟨_, _, _, _, _, rfl, eo, X.c_Yard, X.n_Yard_lying, rfl, ?_⟩
    refine ⟨y.l, rfl, .inl ⟨_, .inl el⟩, ?_⟩
    walk_at "r"
    refine ⟨_, .inl (n : Int), _, el, rfl, vj (mem_ndrop.mpr ⟨hn', hni⟩), ?_⟩
    refine ⟨_, rfl, ?_, fun b o e n => by rw [zt n]; exact sx5 b o e n⟩
    rw [zm, vC, List.take_succ, hm', show ((some (n : Int)).toList) = [(n : Int)] from rfl, wE]
  rintro σ H5 ⟨v, rfl, el5, sx5⟩
  rw [List.length_map, List.take_length] at el5
  have er5 := sx5 _ _ er rl
  have ek5 := sx5 _ _ hy4.k kl
  have hN2 : N.length ≤ 2 := by rw [← List.length_map (f := Cell.b), hNb]; exact BL e _ _
  have dl := Aq (y8 (ms := e.names) hy.up) (fun n h => hy.lt n (mem_ndrop.mp h).1)
  walk_at "r"
  refine xp ?_
  walk_at "r"
  refine ⟨r, rfl, ⟨_, SqL.of er5⟩, yh (K := K) (a := r) (xs := N.map Cell.v) (fun i σ H' => ∃ v v', σ = [some (.ref y.p), some (.ref p), some (.ref a), some (.ref r), v, v'] ∧ H' y.l = some (.dK (nmK (yf ns e.names ++ List.range' cl.length i))) ∧ H' y.k = some (.lst ((cl ++ N.take i).map Cell.v)) ∧ ∀ b o, H5 b = some o → b ≠ y.k → b ≠ y.l → H' b = some o) ⟨_, _, rfl, by simpa using el5, by simpa using ek5, fun b o e _ _ => e⟩ (fun i σ H' _ ⟨_, _, _, _, _, x⟩ => SqL.of (x _ _ er5 rk rl)) ?_ ?_⟩
  · rintro i x σ H' hi ⟨v1, v2, rfl, el, ek, sx6⟩
    rw [List.getElem?_map] at hi
    obtain ⟨cx, hcx, rfl⟩ := Option.map_eq_some_iff.mp hi
    have hi3 := (List.getElem?_eq_some_iff.mp hcx).1
    have eo := sx6 _ _ (sx5 _ _ hy4.o ol) ok' ol
    have lk : ((cl ++ N.take i).map Cell.v).length = cl.length + i := by rw [List.length_map, List.length_append, List.length_take]; omega
    walk_at "r"
    refine ⟨_, _, _, _, _, rfl, eo, X.c_Yard, X.n_Yard_lying, rfl, ?_⟩
    walk_at "r"
    refine ⟨_, _, _, _, _, rfl, eo, X.c_Yard, X.n_Yard_known, rfl, ?_⟩
    walk_at "r"
    rw [lk]
    refine ⟨y.l, _, rfl, DPut.k (k := .inl ((cl.length + i : Nat) : Int)) el (by simp only [nmK, List.length_map, List.length_append, List.length_range']; exact Nat.lt_of_lt_of_le (show _ < 1000 by omega) (by decide +kernel)), ?_⟩
    have ek' : upd H' y.l (.dK (putK (nmK (yf ns e.names ++ List.range' cl.length i)) (.inl ((cl.length + i : Nat) : Int)) (.bl true))) y.k = some (.lst ((cl ++ N.take i).map Cell.v)) := by rw [zt kl]; exact ek
    walk_at "r"
    refine ⟨_, _, _, _, _, rfl, by rw [zt ol]; exact eo, X.c_Yard, X.n_Yard_known, rfl, ?_⟩
    walk_at "r"
    refine zD ek' (by rw [lk]; omega) fun H7 x7 e7 => ?_
    refine ⟨_, _, rfl, ?_, ?_, fun b o e n1 n2 => x7 _ _ (by rw [zt n2]; exact sx6 b o e n1 n2) n1⟩
    · rw [x7 _ _ zm (Ne.symm kl)]
      rw [Ch _ (wB (fun n hn => ?_))]
      · rw [List.range'_concat, ← List.append_assoc]
        simp [nmK]
      · rcases List.mem_append.mp hn with hn | hn
        · have := hy.lt n (mem_ndrop.mp hn).1
          omega
        · have := List.mem_range'_1.mp hn
          omega
    · rw [List.take_succ, hcx, ← List.append_assoc, List.map_append]
      exact e7
  rintro σ H6 ⟨v1, v2, rfl, el6, ek6, sx6⟩
  rw [List.length_map] at el6 ek6
  rw [List.take_length] at ek6
  have eo6 := sx6 _ _ (sx5 _ _ hy4.o ol) ok' ol
  have et6 := sx6 _ _ (sx5 _ _ hy4.t tl) (Ne.symm hy.kt) tl
  walk_at "r"
  refine ⟨_, _, _, _, _, rfl, eo6, X.c_Yard, X.n_Yard_done, rfl, ?_⟩
  walk_at "r"
  refine zD et6 (by omega) fun H7 x7 e7 => ?_
  walk_at "r"
  have keep : ∀ x : Cell, x.At H4 → x.At H7 := fun x hx => by
    have f : ∀ {b : Addr} {ys : List V}, H4 b = some (.tup ys) → H7 b = some (.tup ys) := fun {b ys} e => x7 _ _ (sx6 _ _ (sx5 _ _ e (yb e hy4.l (fun z => nomatch z))) (yb e hy4.k (fun z => nomatch z)) (yb e hy4.l (fun z => nomatch z))) (yb e hy4.t (fun z => nomatch z))
    exact ⟨f hx.t, f hx.w, f hx.h⟩
  refine q N H7 ⟨x7 _ _ eo6 ot, x7 _ _ ek6 hy.kt, x7 _ _ el6 (Ne.symm tl), e7, hy.kt, fun x hx => ?_, ?_, fun n hn => ?_, by rw [List.length_append]; omega, by rw [List.length_append]; simp only [List.length_cons, List.length_nil]; omega⟩ hNb (fun b o e n1 n2 n3 => x7 _ _ (sx6 _ _ (sx5 _ _ (t4 _ _ e) n2) n1 n2) n3)
  · rcases List.mem_append.mp hx with hx | hx
    · exact keep x (hy4.at' x hx)
    · exact keep x (hN x hx)
  · refine List.pairwise_append.mpr ⟨y8 hy.up, List.pairwise_lt_range' .., fun n1 h1 n2 h2 => ?_⟩
    have := hy.lt n1 (mem_ndrop.mp h1).1
    have := List.mem_range'_1.mp h2
    omega
  · rw [List.length_append]
    rcases List.mem_append.mp hn with hn | hn
    · have := hy.lt n (mem_ndrop.mp hn).1
      omega
    · have := List.mem_range'_1.mp hn
      omega
theorem ok__law_done {f : Addr} {fd : FuncData} (F : Fun K "_law_done" "_law_done" s__law_done f fd) (B : Bl mg)  (o_Yard_boards : OwnM P w K mg base CX0 cs.Yard 1 "boards" ["self"] [] (sp_Yard_boards cs)) (o_timed : Own P w K mg base 3 "timed" ["d", "one", "other"] [] sp_timed) (o_Yard_do : OwnM P w K mg base CX0 cs.Yard 6 "do" ["self", "deed"] [] (sp_Yard_do cs)) (o__law_pair : Own P w K mg base 1 "_law_pair" ["_law_boards", "_law_side_here"] [] sp__law_pair) (o_length : Own P w K mg base 2 "length" ["a", "b", "n"] [] sp_length) : FnOk P w K mg base CX0 7 f fd ["_law_d", "_law_yard", "_law_some", "_law_most"] (sp__law_done cs) := by
  refine F.ok (k := 6) sc__law_done (fun vs H Q E h => ?_) (fun cdv A outer s H vs Q E hr h => ?_)
  · obtain ⟨y, d, D0, D, T, i, s, lg, pm, ms, rfl, hy, yi, hR, hm, hml, hms, hi, hlg, q⟩ := h
    rfl
  obtain ⟨y, d, D0, D, T, i, s, lg, pm, ms, rfl, hy, yi, hR, hm, hml, hms, hi, hlg, q⟩ := h
  refine ⟨_, (zd (zo (i := 4) sc__law_done.nd rfl (Or.inl rfl) (tt o_Yard_boards vd hr (pv 1))) (zd (Ax (zh zq (pv 4) (zk zG (zh zq (pv 2) zc (fun _ _ => rfl)) (zw zy rfl B.len PySem.boot_len (za (pv 4) ze))) (fun _ _ => rfl)) (vO (n := 2) rfl (z4 (zx (i := 5) sc__law_done.nd rfl (Or.inl rfl)) (z4 (zx (i := 6) sc__law_done.nd rfl (Or.inl rfl)) x8)))) (zd (zo (i := 7) sc__law_done.nd rfl (Or.inl rfl) (zk zG (zh zq (pv 2) zc (fun _ _ => rfl)) zc)) (zd (zo (i := 8) sc__law_done.nd rfl (Or.inl rfl) (zk zS zc (zk zG (zh zq (pv 2) zc (fun _ _ => rfl)) (zh zq (zM (za zc (za zc (za zc ze)))) (zk zG (zh zq (pv 2) zc (fun _ _ => rfl)) zc) (fun _ _ => rfl))))) (zd (wC (zF (PW.pt (ym (zp wL (pv 7) zc (zu _)) (zX (zp wL (zw zy rfl B.len PySem.boot_len (za (pv 4) ze)) (pv 3) (zu _))))) (zd (zo (i := 9) sc__law_done.nd rfl (Or.inl rfl) (zh zg (pv 6) (zk zG (pv 7) zc) (fun _ _ => rfl))) (zd (zo (i := 10) sc__law_done.nd rfl (Or.inl rfl) (zl o_timed hr rfl (za (pv 0) (za (pv 9) (za (zl o_length hr rfl (za (zk zS zc (zk zG (zh zq (pv 2) zc (fun _ _ => rfl)) (zk yG (pv 8) zc))) (za zc (za (pv 8) ze)))) ze))))) (zf (z9 (xR o_Yard_do vd hr (pv 1) (za (zA (za (zh zq (zM (za yD (za yD ze))) (zk zG (pv 7) zc) (fun _ _ => rfl)) (za (pv 5) (za (pv 10) ze)))) ze)))))) zv)) (zd (wC (zF (PW.pt (tZ (zp yq (pv 7) zc (zu _)) (vK (zp yq (pv 7) zc (zu _))))) (zf (z9 (xR o_Yard_do vd hr (pv 1) (za (zA (za (zh zq (zM (za yD (za yD ze))) (zk yG (pv 7) zc) (fun _ _ => rfl)) (za (pv 5) (za (pv 8) ze)))) ze)))) zv)) (zf (zF (zp xI (pv 7) zc (zu _)) (zd (zo (i := 11) sc__law_done.nd rfl (Or.inl rfl) (zl o__law_pair hr rfl (za (pv 4) (za (zk zG (pv 7) zc) ze)))) (zf (zF (zp Cb (pv 11) CY (zu _)) (zf (z9 (xR o_Yard_do vd hr (pv 1) (za (zA (za (zh zq (zM (za yD (za yD ze))) (zk zG (pv 7) zc) (fun _ _ => rfl)) (za (zh zg (pv 11) zc (fun _ _ => rfl)) (za (zh zg (pv 11) zc (fun _ _ => rfl)) ze)))) ze)))) zv))) zv)))))))), ?_⟩
  refine zE (σ' := [some (.int d), some (.ref y.p), some (.ref pm), some (.int 20), none, none, none, none, none, none, none, none]) rfl ?_
  try dsimp only [cx_K]
  obtain ⟨m0, gm0, m00, m01⟩ := dig hml hms 0 (by decide) (by decide)
  obtain ⟨m1, gm1, m10, m11⟩ := dig hml hms 1 (by decide) (by decide)
  obtain ⟨m2, gm2, m20, m21⟩ := dig hml hms 2 (by decide) (by decide)
  obtain ⟨m3, gm3, m30, m31⟩ := dig hml hms 3 (by decide) (by decide)
  obtain ⟨m4, gm4, m40, m41⟩ := dig hml hms 4 (by decide) (by decide)
  have hd64 : Bd 64 d := yn (B := 99) (by have := hR.lo; omega) hR.hi (by decide +kernel)
  obtain ⟨cl, hyc, hk, hrel⟩ := hy
  have kl := yi.kl
  walk_at "r"
  refine ⟨_, _, _, rfl, hyc.o, rfl, ?_⟩
  walk_at "r"
  refine wS hyc fun r H2 prs s2 nr e2 hprs => ?_
  have hm2 := s2 _ _ hm
  have hy2 := hyc.same s2
  have nl1 : 1 ≤ s.ns.length := List.length_pos_iff.mpr yi.ne
  have hpl : (((prs.map V.ref).length : Nat) : Int) = (s.ns.length : Int) := by rw [List.length_map, hprs.1]
  have nl20 := yi.nl
  walk_at "r"
  refine zU hm2 gm1 ?_
  walk_at "r"
  rw [hpl]
  have x0 := Int.emod_nonneg m1 (show (s.ns.length : Int) ≠ 0 by omega)
  have x1 := Int.emod_lt_of_pos m1 (show (0 : Int) < (s.ns.length : Int) by omega)
  obtain ⟨kk, hkk, hkl⟩ : ∃ kk : Nat, m1 % (s.ns.length : Int) = (kk : Int) ∧ kk < prs.length := ⟨(m1 % (s.ns.length : Int)).toNat, by omega, by rw [hprs.1]; omega⟩
  rw [hkk]
  obtain ⟨n, c, hn, hc, en⟩ := hprs.2 kk _ (List.getElem?_eq_getElem hkl)
  refine zU e2 (show atI (prs.map V.ref) (kk : Int) = some (.ref prs[kk]) from yJ (by rw [List.getElem?_map, List.getElem?_eq_getElem hkl]; rfl)) ?_
  generalize prs[kk] = pk at *
  have hns : n ∈ s.ns := List.mem_of_getElem? hn
  have hcm : c ∈ cl := List.mem_of_getElem? hc
  have ac := hy2.at' c hcm
  have act := ac.t
  have hbc : c.b = s.g n := by
    obtain ⟨c2, h1, h2⟩ := hrel n (hk ▸ hyc.lt n hns)
    rw [hc] at h1
    rw [Option.some.inj h1]
    exact h2
  have obn := yi.ob n hns
  walk_at "r"
  refine zU hm2 gm0 ?_
  walk_at "r"
  refine zU hm2 gm2 ?_
  walk_at "r"
  refine xc (by simp) fun p3 H3 s3 e3 => ?_
  have hm3 := s3 _ _ hm2
  walk_at "r"
  refine zU hm3 gm4 ?_
  walk_at "r"
  obtain ⟨t, ht, t2, t9⟩ : ∃ t : Int, atI [V.int 2, V.int 4, V.int 9] (m4 % 3) = some (.int t) ∧ 2 ≤ t ∧ t ≤ 9 := by
    have : m4 % 3 = 0 ∨ m4 % 3 = 1 ∨ m4 % 3 = 2 := by omega
    rcases this with z | z | z <;> rw [z]
    · exact ⟨2, rfl, by decide, by decide⟩
    · exact ⟨4, rfl, by decide, by decide⟩
    · exact ⟨9, rfl, by decide, by decide⟩
  refine zU e3 ht ?_
  have tp : (0 : Int) < t := by omega
  have u0 := Int.emod_nonneg m2 (show t ≠ 0 by omega)
  have u1 := Int.emod_lt_of_pos m2 tp
  walk_at "r"
  obtain ⟨w, hw, w0, w7⟩ : ∃ w : Int, m0 % 8 = w ∧ 0 ≤ w ∧ w ≤ 7 := ⟨_, rfl, by omega, by omega⟩
  obtain ⟨m, hmm, mm2, mm10⟩ : ∃ m : Int, 2 + m2 % t = m ∧ 2 ≤ m ∧ m ≤ 10 := ⟨_, rfl, by omega, by omega⟩
  rw [hw, hmm]
  have bm : Bd 4 m := bd4 (by omega) (by omega)
  have s23 := s2.trans s3
  have e2' := s3 _ _ e2
  have hy3 := hy2.same s3
  have ac3 := ac.same s3
  have act3 := ac3.t
  have hpr3 : Prs cl s.ns H3 prs := ⟨hprs.1, fun j p hp => by obtain ⟨n, c, h1, h2, h3⟩ := hprs.2 j p hp; exact ⟨n, c, h1, h2, s3 _ _ h3⟩⟩
  have frm3 : Frm y H H3 := fun b o e _ _ _ => s23 _ _ e
  have st3 : YdS cs.Yard H3 y d false s lg := ⟨cl, hy3, hk, hrel⟩
  have pst : (∃ (s' : As) (D' : Int) (lg' : List V), Frm y H H3 ∧ YdS cs.Yard H3 y d false s' lg' ∧ YI d D0 D' T (i + 1) s' ∧ lg'.length ≤ i + 1) := ⟨s, D, lg, frm3, st3, yi.skip, by omega⟩
  have hy3k : H3 y.k = some (.lst (cl.map Cell.v)) := hy3.k
  walk_at "r"
  refine tK (T := fun σ' H' => ∃ v1 v2, σ' = [some (.int d), some (.ref y.p), some (.ref pm), some (.int 20), some (.ref r), some (.int (n : Int)), some (.ref c.p), some (.int w), some (.int m), v1, v2, none] ∧ ((w < 3 ∧ (∃ (s' : As) (D' : Int) (lg' : List V), Frm y H H' ∧ YdS cs.Yard H' y d false s' lg' ∧ YI d D0 D' T (i + 1) s' ∧ lg'.length ≤ i + 1)) ∨ (3 ≤ w ∧ H' = H3))) ?_ ?_
  · walk_at "r"
    refine if_d (fun c1 => ?_) (fun c1 => ?_)
    · walk_at "r"
      rw [hpl]
      refine if_d (fun c2 => ?_) (fun c2 => ?_)
      · have hal : ∃ al : Bool, w % 2 = (if al then 1 else 0) := by
          by_cases z : w % 2 = 0
          · exact ⟨false, z⟩
          · exact ⟨true, show w % 2 = 1 by omega⟩
        obtain ⟨al, hal⟩ := hal
        have p0 := Int.emod_nonneg m3 (show m - 1 ≠ 0 by omega)
        have p1 := Int.emod_lt_of_pos m3 (show (0 : Int) < m - 1 by omega)
        obtain ⟨lb, la, ln, lm⟩ := Ct (p := 1 + m3 % (m - 1)) (m := m) (by omega) (by omega)
        walk_at "r"
        rw [hal]
        refine uF act3 (Ea al c.pw c.ph) ?_
        have mp : (0 : Int) < m - 1 := by omega
        walk_at "r"
        refine zU hm3 gm3 ?_
        walk_at "r"
        generalize hp : 1 + m3 % (m - 1) = p at *
        have bp : Bd 4 p := bd4 (by omega) (by omega)
        refine z5 (a := p) (b := 0) (n := m) rfl (by omega) (bm.mono (by decide)) (fun p4 H4 s4 e4 => ?_) (bp.mono (by decide)) (by decide +kernel)
        rw [lb] at e4
        generalize lA p 0 m = x' at *
        generalize lN p 0 m = z' at *
        have bz : Bd 4 z' := bd4 (by omega) (by omega)
        have bx : Bd 4 x' := bd4 (by omega) (by omega)
        have osd : So d D (240 + 8 * i) (if al then (s.g n).h else (s.g n).w) := by
          cases al
          · exact obn.1
          · exact obn.2
        have sksd := osd.sk yi.d1 yi.bd
        have esd := DZ ac3 al
        rw [hbc] at esd
        walk_at "r"
        refine AO (s4 _ _ esd) e4 hd64 (sksd.bx.mono (by omega)) (sksd.by'.mono (by omega)) (sksd.bz.mono (by omega)) (bx.mono (by decide)) (by decide +kernel) (bz.mono (by decide)) sksd.ne (by omega) fun p5 H5 s5 e5 => ?_
        generalize hsd : (if al then (s.g n).h else (s.g n).w) = sd at *
        rw [show sd.x * x' + d * sd.y * 0 = sd.x * x' by omega, show sd.x * 0 + sd.y * x' = sd.y * x' by omega] at e5
        have e5 : SdAt H5 p5 (shS sd x' z') := e5
        obtain ⟨st, nb⟩ := cutB (tn := false) (al := al) (n := n) hR (yi.sz (by omega) bz (by omega)) hns obn la ln bz
        rw [hsd] at st nb
        have hy5 := (hy3.same s4).same s5
        walk_at "r"
        refine ⟨_, _, _, rfl, hy5.o, rfl, ?_⟩
        walk_at "r"
        refine xc (by simp) fun p6 H6 s6 e6 => ?_
        walk_at "r"
        rw [hal]
        refine zU e6 (show atI [V.str (Str.ofString "across"), V.str (Str.ofString "along")] (if al then 1 else 0) = some (.str (Dd.cut al n (shS sd x' z')).wd) by cases al <;> rfl) ?_
        walk_at "r"
        refine zC (by simp) fun p7 H7 s7 e7 => ?_
        have t57 := s6.trans s7
        have t37 := (s4.trans s5).trans t57
        have he : DdAt H7 p7 (.cut al n (shS sd x' z')) := ⟨p5, e7, t57 _ _ e5⟩
        refine xV (cs := cs) (c := c) (c' := c) (hy5.same t57) he st.ok st.nms.names_in st.nms.nodup st.tn (st.nms.cells hc hc) (by rw [hbc]; exact st.fit) hd64 (by omega) (by omega) fun N' H9 hy9 hN9 fr9 => ?_
        rw [hbc] at hN9
        walk_at "r"
        exact ⟨_, _, rfl, .inl ⟨c1, s.next (.cut al n (shS sd x' z'), n, n), D * z', lg ++ [.ref p7], fun b o e n1 n2 n3 => fr9 _ _ (t37 _ _ (s23 _ _ e)) n1 n2 n3, YdS.next hk hrel hy9 hN9, yi.step (by omega) bz st nb (.inr (by omega)), by rw [List.length_append]; simp only [List.length_cons, List.length_nil]; omega⟩⟩
      · walk_at "r"
        exact ⟨_, _, rfl, .inl ⟨c1, pst⟩⟩
    · walk_at "r"
      exact ⟨_, _, rfl, .inr ⟨by omega, rfl⟩⟩
  rintro σ' H4 ⟨v1, v2, rfl, hcase⟩
  walk_at "r"
  refine tK (T := fun σ' H' => ∃ v1 v2, σ' = [some (.int d), some (.ref y.p), some (.ref pm), some (.int 20), some (.ref r), some (.int (n : Int)), some (.ref c.p), some (.int w), some (.int m), v1, v2, none] ∧ ((w < 5 ∧ (∃ (s' : As) (D' : Int) (lg' : List V), Frm y H H' ∧ YdS cs.Yard H' y d false s' lg' ∧ YI d D0 D' T (i + 1) s' ∧ lg'.length ≤ i + 1)) ∨ (5 ≤ w ∧ H' = H3))) ?_ ?_
  · walk_at "r"
    refine GQ (q := w = 4) (fun c3 => ?_) (fun c3 hX => ?_)
    · have h43 : H4 = H3 := by
        rcases hcase with h | h
        · omega
        · exact h.2
      subst h43
      obtain ⟨al, hal⟩ : ∃ al : Bool, w - 3 = (if al then 1 else 0) := by
        rcases c3 with z | z
        · exact ⟨false, show w - 3 = 0 by omega⟩
        · exact ⟨true, show w - 3 = 1 by omega⟩
      obtain ⟨st, nb⟩ := Fe (tn := false) (al := al) (n := n) hR (yi.sz (by omega) bm (by omega)) hns obn (by omega) bm
      walk_at "r"
      refine ⟨_, _, _, rfl, hy3.o, rfl, ?_⟩
      walk_at "r"
      refine xc (by simp) fun p6 H6 s6 e6 => ?_
      walk_at "r"
      rw [hal]
      refine zU e6 (show atI [V.str (Str.ofString "stack"), V.str (Str.ofString "spread")] (if al then 1 else 0) = some (.str (Dd.shift al n m).wd) by cases al <;> rfl) ?_
      walk_at "r"
      refine zC (by simp) fun p7 H7 s7 e7 => ?_
      have t37 := s6.trans s7
      have he : DdAt H7 p7 (.shift al n m) := e7
      refine xV (cs := cs) (c := c) (c' := c) (hy3.same t37) he st.ok st.nms.names_in st.nms.nodup st.tn (st.nms.cells hc hc) (by rw [hbc]; exact st.fit) hd64 (by omega) (by omega) fun N' H9 hy9 hN9 fr9 => ?_
      rw [hbc] at hN9
      walk_at "r"
      exact ⟨_, _, rfl, .inl ⟨by omega, s.next (.shift al n m, n, n), D * m, lg ++ [.ref p7], fun b o e n1 n2 n3 => fr9 _ _ (t37 _ _ (s23 _ _ e)) n1 n2 n3, YdS.next hk hrel hy9 hN9, yi.step (by omega) bm st nb (.inl rfl), by rw [List.length_append]; simp only [List.length_cons, List.length_nil]; omega⟩⟩
    · walk_at "r"
      refine if_d (fun c4 => hX c4) (fun c4 => ?_)
      walk_at "r"
      refine ⟨_, _, rfl, ?_⟩
      rcases hcase with h | h
      · exact .inl ⟨by omega, h.2⟩
      · exact .inr ⟨by omega, h.2⟩
  rintro σ' H5 ⟨v3, v4, rfl, hcase2⟩
  walk_at "r"
  refine if_d (fun c5 => ?_) (fun c5 => ?_)
  · have h53 : H5 = H3 := by
      rcases hcase2 with h | h
      · omega
      · exact h.2
    subst h53
    obtain ⟨sd, hsd⟩ : ∃ sd : Bool, w % 2 = (if sd then 1 else 0) := by
      by_cases z : w % 2 = 0
      · exact ⟨false, z⟩
      · exact ⟨true, show w % 2 = 1 by omega⟩
    walk_at "r"
    rw [hsd]
    refine uz e2' hpr3 hy3.at' yi.up (by omega) ?_ fun p6 H6 n' m' c1 c2 s6 e6 hn1 hm1 nm hc1 hc2 hsame => ?_
    · walk_at "r"
      obtain ⟨s', D', lg', f1, f2, f3, f4⟩ := pst
      exact q _ s' D' lg' f1 f2 f3 f4
    · have rel : ∀ n c, n ∈ s.ns → cl[n]? = some c → c.b = s.g n := fun n c hn hc => by
        obtain ⟨c3, h1, h2⟩ := hrel n (hk ▸ hyc.lt n hn)
        rw [hc] at h1
        rw [Option.some.inj h1]
        exact h2
      have b1 := rel n' c1 hn1 hc1
      have b2 := rel m' c2 hm1 hc2
      rw [b1, b2] at hsame
      obtain ⟨st, nb⟩ := GP (tn := false) (al := !sd) (n := n') (m := m') hR (by have := yi.sz (show (1 : Int) ≤ 1 by decide) (by decide) (by omega); rw [Int.mul_one] at this; exact this) hn1 hm1 nm (yi.ob n' hn1) (yi.ob m' hm1) (by cases sd <;> exact hsame)
      have hy6 := hy3.same s6
      walk_at "r"
      rw [show decide (V.ref p6 = V.non) = false from decide_eq_false (fun z => nomatch z)]
      walk_at "r"
      refine ⟨_, _, _, rfl, hy6.o, rfl, ?_⟩
      walk_at "r"
      refine xc (by simp) fun p7 H7 s7 e7 => ?_
      have e67 := s7 _ _ e6
      walk_at "r"
      rw [hsd]
      refine zU e7 (show atI [V.str (Str.ofString "atop"), V.str (Str.ofString "beside")] (if sd then 1 else 0) = some (.str (Dd.glue (!sd) n' m').wd) by cases sd <;> rfl) ?_
      walk_at "r"
      refine zC (by simp) fun p8 H8 s8 e8 => ?_
      have t38 := (s6.trans s7).trans s8
      have he : DdAt H8 p8 (.glue (!sd) n' m') := e8
      refine xV (cs := cs) (c := c1) (c' := c2) (hy3.same t38) he st.ok st.nms.names_in st.nms.nodup st.tn (st.nms.cells hc1 hc2) (by rw [b1, b2]; exact st.fit) hd64 (by omega) (by omega) fun N' H9 hy9 hN9 fr9 => ?_
      rw [b1, b2] at hN9
      walk_at "r"
      exact q H9 (s.next (.glue (!sd) n' m', n', m')) (D * 1) (lg ++ [.ref p8]) (fun b o e n1 n2 n3 => fr9 _ _ (t38 _ _ (s23 _ _ e)) n1 n2 n3) (YdS.next hk hrel hy9 hN9) (yi.step (by decide) (by decide) st (by rw [Int.mul_one]; exact nb) (.inl rfl)) (by rw [List.length_append]; simp only [List.length_cons, List.length_nil]; omega)
  · walk_at "r"
    rcases hcase2 with ⟨_, s', D', lg', f1, f2, f3, f4⟩ | h
    · exact q _ s' D' lg' f1 f2 f3 f4
    · omega
theorem CV {cl : List Cell} {g : Nat → Bo} : ∀ {ns : List Nat}, (∀ n ∈ ns, ∃ c, cl[n]? = some c ∧ c.b = g n) → (pick cl ns).map Cell.b = ns.map g
  | [], _ => rfl
  | n :: ns, h => by
    obtain ⟨c, h1, h2⟩ := h n List.mem_cons_self
    have ih := CV (ns := ns) fun m hm => h m (List.mem_cons_of_mem _ hm)
    simp only [pick, List.filterMap_cons, h1, List.map_cons, h2] at ih ⊢
    rw [ih]
theorem EA {p : Prop} [Decidable p] : (if p then ([] : List V) else [V.int 7]).length ≤ 1 := by split <;> simp
def lnOf (c : Cell) : Ln := ⟨c.pw, c.b.w⟩
theorem uw {d N E : Int} {p pb r1 r2 : Addr} {s : B4} {C : List Cell} {M0 M : Nat} {H : Hp} {Q : VK} {X : XK} (hl : H p = some (.lst (C.map Cell.v))) (hA : ∀ c ∈ C, c.At H) (fb : BsAt H pb r1 r2 s N) (hN : 1 ≤ N) (hNb : Bd 900 N) (gb : GB d 900 s) (h1 : 1 ≤ C.length) (h60 : C.length ≤ 60) (hd : Bd 64 d) (hE : 1 ≤ E) (bD : Bd 900 (N * E)) (hC : ∀ c ∈ C, BK d s N E M0 M c.b) (hx : ∀ c ∈ C, Bd 900 (bxD s N (N * E) c.b).x ∧ Bd 900 (bxD s N (N * E) c.b).y)
    (q : ∀ (l : Addr) (H' : Hp) (R : List Cell), H l = none → Same H H' → H' l = some (.lst (R.map Cell.v)) → (∀ c ∈ R, c.At H') → R.map Cell.b = nrmD s N E (C.map Cell.b) → Q (.ref l) H') : sp_normal_heap ([.int d, .ref p, .ref pb] ++ []) H Q X := by
  have hl' : ((C.map Cell.b).map (bxD s N (N * E))).length = C.length := by rw [List.length_map, List.length_map]
  refine ve (D := N * E) (hb := (C.map Cell.b).map (bxD s N (N * E))) hl hA fb hN hNb gb hl'.symm (by omega) (by omega) hd (Int.mul_pos (by omega) (by omega)) bD (fun k c b hc hb => ?_) (fun b hb => ?_) q
  · rw [List.getElem?_map, List.getElem?_map, hc] at hb
    have e : b = bxD s N (N * E) c.b := (Option.some.inj hb).symm
    subst e
    have bk := hC c (List.mem_of_getElem? hc)
    exact ⟨bk.w, congrArg Bo.h bk.bo⟩
  · obtain ⟨b', hb', rfl⟩ := List.mem_map.mp hb
    obtain ⟨c, hc, rfl⟩ := List.mem_map.mp hb'
    have bk := (hC c hc).ok
    exact ⟨bk.bi, bk.bj, hx c hc⟩
theorem B7 {K : PySem.W.Frag} {H : Hp} {Q : VK} {a : Addr} {xs : List V} {v : V} (h : H a = some (.lst (xs ++ [v]))) (q : ∀ (p : Addr) (H2 : Hp), Same H H2 → H2 p = some (.lst xs) → Q (.ref p) H2) : rSlL K (.ref a) none (some (-1)) H Q := by
  refine ⟨a, _, rfl, SqL.of h, fun p hp => ?_⟩
  refine q p _ (zI hp _) ?_
  rw [zm]
  congr 2
  have e : HT.sIx (xs ++ [v]).length (xs ++ [v]).length (some (-1)) = xs.length := by
    unfold HT.sIx
    rw [List.length_append]
    simp
    try omega
  unfold cutV
  rw [e, HT.sIx_none, List.drop_zero, Nat.sub_zero, List.take_left]
theorem Ey {X : Cx} {H : Hp} {Q : VK} {a b : Addr} {C D : List Cell} (ha : H a = some (.lst (C.map Cell.v))) (hb : H b = some (.lst (D.map Cell.v))) (hC : ∀ c ∈ C, c.At H) (hD : ∀ c ∈ D, c.At H) (hl : C.length = D.length) (e : C.map Cell.b ≠ D.map Cell.b) (q : Q (.bl true) H) : rNeL X (.ref a) (.ref b) H Q := by
  have ev : ∀ (s t : Sd) (p q : Addr), SdAt H p s → SdAt H q t → ∃ b, EqV X 1 H (.ref p) (.ref q) b ∧ (b = true ↔ s = t) := fun s t p q hp hq => by
    have hs : ([s.x == t.x, s.y == t.y, s.z == t.z].all id = true) ↔ s = t := by
      cases s
      cases t
      simp [Sd.mk.injEq]
    have z := EqV.tup (X := X) (n := 0) (SqT.of hp) (SqT.of hq) (.cons (EqV.int s.x t.x) (.cons (EqV.int s.y t.y) (.cons (EqV.int s.z t.z) .nil))) (fun e => by
      subst e
      refine hs.mpr ?_
      have h := hp.symm.trans hq
      cases s
      cases t
      simp at h
      obtain ⟨rfl, rfl, rfl⟩ := h
      rfl)
    exact ⟨_, z, hs⟩
  have key : ∀ (C D : List Cell), (∀ c ∈ C, c.At H) → (∀ c ∈ D, c.At H) → C.length = D.length → ∃ bs, EqVs X 2 H (C.map Cell.v) (D.map Cell.v) bs ∧ (bs.all id = true → C.map Cell.b = D.map Cell.b) := fun C => by
    induction C with
    | nil =>
      intro D _ _ h
      have : D = [] := List.length_eq_zero_iff.mp h.symm
      subst this
      exact ⟨[], .nil, fun _ => rfl⟩
    | cons c C ih =>
      intro D hC hD h
      cases D with
      | nil => cases h
      | cons f D =>
        obtain ⟨bs, h1, h2⟩ := ih D (fun x hx => hC x (List.mem_cons_of_mem _ hx)) (fun x hx => hD x (List.mem_cons_of_mem _ hx)) (Nat.succ.inj h)
        have ac := hC c List.mem_cons_self
        have af := hD f List.mem_cons_self
        obtain ⟨b1, w1, w2⟩ := ev _ _ _ _ ac.w af.w
        obtain ⟨b2, g1, g2⟩ := ev _ _ _ _ ac.h af.h
        have z := EqV.tup (X := X) (n := 1) (SqT.of ac.t) (SqT.of af.t) (.cons w1 (.cons g1 .nil)) (fun e => by
          have h3 := ac.t.symm.trans ((congrArg H e).trans af.t)
          simp at h3
          have ew : c.b.w = f.b.w := by
            have h := ac.w.symm.trans ((congrArg H h3.1).trans af.w)
            cases hs : c.b.w
            cases ht : f.b.w
            rw [hs, ht] at h
            simp at h
            obtain ⟨rfl, rfl, rfl⟩ := h
            rfl
          have eh : c.b.h = f.b.h := by
            have h := ac.h.symm.trans ((congrArg H h3.2).trans af.h)
            cases hs : c.b.h
            cases ht : f.b.h
            rw [hs, ht] at h
            simp at h
            obtain ⟨rfl, rfl, rfl⟩ := h
            rfl
          simp [w2.mpr ew, g2.mpr eh])
        refine ⟨_, .cons z h1, fun q => ?_⟩
        rw [List.all_cons] at q
        have q1 := (Bool.and_eq_true_iff.mp q)
        have w : b1 = true ∧ b2 = true := by simpa using q1.1
        have ew := w2.mp w.1
        have eh := g2.mp w.2
        rw [List.map_cons, List.map_cons, h2 q1.2]
        congr 1
        cases hb : c.b
        cases hf : f.b
        rw [hb, hf] at ew eh
        have ew := ew
        have eh := eh
        simp only at ew eh
        rw [ew, eh]
  obtain ⟨bs, h1, h2⟩ := key C D hC hD hl
  refine ⟨a, b, _, _, bs, 2, rfl, rfl, by decide, SqL.of ha, SqL.of hb, h1, ?_⟩
  have : bs.all id = false := by
    cases z : bs.all id with
    | false => rfl
    | true => exact absurd (h2 z) e
  rw [this]
  exact q
theorem ok_law {f : Addr} {fd : FuncData} (F : Fun K "law" "law" s_law f fd) (B : Bl mg) (X : Xs K mg cs) (o__law_root : Own P w K mg base 2 "_law_root" ["_law_script"] [] (sp__law_root K)) (o__law_heap : Own P w K mg base 5 "_law_heap" ["_law_d", "_law_cells"] [] sp__law_heap) (o_Yard___init___3 : OwnI P w K mg base CX0 cs.Yard 1 "Yard" ["self", "d", "heap", "turning"] [.bl false] (sp_Yard___init__ cs)) (o_Yard_heap : OwnM P w K mg base CX0 cs.Yard 1 "heap" ["self"] [] (sp_Yard_heap cs)) (o_serving : Own P w K mg base 5 "serving" ["d", "lengths"] [] (sp_serving K)) (o_normal_heap : Own P w K mg base 5 "normal_heap" ["d", "heap", "base"] [] sp_normal_heap) (o__law_done : Own P w K mg base 7 "_law_done" ["_law_d", "_law_yard", "_law_some", "_law_most"] [] (sp__law_done cs)) (o__law_like : Own P w K mg base 2 "_law_like" ["_law_one", "_law_other"] [] sp__law_like) (o__law_digits : Own P w K mg base 1 "_law_digits" ["_law_cell_here", "_law_k", "_law_many"] [] sp__law_digits) (o_added : Own P w K mg base 2 "added" ["one", "other"] [] (sp_added K)) (o_length : Own P w K mg base 2 "length" ["a", "b", "n"] [] sp_length) : FnOk P w K mg base CX0 8 f fd ["_law_script"] (Cz K) := by
  refine F.ok (k := 7) sc_law (fun vs H Q E h => ?_) (fun cdv A outer s H vs Q E hr h => ?_)
  · obtain ⟨a, ns, rfl, hS, h63, hbd, q⟩ := h
    rfl
  obtain ⟨a, ns, rfl, hS, h63, hbd, q⟩ := h
  refine ⟨_, (zd (zo (i := 1) sc_law.nd rfl (Or.inl rfl) (zl o__law_root hr rfl (za (pv 0) ze))) (zd (zo (i := 2) sc_law.nd rfl (Or.inl rfl) (zl o__law_heap hr rfl (za (pv 1) (za (zk Af (yP xm (pv 0) (yL zc) (yL zc)) (zk E2 (zM (za zc ze)) (y9 BA rfl B.int Dl (za (zP wL (zw zy rfl B.len PySem.boot_len (za (pv 0) ze)) zc (zu _)) ze)))) ze)))) (zd (zo (i := 3) sc_law.nd rfl (Or.inl rfl) (Dw o_Yard___init___3 vd hr rfl (za (pv 1) (za (pv 2) ze)))) (zd (ye PassesOwn.never rfl (vM rfl B.range (za zc (za (zw (Ah rfl) rfl B.min C2 (za (zw zy rfl B.len PySem.boot_len (za (pv 0) ze)) (za zc ze))) ze))) (zx (i := 4) sc_law.nd rfl (Or.inl rfl)) (zf (z9 (zl o__law_done hr rfl (za (pv 1) (za (pv 3) (za (zl o__law_digits hr rfl (za (zh zq (pv 0) (pv 4) (fun _ _ => rfl)) (za (pv 4) (za zc ze)))) (za zc ze)))))))) (zd (zo (i := 5) sc_law.nd rfl (Or.inl rfl) (tt o_Yard_heap vd hr (pv 3))) (zd (zF (yF (ya (zl o__law_like hr rfl (za (pv 2) (za (pv 5) ze))))) (zf (zr xS)) zv) (zd (zo (i := 6) sc_law.nd rfl (Or.inl rfl) (zl o_serving hr rfl (za (pv 1) (za (yO ["_law_width", "_law_height"] [] rfl (zZ (zk Af (pv 2) (pv 5))) (fun _ _ _ _ _ => (DF (n := 2) (K := K) rfl rfl (z4 (zx (i := 0) (show List.Nodup (α := Str) ["_law_width", "_law_height"] by decide +kernel) rfl (Or.inl rfl)) (z4 (zx (i := 1) (show List.Nodup (α := Str) ["_law_width", "_law_height"] by decide +kernel) rfl (Or.inl rfl)) x8)))) (fun _ _ _ _ _ => z6) (fun _ _ _ _ _ => (pv 0))) ze)))) (zd (zo (i := 7) sc_law.nd rfl (Or.inl rfl) (zl o_normal_heap hr rfl (za (pv 1) (za (pv 2) (za (pv 6) ze))))) (zd (zF (zp (CS hr.units) (zl o_normal_heap hr rfl (za (pv 1) (za (pv 5) (za (pv 6) ze)))) (pv 7) (zu _)) (zf (zr xS)) zv) (zd (Ax (zh zq (pv 5) (Am vn zc) (fun _ _ => rfl)) (vO (n := 2) rfl (z4 (zx (i := 8) sc_law.nd rfl (Or.inl rfl)) (z4 (zx (i := 9) sc_law.nd rfl (Or.inl rfl)) x8)))) (zf (zr (zP (CS hr.units) (zl o_normal_heap hr rfl (za (pv 1) (za (zk Af (yP xm (pv 5) vc (yL (Am vn zc))) (WE.w (Ff (uC (FY (uC (FX (pv 8)) (uC (FX (zl o_added hr rfl (za (pv 9) (za (zl o_length hr rfl (za zc (za zc (za zc ze)))) ze)))) CZ))) CZ)))) (za (pv 6) ze)))) (pv 7) (zu _)))))))))))))), ?_⟩
  refine zE (σ' := [some (.ref a), none, none, none, none, none, none, none, none, none]) rfl ?_
  try dsimp only [cx_K]
  walk_at "r"
  refine uf hS hbd fun d H0 hR s0 => ?_
  have hS0 := s0.seq hS
  walk_at "r"
  refine FU (i := 1) (j := 9) hS0 fun p1 H1 s1 e1 => ?_
  have hS1 := s1.seq hS0
  walk_at "r"
  refine xc (by simp) fun p2 H2 s2 e2 => ?_
  have hS2 := s2.seq hS1
  walk_at "r"
  refine ⟨a, _, rfl, .inl hS2, ?_⟩
  rw [List.length_map]
  walk_at "r"
  refine GO e2 (by split <;> decide) (by split <;> decide) (by simp) fun p3 H3 s3 e3 => ?_
  refine DQ (s3 _ _ (s2 _ _ e1)) e3 (Nat.le_trans (Nat.add_le_add_left EA _) (by rw [List.length_map, List.length_take]; omega)) fun p4 H4 s4 e4 => ?_
  obtain ⟨cz, ecs, cs1, cs9, csb⟩ : ∃ cz : List Int, H4 p4 = some (.lst (cz.map V.int)) ∧ 1 ≤ cz.length ∧ cz.length ≤ 9 ∧ ∀ x ∈ cz, Bd 1048576 x := by
    by_cases c : (ns.length : Int) < 2
    · refine ⟨(ns.drop 1).take (9 - 1) ++ [7], ?_, ?_, ?_, fun x hx => ?_⟩
      · rw [if_neg (by rw [decide_eq_true c]; decide)] at e4
        rw [List.map_append]
        exact e4
      · rw [List.length_append]; simp only [List.length_cons, List.length_nil]; omega
      · rw [List.length_append, List.length_take]; simp only [List.length_cons, List.length_nil]; omega
      · rcases List.mem_append.mp hx with h | h
        · exact hbd x (List.mem_of_mem_drop (List.mem_of_mem_take h))
        · have : x = 7 := by simpa using h
          subst this
          exact (wc 7).mono (by decide +kernel)
    · refine ⟨(ns.drop 1).take (9 - 1), ?_, ?_, ?_, fun x hx => hbd x (List.mem_of_mem_drop (List.mem_of_mem_take hx))⟩
      · rw [if_pos (by rw [decide_eq_false c]; rfl), List.append_nil] at e4
        exact e4
      · rw [List.length_take, List.length_drop]; omega
      · rw [List.length_take]; omega
  have hS4 := s4.seq (s3.seq hS2)
  clear e1 e2 e3 e4
  walk_at "r"
  refine uB ecs csb (by omega) hR fun ph H5 C s5 eph hA hO hCl => ?_
  have hS5 := s5.seq hS4
  obtain ⟨D1, Db, Dd'⟩ := vU (k := 12) (l := C.map Cell.b) fun b hb => by
    obtain ⟨c, hc, rfl⟩ := List.mem_map.mp hb
    have o := hO c hc
    exact ⟨o.1.1.z1, o.1.2.z1, o.1.1.bz, o.1.2.bz⟩
  have Db : Bd 220 (pzb (C.map Cell.b)) := Db.mono (by rw [List.length_map]; omega)
  have Dd' : ∀ c ∈ C, c.b.w.z ∣ pzb (C.map Cell.b) ∧ c.b.h.z ∣ pzb (C.map Cell.b) := fun c hc => Dd' c.b (List.mem_map_of_mem hc)
  generalize pzb (C.map Cell.b) = D0 at *
  have oC : ∀ {D : Int} {k : Nat}, 1 ≤ D → D0 ∣ D → Bd k D → ∀ c ∈ C, BoD d D (k + 20) c.b := fun {D k} hD dv bD c hc => by
    have o := hO c hc
    exact ⟨So.low hD o.1.1.z1 o.1.1.g o.2.1 (Int.dvd_trans (Dd' c hc).1 dv) o.1.1.bx o.1.1.by' bD, So.low hD o.1.2.z1 o.1.2.g o.2.2 (Int.dvd_trans (Dd' c hc).2 dv) o.1.2.bx o.1.2.by' bD⟩
  have C1 : 1 ≤ C.length := by omega
  have hd : Bd 64 d := yn (B := 99) (by have := hR.lo; omega) hR.hi (by decide +kernel)
  walk_at "r"
  refine Fj ?_
  walk_at "r"
  intro x dx nx ndx ndxx
  refine xH (tn := false) rfl nx ndx eph hA (by omega) fun y H6 ep s6 hy6 k6 l6 t6 => ?_
  subst ep
  refine ⟨rfl, ?_⟩
  have st0 : YdS cs.Yard H6 y d false (As.st C) [] := ⟨C, hy6, rfl, fun n hn => by
    have hn : n < C.length := hn
    exact ⟨_, List.getElem?_eq_getElem hn, by show _ = (fL C n).b; rw [D3 (List.getElem?_eq_getElem hn)]⟩⟩
  have ok0 := Gp C1
  have yi0 : YI d D0 D0 (tbs (C.map Cell.b)) 0 (As.st C) := ⟨D1, Int.dvd_refl _, Db, fun n hn => by
    have hn : n < C.length := List.mem_range.mp hn
    show BoD d D0 _ (fL C n).b
    rw [D3 (List.getElem?_eq_getElem hn)]
    have := oC D1 (Int.dvd_refl _) Db C[n] (List.getElem_mem hn)
    exact this, ok0.up, ok0.lt, ok0.ne, by have := ok0.nl; omega, by have := ok0.kl; omega, by rw [E3]⟩
  have hS6 := s6.seq hS5
  walk_at "r"
  refine uI ?_
  walk_at "r"
  refine ⟨a, _, rfl, .inl hS6, ?_⟩
  walk_at "r"
  have hl : (((ns.map V.int).length : Nat) : Int) = ns.length := by rw [List.length_map]
  rw [hl]
  obtain ⟨m, hm, hm2, hm3⟩ : ∃ m : Nat, (if (39 : Int) < ns.length then (39 : Int) else ns.length) = m ∧ m ≤ ns.length ∧ m ≤ 39 := by
    split
    · exact ⟨39, rfl, by omega, by omega⟩
    · exact ⟨ns.length, rfl, Nat.le_refl _, by omega⟩
  rw [hm]
  refine ⟨9, m, rfl, ⟨by decide, by decide, by omega, by omega⟩, z8 (lo := 9) (n := ((m : Int) - 9).toNat) (fun i σ H' => ∃ (v4 : Option V) (s : As) (D : Int) (lg : List V), σ = [some (.ref a), some (.int d), some (.ref ph), some (.ref y.p), v4, none, none, none, none, none] ∧ Same H5 H' ∧ YdS cs.Yard H' y d false s lg ∧ YI d D0 D (tbs (C.map Cell.b)) i s ∧ lg.length ≤ i) ⟨_, As.st C, D0, [], rfl, s6, st0, yi0, Nat.le_refl _⟩ ?_ ?_⟩
  · rintro i σ H' hi ⟨v4, s, D, lg, rfl, s', yds, yi, hlg⟩
    obtain ⟨c0, hc0, ec⟩ := uY (xs := ns) (i := 9 + (i : Int)) (by omega) (by omega)
    walk_at "r"
    refine ⟨a, _, _, _, rfl, rfl, s'.seq hS5, ec, ?_⟩
    walk_at "r"
    refine yC (hbd c0 hc0) (by omega) (by omega) (by decide) (by decide) fun l7 H7 ds s7 e7 hl7 hds => ?_
    walk_at "r"
    refine uJ (cs := cs) (yds.same s7) yi hR e7 hl7 hds (by omega) hlg fun H8 s2 D2 lg2 fr ys2 yi2 hl2 => ?_
    walk_at "r"
    exact ⟨_, s2, D2, lg2, rfl, fun b o e => fr _ _ ((s'.trans s7) _ _ e) (zj e k6) (zj e l6) (zj e t6), ys2, yi2, hl2⟩
  rintro σ H7 ⟨v4, s, D, lg, rfl, s7, ⟨cl, hyc, hk, hrel⟩, yi, hlg⟩
  have nI : ((m : Int) - 9).toNat ≤ 30 := by omega
  generalize ((m : Int) - 9).toNat = I at *
  have d1 := yi.d1
  have bD : Bd 340 D := yi.bd.mono (by omega)
  have nl := yi.nl
  have nl1 : 1 ≤ s.ns.length := List.length_pos_iff.mpr yi.ne
  walk_at "r"
  refine ⟨_, _, _, rfl, hyc.o, rfl, ?_⟩
  walk_at "r"
  refine ud hyc fun po H8 s8 npo e8 => ?_
  have pg := CV fun n hn => hrel n (hk ▸ hyc.lt n hn)
  have hAO : ∀ c ∈ pick cl s.ns, c.At H8 := fun c hc => (hyc.at' c (CD hc)).same s8
  generalize pick cl s.ns = O at *
  have lO : O.length = s.ns.length := by
    have := congrArg List.length pg
    rwa [List.length_map, List.length_map] at this
  have oO : ∀ c ∈ O, BoD d D 480 c.b := fun c hc => by
    have hb : c.b ∈ O.map Cell.b := List.mem_map_of_mem hc
    rw [pg] at hb
    obtain ⟨n, hn, e⟩ := List.mem_map.mp hb
    rw [← e]
    have := yi.ob n hn
    exact ⟨this.1.mono (by omega), this.2.mono (by omega)⟩
  have oC : ∀ c ∈ C, BoD d D 480 c.b := fun c hc => ⟨(oC d1 yi.dv bD c hc).1.mono (by decide), (oC d1 yi.dv bD c hc).2.mono (by decide)⟩
  have tO : tbs (O.map Cell.b) = tbs (C.map Cell.b) := by rw [pg]; exact yi.tb
  clear hyc hk hrel hy6 st0 yi0 pg
  have t58 := s7.trans s8
  have eph8 := t58 _ _ eph
  have hA8 : ∀ c ∈ C, c.At H8 := fun c hc => (hA c hc).same t58
  walk_at "r"
  refine uH ⟨eph8, hA8, fun c hc => ⟨((oC c hc).1.sk d1 bD).mono (by decide) (by decide), ((oC c hc).2.sk d1 bD).mono (by decide) (by decide)⟩, by omega⟩ ⟨e8, hAO, fun c hc => ⟨((oO c hc).1.sk d1 bD).mono (by decide) (by decide), ((oO c hc).2.sk d1 bD).mono (by decide) (by decide)⟩, by omega⟩ tO.symm fun H9 s9 => ?_
  have eph9 := s9 _ _ eph8
  have e9 := s9 _ _ e8
  have hA9 : ∀ c ∈ C, c.At H9 := fun c hc => (hA8 c hc).same s9
  have hAO9 : ∀ c ∈ O, c.At H9 := fun c hc => (hAO c hc).same s9
  clear eph8 hA8 e8 hAO
  walk_at "r"
  refine xM ?_
  walk_at "r"
  refine DQ eph9 e9 (by simp only [List.length_map]; omega) fun pc Ha sa ea => ?_
  rw [← List.map_append] at ea
  have hL : ∀ c ∈ C ++ O, c.At Ha ∧ BoD d D 480 c.b := fun c hc => by
    rcases List.mem_append.mp hc with h | h
    · exact ⟨(hA9 c h).same sa, oC c h⟩
    · exact ⟨(hAO9 c h).same sa, oO c h⟩
  have lL : (C ++ O).length ≤ 29 := by rw [List.length_append]; omega
  generalize hLL : C ++ O = L at *
  refine ⟨pc, rfl, ⟨_, SqL.of ea⟩, fun G hG => yH (K := K) (a := pc) (ys := L.map Cell.v) (fun i xs σ' H' => ∃ (v v' : Option V), σ' = [v, v'] ∧ xs = ((L.take i).map lnOf).map Ln.v ∧ H' G = some (.lst xs) ∧ SameX G Ha H') ⟨none, none, rfl, rfl, zm, fun b o e n => by rw [zt n]; exact e⟩ (fun i xs σ' H' _ z => by obtain ⟨v, v', _, _, _, z⟩ := z; exact SqL.of (z _ _ ea (zj ea hG))) ?_ ?_⟩
  · rintro i x xs σ' H' hi ⟨v, v', rfl, rfl, eG, sx⟩
    have hi' := (List.getElem?_eq_some_iff.mp hi).1
    obtain ⟨c, rfl, hc, hic⟩ := xA hi
    have ct := sx _ _ (hL c hc).1.t (zj (hL c hc).1.t hG)
    walk_at "r"
    refine zD eG (by rw [List.length_map, List.length_map, List.length_take]; rw [List.length_map] at hi'; omega) fun Hb sxb eb => ?_
    refine xE hi' ⟨_, _, rfl, ?_, eb, sx.trans sxb⟩
    rw [List.take_add_one, hic, List.map_append, List.map_append]
    rfl
  rintro xs σ' Hb ⟨v, v', rfl, rfl, eG, sx⟩
  rw [List.length_map, List.take_length] at eG
  have sb : Same Ha Hb := fun b o e => sx b o e (zj e hG)
  have LS : LsB d 700 Hb G (L.map lnOf) := ⟨eG, fun c hc => by
    obtain ⟨c', hc', rfl⟩ := List.mem_map.mp hc
    exact sb _ _ (hL c' hc').1.w, fun c hc => by
    obtain ⟨c', hc', rfl⟩ := List.mem_map.mp hc
    have o := (hL c' hc').2.1
    have k := o.sk d1 bD
    exact ⟨o.z1, o.g, o.up, k.bx.mono (by decide), k.by'.mono (by decide), k.bz.mono (by decide)⟩⟩
  have bds : ∀ u ∈ (L.map lnOf).map Ln.u, Bd 480 u.1 ∧ Bd 480 u.2 := fun u hu => by
    obtain ⟨c, hc, rfl⟩ := List.mem_map.mp hu
    obtain ⟨c', hc', rfl⟩ := List.mem_map.mp hc
    have k := (hL c' hc').2.1.sk d1 bD
    exact ⟨k.bx, k.by'⟩
  have zs1 : ∀ z ∈ (L.map lnOf).map fun c : Ln => c.s.z, 1 ≤ z ∧ z ∣ D := fun z hz => by
    obtain ⟨c, hc, rfl⟩ := List.mem_map.mp hz
    obtain ⟨c', hc', rfl⟩ := List.mem_map.mp hc
    exact ⟨(hL c' hc').2.1.z1, (hL c' hc').2.1.dvd d1⟩
  obtain ⟨N1, _, Nd⟩ := wP ((L.map lnOf).map fun c : Ln => c.s.z) 1 (by decide) fun z hz => (zs1 z hz).1
  have ND := Ae ((L.map lnOf).map fun c : Ln => c.s.z) 1 (by decide) ⟨D, by omega⟩ zs1
  obtain ⟨ups, _⟩ := Ek LS.ok
  obtain ⟨M, hM⟩ := Da hR ups
  have gM := Fst.gb hR (by decide) hM ups bds
  have N1 : 1 ≤ cbs ((L.map lnOf).map fun c : Ln => c.s.z) := N1
  have ND : cbs ((L.map lnOf).map fun c : Ln => c.s.z) ∣ D := ND
  have Nd : ∀ z ∈ (L.map lnOf).map fun c : Ln => c.s.z, z ∣ cbs ((L.map lnOf).map fun c : Ln => c.s.z) := Nd
  have Nb : Bd 340 (cbs ((L.map lnOf).map fun c : Ln => c.s.z)) := Bd.dvd_le bD d1 ND
  walk_at "r"
  refine Aw LS hR (by rw [List.length_map]; omega) hM (Nb.mono (by decide)) fun pb r1 r2 Hc sc fc => ?_
  have Ndv : ∀ c ∈ L, c.b.w.z ∣ cbs ((L.map lnOf).map fun c : Ln => c.s.z) := fun c hc => Nd _ (List.mem_map_of_mem (f := fun c : Ln => c.s.z) (List.mem_map_of_mem (f := lnOf) hc))
  have hsrv : ∀ c ∈ L, (st d M).srv c.b.w.x c.b.w.y := fun c hc => hM.1 _ (List.mem_map_of_mem (f := Ln.u) (List.mem_map_of_mem (f := lnOf) hc))
  generalize cbs ((L.map lnOf).map fun c : Ln => c.s.z) = N at *
  generalize st d M = sb' at *
  clear LS eG sx zs1 Nd hM ups bds
  have E1 : 1 ≤ D * 7 := by omega
  have Eb : Bd 343 (D * 7) := bD.mul (show Bd 3 7 by decide)
  have oh7 : ∀ {s : Sd}, So d D 480 s → So d (D * 7) 484 s := fun h => (h.scale (show Bd 3 7 by decide)).mono (by decide)
  have bkg : ∀ c ∈ L, ∀ h, So d (D * 7) 484 h → BK d sb' N (D * 7) 1790 2000 ⟨c.b.w, h⟩ := fun c hc h oh => BK.so (k := 481) (Mw := 480) (Mh := 484) (kN := 340) (kE := 343) hR gM N1 E1 d1 (b := ⟨c.b.w, h⟩) (hL c hc).2.1 (Ndv c hc) ND oh (hsrv c hc) Nb Eb (by decide) (by decide) (by decide) (by decide) (by decide)
  have xg : ∀ (b : Bo), So d (D * 7) 484 b.h → Bd 900 (bxD sb' N (N * (D * 7)) b).x ∧ Bd 900 (bxD sb' N (N * (D * 7)) b).y := fun b oh => by
    have := oh.num2 E1 Nb
    exact ⟨this.1.mono (by decide), this.2.mono (by decide)⟩
  have bkL : ∀ c ∈ L, BK d sb' N (D * 7) 1790 2000 c.b := fun c hc => bkg c hc c.b.h (oh7 (hL c hc).2.2)
  have mC : ∀ c ∈ C, c ∈ L := fun c hc => by rw [← hLL]; exact List.mem_append_left _ hc
  have mO : ∀ c ∈ O, c ∈ L := fun c hc => by rw [← hLL]; exact List.mem_append_right _ hc
  have bN9 : Bd 900 N := Nb.mono (by decide)
  have bD9 : Bd 900 (N * (D * 7)) := (Nb.mul Eb).mono (by decide)
  have g9 : GB d 900 sb' := gM.mono (by decide)
  have tc := (sa.trans sb).trans sc
  have ephc := tc _ _ eph9
  have e9c := tc _ _ e9
  have hAc : ∀ c ∈ C, c.At Hc := fun c hc => (hA9 c hc).same tc
  have hAOc : ∀ c ∈ O, c.At Hc := fun c hc => (hAO9 c hc).same tc
  walk_at "r"
  refine uw ephc hAc fc N1 bN9 g9 C1 (by omega) hd E1 bD9 (fun c hc => bkL c (mC c hc)) (fun c hc => xg c.b (oh7 (oC c hc).2)) fun pf Hd F nf sd ef hAF hF => ?_
  have e9d := sd _ _ e9c
  have hAOd : ∀ c ∈ O, c.At Hd := fun c hc => (hAOc c hc).same sd
  walk_at "r"
  refine uw e9d hAOd (fc.same sd) N1 bN9 g9 (by omega) (by omega) hd E1 bD9 (fun c hc => bkL c (mO c hc)) (fun c hc => xg c.b (oh7 (oO c hc).2)) fun pg He F2 ng se eg hAG hG => ?_
  have ef2 := se _ _ ef
  have hAF2 : ∀ c ∈ F, c.At He := fun c hc => (hAF c hc).same se
  have bkC : ∀ b ∈ C.map Cell.b, BK d sb' N (D * 7) 1790 2000 b := fun b hb => by
    obtain ⟨c, hc, rfl⟩ := List.mem_map.mp hb
    exact bkL c (mC c hc)
  have bkO : ∀ b ∈ O.map Cell.b, BK d sb' N (D * 7) 1790 2000 b := fun b hb => by
    obtain ⟨c, hc, rfl⟩ := List.mem_map.mp hb
    exact bkL c (mO c hc)
  have same := t7 gM N1 E1 bkO bkC tO
  walk_at "r"
  refine FQ eg ef2 hAG hAF2 (by rw [hG, hF, same]) ?_
  obtain ⟨O', cL, rfl⟩ : ∃ O' cL, O = O' ++ [cL] := ⟨O.dropLast, O.getLast (fun z => by rw [z] at lO; simp at lO; omega), (List.dropLast_concat_getLast _).symm⟩
  have mL : cL ∈ O' ++ [cL] := by simp
  have e9e := se _ _ e9d
  have hAOe : ∀ c ∈ O' ++ [cL], c.At He := fun c hc => (hAOd c hc).same se
  rw [List.map_append] at e9e
  have acl := hAOe cL mL
  have aclt := acl.t
  walk_at "r"
  refine zU e9e (v := .ref cL.p) (Cw _ _) ?_
  walk_at "r"
  refine B7 e9e fun p1' Hf sf e1' => ?_
  walk_at "r"
  refine z5 (a := 1) (b := 0) (n := 7) rfl (by decide) (by decide +kernel) fun p2' Hg sg e2' => ?_
  rw [show lA 1 0 7 = 1 by decide +kernel, show lB 1 0 7 = 0 by decide +kernel, show lN 1 0 7 = 7 by decide +kernel] at e2'
  have tfg := sf.trans sg
  have ohl := (oO cL mL).2
  have kl := ohl.sk d1 bD
  walk_at "r"
  refine wK (K := K) (SqT.of (tfg _ _ acl.h)) e2' ohl.z1 (by decide) ohl.g (by decide +kernel) (kl.bx.mono (by decide)) (kl.by'.mono (by decide)) (kl.bz.mono (by decide)) (by decide +kernel) (by decide +kernel) (by decide +kernel) fun p3' Hh sh e3' => ?_
  have e3' : SdAt Hh p3' (adS cL.b.h ⟨1, 0, 7⟩) := e3'
  have o17 : So d (D * 7) 343 ⟨1, 0, 7⟩ := ⟨by decide, by decide +kernel, by unfold sgn; simp, D, 0, bD.mono (by decide), bd0 _, by show (1 : Int) * (D * 7) = D * 7; omega, by show (0 : Int) * (D * 7) = 0 * 7; omega⟩
  have onew : So d (D * 7) 484 (adS cL.b.h ⟨1, 0, 7⟩) := (Dx hR (ohl.scale (show Bd 3 7 by decide)) (o17.mono (by decide))).mono (by decide)
  walk_at "r"
  refine zC (by simp) fun p4' Hi si e4' => ?_
  walk_at "r"
  refine xc (by simp) fun p5' Hj sj e5' => ?_
  have t15 := (sg.trans sh).trans (si.trans sj)
  refine DQ (t15 _ _ e1') e5' (by simp only [List.length_map, List.length_cons, List.length_nil]; simp only [List.length_append, List.length_cons, List.length_nil] at lO; omega) fun p6' Hk sk' e6' => ?_
  have tk := (sf.trans t15).trans sk'
  have e6' : Hk p6' = some (.lst ((O' ++ [(⟨p4', cL.pw, p3', ⟨cL.b.w, adS cL.b.h ⟨1, 0, 7⟩⟩⟩ : Cell)]).map Cell.v)) := by rw [List.map_append]; exact e6'
  have bkN : BK d sb' N (D * 7) 1790 2000 ⟨cL.b.w, adS cL.b.h ⟨1, 0, 7⟩⟩ := bkg cL (mO cL mL) _ onew
  have at3 : ∀ c ∈ O' ++ [(⟨p4', cL.pw, p3', ⟨cL.b.w, adS cL.b.h ⟨1, 0, 7⟩⟩⟩ : Cell)], c.At Hk ∧ BK d sb' N (D * 7) 1790 2000 c.b ∧ So d (D * 7) 484 c.b.h := fun c hc => by
    rcases List.mem_append.mp hc with h | h
    · have hm := List.mem_append_left [cL] h
      exact ⟨(hAOe c hm).same tk, bkL c (mO c hm), oh7 (oO c hm).2⟩
    · rw [List.mem_singleton.mp h]
      exact ⟨⟨(sj.trans sk') _ _ e4', tk _ _ acl.w, (si.trans (sj.trans sk')) _ _ e3'⟩, bkN, onew⟩
  walk_at "r"
  refine uw e6' (fun c hc => (at3 c hc).1) ((fc.same sd).same (se.trans tk)) N1 bN9 g9 (by rw [List.length_append]; simp only [List.length_cons]; omega) (by rw [List.length_append] at lO ⊢; simp only [List.length_cons, List.length_nil] at lO ⊢; omega) hd E1 bD9 (fun c hc => (at3 c hc).2.1) (fun c hc => xg c.b (at3 c hc).2.2) fun p7' Hl F3 n7 sl e7' hA7 hF7 => ?_
  have tl := tk.trans sl
  rw [List.map_append] at hF7 bkO same tO
  have hF7 : F3.map Cell.b = nrmD sb' N (D * 7) (O'.map Cell.b ++ [⟨cL.b.w, adS cL.b.h ⟨1, 0, 7⟩⟩]) := hF7
  have bkO : ∀ b ∈ O'.map Cell.b ++ [⟨cL.b.w, cL.b.h⟩], BK d sb' N (D * 7) 1790 2000 b := bkO
  have same : nrmD sb' N (D * 7) (O'.map Cell.b ++ [⟨cL.b.w, cL.b.h⟩]) = nrmD sb' N (D * 7) (C.map Cell.b) := same
  have ll := Cr hR bkO bkN
  have bas : Bas d 2000 (sb'.a * (D * 7)) (sb'.b * (D * 7)) (sb'.c * (D * 7)) (sb'.e * (D * 7)) := D6 hR gM E1 Eb (by decide)
  walk_at "r"
  refine Ey e7' (tl _ _ ef2) hA7 (fun c hc => (hAF2 c hc).same tl) ?_ (fun z => ?_) ?_
  · have a1 := congrArg List.length hF7
    have a2 := congrArg List.length hF
    rw [List.length_map] at a1 a2
    rw [a1, a2, ll, same]
  · rw [hF7, hF, ← same] at z
    have q1 := A7 hR gM (by decide) N1 E1 bas bkO (by rw [List.length_append, List.length_map]; rw [List.length_append] at lO; simp only [List.length_cons, List.length_nil] at lO ⊢; omega)
    have q2 := A7 (L := O'.map Cell.b ++ [⟨cL.b.w, adS cL.b.h ⟨1, 0, 7⟩⟩]) hR gM (by decide) N1 E1 bas (fun b hb => by
      rcases List.mem_append.mp hb with h | h
      · exact bkO b (List.mem_append_left _ h)
      · rw [List.mem_singleton.mp h]; exact bkN) (by rw [List.length_append, List.length_map]; rw [List.length_append] at lO; simp only [List.length_cons, List.length_nil] at lO ⊢; omega)
    rw [z, q1] at q2
    exact En (oO cL mL).1.ne ohl.ne (by decide) (oO cL mL).1.up (by decide) rfl q2.symm
  · exact q _
end
end Bk
noncomputable section
set_option linter.all false
namespace Hd
open PySem PySem.W PySem.Calls PyProof.Rows
abbrev lf0 : Life := @PySem.Life.mk (@List.nil.{0} @Nat) (@List.nil.{0} @Nat) (@List.nil.{0} @Nat) (@OfNat.ofNat.{0} @Nat (nat_lit 0) (@instOfNatNat (nat_lit 0))) (@List.nil.{0} (@Prod.{0, 0} @Nat @Nat)) (@List.nil.{0} @Nat) @Bool.false (@List.toArray.{0} @Nat (@List.nil.{0} @Nat)) (@List.nil.{0} @Nat) (@OfNat.ofNat.{0} @Nat (nat_lit 0) (@instOfNatNat (nat_lit 0))) @Bool.false @Bool.false @Bool.false (@OfNat.ofNat.{0} @Int (nat_lit 0) (@instOfNat (nat_lit 0))) (@List.cons.{0} @Int (@OfNat.ofNat.{0} @Int (nat_lit 2000) (@instOfNat (nat_lit 2000))) (@List.cons.{0} @Int (@OfNat.ofNat.{0} @Int (nat_lit 10) (@instOfNat (nat_lit 10))) (@List.cons.{0} @Int (@OfNat.ofNat.{0} @Int (nat_lit 10) (@instOfNat (nat_lit 10))) (@List.nil.{0} @Int)))) @Bool.false (@OfNat.ofNat.{0} @Nat (nat_lit 0) (@instOfNatNat (nat_lit 0))) @Bool.true (@List.nil.{0} @Nat) (@List.nil.{0} @Nat) (@OfNat.ofNat.{0} @Nat (nat_lit 0) (@instOfNatNat (nat_lit 0))) @Bool.false
abbrev dr1 : Drawn := @PySem.Drawn.mk (@OfNat.ofNat.{0} @Nat (nat_lit 0) (@instOfNatNat (nat_lit 0))) (@OfNat.ofNat.{0} @Nat (nat_lit 0) (@instOfNatNat (nat_lit 0))) (@OfNat.ofNat.{0} @Nat (nat_lit 0) (@instOfNatNat (nat_lit 0))) (@OfNat.ofNat.{0} @Nat (nat_lit 0) (@instOfNatNat (nat_lit 0)))
abbrev p : Program := PySem.Challenge.pw_boardglue_k54_one_table_one_normal
def top (i : Nat) : Stmt := p.main.body.getD i (.Pass ⟨0, 0, 0, 0⟩)
def sub (s : Stmt) (j : Nat) : Stmt := match s with | .ClassDef (body := b) .. => b.getD j (.Pass ⟨0, 0, 0, 0⟩) | _ => s
def fn (x q : Str) (s : Stmt) (g : Addr) (cl : List (Str × Addr)) (dV kV doc pm : Value) (an : Option Addr) (cd ct : Value) (bl : Addr) : FuncData := { name := x, qualname := q, params := L2.defArgs s, body := .stmts (L2.defBody s), scope := L2.defScope s, globals := g, closure := cl, defaults := dV, kwdefaults := kV, doc := doc, pyModule := pm, annotations := an, code := cd, closureTuple := ct, builtins := bl }
def z0 : Value := .int 0 0
def cp (n : Tok) : Value := .str "/claim/cut.py" n
def co (a : Array Value) : Obj := ⟨.type "code", none, .fields a, #[]⟩
def fo (f : FuncData) : Obj := ⟨.type "function", none, .func f, #[]⟩
def en (P : Params) (x : String) (t : Tok) (v : Value) : DictEntry := ⟨PyData.keyHash P x, .str x t, v⟩
def env : Env := { scope := p.main.scope, locals := mainNs, globals := mainNs, cells := [], code := (.ref 13), frame := some 14 }
abbrev b : List Stmt := behindTheImports p
abbrev cE : Code := .body b env
abbrev q : Pos := ⟨0, 0, 0, 0⟩
abbrev B : List Frame := [topFrame q]
abbrev m0 : Nat := nat_lit 11
abbrev ann : Option Value := (some (.ref 6))
def o0 : Obj := ⟨(.type "tuple"), none, (.seq #[] 0), #[]⟩
def o1 : Obj := ⟨.none, none, (.fields #[]), #[]⟩
def o2 : Obj := co #[(.str "<module>" 182), (.str "<module>" 183), (cp 184), (.int (1) 0), z0, z0, z0, z0, (.ref 11), (.bool false), (.int (181) 0), (.ref 12), .none, .none, .none, .none, (.int (185) 0), (.int (1) 0), (cp 186)]
def o3 : Obj := ⟨(.type "frame"), none, .plain, #[(some (.ref 13)), (some (.ref 3)), (some (.ref 3)), none, (some (.str "__main__" 164)), none, (some (.ref 0))]⟩
def Ha (P : Params) : Heap := ⟨⟨[boot_o_0 P, boot_o_1 P, boot_o_2 P, boot_o_3 P, boot_o_4 P, boot_o_5 P, boot_o_6 P, boot_o_7 P, boot_o_8 P, boot_o_9 P, boot_o_10 P, o0, o1, o2, o3]⟩, lf0⟩
def T0 (P : Params) : BT := (.node (boot_o_0 P) (.node (boot_o_1 P) (.node (boot_o_3 P) (.node (boot_o_7 P) .nil .nil) (.node (o0) .nil .nil)) (.node (boot_o_5 P) (.node (boot_o_9 P) .nil .nil) (.node (o2) .nil .nil))) (.node (boot_o_2 P) (.node (boot_o_4 P) (.node (boot_o_8 P) .nil .nil) (.node (o1) .nil .nil)) (.node (boot_o_6 P) (.node (boot_o_10 P) .nil .nil) (.node (o3) .nil .nil))))
theorem pre' (w : World) : (fun os => PySem.W.Fast.tw15667345088766844465 PySem.W.Fast.tw14364793385576792824 p w m0 ann (nat_lit 12) (⟨boot_heap w.params, ⟨[]⟩, boot_drawn, boot_toks, os⟩ : Shared) (PySem.W.topStub p)) = fun os => some ((⟨Ha w.params, ⟨[]⟩, dr1, nat_lit 187, os⟩ : Shared), Thread.mk (PySem.W.Fast.tw11892475500146522536 PySem.W.Fast.tw14364793385576792824 cE) cE ⟨0, 0, 0, 0⟩ B) := by kernel_rfl
theorem pre (w : World) (os : OsState) : topGo treeTable p w m0 ann (nat_lit 12) (⟨boot_heap w.params, ⟨[]⟩, boot_drawn, boot_toks, os⟩ : Shared) (topStub p) = some ((⟨Ha w.params, ⟨[]⟩, dr1, nat_lit 187, os⟩ : Shared), Thread.mk (denote treeTable cE) cE ⟨0, 0, 0, 0⟩ B) := by
  rw [PySem.W.Fast.te15667345088766844465, PySem.W.Fast.te14364793385576792824, PySem.W.Fast.te11892475500146522536]
  exact congrFun (pre' w) os
theorem blk' (w : World) : (fun os => PySem.W.Fast.tw14374325043358763698 PySem.W.Fast.tw14364793385576792824 p w m0 ann (nat_lit 1) (nat_lit 1) (⟨Ha w.params, ⟨[]⟩, dr1, nat_lit 187, os⟩ : Shared) (PySem.W.blockOf b env cE ⟨0, 0, 0, 0⟩ B)) = fun os => some (Flow.next, SharedT.abs (⟨T0 w.params, nat_lit 15, lf0, ⟨[]⟩, dr1, nat_lit 187, os⟩ : SharedT), cE, ⟨0, 0, 0, 0⟩) := by kernel_rfl
theorem blk (w : World) (os : OsState) : segRun treeTable p w m0 ann (nat_lit 1) (nat_lit 1) (⟨Ha w.params, ⟨[]⟩, dr1, nat_lit 187, os⟩ : Shared) (blockOf b env cE ⟨0, 0, 0, 0⟩ B) = some (Flow.next, SharedT.abs (⟨T0 w.params, nat_lit 15, lf0, ⟨[]⟩, dr1, nat_lit 187, os⟩ : SharedT), cE, ⟨0, 0, 0, 0⟩) := by
  rw [PySem.W.Fast.te14374325043358763698, PySem.W.Fast.te14364793385576792824]
  exact congrFun (blk' w) os
def o4 (P : Params) : Obj := ⟨(.type "dict"), none, (.dict #[en P "__name__" 165 (.str "law_boardglue_k54_one_table_one_normal" 650), en P "__doc__" 166 .none, en P "__package__" 167 .none, en P "__loader__" 168 (.builtin "__main__.__loader__#opaque"), en P "__spec__" 169 .none, en P "__annotations__" 170 (.ref 6), en P "__builtins__" 171 (.ref 4), en P "__file__" 173 (cp 172), en P "__cached__" 174 .none, en P "_wall" 193 (.ref 21), en P "YardError" 213 (.ref 31), en P "NoLength" 229 (.ref 44), en P "NoDeed" 245 (.ref 56), en P "NoName" 261 (.ref 68), en P "Grain" 277 (.ref 80), en P "Unfit" 293 (.ref 92), en P "NOUGHT" 299 (.ref 95), en P "GREAT_BITS" 301 (.int (8192) 300), en P "HEAD_BITS" 303 (.int (64) 302), en P "is_whole" 310 (.ref 102), en P "common_divisor" 320 (.ref 109), en P "far_rests" 330 (.ref 116), en P "sure_steps" 343 (.ref 123), en P "with_sign_of" 351 (.ref 130), en P "length" 363 (.ref 138), en P "by_parts" 372 (.ref 145), en P "added" 386 (.ref 152), en P "taken" 394 (.ref 159), en P "timed" 403 (.ref 166), en P "is_above_nought" 412 (.ref 173), en P "under" 421 (.ref 180), en P "first_base" 431 (.ref 187), en P "next_base" 441 (.ref 194), en P "crossed" 449 (.ref 201), en P "counts" 461 (.ref 208), en P "common_bottom" 470 (.ref 215), en P "serving" 476 (.ref 220), en P "times_over" 487 (.ref 227), en P "normal_heap" 501 (.ref 234), en P "is_length" 509 (.ref 239), en P "CUTS" 514 (.ref 240), en P "GLUINGS" 517 (.ref 241), en P "SHIFTS" 520 (.ref 242), en P "TURN" 522 (.str "turn" 521), en P "is_deed" 529 (.ref 249), en P "names_taken" 536 (.ref 256), en P "turned" 543 (.ref 263), en P "cut_across" 552 (.ref 270), en P "glued_beside" 560 (.ref 277), en P "stacked" 570 (.ref 284), en P "Yard" 649 (.ref 341), en P "_law_cell" 659 (.ref 352), en P "_law_digits" 672 (.ref 359), en P "_law_divisor" 680 (.ref 366), en P "_law_root" 688 (.ref 373), en P "_law_fraction" 699 (.ref 380), en P "_law_above" 710 (.ref 387), en P "_law_side" 721 (.ref 394), en P "_law_length" 730 (.ref 401), en P "_law_heap" 741 (.ref 408), en P "_law_tab" 754 (.ref 415), en P "_law_like" 760 (.ref 420), en P "_law_pair" 770 (.ref 427), en P "_law_done" 788 (.ref 434), en P "law" 794 (.ref 439)] 65), #[]⟩
def o5 : Obj := ⟨.none, none, (.fields #[(.int (1) 0), z0, (.ref 20), (.int (5) 0), z0, (.ref 27), (.int (7) 0), z0, (.ref 40), (.int (9) 0), z0, (.ref 52), (.int (11) 0), z0, (.ref 64), (.int (13) 0), z0, (.ref 76), (.int (15) 0), z0, (.ref 88), (.int (21) 0), z0, (.ref 101), (.int (23) 0), z0, (.ref 108), (.int (35) 0), z0, (.ref 115), (.int (41) 0), z0, (.ref 122), (.int (55) 0), z0, (.ref 129), (.int (57) 0), z0, (.ref 137), (.int (64) 0), z0, (.ref 144), (.int (67) 0), z0, (.ref 151), (.int (75) 0), z0, (.ref 158), (.int (77) 0), z0, (.ref 165), (.int (79) 0), z0, (.ref 172), (.int (87) 0), z0, (.ref 179), (.int (90) 0), z0, (.ref 186), (.int (92) 0), z0, (.ref 193), (.int (98) 0), z0, (.ref 200), (.int (100) 0), z0, (.ref 207), (.int (105) 0), z0, (.ref 214), (.int (110) 0), z0, (.ref 219), (.int (119) 0), z0, (.ref 226), (.int (121) 0), z0, (.ref 233), (.int (132) 0), z0, (.ref 238), (.int (143) 0), z0, (.ref 248), (.int (155) 0), z0, (.ref 255), (.int (157) 0), z0, (.ref 262), (.int (159) 0), z0, (.ref 269), (.int (163) 0), z0, (.ref 276), (.int (167) 0), z0, (.ref 283), (.int (171) 0), z0, (.ref 290), (.int (230) 0), z0, (.ref 351), (.int (234) 0), z0, (.ref 358), (.int (245) 0), z0, (.ref 365), (.int (249) 0), z0, (.ref 372), (.int (254) 0), z0, (.ref 379), (.int (265) 0), z0, (.ref 386), (.int (273) 0), z0, (.ref 393), (.int (285) 0), z0, (.ref 400), (.int (288) 0), z0, (.ref 407), (.int (294) 0), z0, (.ref 414), (.int (304) 0), z0, (.ref 419), (.int (308) 0), z0, (.ref 426), (.int (314) 0), z0, (.ref 433), (.int (329) 0), z0, (.ref 438)]), #[]⟩
def o6 : Obj := ⟨(.type "tuple"), none, (.seq #[(.str "k" 190)] 0), #[]⟩
def o7 : Obj := ⟨.none, none, (.func (fn "_wall" "_wall" (top 0) 0 [] .none .none .none .none none .none .none 0)), #[]⟩
def o8 : Obj := co #[(.str "_wall" 187), (.str "_wall" 188), (cp 189), (.int (1) 0), (.int (1) 0), z0, z0, (.int (3) 0), (.ref 15), (.bool true), (.int (181) 0), (.ref 16), .none, (.ref 17), (.ref 18), (.ref 19), (.int (191) 0), (.int (1) 0), (cp 192)]
def o9 : Obj := fo (fn "_wall" "_wall" (top 0) 3 [] .none .none .none (.str "__main__" 164) none (.ref 20) .none 0)
def o10 : Obj := ⟨(.type "tuple"), none, (.seq #[(.type "ValueError")] 0), #[]⟩
def o11 : Obj := ⟨(.type "builtin_function_or_method"), none, (.fields #[(.builtin "type.__prepare__"), (.type "type")]), #[]⟩
def o12 (P : Params) : Obj := ⟨(.type "dict"), none, (.dict #[en P "__module__" 203 (.str "boardglue.errors" 194), en P "__qualname__" 205 (.str "YardError" 204), en P "__firstlineno__" 207 (.int (5) 206), en P "__static_attributes__" 208 (.ref 29)] 4), #[]⟩
def o13 : Obj := co #[(.str "YardError" 198), (.str "YardError" 199), (cp 200), (.int (5) 0), z0, z0, z0, z0, (.ref 25), (.bool false), (.int (181) 0), (.ref 26), .none, .none, .none, .none, (.int (201) 0), (.int (5) 0), (cp 202)]
def o14 : Obj := ⟨(.type "frame"), none, .plain, #[(some (.ref 27)), (some (.ref 3)), (some (.ref 24)), none, (some (.str "boardglue.errors" 194)), none, (some (.ref 0))]⟩
def o15 (P : Params) : Obj := ⟨(.type "dict"), none, (.dict #[en P "__module__" 203 (.str "boardglue.errors" 194), en P "__firstlineno__" 207 (.int (5) 206), en P "__static_attributes__" 208 (.ref 29), en P "__weakref__" 210 (.ref 32), en P "__doc__" 211 .none] 3), #[]⟩
def o16 : Obj := ⟨(.type "type"), none, (.cls ⟨"YardError", [(.type "ValueError")], [(.ref 31), (.type "ValueError"), (.type "Exception"), (.type "BaseException"), (.type "object")], 30, "YardError", true, [], [(.ref 44), (.ref 56), (.ref 68), (.ref 80), (.ref 92)], false, none, false⟩), #[(some (.ref 22)), none, (some (.str "YardError" 196)), (some (.str "YardError" 204)), (some (.builtin "ValueError.__new__")), (some (.bool true))]⟩
def o17 : Obj := ⟨(.type "getset_descriptor"), none, (.fields #[(.str "__weakref__" 209), (.ref 31), (.builtin "ExceptionGroup.__weakref__"), .none]), #[]⟩
def o18 : Obj := ⟨(.type "super"), none, (.fields #[(.ref 31), (.ref 31), (.ref 31)]), #[]⟩
def o19 : Obj := ⟨(.type "builtin_function_or_method"), none, (.fields #[(.builtin "object.__init_subclass__"), (.ref 31)]), #[]⟩
def o20 : Obj := ⟨(.type "tuple"), none, (.seq #[(.ref 31)] 0), #[]⟩
def o21 (P : Params) : Obj := ⟨(.type "dict"), none, (.dict #[en P "__module__" 221 (.str "boardglue.errors" 194), en P "__qualname__" 223 (.str "NoLength" 222), en P "__firstlineno__" 225 (.int (7) 224), en P "__static_attributes__" 226 (.ref 42)] 4), #[]⟩
def o22 : Obj := co #[(.str "NoLength" 216), (.str "NoLength" 217), (cp 218), (.int (7) 0), z0, z0, z0, z0, (.ref 38), (.bool false), (.int (181) 0), (.ref 39), .none, .none, .none, .none, (.int (219) 0), (.int (7) 0), (cp 220)]
def o23 : Obj := ⟨(.type "frame"), none, .plain, #[(some (.ref 40)), (some (.ref 3)), (some (.ref 37)), none, (some (.str "boardglue.errors" 194)), none, (some (.ref 0))]⟩
def o24 (P : Params) : Obj := ⟨(.type "dict"), none, (.dict #[en P "__module__" 221 (.str "boardglue.errors" 194), en P "__firstlineno__" 225 (.int (7) 224), en P "__static_attributes__" 226 (.ref 42), en P "__doc__" 227 .none] 2), #[]⟩
def o25 : Obj := ⟨(.type "type"), none, (.cls ⟨"NoLength", [(.ref 31)], [(.ref 44), (.ref 31), (.type "ValueError"), (.type "Exception"), (.type "BaseException"), (.type "object")], 43, "NoLength", true, [], [], false, none, false⟩), #[(some (.ref 35)), none, (some (.str "NoLength" 214)), (some (.str "NoLength" 222)), (some (.builtin "ValueError.__new__")), (some (.bool true))]⟩
def o26 : Obj := ⟨(.type "super"), none, (.fields #[(.ref 44), (.ref 44), (.ref 44)]), #[]⟩
def o27 : Obj := ⟨(.type "builtin_function_or_method"), none, (.fields #[(.builtin "object.__init_subclass__"), (.ref 44)]), #[]⟩
def o28 (P : Params) : Obj := ⟨(.type "dict"), none, (.dict #[en P "__module__" 237 (.str "boardglue.errors" 194), en P "__qualname__" 239 (.str "NoDeed" 238), en P "__firstlineno__" 241 (.int (9) 240), en P "__static_attributes__" 242 (.ref 54)] 4), #[]⟩
def o29 : Obj := co #[(.str "NoDeed" 232), (.str "NoDeed" 233), (cp 234), (.int (9) 0), z0, z0, z0, z0, (.ref 50), (.bool false), (.int (181) 0), (.ref 51), .none, .none, .none, .none, (.int (235) 0), (.int (9) 0), (cp 236)]
def o30 : Obj := ⟨(.type "frame"), none, .plain, #[(some (.ref 52)), (some (.ref 3)), (some (.ref 49)), none, (some (.str "boardglue.errors" 194)), none, (some (.ref 0))]⟩
def o31 (P : Params) : Obj := ⟨(.type "dict"), none, (.dict #[en P "__module__" 237 (.str "boardglue.errors" 194), en P "__firstlineno__" 241 (.int (9) 240), en P "__static_attributes__" 242 (.ref 54), en P "__doc__" 243 .none] 2), #[]⟩
def o32 : Obj := ⟨(.type "type"), none, (.cls ⟨"NoDeed", [(.ref 31)], [(.ref 56), (.ref 31), (.type "ValueError"), (.type "Exception"), (.type "BaseException"), (.type "object")], 55, "NoDeed", true, [], [], false, none, false⟩), #[(some (.ref 47)), none, (some (.str "NoDeed" 230)), (some (.str "NoDeed" 238)), (some (.builtin "ValueError.__new__")), (some (.bool true))]⟩
def o33 : Obj := ⟨(.type "super"), none, (.fields #[(.ref 56), (.ref 56), (.ref 56)]), #[]⟩
def o34 : Obj := ⟨(.type "builtin_function_or_method"), none, (.fields #[(.builtin "object.__init_subclass__"), (.ref 56)]), #[]⟩
def o35 (P : Params) : Obj := ⟨(.type "dict"), none, (.dict #[en P "__module__" 253 (.str "boardglue.errors" 194), en P "__qualname__" 255 (.str "NoName" 254), en P "__firstlineno__" 257 (.int (11) 256), en P "__static_attributes__" 258 (.ref 66)] 4), #[]⟩
def o36 : Obj := co #[(.str "NoName" 248), (.str "NoName" 249), (cp 250), (.int (11) 0), z0, z0, z0, z0, (.ref 62), (.bool false), (.int (181) 0), (.ref 63), .none, .none, .none, .none, (.int (251) 0), (.int (11) 0), (cp 252)]
def o37 : Obj := ⟨(.type "frame"), none, .plain, #[(some (.ref 64)), (some (.ref 3)), (some (.ref 61)), none, (some (.str "boardglue.errors" 194)), none, (some (.ref 0))]⟩
def o38 (P : Params) : Obj := ⟨(.type "dict"), none, (.dict #[en P "__module__" 253 (.str "boardglue.errors" 194), en P "__firstlineno__" 257 (.int (11) 256), en P "__static_attributes__" 258 (.ref 66), en P "__doc__" 259 .none] 2), #[]⟩
def o39 : Obj := ⟨(.type "type"), none, (.cls ⟨"NoName", [(.ref 31)], [(.ref 68), (.ref 31), (.type "ValueError"), (.type "Exception"), (.type "BaseException"), (.type "object")], 67, "NoName", true, [], [], false, none, false⟩), #[(some (.ref 59)), none, (some (.str "NoName" 246)), (some (.str "NoName" 254)), (some (.builtin "ValueError.__new__")), (some (.bool true))]⟩
def o40 : Obj := ⟨(.type "super"), none, (.fields #[(.ref 68), (.ref 68), (.ref 68)]), #[]⟩
def o41 : Obj := ⟨(.type "builtin_function_or_method"), none, (.fields #[(.builtin "object.__init_subclass__"), (.ref 68)]), #[]⟩
def o42 (P : Params) : Obj := ⟨(.type "dict"), none, (.dict #[en P "__module__" 269 (.str "boardglue.errors" 194), en P "__qualname__" 271 (.str "Grain" 270), en P "__firstlineno__" 273 (.int (13) 272), en P "__static_attributes__" 274 (.ref 78)] 4), #[]⟩
def o43 : Obj := co #[(.str "Grain" 264), (.str "Grain" 265), (cp 266), (.int (13) 0), z0, z0, z0, z0, (.ref 74), (.bool false), (.int (181) 0), (.ref 75), .none, .none, .none, .none, (.int (267) 0), (.int (13) 0), (cp 268)]
def o44 : Obj := ⟨(.type "frame"), none, .plain, #[(some (.ref 76)), (some (.ref 3)), (some (.ref 73)), none, (some (.str "boardglue.errors" 194)), none, (some (.ref 0))]⟩
def o45 (P : Params) : Obj := ⟨(.type "dict"), none, (.dict #[en P "__module__" 269 (.str "boardglue.errors" 194), en P "__firstlineno__" 273 (.int (13) 272), en P "__static_attributes__" 274 (.ref 78), en P "__doc__" 275 .none] 2), #[]⟩
def o46 : Obj := ⟨(.type "type"), none, (.cls ⟨"Grain", [(.ref 31)], [(.ref 80), (.ref 31), (.type "ValueError"), (.type "Exception"), (.type "BaseException"), (.type "object")], 79, "Grain", true, [], [], false, none, false⟩), #[(some (.ref 71)), none, (some (.str "Grain" 262)), (some (.str "Grain" 270)), (some (.builtin "ValueError.__new__")), (some (.bool true))]⟩
def o47 : Obj := ⟨(.type "super"), none, (.fields #[(.ref 80), (.ref 80), (.ref 80)]), #[]⟩
def o48 : Obj := ⟨(.type "builtin_function_or_method"), none, (.fields #[(.builtin "object.__init_subclass__"), (.ref 80)]), #[]⟩
def o49 (P : Params) : Obj := ⟨(.type "dict"), none, (.dict #[en P "__module__" 285 (.str "boardglue.errors" 194), en P "__qualname__" 287 (.str "Unfit" 286), en P "__firstlineno__" 289 (.int (15) 288), en P "__static_attributes__" 290 (.ref 90)] 4), #[]⟩
def o50 : Obj := co #[(.str "Unfit" 280), (.str "Unfit" 281), (cp 282), (.int (15) 0), z0, z0, z0, z0, (.ref 86), (.bool false), (.int (181) 0), (.ref 87), .none, .none, .none, .none, (.int (283) 0), (.int (15) 0), (cp 284)]
def o51 : Obj := ⟨(.type "frame"), none, .plain, #[(some (.ref 88)), (some (.ref 3)), (some (.ref 85)), none, (some (.str "boardglue.errors" 194)), none, (some (.ref 0))]⟩
def o52 (P : Params) : Obj := ⟨(.type "dict"), none, (.dict #[en P "__module__" 285 (.str "boardglue.errors" 194), en P "__firstlineno__" 289 (.int (15) 288), en P "__static_attributes__" 290 (.ref 90), en P "__doc__" 291 .none] 2), #[]⟩
def o53 : Obj := ⟨(.type "type"), none, (.cls ⟨"Unfit", [(.ref 31)], [(.ref 92), (.ref 31), (.type "ValueError"), (.type "Exception"), (.type "BaseException"), (.type "object")], 91, "Unfit", true, [], [], false, none, false⟩), #[(some (.ref 83)), none, (some (.str "Unfit" 278)), (some (.str "Unfit" 286)), (some (.builtin "ValueError.__new__")), (some (.bool true))]⟩
def o54 : Obj := ⟨(.type "super"), none, (.fields #[(.ref 92), (.ref 92), (.ref 92)]), #[]⟩
def o55 : Obj := ⟨(.type "builtin_function_or_method"), none, (.fields #[(.builtin "object.__init_subclass__"), (.ref 92)]), #[]⟩
def o56 : Obj := ⟨(.type "tuple"), none, (.seq #[(.int (0) 296), (.int (0) 297), (.int (1) 298)] 0), #[]⟩
def o57 : Obj := ⟨(.type "tuple"), none, (.seq #[(.str "thing" 307)] 0), #[]⟩
def o58 : Obj := ⟨.none, none, (.func (fn "is_whole" "is_whole" (top 12) 0 [] .none .none .none .none none .none .none 0)), #[]⟩
def o59 : Obj := co #[(.str "is_whole" 304), (.str "is_whole" 305), (cp 306), (.int (21) 0), (.int (1) 0), z0, z0, (.int (3) 0), (.ref 96), (.bool true), (.int (181) 0), (.ref 97), .none, (.ref 98), (.ref 99), (.ref 100), (.int (308) 0), (.int (21) 0), (cp 309)]
def o60 : Obj := fo (fn "is_whole" "is_whole" (top 12) 3 [] .none .none .none (.str "boardglue.lengths" 294) none (.ref 101) .none 0)
def o61 : Obj := ⟨(.type "tuple"), none, (.seq #[(.str "one" 314), (.str "other" 315), (.str "pair" 316), (.str "rest" 317)] 0), #[]⟩
def o62 : Obj := ⟨.none, none, (.func (fn "common_divisor" "common_divisor" (top 13) 0 [] .none .none .none .none none .none .none 0)), #[]⟩
def o63 : Obj := co #[(.str "common_divisor" 311), (.str "common_divisor" 312), (cp 313), (.int (23) 0), (.int (2) 0), z0, z0, (.int (3) 0), (.ref 103), (.bool true), (.int (181) 0), (.ref 104), .none, (.ref 105), (.ref 106), (.ref 107), (.int (318) 0), (.int (23) 0), (cp 319)]
def o64 : Obj := fo (fn "common_divisor" "common_divisor" (top 13) 3 [] .none .none .none (.str "boardglue.lengths" 294) none (.ref 108) .none 0)
def o65 : Obj := ⟨(.type "tuple"), none, (.seq #[(.str "one" 324), (.str "other" 325), (.str "beyond" 326), (.str "steps" 327)] 0), #[]⟩
def o66 : Obj := ⟨.none, none, (.func (fn "far_rests" "far_rests" (top 14) 0 [] .none .none .none .none none .none .none 0)), #[]⟩
def o67 : Obj := co #[(.str "far_rests" 321), (.str "far_rests" 322), (cp 323), (.int (35) 0), (.int (2) 0), z0, z0, (.int (3) 0), (.ref 110), (.bool true), (.int (181) 0), (.ref 111), .none, (.ref 112), (.ref 113), (.ref 114), (.int (328) 0), (.int (35) 0), (cp 329)]
def o68 : Obj := fo (fn "far_rests" "far_rests" (top 14) 3 [] .none .none .none (.str "boardglue.lengths" 294) none (.ref 115) .none 0)
def o69 : Obj := ⟨(.type "tuple"), none, (.seq #[(.str "one" 334), (.str "other" 335), (.str "ahead" 336), (.str "last" 337), (.str "many" 338), (.str "rest" 339), (.str "left" 340)] 0), #[]⟩
def o70 : Obj := ⟨.none, none, (.func (fn "sure_steps" "sure_steps" (top 15) 0 [] .none .none .none .none none .none .none 0)), #[]⟩
def o71 : Obj := co #[(.str "sure_steps" 331), (.str "sure_steps" 332), (cp 333), (.int (41) 0), (.int (2) 0), z0, z0, (.int (3) 0), (.ref 117), (.bool true), (.int (181) 0), (.ref 118), .none, (.ref 119), (.ref 120), (.ref 121), (.int (341) 0), (.int (41) 0), (cp 342)]
def o72 : Obj := fo (fn "sure_steps" "sure_steps" (top 15) 3 [] .none .none .none (.str "boardglue.lengths" 294) none (.ref 122) .none 0)
def o73 : Obj := ⟨(.type "tuple"), none, (.seq #[(.str "divisor" 347), (.str "bottom" 348)] 0), #[]⟩
def o74 : Obj := ⟨.none, none, (.func (fn "with_sign_of" "with_sign_of" (top 16) 0 [] .none .none .none .none none .none .none 0)), #[]⟩
def o75 : Obj := co #[(.str "with_sign_of" 344), (.str "with_sign_of" 345), (cp 346), (.int (55) 0), (.int (2) 0), z0, z0, (.int (3) 0), (.ref 124), (.bool true), (.int (181) 0), (.ref 125), .none, (.ref 126), (.ref 127), (.ref 128), (.int (349) 0), (.int (55) 0), (cp 350)]
def o76 : Obj := fo (fn "with_sign_of" "with_sign_of" (top 16) 3 [] .none .none .none (.str "boardglue.lengths" 294) none (.ref 129) .none 0)
def o77 : Obj := ⟨(.type "tuple"), none, (.seq #[(.int (0) 352), (.int (1) 353)] 0), #[]⟩
def o78 : Obj := ⟨(.type "tuple"), none, (.seq #[(.str "a" 357), (.str "b" 358), (.str "n" 359), (.str "divisor" 360)] 0), #[]⟩
def o79 : Obj := ⟨.none, none, (.func (fn "length" "length" (top 17) 0 [] .none .none .none .none none .none .none 0)), #[]⟩
def o80 : Obj := co #[(.str "length" 354), (.str "length" 355), (cp 356), (.int (57) 0), (.int (3) 0), z0, z0, (.int (3) 0), (.ref 132), (.bool true), (.int (181) 0), (.ref 133), .none, (.ref 134), (.ref 135), (.ref 136), (.int (361) 0), (.int (57) 0), (cp 362)]
def o81 : Obj := fo (fn "length" "length" (top 17) 3 [] (.ref 131) .none .none (.str "boardglue.lengths" 294) none (.ref 137) .none 0)
def o82 : Obj := ⟨(.type "tuple"), none, (.seq #[(.str "f" 367), (.str "g" 368), (.str "shared" 369)] 0), #[]⟩
def o83 : Obj := ⟨.none, none, (.func (fn "by_parts" "by_parts" (top 18) 0 [] .none .none .none .none none .none .none 0)), #[]⟩
def o84 : Obj := co #[(.str "by_parts" 364), (.str "by_parts" 365), (cp 366), (.int (64) 0), (.int (2) 0), z0, z0, (.int (3) 0), (.ref 139), (.bool true), (.int (181) 0), (.ref 140), .none, (.ref 141), (.ref 142), (.ref 143), (.int (370) 0), (.int (64) 0), (cp 371)]
def o85 : Obj := fo (fn "by_parts" "by_parts" (top 18) 3 [] .none .none .none (.str "boardglue.lengths" 294) none (.ref 144) .none 0)
def o86 : Obj := ⟨(.type "tuple"), none, (.seq #[(.str "one" 376), (.str "other" 377), (.str "shared" 378), (.str "ahead" 379), (.str "behind" 380), (.str "a" 381), (.str "b" 382), (.str "left" 383)] 0), #[]⟩
def o87 : Obj := ⟨.none, none, (.func (fn "added" "added" (top 19) 0 [] .none .none .none .none none .none .none 0)), #[]⟩
def o88 : Obj := co #[(.str "added" 373), (.str "added" 374), (cp 375), (.int (67) 0), (.int (2) 0), z0, z0, (.int (3) 0), (.ref 146), (.bool true), (.int (181) 0), (.ref 147), .none, (.ref 148), (.ref 149), (.ref 150), (.int (384) 0), (.int (67) 0), (cp 385)]
def o89 : Obj := fo (fn "added" "added" (top 19) 3 [] .none .none .none (.str "boardglue.lengths" 294) none (.ref 151) .none 0)
def o90 : Obj := ⟨(.type "tuple"), none, (.seq #[(.str "one" 390), (.str "other" 391)] 0), #[]⟩
def o91 : Obj := ⟨.none, none, (.func (fn "taken" "taken" (top 20) 0 [] .none .none .none .none none .none .none 0)), #[]⟩
def o92 : Obj := co #[(.str "taken" 387), (.str "taken" 388), (cp 389), (.int (75) 0), (.int (2) 0), z0, z0, (.int (3) 0), (.ref 153), (.bool true), (.int (181) 0), (.ref 154), .none, (.ref 155), (.ref 156), (.ref 157), (.int (392) 0), (.int (75) 0), (cp 393)]
def o93 : Obj := fo (fn "taken" "taken" (top 20) 3 [] .none .none .none (.str "boardglue.lengths" 294) none (.ref 158) .none 0)
def o94 : Obj := ⟨(.type "tuple"), none, (.seq #[(.str "d" 398), (.str "one" 399), (.str "other" 400)] 0), #[]⟩
def o95 : Obj := ⟨.none, none, (.func (fn "timed" "timed" (top 21) 0 [] .none .none .none .none none .none .none 0)), #[]⟩
def o96 : Obj := co #[(.str "timed" 395), (.str "timed" 396), (cp 397), (.int (77) 0), (.int (3) 0), z0, z0, (.int (3) 0), (.ref 160), (.bool true), (.int (181) 0), (.ref 161), .none, (.ref 162), (.ref 163), (.ref 164), (.int (401) 0), (.int (77) 0), (cp 402)]
def o97 : Obj := fo (fn "timed" "timed" (top 21) 3 [] .none .none .none (.str "boardglue.lengths" 294) none (.ref 165) .none 0)
def o98 : Obj := ⟨(.type "tuple"), none, (.seq #[(.str "d" 407), (.str "a" 408), (.str "b" 409)] 0), #[]⟩
def o99 : Obj := ⟨.none, none, (.func (fn "is_above_nought" "is_above_nought" (top 22) 0 [] .none .none .none .none none .none .none 0)), #[]⟩
def o100 : Obj := co #[(.str "is_above_nought" 404), (.str "is_above_nought" 405), (cp 406), (.int (79) 0), (.int (3) 0), z0, z0, (.int (3) 0), (.ref 167), (.bool true), (.int (181) 0), (.ref 168), .none, (.ref 169), (.ref 170), (.ref 171), (.int (410) 0), (.int (79) 0), (cp 411)]
def o101 : Obj := fo (fn "is_above_nought" "is_above_nought" (top 22) 3 [] .none .none .none (.str "boardglue.lengths" 294) none (.ref 172) .none 0)
def o102 : Obj := ⟨(.type "tuple"), none, (.seq #[(.str "d" 416), (.str "one" 417), (.str "other" 418)] 0), #[]⟩
def o103 : Obj := ⟨.none, none, (.func (fn "under" "under" (top 23) 0 [] .none .none .none .none none .none .none 0)), #[]⟩
def o104 : Obj := co #[(.str "under" 413), (.str "under" 414), (cp 415), (.int (87) 0), (.int (3) 0), z0, z0, (.int (3) 0), (.ref 174), (.bool true), (.int (181) 0), (.ref 175), .none, (.ref 176), (.ref 177), (.ref 178), (.int (419) 0), (.int (87) 0), (cp 420)]
def o105 : Obj := fo (fn "under" "under" (top 23) 3 [] .none .none .none (.str "boardglue.lengths" 294) none (.ref 179) .none 0)
def o106 : Obj := ⟨(.type "tuple"), none, (.seq #[(.str "d" 427), (.str "n" 428)] 0), #[]⟩
def o107 : Obj := ⟨.none, none, (.func (fn "first_base" "first_base" (top 25) 0 [] .none .none .none .none none .none .none 0)), #[]⟩
def o108 : Obj := co #[(.str "first_base" 424), (.str "first_base" 425), (cp 426), (.int (90) 0), (.int (2) 0), z0, z0, (.int (3) 0), (.ref 181), (.bool true), (.int (181) 0), (.ref 182), .none, (.ref 183), (.ref 184), (.ref 185), (.int (429) 0), (.int (90) 0), (cp 430)]
def o109 : Obj := fo (fn "first_base" "first_base" (top 25) 3 [] .none .none .none (.str "boardglue.bases" 422) none (.ref 186) .none 0)
def o110 : Obj := ⟨(.type "tuple"), none, (.seq #[(.str "d" 435), (.str "base" 436), (.str "p" 437), (.str "q" 438)] 0), #[]⟩
def o111 : Obj := ⟨.none, none, (.func (fn "next_base" "next_base" (top 26) 0 [] .none .none .none .none none .none .none 0)), #[]⟩
def o112 : Obj := co #[(.str "next_base" 432), (.str "next_base" 433), (cp 434), (.int (92) 0), (.int (2) 0), z0, z0, (.int (3) 0), (.ref 188), (.bool true), (.int (181) 0), (.ref 189), .none, (.ref 190), (.ref 191), (.ref 192), (.int (439) 0), (.int (92) 0), (cp 440)]
def o113 : Obj := fo (fn "next_base" "next_base" (top 26) 3 [] .none .none .none (.str "boardglue.bases" 422) none (.ref 193) .none 0)
def o114 : Obj := ⟨(.type "tuple"), none, (.seq #[(.str "one" 445), (.str "other" 446)] 0), #[]⟩
def o115 : Obj := ⟨.none, none, (.func (fn "crossed" "crossed" (top 27) 0 [] .none .none .none .none none .none .none 0)), #[]⟩
def o116 : Obj := co #[(.str "crossed" 442), (.str "crossed" 443), (cp 444), (.int (98) 0), (.int (2) 0), z0, z0, (.int (3) 0), (.ref 195), (.bool true), (.int (181) 0), (.ref 196), .none, (.ref 197), (.ref 198), (.ref 199), (.int (447) 0), (.int (98) 0), (cp 448)]
def o117 : Obj := fo (fn "crossed" "crossed" (top 27) 3 [] .none .none .none (.str "boardglue.bases" 422) none (.ref 200) .none 0)
def o118 : Obj := ⟨(.type "tuple"), none, (.seq #[(.str "d" 453), (.str "base" 454), (.str "one" 455), (.str "p" 456), (.str "q" 457), (.str "bottom" 458)] 0), #[]⟩
def o119 : Obj := ⟨.none, none, (.func (fn "counts" "counts" (top 28) 0 [] .none .none .none .none none .none .none 0)), #[]⟩
def o120 : Obj := co #[(.str "counts" 450), (.str "counts" 451), (cp 452), (.int (100) 0), (.int (3) 0), z0, z0, (.int (3) 0), (.ref 202), (.bool true), (.int (181) 0), (.ref 203), .none, (.ref 204), (.ref 205), (.ref 206), (.int (459) 0), (.int (100) 0), (cp 460)]
def o121 : Obj := fo (fn "counts" "counts" (top 28) 3 [] .none .none .none (.str "boardglue.bases" 422) none (.ref 207) .none 0)
def o122 : Obj := ⟨(.type "tuple"), none, (.seq #[(.str "lengths" 465), (.str "bottom" 466), (.str "one" 467)] 0), #[]⟩
def o123 : Obj := ⟨.none, none, (.func (fn "common_bottom" "common_bottom" (top 29) 0 [] .none .none .none .none none .none .none 0)), #[]⟩
def o124 : Obj := co #[(.str "common_bottom" 462), (.str "common_bottom" 463), (cp 464), (.int (105) 0), (.int (1) 0), z0, z0, (.int (3) 0), (.ref 209), (.bool true), (.int (181) 0), (.ref 210), .none, (.ref 211), (.ref 212), (.ref 213), (.int (468) 0), (.int (105) 0), (cp 469)]
def o125 : Obj := fo (fn "common_bottom" "common_bottom" (top 29) 3 [] .none .none .none (.str "boardglue.bases" 422) none (.ref 214) .none 0)
def o126 : Obj := ⟨.none, none, (.func (fn "serving" "serving" (top 30) 0 [] .none .none .none .none none .none .none 0)), #[]⟩
def o127 : Obj := co #[(.str "serving" 471), (.str "serving" 472), (cp 473), (.int (110) 0), (.int (2) 0), z0, z0, (.int (3) 0), (.ref 216), (.bool true), (.int (181) 0), (.ref 217), .none, .none, .none, (.ref 218), (.int (474) 0), (.int (110) 0), (cp 475)]
def o128 : Obj := fo (fn "serving" "serving" (top 30) 3 [] .none .none .none (.str "boardglue.bases" 422) none (.ref 219) .none 0)
def o129 : Obj := ⟨(.type "tuple"), none, (.seq #[(.str "d" 482), (.str "many" 483), (.str "one" 484)] 0), #[]⟩
def o130 : Obj := ⟨.none, none, (.func (fn "times_over" "times_over" (top 32) 0 [] .none .none .none .none none .none .none 0)), #[]⟩
def o131 : Obj := co #[(.str "times_over" 479), (.str "times_over" 480), (cp 481), (.int (119) 0), (.int (3) 0), z0, z0, (.int (3) 0), (.ref 221), (.bool true), (.int (181) 0), (.ref 222), .none, (.ref 223), (.ref 224), (.ref 225), (.int (485) 0), (.int (119) 0), (cp 486)]
def o132 : Obj := fo (fn "times_over" "times_over" (top 32) 3 [] .none .none .none (.str "boardglue.normal" 477) none (.ref 226) .none 0)
def o133 : Obj := ⟨(.type "tuple"), none, (.seq #[(.str "d" 491), (.str "heap" 492), (.str "base" 493), (.str "told" 494), (.str "place" 495), (.str "height" 496), (.str "one" 497), (.str "many" 498)] 0), #[]⟩
def o134 : Obj := ⟨.none, none, (.func (fn "normal_heap" "normal_heap" (top 33) 0 [] .none .none .none .none none .none .none 0)), #[]⟩
def o135 : Obj := co #[(.str "normal_heap" 488), (.str "normal_heap" 489), (cp 490), (.int (121) 0), (.int (3) 0), z0, z0, (.int (3) 0), (.ref 228), (.bool true), (.int (181) 0), (.ref 229), .none, (.ref 230), (.ref 231), (.ref 232), (.int (499) 0), (.int (121) 0), (cp 500)]
def o136 : Obj := fo (fn "normal_heap" "normal_heap" (top 33) 3 [] .none .none .none (.str "boardglue.normal" 477) none (.ref 233) .none 0)
def o137 : Obj := ⟨.none, none, (.func (fn "is_length" "is_length" (top 35) 0 [] .none .none .none .none none .none .none 0)), #[]⟩
def o138 : Obj := co #[(.str "is_length" 504), (.str "is_length" 505), (cp 506), (.int (132) 0), (.int (1) 0), z0, z0, (.int (3) 0), (.ref 235), (.bool true), (.int (181) 0), (.ref 236), .none, .none, .none, (.ref 237), (.int (507) 0), (.int (132) 0), (cp 508)]
def o139 : Obj := fo (fn "is_length" "is_length" (top 35) 3 [] .none .none .none (.str "boardglue.boards" 502) none (.ref 238) .none 0)
def o140 : Obj := ⟨(.type "tuple"), none, (.seq #[(.str "across" 512), (.str "along" 513)] 0), #[]⟩
def o141 : Obj := ⟨(.type "tuple"), none, (.seq #[(.str "beside" 515), (.str "atop" 516)] 0), #[]⟩
def o142 : Obj := ⟨(.type "tuple"), none, (.seq #[(.str "stack" 518), (.str "spread" 519)] 0), #[]⟩
def o143 : Obj := ⟨(.type "tuple"), none, (.seq #[(.str "thing" 526)] 0), #[]⟩
def o144 : Obj := ⟨.none, none, (.func (fn "is_deed" "is_deed" (top 41) 0 [] .none .none .none .none none .none .none 0)), #[]⟩
def o145 : Obj := co #[(.str "is_deed" 523), (.str "is_deed" 524), (cp 525), (.int (143) 0), (.int (1) 0), z0, z0, (.int (3) 0), (.ref 243), (.bool true), (.int (181) 0), (.ref 244), .none, (.ref 245), (.ref 246), (.ref 247), (.int (527) 0), (.int (143) 0), (cp 528)]
def o146 : Obj := fo (fn "is_deed" "is_deed" (top 41) 3 [] .none .none .none (.str "boardglue.yard" 510) none (.ref 248) .none 0)
def o147 : Obj := ⟨(.type "tuple"), none, (.seq #[(.str "deed" 533)] 0), #[]⟩
def o148 : Obj := ⟨.none, none, (.func (fn "names_taken" "names_taken" (top 42) 0 [] .none .none .none .none none .none .none 0)), #[]⟩
def o149 : Obj := co #[(.str "names_taken" 530), (.str "names_taken" 531), (cp 532), (.int (155) 0), (.int (1) 0), z0, z0, (.int (3) 0), (.ref 250), (.bool true), (.int (181) 0), (.ref 251), .none, (.ref 252), (.ref 253), (.ref 254), (.int (534) 0), (.int (155) 0), (cp 535)]
def o150 : Obj := fo (fn "names_taken" "names_taken" (top 42) 3 [] .none .none .none (.str "boardglue.yard" 510) none (.ref 255) .none 0)
def o151 : Obj := ⟨(.type "tuple"), none, (.seq #[(.str "one" 540)] 0), #[]⟩
def o152 : Obj := ⟨.none, none, (.func (fn "turned" "turned" (top 43) 0 [] .none .none .none .none none .none .none 0)), #[]⟩
def o153 : Obj := co #[(.str "turned" 537), (.str "turned" 538), (cp 539), (.int (157) 0), (.int (1) 0), z0, z0, (.int (3) 0), (.ref 257), (.bool true), (.int (181) 0), (.ref 258), .none, (.ref 259), (.ref 260), (.ref 261), (.int (541) 0), (.int (157) 0), (cp 542)]
def o154 : Obj := fo (fn "turned" "turned" (top 43) 3 [] .none .none .none (.str "boardglue.yard" 510) none (.ref 262) .none 0)
def o155 : Obj := ⟨(.type "tuple"), none, (.seq #[(.str "d" 547), (.str "one" 548), (.str "at" 549)] 0), #[]⟩
def o156 : Obj := ⟨.none, none, (.func (fn "cut_across" "cut_across" (top 44) 0 [] .none .none .none .none none .none .none 0)), #[]⟩
def o157 : Obj := co #[(.str "cut_across" 544), (.str "cut_across" 545), (cp 546), (.int (159) 0), (.int (3) 0), z0, z0, (.int (3) 0), (.ref 264), (.bool true), (.int (181) 0), (.ref 265), .none, (.ref 266), (.ref 267), (.ref 268), (.int (550) 0), (.int (159) 0), (cp 551)]
def o158 : Obj := fo (fn "cut_across" "cut_across" (top 44) 3 [] .none .none .none (.str "boardglue.yard" 510) none (.ref 269) .none 0)
def o159 : Obj := ⟨(.type "tuple"), none, (.seq #[(.str "one" 556), (.str "other" 557)] 0), #[]⟩
def o160 : Obj := ⟨.none, none, (.func (fn "glued_beside" "glued_beside" (top 45) 0 [] .none .none .none .none none .none .none 0)), #[]⟩
def o161 : Obj := co #[(.str "glued_beside" 553), (.str "glued_beside" 554), (cp 555), (.int (163) 0), (.int (2) 0), z0, z0, (.int (3) 0), (.ref 271), (.bool true), (.int (181) 0), (.ref 272), .none, (.ref 273), (.ref 274), (.ref 275), (.int (558) 0), (.int (163) 0), (cp 559)]
def o162 : Obj := fo (fn "glued_beside" "glued_beside" (top 45) 3 [] .none .none .none (.str "boardglue.yard" 510) none (.ref 276) .none 0)
def o163 : Obj := ⟨(.type "tuple"), none, (.seq #[(.str "one" 564), (.str "many" 565), (.str "width" 566), (.str "height" 567)] 0), #[]⟩
def o164 : Obj := ⟨.none, none, (.func (fn "stacked" "stacked" (top 46) 0 [] .none .none .none .none none .none .none 0)), #[]⟩
def o165 : Obj := co #[(.str "stacked" 561), (.str "stacked" 562), (cp 563), (.int (167) 0), (.int (2) 0), z0, z0, (.int (3) 0), (.ref 278), (.bool true), (.int (181) 0), (.ref 279), .none, (.ref 280), (.ref 281), (.ref 282), (.int (568) 0), (.int (167) 0), (cp 569)]
def o166 : Obj := fo (fn "stacked" "stacked" (top 46) 3 [] .none .none .none (.str "boardglue.yard" 510) none (.ref 283) .none 0)
def o167 (P : Params) : Obj := ⟨(.type "dict"), none, (.dict #[en P "__module__" 578 (.str "boardglue.yard" 510), en P "__qualname__" 580 (.str "Yard" 579), en P "__firstlineno__" 582 (.int (171) 581), en P "__init__" 588 (.ref 297), en P "do" 594 (.ref 302), en P "check_names" 603 (.ref 309), en P "put_by" 609 (.ref 314), en P "board_ever" 617 (.ref 321), en P "boards" 623 (.ref 326), en P "heap" 629 (.ref 331), en P "log" 636 (.ref 338), en P "__static_attributes__" 642 (.ref 339)] 12), #[]⟩
def o168 : Obj := ⟨.none, none, (.fields #[(.int (173) 0), (.int (4) 0), (.ref 296), (.int (180) 0), (.int (4) 0), (.ref 301), (.int (195) 0), (.int (4) 0), (.ref 308), (.int (202) 0), (.int (4) 0), (.ref 313), (.int (218) 0), (.int (4) 0), (.ref 320), (.int (221) 0), (.int (4) 0), (.ref 325), (.int (224) 0), (.int (4) 0), (.ref 330), (.int (227) 0), (.int (4) 0), (.ref 337)]), #[]⟩
def o169 : Obj := co #[(.str "Yard" 573), (.str "Yard" 574), (cp 575), (.int (171) 0), z0, z0, z0, z0, (.ref 288), (.bool false), (.int (181) 0), (.ref 289), .none, .none, .none, .none, (.int (576) 0), (.int (171) 0), (cp 577)]
def o170 : Obj := ⟨(.type "frame"), none, .plain, #[(some (.ref 290)), (some (.ref 3)), (some (.ref 287)), none, (some (.str "boardglue.yard" 510)), none, (some (.ref 0))]⟩
def o171 : Obj := ⟨(.type "tuple"), none, (.seq #[(.bool false)] 0), #[]⟩
def o172 : Obj := ⟨.none, none, (.func (fn "__init__" "Yard.__init__" (sub (top 47) 0) 0 [] .none .none .none .none none .none .none 0)), #[]⟩
def o173 : Obj := co #[(.str "__init__" 583), (.str "Yard.__init__" 584), (cp 585), (.int (173) 0), (.int (4) 0), z0, z0, (.int (3) 0), (.ref 293), (.bool true), (.int (181) 0), (.ref 294), .none, .none, .none, (.ref 295), (.int (586) 0), (.int (173) 0), (cp 587)]
def o174 : Obj := fo (fn "__init__" "Yard.__init__" (sub (top 47) 0) 3 [] (.ref 292) .none .none (.str "boardglue.yard" 510) none (.ref 296) .none 0)
def o175 : Obj := ⟨.none, none, (.func (fn "do" "Yard.do" (sub (top 47) 1) 0 [] .none .none .none .none none .none .none 0)), #[]⟩
def o176 : Obj := co #[(.str "do" 589), (.str "Yard.do" 590), (cp 591), (.int (180) 0), (.int (2) 0), z0, z0, (.int (3) 0), (.ref 298), (.bool true), (.int (181) 0), (.ref 299), .none, .none, .none, (.ref 300), (.int (592) 0), (.int (180) 0), (cp 593)]
def o177 : Obj := fo (fn "do" "Yard.do" (sub (top 47) 1) 3 [] .none .none .none (.str "boardglue.yard" 510) none (.ref 301) .none 0)
def o178 : Obj := ⟨(.type "tuple"), none, (.seq #[(.str "self" 598), (.str "names" 599), (.str "name" 600)] 0), #[]⟩
def o179 : Obj := ⟨.none, none, (.func (fn "check_names" "Yard.check_names" (sub (top 47) 2) 0 [] .none .none .none .none none .none .none 0)), #[]⟩
def o180 : Obj := co #[(.str "check_names" 595), (.str "Yard.check_names" 596), (cp 597), (.int (195) 0), (.int (2) 0), z0, z0, (.int (3) 0), (.ref 303), (.bool true), (.int (181) 0), (.ref 304), .none, (.ref 305), (.ref 306), (.ref 307), (.int (601) 0), (.int (195) 0), (cp 602)]
def o181 : Obj := fo (fn "check_names" "Yard.check_names" (sub (top 47) 2) 3 [] .none .none .none (.str "boardglue.yard" 510) none (.ref 308) .none 0)
def o182 : Obj := ⟨.none, none, (.func (fn "put_by" "Yard.put_by" (sub (top 47) 3) 0 [] .none .none .none .none none .none .none 0)), #[]⟩
def o183 : Obj := co #[(.str "put_by" 604), (.str "Yard.put_by" 605), (cp 606), (.int (202) 0), (.int (3) 0), z0, z0, (.int (3) 0), (.ref 310), (.bool true), (.int (181) 0), (.ref 311), .none, .none, .none, (.ref 312), (.int (607) 0), (.int (202) 0), (cp 608)]
def o184 : Obj := fo (fn "put_by" "Yard.put_by" (sub (top 47) 3) 3 [] .none .none .none (.str "boardglue.yard" 510) none (.ref 313) .none 0)
def o185 : Obj := ⟨(.type "tuple"), none, (.seq #[(.str "self" 613), (.str "name" 614)] 0), #[]⟩
def o186 : Obj := ⟨.none, none, (.func (fn "board_ever" "Yard.board_ever" (sub (top 47) 4) 0 [] .none .none .none .none none .none .none 0)), #[]⟩
def o187 : Obj := co #[(.str "board_ever" 610), (.str "Yard.board_ever" 611), (cp 612), (.int (218) 0), (.int (2) 0), z0, z0, (.int (3) 0), (.ref 315), (.bool true), (.int (181) 0), (.ref 316), .none, (.ref 317), (.ref 318), (.ref 319), (.int (615) 0), (.int (218) 0), (cp 616)]
def o188 : Obj := fo (fn "board_ever" "Yard.board_ever" (sub (top 47) 4) 3 [] .none .none .none (.str "boardglue.yard" 510) none (.ref 320) .none 0)
def o189 : Obj := ⟨.none, none, (.func (fn "boards" "Yard.boards" (sub (top 47) 5) 0 [] .none .none .none .none none .none .none 0)), #[]⟩
def o190 : Obj := co #[(.str "boards" 618), (.str "Yard.boards" 619), (cp 620), (.int (221) 0), (.int (1) 0), z0, z0, (.int (3) 0), (.ref 322), (.bool true), (.int (181) 0), (.ref 323), .none, .none, .none, (.ref 324), (.int (621) 0), (.int (221) 0), (cp 622)]
def o191 : Obj := fo (fn "boards" "Yard.boards" (sub (top 47) 5) 3 [] .none .none .none (.str "boardglue.yard" 510) none (.ref 325) .none 0)
def o192 : Obj := ⟨.none, none, (.func (fn "heap" "Yard.heap" (sub (top 47) 6) 0 [] .none .none .none .none none .none .none 0)), #[]⟩
def o193 : Obj := co #[(.str "heap" 624), (.str "Yard.heap" 625), (cp 626), (.int (224) 0), (.int (1) 0), z0, z0, (.int (3) 0), (.ref 327), (.bool true), (.int (181) 0), (.ref 328), .none, .none, .none, (.ref 329), (.int (627) 0), (.int (224) 0), (cp 628)]
def o194 : Obj := fo (fn "heap" "Yard.heap" (sub (top 47) 6) 3 [] .none .none .none (.str "boardglue.yard" 510) none (.ref 330) .none 0)
def o195 : Obj := ⟨(.type "tuple"), none, (.seq #[(.str "self" 633)] 0), #[]⟩
def o196 : Obj := ⟨.none, none, (.func (fn "log" "Yard.log" (sub (top 47) 7) 0 [] .none .none .none .none none .none .none 0)), #[]⟩
def o197 : Obj := co #[(.str "log" 630), (.str "Yard.log" 631), (cp 632), (.int (227) 0), (.int (1) 0), z0, z0, (.int (3) 0), (.ref 332), (.bool true), (.int (181) 0), (.ref 333), .none, (.ref 334), (.ref 335), (.ref 336), (.int (634) 0), (.int (227) 0), (cp 635)]
def o198 : Obj := fo (fn "log" "Yard.log" (sub (top 47) 7) 3 [] .none .none .none (.str "boardglue.yard" 510) none (.ref 337) .none 0)
def o199 : Obj := ⟨(.type "tuple"), none, (.seq #[(.str "done" 637), (.str "known" 638), (.str "lying" 639), (.str "root" 640), (.str "turning" 641)] 0), #[]⟩
def o200 (P : Params) : Obj := ⟨(.type "dict"), none, (.dict #[en P "__module__" 578 (.str "boardglue.yard" 510), en P "__firstlineno__" 582 (.int (171) 581), en P "__init__" 588 (.ref 297), en P "do" 594 (.ref 302), en P "check_names" 603 (.ref 309), en P "put_by" 609 (.ref 314), en P "board_ever" 617 (.ref 321), en P "boards" 623 (.ref 326), en P "heap" 629 (.ref 331), en P "log" 636 (.ref 338), en P "__static_attributes__" 642 (.ref 339), en P "__dict__" 644 (.ref 342), en P "__weakref__" 646 (.ref 343), en P "__doc__" 647 .none] 4), #[]⟩
def o201 : Obj := ⟨(.type "type"), none, (.cls ⟨"Yard", [(.type "object")], [(.ref 341), (.type "object")], 340, "Yard", true, [], [], false, none, false⟩), #[none, none, (some (.str "Yard" 571)), (some (.str "Yard" 579)), (some (.builtin "object.__new__")), (some (.bool true))]⟩
def o202 : Obj := ⟨(.type "getset_descriptor"), none, (.fields #[(.str "__dict__" 643), (.ref 341), (.builtin "function.__dict__"), (.builtin "function.__dict__#set")]), #[]⟩
def o203 : Obj := ⟨(.type "getset_descriptor"), none, (.fields #[(.str "__weakref__" 645), (.ref 341), (.builtin "ExceptionGroup.__weakref__"), .none]), #[]⟩
def o204 : Obj := ⟨(.type "super"), none, (.fields #[(.ref 341), (.ref 341), (.ref 341)]), #[]⟩
def o205 : Obj := ⟨(.type "builtin_function_or_method"), none, (.fields #[(.builtin "object.__init_subclass__"), (.ref 341)]), #[]⟩
def o206 : Obj := ⟨(.type "tuple"), none, (.seq #[(.str "_law_script" 655), (.str "_law_k" 656)] 0), #[]⟩
def o207 : Obj := ⟨.none, none, (.func (fn "_law_cell" "_law_cell" (top 49) 0 [] .none .none .none .none none .none .none 0)), #[]⟩
def o208 : Obj := co #[(.str "_law_cell" 652), (.str "_law_cell" 653), (cp 654), (.int (230) 0), (.int (2) 0), z0, z0, (.int (3) 0), (.ref 346), (.bool true), (.int (181) 0), (.ref 347), .none, (.ref 348), (.ref 349), (.ref 350), (.int (657) 0), (.int (230) 0), (cp 658)]
def o209 : Obj := fo (fn "_law_cell" "_law_cell" (top 49) 3 [] .none .none .none (.str "law_boardglue_k54_one_table_one_normal" 650) none (.ref 351) .none 0)
def o210 : Obj := ⟨(.type "tuple"), none, (.seq #[(.str "_law_cell_here" 663), (.str "_law_k" 664), (.str "_law_many" 665), (.str "_law_found" 666), (.str "_law_rest" 667), (.str "_law_number" 668), (.str "_law_j" 669)] 0), #[]⟩
def o211 : Obj := ⟨.none, none, (.func (fn "_law_digits" "_law_digits" (top 50) 0 [] .none .none .none .none none .none .none 0)), #[]⟩
def o212 : Obj := co #[(.str "_law_digits" 660), (.str "_law_digits" 661), (cp 662), (.int (234) 0), (.int (3) 0), z0, z0, (.int (3) 0), (.ref 353), (.bool true), (.int (181) 0), (.ref 354), .none, (.ref 355), (.ref 356), (.ref 357), (.int (670) 0), (.int (234) 0), (cp 671)]
def o213 : Obj := fo (fn "_law_digits" "_law_digits" (top 50) 3 [] .none .none .none (.str "law_boardglue_k54_one_table_one_normal" 650) none (.ref 358) .none 0)
def o214 : Obj := ⟨(.type "tuple"), none, (.seq #[(.str "_law_one" 676), (.str "_law_other" 677)] 0), #[]⟩
def o215 : Obj := ⟨.none, none, (.func (fn "_law_divisor" "_law_divisor" (top 51) 0 [] .none .none .none .none none .none .none 0)), #[]⟩
def o216 : Obj := co #[(.str "_law_divisor" 673), (.str "_law_divisor" 674), (cp 675), (.int (245) 0), (.int (2) 0), z0, z0, (.int (3) 0), (.ref 360), (.bool true), (.int (181) 0), (.ref 361), .none, (.ref 362), (.ref 363), (.ref 364), (.int (678) 0), (.int (245) 0), (cp 679)]
def o217 : Obj := fo (fn "_law_divisor" "_law_divisor" (top 51) 3 [] .none .none .none (.str "law_boardglue_k54_one_table_one_normal" 650) none (.ref 365) .none 0)
def o218 : Obj := ⟨(.type "tuple"), none, (.seq #[(.str "_law_script" 684), (.str "_law_d" 685)] 0), #[]⟩
def o219 : Obj := ⟨.none, none, (.func (fn "_law_root" "_law_root" (top 52) 0 [] .none .none .none .none none .none .none 0)), #[]⟩
def o220 : Obj := co #[(.str "_law_root" 681), (.str "_law_root" 682), (cp 683), (.int (249) 0), (.int (1) 0), z0, z0, (.int (3) 0), (.ref 367), (.bool true), (.int (181) 0), (.ref 368), .none, (.ref 369), (.ref 370), (.ref 371), (.int (686) 0), (.int (249) 0), (cp 687)]
def o221 : Obj := fo (fn "_law_root" "_law_root" (top 52) 3 [] .none .none .none (.str "law_boardglue_k54_one_table_one_normal" 650) none (.ref 372) .none 0)
def o222 : Obj := ⟨(.type "tuple"), none, (.seq #[(.str "_law_some" 692), (.str "_law_great" 693), (.str "_law_top" 694), (.str "_law_bottom" 695), (.str "_law_thing" 696)] 0), #[]⟩
def o223 : Obj := ⟨.none, none, (.func (fn "_law_fraction" "_law_fraction" (top 53) 0 [] .none .none .none .none none .none .none 0)), #[]⟩
def o224 : Obj := co #[(.str "_law_fraction" 689), (.str "_law_fraction" 690), (cp 691), (.int (254) 0), (.int (2) 0), z0, z0, (.int (3) 0), (.ref 374), (.bool true), (.int (181) 0), (.ref 375), .none, (.ref 376), (.ref 377), (.ref 378), (.int (697) 0), (.int (254) 0), (cp 698)]
def o225 : Obj := fo (fn "_law_fraction" "_law_fraction" (top 53) 3 [] .none .none .none (.str "law_boardglue_k54_one_table_one_normal" 650) none (.ref 379) .none 0)
def o226 : Obj := ⟨(.type "tuple"), none, (.seq #[(.str "_law_d" 703), (.str "_law_first" 704), (.str "_law_second" 705), (.str "_law_a" 706), (.str "_law_b" 707)] 0), #[]⟩
def o227 : Obj := ⟨.none, none, (.func (fn "_law_above" "_law_above" (top 54) 0 [] .none .none .none .none none .none .none 0)), #[]⟩
def o228 : Obj := co #[(.str "_law_above" 700), (.str "_law_above" 701), (cp 702), (.int (265) 0), (.int (3) 0), z0, z0, (.int (3) 0), (.ref 381), (.bool true), (.int (181) 0), (.ref 382), .none, (.ref 383), (.ref 384), (.ref 385), (.int (708) 0), (.int (265) 0), (cp 709)]
def o229 : Obj := fo (fn "_law_above" "_law_above" (top 54) 3 [] .none .none .none (.str "law_boardglue_k54_one_table_one_normal" 650) none (.ref 386) .none 0)
def o230 : Obj := ⟨(.type "tuple"), none, (.seq #[(.str "_law_d" 714), (.str "_law_some" 715), (.str "_law_great" 716), (.str "_law_first" 717), (.str "_law_second" 718)] 0), #[]⟩
def o231 : Obj := ⟨.none, none, (.func (fn "_law_side" "_law_side" (top 55) 0 [] .none .none .none .none none .none .none 0)), #[]⟩
def o232 : Obj := co #[(.str "_law_side" 711), (.str "_law_side" 712), (cp 713), (.int (273) 0), (.int (3) 0), z0, z0, (.int (3) 0), (.ref 388), (.bool true), (.int (181) 0), (.ref 389), .none, (.ref 390), (.ref 391), (.ref 392), (.int (719) 0), (.int (273) 0), (cp 720)]
def o233 : Obj := fo (fn "_law_side" "_law_side" (top 55) 3 [] .none .none .none (.str "law_boardglue_k54_one_table_one_normal" 650) none (.ref 393) .none 0)
def o234 : Obj := ⟨(.type "tuple"), none, (.seq #[(.str "_law_d" 725), (.str "_law_some" 726), (.str "_law_parts_of_it" 727)] 0), #[]⟩
def o235 : Obj := ⟨.none, none, (.func (fn "_law_length" "_law_length" (top 56) 0 [] .none .none .none .none none .none .none 0)), #[]⟩
def o236 : Obj := co #[(.str "_law_length" 722), (.str "_law_length" 723), (cp 724), (.int (285) 0), (.int (2) 0), z0, z0, (.int (3) 0), (.ref 395), (.bool true), (.int (181) 0), (.ref 396), .none, (.ref 397), (.ref 398), (.ref 399), (.int (728) 0), (.int (285) 0), (cp 729)]
def o237 : Obj := fo (fn "_law_length" "_law_length" (top 56) 3 [] .none .none .none (.str "law_boardglue_k54_one_table_one_normal" 650) none (.ref 400) .none 0)
def o238 : Obj := ⟨(.type "tuple"), none, (.seq #[(.str "_law_d" 734), (.str "_law_cells" 735), (.str "_law_found" 736), (.str "_law_k" 737), (.str "_law_some" 738)] 0), #[]⟩
def o239 : Obj := ⟨.none, none, (.func (fn "_law_heap" "_law_heap" (top 57) 0 [] .none .none .none .none none .none .none 0)), #[]⟩
def o240 : Obj := co #[(.str "_law_heap" 731), (.str "_law_heap" 732), (cp 733), (.int (288) 0), (.int (2) 0), z0, z0, (.int (3) 0), (.ref 402), (.bool true), (.int (181) 0), (.ref 403), .none, (.ref 404), (.ref 405), (.ref 406), (.int (739) 0), (.int (288) 0), (cp 740)]
def o241 : Obj := fo (fn "_law_heap" "_law_heap" (top 57) 3 [] .none .none .none (.str "law_boardglue_k54_one_table_one_normal" 650) none (.ref 407) .none 0)
def o242 : Obj := ⟨(.type "tuple"), none, (.seq #[(.str "_law_heap_here" 745), (.str "_law_bottom" 746), (.str "_law_width" 747), (.str "_law_height" 748), (.str "_law_places" 749), (.str "_law_share" 750), (.str "_law_k" 751)] 0), #[]⟩
def o243 : Obj := ⟨.none, none, (.func (fn "_law_tab" "_law_tab" (top 58) 0 [] .none .none .none .none none .none .none 0)), #[]⟩
def o244 : Obj := co #[(.str "_law_tab" 742), (.str "_law_tab" 743), (cp 744), (.int (294) 0), (.int (1) 0), z0, z0, (.int (3) 0), (.ref 409), (.bool true), (.int (181) 0), (.ref 410), .none, (.ref 411), (.ref 412), (.ref 413), (.int (752) 0), (.int (294) 0), (cp 753)]
def o245 : Obj := fo (fn "_law_tab" "_law_tab" (top 58) 3 [] .none .none .none (.str "law_boardglue_k54_one_table_one_normal" 650) none (.ref 414) .none 0)
def o246 : Obj := ⟨.none, none, (.func (fn "_law_like" "_law_like" (top 59) 0 [] .none .none .none .none none .none .none 0)), #[]⟩
def o247 : Obj := co #[(.str "_law_like" 755), (.str "_law_like" 756), (cp 757), (.int (304) 0), (.int (2) 0), z0, z0, (.int (3) 0), (.ref 416), (.bool true), (.int (181) 0), (.ref 417), .none, .none, .none, (.ref 418), (.int (758) 0), (.int (304) 0), (cp 759)]
def o248 : Obj := fo (fn "_law_like" "_law_like" (top 59) 3 [] .none .none .none (.str "law_boardglue_k54_one_table_one_normal" 650) none (.ref 419) .none 0)
def o249 : Obj := ⟨(.type "tuple"), none, (.seq #[(.str "_law_boards" 764), (.str "_law_side_here" 765), (.str "_law_k" 766), (.str "_law_j" 767)] 0), #[]⟩
def o250 : Obj := ⟨.none, none, (.func (fn "_law_pair" "_law_pair" (top 60) 0 [] .none .none .none .none none .none .none 0)), #[]⟩
def o251 : Obj := co #[(.str "_law_pair" 761), (.str "_law_pair" 762), (cp 763), (.int (308) 0), (.int (2) 0), z0, z0, (.int (3) 0), (.ref 421), (.bool true), (.int (181) 0), (.ref 422), .none, (.ref 423), (.ref 424), (.ref 425), (.int (768) 0), (.int (308) 0), (cp 769)]
def o252 : Obj := fo (fn "_law_pair" "_law_pair" (top 60) 3 [] .none .none .none (.str "law_boardglue_k54_one_table_one_normal" 650) none (.ref 426) .none 0)
def o253 : Obj := ⟨(.type "tuple"), none, (.seq #[(.str "_law_d" 774), (.str "_law_yard" 775), (.str "_law_some" 776), (.str "_law_most" 777), (.str "_law_boards" 778), (.str "_law_name" 779), (.str "_law_one" 780), (.str "_law_way" 781), (.str "_law_many" 782), (.str "_law_side_here" 783), (.str "_law_at" 784), (.str "_law_pair_here" 785)] 0), #[]⟩
def o254 : Obj := ⟨.none, none, (.func (fn "_law_done" "_law_done" (top 61) 0 [] .none .none .none .none none .none .none 0)), #[]⟩
def o255 : Obj := co #[(.str "_law_done" 771), (.str "_law_done" 772), (cp 773), (.int (314) 0), (.int (4) 0), z0, z0, (.int (3) 0), (.ref 428), (.bool true), (.int (181) 0), (.ref 429), .none, (.ref 430), (.ref 431), (.ref 432), (.int (786) 0), (.int (314) 0), (cp 787)]
def o256 : Obj := fo (fn "_law_done" "_law_done" (top 61) 3 [] .none .none .none (.str "law_boardglue_k54_one_table_one_normal" 650) none (.ref 433) .none 0)
def o257 : Obj := ⟨.none, none, (.func (fn "law" "law" (top 62) 0 [] .none .none .none .none none .none .none 0)), #[]⟩
def o258 : Obj := co #[(.str "law" 789), (.str "law" 790), (cp 791), (.int (329) 0), (.int (1) 0), z0, z0, (.int (3) 0), (.ref 435), (.bool true), (.int (181) 0), (.ref 436), .none, .none, .none, (.ref 437), (.int (792) 0), (.int (329) 0), (cp 793)]
def o259 : Obj := fo (fn "law" "law" (top 62) 3 [] .none .none .none (.str "law_boardglue_k54_one_table_one_normal" 650) none (.ref 438) .none 0)
def T1 (P : Params) : BT := (.node (boot_o_0 P) (.node (boot_o_1 P) (.node (o4 P) (.node (boot_o_7 P) (.node (o0) (.node (o16) (.node (o1) (.node (o0) (.node (o149) .nil .nil) (.node (o226) .nil .nil)) (.node (o0) (.node (o186) .nil .nil) .nil)) (.node (o56) (.node (o93) (.node (o167 P) .nil .nil) (.node (o245) .nil .nil)) (.node (o129) (.node (o208) .nil .nil) .nil))) (.node (o20) (.node (o45 P) (.node (o83) (.node (o0) .nil .nil) (.node (o235) .nil .nil)) (.node (o120) (.node (o0) .nil .nil) .nil)) (.node (o1) (.node (o1) (.node (o0) .nil .nil) (.node (o0) .nil .nil)) (.node (o139) (.node (o0) .nil .nil) .nil)))) (.node (o11) (.node (o1) (.node (o20) (.node (o0) (.node (o154) .nil .nil) (.node (o0) .nil .nil)) (.node (o115) (.node (o0) .nil .nil) .nil)) (.node (o0) (.node (o0) (.node (o172) .nil .nil) (.node (o249) .nil .nil)) (.node (o0) (.node (o213) .nil .nil) .nil))) (.node (o31 P) (.node (o1) (.node (o88) (.node (o1) .nil .nil) (.node (o240) .nil .nil)) (.node (o125) (.node (o203) .nil .nil) .nil)) (.node (o69) (.node (o106) (.node (o1) .nil .nil) (.node (o259) .nil .nil)) (.node (o144) (.node (o1) .nil .nil) .nil))))) (.node (o0) (.node (o7) (.node (o20) (.node (o38 P) (.node (o77) (.node (o151) .nil .nil) (.node (o229) .nil .nil)) (.node (o0) (.node (o1) .nil .nil) .nil)) (.node (o0) (.node (o0) (.node (o170) .nil .nil) (.node (o247) .nil .nil)) (.node (o132) (.node (o210) .nil .nil) .nil))) (.node (o1) (.node (o20) (.node (o1) (.node (o160) .nil .nil) (.node (o1) .nil .nil)) (.node (o122) (.node (o199) .nil .nil) .nil)) (.node (o67) (.node (o104) (.node (o179) .nil .nil) (.node (o0) .nil .nil)) (.node (o0) (.node (o219) .nil .nil) .nil)))) (.node (o13) (.node (o24 P) (.node (o1) (.node (o0) (.node (o0) .nil .nil) (.node (o0) .nil .nil)) (.node (o1) (.node (o194) .nil .nil) .nil)) (.node (o62) (.node (o99) (.node (o1) .nil .nil) (.node (o252) .nil .nil)) (.node (o0) (.node (o0) .nil .nil) .nil))) (.node (o20) (.node (o52 P) (.node (o90) (.node (o165) .nil .nil) (.node (o242) .nil .nil)) (.node (o127) (.node (o1) .nil .nil) .nil)) (.node (o72) (.node (o109) (.node (o0) .nil .nil) .nil) (.node (o1) (.node (o224) .nil .nil) .nil)))))) (.node (boot_o_5 P) (.node (boot_o_9 P) (.node (o6) (.node (o18) (.node (o37) (.node (o75) (.node (o0) .nil .nil) (.node (o227) .nil .nil)) (.node (o112) (.node (o188) .nil .nil) .nil)) (.node (o1) (.node (o1) (.node (o168) .nil .nil) (.node (o1) .nil .nil)) (.node (o130) (.node (o0) .nil .nil) .nil))) (.node (o28 P) (.node (o47) (.node (o85) (.node (o159) .nil .nil) (.node (o237) .nil .nil)) (.node (o0) (.node (o197) .nil .nil) .nil)) (.node (o0) (.node (o0) (.node (o178) .nil .nil) (.node (o255) .nil .nil)) (.node (o141) (.node (o218) .nil .nil) .nil)))) (.node (o0) (.node (o23) (.node (o42 P) (.node (o80) (.node (o1) .nil .nil) (.node (o232) .nil .nil)) (.node (o117) (.node (o192) .nil .nil) .nil)) (.node (o61) (.node (o98) (.node (o174) .nil .nil) (.node (o250) .nil .nil)) (.node (o135) (.node (o1) .nil .nil) .nil))) (.node (o33) (.node (o51) (.node (o0) (.node (o0) .nil .nil) (.node (o0) .nil .nil)) (.node (o1) (.node (o205) .nil .nil) .nil)) (.node (o70) (.node (o107) (.node (o183) .nil .nil) .nil) (.node (o146) (.node (o0) .nil .nil) .nil))))) (.node (o2) (.node (o9) (.node (o21 P) (.node (o40) (.node (o1) (.node (o152) .nil .nil) (.node (o1) .nil .nil)) (.node (o114) (.node (o190) .nil .nil) .nil)) (.node (o59) (.node (o96) (.node (o0) .nil .nil) (.node (o0) .nil .nil)) (.node (o1) (.node (o211) .nil .nil) .nil))) (.node (o30) (.node (o49 P) (.node (o0) (.node (o162) .nil .nil) (.node (o0) .nil .nil)) (.node (o123) (.node (o201) .nil .nil) .nil)) (.node (o0) (.node (o0) (.node (o181) .nil .nil) (.node (o257) .nil .nil)) (.node (o143) (.node (o221) .nil .nil) .nil)))) (.node (o0) (.node (o26) (.node (o44) (.node (o82) (.node (o157) .nil .nil) (.node (o234) .nil .nil)) (.node (o0) (.node (o1) .nil .nil) .nil)) (.node (o64) (.node (o101) (.node (o176) .nil .nil) (.node (o1) .nil .nil)) (.node (o137) (.node (o216) .nil .nil) .nil))) (.node (o35 P) (.node (o54) (.node (o91) (.node (o0) .nil .nil) (.node (o243) .nil .nil)) (.node (o0) (.node (o0) .nil .nil) .nil)) (.node (o1) (.node (o1) (.node (o185) .nil .nil) .nil) (.node (o0) (.node (o0) .nil .nil) .nil))))))) (.node (boot_o_2 P) (.node (boot_o_4 P) (.node (boot_o_8 P) (.node (o1) (.node (o17) (.node (o36) (.node (o74) (.node (o150) .nil .nil) (.node (o0) .nil .nil)) (.node (o111) (.node (o187) .nil .nil) .nil)) (.node (o0) (.node (o0) (.node (o0) .nil .nil) (.node (o0) .nil .nil)) (.node (o0) (.node (o209) .nil .nil) .nil))) (.node (o11) (.node (o46) (.node (o84) (.node (o1) .nil .nil) (.node (o236) .nil .nil)) (.node (o121) (.node (o196) .nil .nil) .nil)) (.node (o65) (.node (o102) (.node (o1) .nil .nil) (.node (o254) .nil .nil)) (.node (o140) (.node (o1) .nil .nil) .nil)))) (.node (o12 P) (.node (o22) (.node (o11) (.node (o79) (.node (o0) .nil .nil) (.node (o231) .nil .nil)) (.node (o116) (.node (o1) .nil .nil) .nil)) (.node (o1) (.node (o1) (.node (o173) .nil .nil) (.node (o0) .nil .nil)) (.node (o134) (.node (o0) .nil .nil) .nil))) (.node (o32) (.node (o50) (.node (o89) (.node (o163) .nil .nil) (.node (o241) .nil .nil)) (.node (o0) (.node (o204) .nil .nil) .nil)) (.node (o0) (.node (o0) (.node (o182) .nil .nil) .nil) (.node (o145) (.node (o222) .nil .nil) .nil))))) (.node (o5) (.node (o8) (.node (o11) (.node (o39) (.node (o0) (.node (o0) .nil .nil) (.node (o0) .nil .nil)) (.node (o1) (.node (o189) .nil .nil) .nil)) (.node (o58) (.node (o95) (.node (o171) .nil .nil) (.node (o248) .nil .nil)) (.node (o0) (.node (o0) .nil .nil) .nil))) (.node (o29) (.node (o11) (.node (o86) (.node (o161) .nil .nil) (.node (o238) .nil .nil)) (.node (o0) (.node (o200 P) .nil .nil) .nil)) (.node (o68) (.node (o105) (.node (o180) .nil .nil) (.node (o1) .nil .nil)) (.node (o1) (.node (o220) .nil .nil) .nil)))) (.node (o14) (.node (o25) (.node (o43) (.node (o1) (.node (o156) .nil .nil) (.node (o1) .nil .nil)) (.node (o118) (.node (o0) .nil .nil) .nil)) (.node (o63) (.node (o100) (.node (o175) .nil .nil) (.node (o0) .nil .nil)) (.node (o1) (.node (o215) .nil .nil) .nil))) (.node (o11) (.node (o53) (.node (o0) (.node (o166) .nil .nil) (.node (o0) .nil .nil)) (.node (o128) (.node (o206) .nil .nil) .nil)) (.node (o0) (.node (o0) (.node (o1) .nil .nil) .nil) (.node (o147) (.node (o225) .nil .nil) .nil)))))) (.node (boot_o_6 P) (.node (boot_o_10 P) (.node (o0) (.node (o19) (.node (o0) (.node (o76) (.node (o1) .nil .nil) (.node (o228) .nil .nil)) (.node (o113) (.node (o0) .nil .nil) .nil)) (.node (o57) (.node (o94) (.node (o169) .nil .nil) (.node (o246) .nil .nil)) (.node (o131) (.node (o1) .nil .nil) .nil))) (.node (o0) (.node (o48) (.node (o0) (.node (o0) .nil .nil) (.node (o0) .nil .nil)) (.node (o1) (.node (o198) .nil .nil) .nil)) (.node (o66) (.node (o103) (.node (o0) .nil .nil) (.node (o256) .nil .nil)) (.node (o142) (.node (o0) .nil .nil) .nil)))) (.node (o1) (.node (o0) (.node (o0) (.node (o81) (.node (o155) .nil .nil) (.node (o233) .nil .nil)) (.node (o0) (.node (o193) .nil .nil) .nil)) (.node (o0) (.node (o0) (.node (o0) .nil .nil) (.node (o251) .nil .nil)) (.node (o136) (.node (o214) .nil .nil) .nil))) (.node (o34) (.node (o0) (.node (o1) (.node (o164) .nil .nil) (.node (o1) .nil .nil)) (.node (o126) (.node (o0) .nil .nil) .nil)) (.node (o71) (.node (o108) (.node (o184) .nil .nil) .nil) (.node (o0) (.node (o223) .nil .nil) .nil))))) (.node (o3) (.node (o10) (.node (o0) (.node (o41) (.node (o78) (.node (o153) .nil .nil) (.node (o230) .nil .nil)) (.node (o0) (.node (o191) .nil .nil) .nil)) (.node (o60) (.node (o97) (.node (o1) .nil .nil) (.node (o1) .nil .nil)) (.node (o133) (.node (o212) .nil .nil) .nil))) (.node (o0) (.node (o0) (.node (o87) (.node (o0) .nil .nil) (.node (o239) .nil .nil)) (.node (o124) (.node (o202) .nil .nil) .nil)) (.node (o1) (.node (o1) (.node (o0) .nil .nil) (.node (o258) .nil .nil)) (.node (o0) (.node (o0) .nil .nil) .nil)))) (.node (o15 P) (.node (o27) (.node (o0) (.node (o0) (.node (o158) .nil .nil) (.node (o0) .nil .nil)) (.node (o119) (.node (o195) .nil .nil) .nil)) (.node (o0) (.node (o0) (.node (o177) .nil .nil) (.node (o253) .nil .nil)) (.node (o138) (.node (o217) .nil .nil) .nil))) (.node (o0) (.node (o55) (.node (o92) (.node (o11) .nil .nil) (.node (o244) .nil .nil)) (.node (o1) (.node (o207) .nil .nil) .nil)) (.node (o73) (.node (o110) (.node (o0) .nil .nil) .nil) (.node (o148) (.node (o1) .nil .nil) .nil))))))))
theorem pc0' (w : World) : (fun os => PySem.W.Fast.tw10110043849684766642 PySem.W.Fast.tw14364793385576792824 p w m0 ann (nat_lit 1) (nat_lit 3137) (⟨T0 w.params, nat_lit 15, lf0, ⟨[]⟩, dr1, nat_lit 187, os⟩ : SharedT) (PySem.W.piecesOf ((b.drop 0).take 63) env cE ⟨0, 0, 0, 0⟩ B)) = fun os => some (Flow.next, (⟨T1 w.params, nat_lit 440, lf0, ⟨[]⟩, dr1, nat_lit 795, os⟩ : SharedT), cE, ⟨329, 0, 343, 126⟩) := by kernel_rfl
theorem pc0 (w : World) (os : OsState) : segRun treeTable p w m0 ann (nat_lit 1) (nat_lit 3137) (SharedT.abs (⟨T0 w.params, nat_lit 15, lf0, ⟨[]⟩, dr1, nat_lit 187, os⟩ : SharedT)) (piecesOf ((b.drop 0).take 63) env cE ⟨0, 0, 0, 0⟩ B) = some (Flow.next, SharedT.abs (⟨T1 w.params, nat_lit 440, lf0, ⟨[]⟩, dr1, nat_lit 795, os⟩ : SharedT), cE, ⟨329, 0, 343, 126⟩) := by
  refine segRun_of ?_
  rw [PySem.W.Fast.te10110043849684766642, PySem.W.Fast.te14364793385576792824]
  exact congrFun (pc0' w) os
def H1 (P : Params) : Heap := ⟨⟨[boot_o_0 P, boot_o_1 P, boot_o_2 P, o4 P, boot_o_4 P, boot_o_5 P, boot_o_6 P, boot_o_7 P, boot_o_8 P, boot_o_9 P, boot_o_10 P, o0, o5, o2, o3, o0, o1, o6, o0, o7, o8, o9, o10, o11, o12 P, o0, o1, o13, o14, o0, o15 P, o16, o17, o18, o19, o20, o11, o21 P, o0, o1, o22, o23, o0, o24 P, o25, o26, o27, o20, o11, o28 P, o0, o1, o29, o30, o0, o31 P, o32, o33, o34, o20, o11, o35 P, o0, o1, o36, o37, o0, o38 P, o39, o40, o41, o20, o11, o42 P, o0, o1, o43, o44, o0, o45 P, o46, o47, o48, o20, o11, o49 P, o0, o1, o50, o51, o0, o52 P, o53, o54, o55, o56, o0, o1, o57, o0, o58, o59, o60, o0, o1, o61, o0, o62, o63, o64, o0, o1, o65, o0, o66, o67, o68, o0, o1, o69, o0, o70, o71, o72, o0, o1, o73, o0, o74, o75, o76, o77, o0, o1, o78, o0, o79, o80, o81, o0, o1, o82, o0, o83, o84, o85, o0, o1, o86, o0, o87, o88, o89, o0, o1, o90, o0, o91, o92, o93, o0, o1, o94, o0, o95, o96, o97, o0, o1, o98, o0, o99, o100, o101, o0, o1, o102, o0, o103, o104, o105, o0, o1, o106, o0, o107, o108, o109, o0, o1, o110, o0, o111, o112, o113, o0, o1, o114, o0, o115, o116, o117, o0, o1, o118, o0, o119, o120, o121, o0, o1, o122, o0, o123, o124, o125, o0, o1, o126, o127, o128, o0, o1, o129, o0, o130, o131, o132, o0, o1, o133, o0, o134, o135, o136, o0, o1, o137, o138, o139, o140, o141, o142, o0, o1, o143, o0, o144, o145, o146, o0, o1, o147, o0, o148, o149, o150, o0, o1, o151, o0, o152, o153, o154, o0, o1, o155, o0, o156, o157, o158, o0, o1, o159, o0, o160, o161, o162, o0, o1, o163, o0, o164, o165, o166, o0, o11, o167 P, o0, o168, o169, o170, o171, o0, o1, o172, o173, o174, o0, o1, o175, o176, o177, o0, o1, o178, o0, o179, o180, o181, o0, o1, o182, o183, o184, o0, o1, o185, o0, o186, o187, o188, o0, o1, o189, o190, o191, o0, o1, o192, o193, o194, o0, o1, o195, o0, o196, o197, o198, o199, o200 P, o201, o202, o203, o204, o205, o0, o1, o206, o0, o207, o208, o209, o0, o1, o210, o0, o211, o212, o213, o0, o1, o214, o0, o215, o216, o217, o0, o1, o218, o0, o219, o220, o221, o0, o1, o222, o0, o223, o224, o225, o0, o1, o226, o0, o227, o228, o229, o0, o1, o230, o0, o231, o232, o233, o0, o1, o234, o0, o235, o236, o237, o0, o1, o238, o0, o239, o240, o241, o0, o1, o242, o0, o243, o244, o245, o0, o1, o246, o247, o248, o0, o1, o249, o0, o250, o251, o252, o0, o1, o253, o0, o254, o255, o256, o0, o1, o257, o258, o259]⟩, lf0⟩
theorem fin' (w : World) : (fun os => PySem.W.Fast.tw14082659384304107361 PySem.W.Fast.tw14364793385576792824 p w m0 ann (nat_lit 2) (SharedT.abs (⟨T1 w.params, nat_lit 440, lf0, ⟨[]⟩, dr1, nat_lit 795, os⟩ : SharedT)) (Thread.mk (PySem.W.doneF Flow.next) cE ⟨329, 0, 343, 126⟩ B)) = fun os => some (⟨H1 w.params, ⟨[]⟩, dr1, nat_lit 795, os⟩ : Shared) := by kernel_rfl
theorem fin (w : World) (os : OsState) : topRun treeTable p w m0 ann (nat_lit 2) (SharedT.abs (⟨T1 w.params, nat_lit 440, lf0, ⟨[]⟩, dr1, nat_lit 795, os⟩ : SharedT)) (Thread.mk (doneF Flow.next) cE ⟨329, 0, 343, 126⟩ B) = some (⟨H1 w.params, ⟨[]⟩, dr1, nat_lit 795, os⟩ : Shared) := by
  rw [PySem.W.Fast.te14082659384304107361, PySem.W.Fast.te14364793385576792824]
  exact congrFun (fin' w) os
def as : List Addr := [2, 3, 15, 17, 18, 20, 21, 22, 29, 30, 31, 32, 35, 42, 43, 44, 47, 54, 55, 56, 59, 66, 67, 68, 71, 78, 79, 80, 83, 90, 91, 92, 95, 96, 98, 99, 101, 102, 103, 105, 106, 108, 109, 110, 112, 113, 115, 116, 117, 119, 120, 122, 123, 124, 126, 127, 129, 130, 131, 132, 134, 135, 137, 138, 139, 141, 142, 144, 145, 146, 148, 149, 151, 152, 153, 155, 156, 158, 159, 160, 162, 163, 165, 166, 167, 169, 170, 172, 173, 174, 176, 177, 179, 180, 181, 183, 184, 186, 187, 188, 190, 191, 193, 194, 195, 197, 198, 200, 201, 202, 204, 205, 207, 208, 209, 211, 212, 214, 215, 216, 219, 220, 221, 223, 224, 226, 227, 228, 230, 231, 233, 234, 235, 238, 239, 240, 241, 242, 243, 245, 246, 248, 249, 250, 252, 253, 255, 256, 257, 259, 260, 262, 263, 264, 266, 267, 269, 270, 271, 273, 274, 276, 277, 278, 280, 281, 283, 284, 292, 293, 296, 297, 298, 301, 302, 303, 305, 306, 308, 309, 310, 313, 314, 315, 317, 318, 320, 321, 322, 325, 326, 327, 330, 331, 332, 334, 335, 337, 338, 339, 340, 341, 342, 343, 346, 348, 349, 351, 352, 353, 355, 356, 358, 359, 360, 362, 363, 365, 366, 367, 369, 370, 372, 373, 374, 376, 377, 379, 380, 381, 383, 384, 386, 387, 388, 390, 391, 393, 394, 395, 397, 398, 400, 401, 402, 404, 405, 407, 408, 409, 411, 412, 414, 415, 416, 419, 420, 421, 423, 424, 426, 427, 428, 430, 431, 433, 434, 435, 438, 439]
def K (P : Params) : Frag := [(2, boot_o_2 P), (3, o4 P), (15, o0), (17, o6), (18, o0), (20, o8), (21, o9), (22, o10), (29, o0), (30, o15 P), (31, o16), (32, o17), (35, o20), (42, o0), (43, o24 P), (44, o25), (47, o20), (54, o0), (55, o31 P), (56, o32), (59, o20), (66, o0), (67, o38 P), (68, o39), (71, o20), (78, o0), (79, o45 P), (80, o46), (83, o20), (90, o0), (91, o52 P), (92, o53), (95, o56), (96, o0), (98, o57), (99, o0), (101, o59), (102, o60), (103, o0), (105, o61), (106, o0), (108, o63), (109, o64), (110, o0), (112, o65), (113, o0), (115, o67), (116, o68), (117, o0), (119, o69), (120, o0), (122, o71), (123, o72), (124, o0), (126, o73), (127, o0), (129, o75), (130, o76), (131, o77), (132, o0), (134, o78), (135, o0), (137, o80), (138, o81), (139, o0), (141, o82), (142, o0), (144, o84), (145, o85), (146, o0), (148, o86), (149, o0), (151, o88), (152, o89), (153, o0), (155, o90), (156, o0), (158, o92), (159, o93), (160, o0), (162, o94), (163, o0), (165, o96), (166, o97), (167, o0), (169, o98), (170, o0), (172, o100), (173, o101), (174, o0), (176, o102), (177, o0), (179, o104), (180, o105), (181, o0), (183, o106), (184, o0), (186, o108), (187, o109), (188, o0), (190, o110), (191, o0), (193, o112), (194, o113), (195, o0), (197, o114), (198, o0), (200, o116), (201, o117), (202, o0), (204, o118), (205, o0), (207, o120), (208, o121), (209, o0), (211, o122), (212, o0), (214, o124), (215, o125), (216, o0), (219, o127), (220, o128), (221, o0), (223, o129), (224, o0), (226, o131), (227, o132), (228, o0), (230, o133), (231, o0), (233, o135), (234, o136), (235, o0), (238, o138), (239, o139), (240, o140), (241, o141), (242, o142), (243, o0), (245, o143), (246, o0), (248, o145), (249, o146), (250, o0), (252, o147), (253, o0), (255, o149), (256, o150), (257, o0), (259, o151), (260, o0), (262, o153), (263, o154), (264, o0), (266, o155), (267, o0), (269, o157), (270, o158), (271, o0), (273, o159), (274, o0), (276, o161), (277, o162), (278, o0), (280, o163), (281, o0), (283, o165), (284, o166), (292, o171), (293, o0), (296, o173), (297, o174), (298, o0), (301, o176), (302, o177), (303, o0), (305, o178), (306, o0), (308, o180), (309, o181), (310, o0), (313, o183), (314, o184), (315, o0), (317, o185), (318, o0), (320, o187), (321, o188), (322, o0), (325, o190), (326, o191), (327, o0), (330, o193), (331, o194), (332, o0), (334, o195), (335, o0), (337, o197), (338, o198), (339, o199), (340, o200 P), (341, o201), (342, o202), (343, o203), (346, o0), (348, o206), (349, o0), (351, o208), (352, o209), (353, o0), (355, o210), (356, o0), (358, o212), (359, o213), (360, o0), (362, o214), (363, o0), (365, o216), (366, o217), (367, o0), (369, o218), (370, o0), (372, o220), (373, o221), (374, o0), (376, o222), (377, o0), (379, o224), (380, o225), (381, o0), (383, o226), (384, o0), (386, o228), (387, o229), (388, o0), (390, o230), (391, o0), (393, o232), (394, o233), (395, o0), (397, o234), (398, o0), (400, o236), (401, o237), (402, o0), (404, o238), (405, o0), (407, o240), (408, o241), (409, o0), (411, o242), (412, o0), (414, o244), (415, o245), (416, o0), (419, o247), (420, o248), (421, o0), (423, o249), (424, o0), (426, o251), (427, o252), (428, o0), (430, o253), (431, o0), (433, o255), (434, o256), (435, o0), (438, o258), (439, o259)]
theorem asK (P : Params) : as = (K P).map (·.1) := by kernel_rfl
theorem at_ {w : World} {n N : Nat} {s s' r : Shared} {i k : Nat} {pos p' : Pos} (h : segRun treeTable p w m0 ann 1 n s (piecesOf ((b.drop i).take k) env cE pos B) = some (.next, s', cE, p')) (g : topRun treeTable p w m0 ann N s' (restOf (b.drop (i + k)) env cE p' B) = some r) : topRun treeTable p w m0 ann (n + N) s (restOf (b.drop i) env cE pos B) = some r := by
  have z := piece_app h g
  rwa [← List.drop_drop, List.take_append_drop] at z
theorem bend : b.drop 63 = [] := by kernel_rfl
theorem run (w : World) (os : OsState) : topRun treeTable p w m0 ann (12 + (1 + (3137 + 2))) (⟨boot_heap w.params, ⟨[]⟩, boot_drawn, boot_toks, os⟩ : Shared) (topStub p) = some (⟨H1 w.params, ⟨[]⟩, dr1, nat_lit 795, os⟩ : Shared) := go_top (pre w os) (piece_block (blk w os) (show topRun treeTable p w m0 ann _ _ (restOf (b.drop 0) env cE _ B) = _ from (at_ (i := 0) (k := 63) (pc0 w os) (by rw [show b.drop 63 = [] from bend]; exact piece_nil (fin w os)))))
theorem size (w : World) : ((boot_heap w.params).isNs mainGlobals && (⟨[]⟩ : Array GenState).size == 0, (boot_heap w.params).objs.size, (boot_heap w.params).nsMap mainGlobals "__annotations__") = (true, m0, ann) := by kernel_rfl
def qv : Program := view p [62]
def loose : List Str := [Str.ofString "_wall", Str.ofString "YardError", Str.ofString "NoLength", Str.ofString "NoDeed", Str.ofString "NoName", Str.ofString "Grain", Str.ofString "Unfit", Str.ofString "NOUGHT", Str.ofString "GREAT_BITS", Str.ofString "HEAD_BITS", Str.ofString "is_whole", Str.ofString "common_divisor", Str.ofString "far_rests", Str.ofString "sure_steps", Str.ofString "with_sign_of", Str.ofString "length", Str.ofString "by_parts", Str.ofString "added", Str.ofString "taken", Str.ofString "timed", Str.ofString "is_above_nought", Str.ofString "under", Str.ofString "first_base", Str.ofString "next_base", Str.ofString "crossed", Str.ofString "counts", Str.ofString "common_bottom", Str.ofString "serving", Str.ofString "times_over", Str.ofString "normal_heap", Str.ofString "is_length", Str.ofString "CUTS", Str.ofString "GLUINGS", Str.ofString "SHIFTS", Str.ofString "TURN", Str.ofString "is_deed", Str.ofString "names_taken", Str.ofString "turned", Str.ofString "cut_across", Str.ofString "glued_beside", Str.ofString "stacked", Str.ofString "Yard", Str.ofString "_law_cell", Str.ofString "_law_digits", Str.ofString "_law_divisor", Str.ofString "_law_root", Str.ofString "_law_fraction", Str.ofString "_law_above", Str.ofString "_law_side", Str.ofString "_law_length", Str.ofString "_law_heap", Str.ofString "_law_tab", Str.ofString "_law_like", Str.ofString "_law_pair", Str.ofString "_law_done"]
def Xt (s : Shared) : Bool := xlAt qv [] s && recOk [] s
def Yf (s : Shared) : List (Option Obj) := as.map s.heap.get?
def Ya (w : World) : List (Option Obj) := (K w.params).map fun p => some p.2
theorem F1 (w : World) : (fun os : OsState => (staticsOk (importedModules p.main.body) (boot_heap w.params) (H1 w.params) && namesBound p (H1 w.params) && gensDone (⟨H1 w.params, ⟨[]⟩, dr1, nat_lit 795, os⟩ : Shared) && laidKept (boot_heap w.params) (H1 w.params))) = fun _ => true := by kernel_rfl
theorem ES (w : World) : (fun os : OsState => openSeen qv loose (importedModules p.main.body) Xt true (⟨H1 w.params, ⟨[]⟩, dr1, nat_lit 795, os⟩ : Shared)) = fun _ => openGood qv loose := by kernel_rfl
theorem FA (w : World) : (fun os : OsState => Yf (⟨H1 w.params, ⟨[]⟩, dr1, nat_lit 795, os⟩ : Shared)) = fun _ => Ya w := by kernel_rfl
theorem left : LeftO p qv loose Xt Yf Ya 6398 := by
  refine LeftO.of_pieces (H₀ := boot_heap) (H₁ := H1) (gs₀ := ⟨[]⟩) (gs₁ := ⟨[]⟩) (d₀ := boot_drawn) (d₁ := dr1) (k₀ := boot_toks) (k₁ := nat_lit 795) (m₀ := m0) (ann := ann) (M := (12 + (1 + (3137 + 2)))) (boot_open (by kernel_rfl) (by decide) (fun s => by kernel_rfl)) size run (by decide) (fun w => funext fun os => ?_)
  exact looks_pair (congrFun (F1 w) os) (looks_pair (congrFun (ES w) os) (congrFun (FA w) os))
end Hd
end
noncomputable section
namespace Hd
open PySem PySem.W PySem.Calls PyProof.Rows
abbrev pm0 : Value := (.str "boardglue.lengths" 294)
abbrev pm1 : Value := (.str "boardglue.bases" 422)
abbrev pm2 : Value := (.str "boardglue.yard" 510)
abbrev pm3 : Value := (.str "law_boardglue_k54_one_table_one_normal" 650)
abbrev pm4 : Value := (.str "boardglue.boards" 502)
abbrev pm5 : Value := (.str "boardglue.normal" 477)
def cs : Bk.Cs := ⟨31, 44, 56, 68, 80, 92, 341⟩
section
variable {w : World} {mg : Str → Option Value} {h : Heap} (KX : (K w.params).In h) (G : h.Ns mainGlobals mg)
include KX G
theorem tp {x : Str} {st : Stmt} (f cd : Addr) (pm : Value) (a : nsIn (K w.params) mainGlobals x = some (some (.ref f))) (l : (K w.params).lookup f = some ⟨.type "function", none, .func (fnOf x x (L2.defArgs st) (L2.defBody st) (L2.defScope st) .none .none .none pm none (.ref cd) .none), #[]⟩) (c : codeIn (K w.params) (.ref cd) x = true) (k : keepIn (K w.params) (.ref f) = true) : L2.Top (K w.params) mg x st := L2.top_mk KX G a l c k
theorem tm {C : Addr} {m q : Str} {st : Stmt} (f cd : Addr) (pm : Value) (l : (K w.params).lookup f = some ⟨.type "function", none, .func (fnOf m q (L2.defArgs st) (L2.defBody st) (L2.defScope st) .none .none .none pm none (.ref cd) .none), #[]⟩) (c : codeIn (K w.params) (.ref cd) q = true) (k : keepIn (K w.params) (.ref f) = true) (a : findIn (K w.params) (.ref C) m = some (some (.ref f))) (n : isFn (K w.params) (.ref f) = true) : L2.TopM (K w.params) C m q st := L2.topM_mk l c k a n
theorem bl  : Bk.Bl mg := ⟨mg_none_of KX G (by kernel_rfl), mg_none_of KX G (by kernel_rfl), mg_none_of KX G (by kernel_rfl), mg_none_of KX G (by kernel_rfl), mg_none_of KX G (by kernel_rfl), mg_none_of KX G (by kernel_rfl), mg_none_of KX G (by kernel_rfl), mg_none_of KX G (by kernel_rfl), mg_none_of KX G (by kernel_rfl), mg_none_of KX G (by kernel_rfl), mg_none_of KX G (by kernel_rfl), mg_none_of KX G (by kernel_rfl), mg_none_of KX G (by kernel_rfl)⟩
theorem t_is_whole : L2.Top (K w.params) mg "is_whole" Bk.s_is_whole := tp KX G 102 101 pm0 (by kernel_rfl) (by kernel_rfl) (by kernel_rfl) (by kernel_rfl)
theorem t_common_divisor : L2.Top (K w.params) mg "common_divisor" Bk.s_common_divisor := tp KX G 109 108 pm0 (by kernel_rfl) (by kernel_rfl) (by kernel_rfl) (by kernel_rfl)
theorem t_with_sign_of : L2.Top (K w.params) mg "with_sign_of" Bk.s_with_sign_of := tp KX G 130 129 pm0 (by kernel_rfl) (by kernel_rfl) (by kernel_rfl) (by kernel_rfl)
theorem t_is_above_nought : L2.Top (K w.params) mg "is_above_nought" Bk.s_is_above_nought := tp KX G 173 172 pm0 (by kernel_rfl) (by kernel_rfl) (by kernel_rfl) (by kernel_rfl)
theorem t_crossed : L2.Top (K w.params) mg "crossed" Bk.s_crossed := tp KX G 201 200 pm1 (by kernel_rfl) (by kernel_rfl) (by kernel_rfl) (by kernel_rfl)
theorem t_names_taken : L2.Top (K w.params) mg "names_taken" Bk.s_names_taken := tp KX G 256 255 pm2 (by kernel_rfl) (by kernel_rfl) (by kernel_rfl) (by kernel_rfl)
theorem t_turned : L2.Top (K w.params) mg "turned" Bk.s_turned := tp KX G 263 262 pm2 (by kernel_rfl) (by kernel_rfl) (by kernel_rfl) (by kernel_rfl)
theorem t__law_cell : L2.Top (K w.params) mg "_law_cell" Bk.s__law_cell := tp KX G 352 351 pm3 (by kernel_rfl) (by kernel_rfl) (by kernel_rfl) (by kernel_rfl)
theorem t__law_digits : L2.Top (K w.params) mg "_law_digits" Bk.s__law_digits := tp KX G 359 358 pm3 (by kernel_rfl) (by kernel_rfl) (by kernel_rfl) (by kernel_rfl)
theorem t__law_divisor : L2.Top (K w.params) mg "_law_divisor" Bk.s__law_divisor := tp KX G 366 365 pm3 (by kernel_rfl) (by kernel_rfl) (by kernel_rfl) (by kernel_rfl)
theorem t__law_above : L2.Top (K w.params) mg "_law_above" Bk.s__law_above := tp KX G 387 386 pm3 (by kernel_rfl) (by kernel_rfl) (by kernel_rfl) (by kernel_rfl)
theorem t__law_tab : L2.Top (K w.params) mg "_law_tab" Bk.s__law_tab := tp KX G 415 414 pm3 (by kernel_rfl) (by kernel_rfl) (by kernel_rfl) (by kernel_rfl)
theorem t__law_pair : L2.Top (K w.params) mg "_law_pair" Bk.s__law_pair := tp KX G 427 426 pm3 (by kernel_rfl) (by kernel_rfl) (by kernel_rfl) (by kernel_rfl)
theorem t_Yard___init__  : L2.TopIn (K w.params) mg 341 "Yard" "Yard.__init__" Bk.s_Yard___init__ [(.bool false)] := L2.topIn_mk (f := 297) (T := 292) (its := [(.bool false)]) (n := 0) (to := o171) (oc := (.type "function")) (od := none) (osl := #[]) (kV := .none) (doc := .none) (pm := (.str "boardglue.yard" 510)) (an := none) (cdv := (.ref 296)) (ct := .none) KX G (by kernel_rfl) (by kernel_rfl) (by kernel_rfl) (by kernel_rfl) rfl (by kernel_rfl) (by kernel_rfl) (by kernel_rfl) (by kernel_rfl) (by kernel_rfl)
theorem t_Yard_boards : L2.TopM (K w.params) 341 "boards" "Yard.boards" Bk.s_Yard_boards := tm KX G 326 325 pm2 (by kernel_rfl) (by kernel_rfl) (by kernel_rfl) (by kernel_rfl) (by kernel_rfl)
theorem t_Yard_heap : L2.TopM (K w.params) 341 "heap" "Yard.heap" Bk.s_Yard_heap := tm KX G 331 330 pm2 (by kernel_rfl) (by kernel_rfl) (by kernel_rfl) (by kernel_rfl) (by kernel_rfl)
theorem t_length  : L2.TopD (K w.params) mg "length" Bk.s_length [(.int (0) 352), (.int (1) 353)] := L2.topD_mk (f := 138) (T := 131) (its := [(.int (0) 352), (.int (1) 353)]) (n := 0) (to := o77) (oc := (.type "function")) (od := none) (osl := #[]) (kV := .none) (doc := .none) (pm := (.str "boardglue.lengths" 294)) (an := none) (cdv := (.ref 137)) (ct := .none) KX G (by kernel_rfl) (by kernel_rfl) (by kernel_rfl) (by kernel_rfl) (by kernel_rfl) rfl
theorem t_by_parts : L2.Top (K w.params) mg "by_parts" Bk.s_by_parts := tp KX G 145 144 pm0 (by kernel_rfl) (by kernel_rfl) (by kernel_rfl) (by kernel_rfl)
theorem t_added : L2.Top (K w.params) mg "added" Bk.s_added := tp KX G 152 151 pm0 (by kernel_rfl) (by kernel_rfl) (by kernel_rfl) (by kernel_rfl)
theorem t_under : L2.Top (K w.params) mg "under" Bk.s_under := tp KX G 180 179 pm0 (by kernel_rfl) (by kernel_rfl) (by kernel_rfl) (by kernel_rfl)
theorem t_counts : L2.Top (K w.params) mg "counts" Bk.s_counts := tp KX G 208 207 pm1 (by kernel_rfl) (by kernel_rfl) (by kernel_rfl) (by kernel_rfl)
theorem t_common_bottom : L2.Top (K w.params) mg "common_bottom" Bk.s_common_bottom := tp KX G 215 214 pm1 (by kernel_rfl) (by kernel_rfl) (by kernel_rfl) (by kernel_rfl)
theorem t__law_root : L2.Top (K w.params) mg "_law_root" Bk.s__law_root := tp KX G 373 372 pm3 (by kernel_rfl) (by kernel_rfl) (by kernel_rfl) (by kernel_rfl)
theorem t__law_fraction : L2.Top (K w.params) mg "_law_fraction" Bk.s__law_fraction := tp KX G 380 379 pm3 (by kernel_rfl) (by kernel_rfl) (by kernel_rfl) (by kernel_rfl)
theorem t__law_like : L2.Top (K w.params) mg "_law_like" Bk.s__law_like := tp KX G 420 419 pm3 (by kernel_rfl) (by kernel_rfl) (by kernel_rfl) (by kernel_rfl)
theorem t_Yard_check_names : L2.TopM (K w.params) 341 "check_names" "Yard.check_names" Bk.s_Yard_check_names := tm KX G 309 308 pm2 (by kernel_rfl) (by kernel_rfl) (by kernel_rfl) (by kernel_rfl) (by kernel_rfl)
theorem t_taken : L2.Top (K w.params) mg "taken" Bk.s_taken := tp KX G 159 158 pm0 (by kernel_rfl) (by kernel_rfl) (by kernel_rfl) (by kernel_rfl)
theorem t_timed : L2.Top (K w.params) mg "timed" Bk.s_timed := tp KX G 166 165 pm0 (by kernel_rfl) (by kernel_rfl) (by kernel_rfl) (by kernel_rfl)
theorem t_first_base : L2.Top (K w.params) mg "first_base" Bk.s_first_base := tp KX G 187 186 pm1 (by kernel_rfl) (by kernel_rfl) (by kernel_rfl) (by kernel_rfl)
theorem t_is_length : L2.Top (K w.params) mg "is_length" Bk.s_is_length := tp KX G 239 238 pm4 (by kernel_rfl) (by kernel_rfl) (by kernel_rfl) (by kernel_rfl)
theorem t_glued_beside : L2.Top (K w.params) mg "glued_beside" Bk.s_glued_beside := tp KX G 277 276 pm2 (by kernel_rfl) (by kernel_rfl) (by kernel_rfl) (by kernel_rfl)
theorem t_stacked : L2.Top (K w.params) mg "stacked" Bk.s_stacked := tp KX G 284 283 pm2 (by kernel_rfl) (by kernel_rfl) (by kernel_rfl) (by kernel_rfl)
theorem t__law_side : L2.Top (K w.params) mg "_law_side" Bk.s__law_side := tp KX G 394 393 pm3 (by kernel_rfl) (by kernel_rfl) (by kernel_rfl) (by kernel_rfl)
theorem t_next_base : L2.Top (K w.params) mg "next_base" Bk.s_next_base := tp KX G 194 193 pm1 (by kernel_rfl) (by kernel_rfl) (by kernel_rfl) (by kernel_rfl)
theorem t_times_over : L2.Top (K w.params) mg "times_over" Bk.s_times_over := tp KX G 227 226 pm5 (by kernel_rfl) (by kernel_rfl) (by kernel_rfl) (by kernel_rfl)
theorem t_is_deed : L2.Top (K w.params) mg "is_deed" Bk.s_is_deed := tp KX G 249 248 pm2 (by kernel_rfl) (by kernel_rfl) (by kernel_rfl) (by kernel_rfl)
theorem t_cut_across : L2.Top (K w.params) mg "cut_across" Bk.s_cut_across := tp KX G 270 269 pm2 (by kernel_rfl) (by kernel_rfl) (by kernel_rfl) (by kernel_rfl)
theorem t__law_length : L2.Top (K w.params) mg "_law_length" Bk.s__law_length := tp KX G 401 400 pm3 (by kernel_rfl) (by kernel_rfl) (by kernel_rfl) (by kernel_rfl)
theorem t_serving : L2.Top (K w.params) mg "serving" Bk.s_serving := tp KX G 220 219 pm1 (by kernel_rfl) (by kernel_rfl) (by kernel_rfl) (by kernel_rfl)
theorem t_normal_heap : L2.Top (K w.params) mg "normal_heap" Bk.s_normal_heap := tp KX G 234 233 pm5 (by kernel_rfl) (by kernel_rfl) (by kernel_rfl) (by kernel_rfl)
theorem t__law_heap : L2.Top (K w.params) mg "_law_heap" Bk.s__law_heap := tp KX G 408 407 pm3 (by kernel_rfl) (by kernel_rfl) (by kernel_rfl) (by kernel_rfl)
theorem t_Yard_put_by : L2.TopM (K w.params) 341 "put_by" "Yard.put_by" Bk.s_Yard_put_by := tm KX G 314 313 pm2 (by kernel_rfl) (by kernel_rfl) (by kernel_rfl) (by kernel_rfl) (by kernel_rfl)
theorem t_Yard_do : L2.TopM (K w.params) 341 "do" "Yard.do" Bk.s_Yard_do := tm KX G 302 301 pm2 (by kernel_rfl) (by kernel_rfl) (by kernel_rfl) (by kernel_rfl) (by kernel_rfl)
theorem t__law_done : L2.Top (K w.params) mg "_law_done" Bk.s__law_done := tp KX G 434 433 pm3 (by kernel_rfl) (by kernel_rfl) (by kernel_rfl) (by kernel_rfl)
theorem t_law : L2.Top (K w.params) mg "law" Bk.s_law := tp KX G 439 438 pm3 (by kernel_rfl) (by kernel_rfl) (by kernel_rfl) (by kernel_rfl)
theorem g_NOUGHT  : L2.TopT (K w.params) mg "NOUGHT" [.int 0, .int 0, .int 1] := L2.topT_mk (a := 95) (o := o56) (its := #[(.int (0) 296), (.int (0) 297), (.int (1) 298)]) (n := 0) KX G (by kernel_rfl) (by kernel_rfl) rfl rfl (by decide) (.cons ⟨_, rfl⟩ (.cons ⟨_, rfl⟩ (.cons ⟨_, rfl⟩ .nil)))
theorem g_GREAT_BITS  : L2.TopI mg "GREAT_BITS" (8192) := L2.topI_mk (t := 300) KX G (by kernel_rfl)
theorem g_CUTS  : L2.TopT (K w.params) mg "CUTS" [.str "across", .str "along"] := L2.topT_mk (a := 240) (o := o140) (its := #[(.str "across" 512), (.str "along" 513)]) (n := 0) KX G (by kernel_rfl) (by kernel_rfl) rfl rfl (by decide) (.cons ⟨_, rfl⟩ (.cons ⟨_, rfl⟩ .nil))
theorem g_GLUINGS  : L2.TopT (K w.params) mg "GLUINGS" [.str "beside", .str "atop"] := L2.topT_mk (a := 241) (o := o141) (its := #[(.str "beside" 515), (.str "atop" 516)]) (n := 0) KX G (by kernel_rfl) (by kernel_rfl) rfl rfl (by decide) (.cons ⟨_, rfl⟩ (.cons ⟨_, rfl⟩ .nil))
theorem g_SHIFTS  : L2.TopT (K w.params) mg "SHIFTS" [.str "stack", .str "spread"] := L2.topT_mk (a := 242) (o := o142) (its := #[(.str "stack" 518), (.str "spread" 519)]) (n := 0) KX G (by kernel_rfl) (by kernel_rfl) rfl rfl (by decide) (.cons ⟨_, rfl⟩ (.cons ⟨_, rfl⟩ .nil))
theorem g_TURN  : L2.TopS mg "TURN" (Str.ofString "turn") := L2.topS_mk (t := 521) KX G (by kernel_rfl)
theorem xs  : Bk.Xs (K w.params) mg cs := ⟨(mg_of KX G (by kernel_rfl)), (mg_of KX G (by kernel_rfl)), (mg_of KX G (by kernel_rfl)), (mg_of KX G (by kernel_rfl)), (mg_of KX G (by kernel_rfl)), (mg_of KX G (by kernel_rfl)), (mg_of KX G (by kernel_rfl)), ⟨(by kernel_rfl), (by kernel_rfl), (by kernel_rfl), (by kernel_rfl)⟩, (by unfold L2.NoAttr; kernel_rfl), (by unfold L2.NoAttr; kernel_rfl), (by unfold L2.NoAttr; kernel_rfl), (by unfold L2.NoAttr; kernel_rfl), (by unfold L2.NoAttr; kernel_rfl)⟩
end
end Hd
end
open PySem PySem.W PyProof.Rows
set_option maxRecDepth 100000 in
set_option maxHeartbeats 0 in
theorem PySem.Challenge.cw_boardglue_k54_one_table_one_normal_holds : PySem.Challenge.rw_boardglue_k54_one_table_one_normal.Holds := by
  w_on; o_law
  rename_i said
  refine holds_open (r := PySem.Challenge.rw_boardglue_k54_one_table_one_normal.row) (q := Hd.qv) (loose := Hd.loose) (Xt := Hd.Xt) (XP := XL Hd.qv []) (Yf := Hd.Yf) (Ya := Hd.Ya) (YP := InK Hd.K) (N := 6398) Hd.left (InK.of Hd.asK) InK.keeps (fun s e => xl_of s (Bool.and_eq_true_iff.mp e).1) XL.keeps (by rfl) (by rfl) (by rfl) (fun s e => recFacts_of (Bool.and_eq_true_iff.mp e).2) (by rfl) said (by decide +kernel) ⟨rfl, rfl, rfl, rfl, rfl, by decide +kernel⟩ ?hw ?hc
  case hw => w_witness2
  refine L2.walk_B (l := PySem.Challenge.rw_boardglue_k54_one_table_one_normal) (k := 8) (x := "_law_script") rfl rfl ⟨rfl, by decide, by decide⟩ (fun w h Y => Y) ?F
  case F =>
    intro w mg fa h KX G hmg
    have B : Bk.Bl mg := Hd.bl KX G
    have T_is_whole := Hd.t_is_whole KX G
    have T_common_divisor := Hd.t_common_divisor KX G
    have T_with_sign_of := Hd.t_with_sign_of KX G
    have T_is_above_nought := Hd.t_is_above_nought KX G
    have T_crossed := Hd.t_crossed KX G
    have T_names_taken := Hd.t_names_taken KX G
    have T_turned := Hd.t_turned KX G
    have T__law_cell := Hd.t__law_cell KX G
    have T__law_digits := Hd.t__law_digits KX G
    have T__law_divisor := Hd.t__law_divisor KX G
    have T__law_above := Hd.t__law_above KX G
    have T__law_tab := Hd.t__law_tab KX G
    have T__law_pair := Hd.t__law_pair KX G
    have T_Yard___init__ := Hd.t_Yard___init__ KX G
    have T_Yard_boards := Hd.t_Yard_boards KX G
    have T_Yard_heap := Hd.t_Yard_heap KX G
    have T_length := Hd.t_length KX G
    have T_by_parts := Hd.t_by_parts KX G
    have T_added := Hd.t_added KX G
    have T_under := Hd.t_under KX G
    have T_counts := Hd.t_counts KX G
    have T_common_bottom := Hd.t_common_bottom KX G
    have T__law_root := Hd.t__law_root KX G
    have T__law_fraction := Hd.t__law_fraction KX G
    have T__law_like := Hd.t__law_like KX G
    have T_Yard_check_names := Hd.t_Yard_check_names KX G
    have T_taken := Hd.t_taken KX G
    have T_timed := Hd.t_timed KX G
    have T_first_base := Hd.t_first_base KX G
    have T_is_length := Hd.t_is_length KX G
    have T_glued_beside := Hd.t_glued_beside KX G
    have T_stacked := Hd.t_stacked KX G
    have T__law_side := Hd.t__law_side KX G
    have T_next_base := Hd.t_next_base KX G
    have T_times_over := Hd.t_times_over KX G
    have T_is_deed := Hd.t_is_deed KX G
    have T_cut_across := Hd.t_cut_across KX G
    have T__law_length := Hd.t__law_length KX G
    have T_serving := Hd.t_serving KX G
    have T_normal_heap := Hd.t_normal_heap KX G
    have T__law_heap := Hd.t__law_heap KX G
    have T_Yard_put_by := Hd.t_Yard_put_by KX G
    have T_Yard_do := Hd.t_Yard_do KX G
    have T__law_done := Hd.t__law_done KX G
    have T_law := Hd.t_law KX G
    have g_NOUGHT := Hd.g_NOUGHT KX G
    have g_GREAT_BITS := Hd.g_GREAT_BITS KX G
    have g_CUTS := Hd.g_CUTS KX G
    have g_GLUINGS := Hd.g_GLUINGS KX G
    have g_SHIFTS := Hd.g_SHIFTS KX G
    have g_TURN := Hd.g_TURN KX G
    have X := Hd.xs KX G
    refine L2.law_mk T_law hmg (fun _ _ _ _ _ _ _ => rfl) fun base f fd F => ?_
    have o_is_whole : L2.Own Hd.p w (Hd.K w.params) mg base 1 "is_whole" ["thing"] [] Bk.sp_is_whole := T_is_whole.own (fun _ _ _ _ _ _ us hl => match us, hl with | [_], _ => rfl) (fun f fd F => Bk.ok_is_whole F B )
    have o_common_divisor : L2.Own Hd.p w (Hd.K w.params) mg base 1 "common_divisor" ["one", "other"] [] Bk.sp_common_divisor := T_common_divisor.own (fun _ _ _ _ _ _ us hl => match us, hl with | [_, _], _ => rfl) (fun f fd F => Bk.ok_common_divisor F B g_GREAT_BITS)
    have o_with_sign_of : L2.Own Hd.p w (Hd.K w.params) mg base 1 "with_sign_of" ["divisor", "bottom"] [] Bk.sp_with_sign_of := T_with_sign_of.own (fun _ _ _ _ _ _ us hl => match us, hl with | [_, _], _ => rfl) (fun f fd F => Bk.ok_with_sign_of F B )
    have o_is_above_nought : L2.Own Hd.p w (Hd.K w.params) mg base 1 "is_above_nought" ["d", "a", "b"] [] Bk.sp_is_above_nought := T_is_above_nought.own (fun _ _ _ _ _ _ us hl => match us, hl with | [_, _, _], _ => rfl) (fun f fd F => Bk.ok_is_above_nought F B )
    have o_crossed : L2.Own Hd.p w (Hd.K w.params) mg base 1 "crossed" ["one", "other"] [] Bk.sp_crossed := T_crossed.own (fun _ _ _ _ _ _ us hl => match us, hl with | [_, _], _ => rfl) (fun f fd F => Bk.ok_crossed F B )
    have o_names_taken : L2.Own Hd.p w (Hd.K w.params) mg base 1 "names_taken" ["deed"] [] Bk.sp_names_taken := T_names_taken.own (fun _ _ _ _ _ _ us hl => match us, hl with | [_], _ => rfl) (fun f fd F => Bk.ok_names_taken F B g_GLUINGS)
    have o_turned : L2.Own Hd.p w (Hd.K w.params) mg base 1 "turned" ["one"] [] Bk.sp_turned := T_turned.own (fun _ _ _ _ _ _ us hl => match us, hl with | [_], _ => rfl) (fun f fd F => Bk.ok_turned F B )
    have o__law_cell : L2.Own Hd.p w (Hd.K w.params) mg base 1 "_law_cell" ["_law_script", "_law_k"] [] (Bk.sp__law_cell (Hd.K w.params)) := T__law_cell.own (fun _ _ _ _ _ _ us hl => match us, hl with | [_, _], _ => rfl) (fun f fd F => Bk.ok__law_cell F B )
    have o__law_digits : L2.Own Hd.p w (Hd.K w.params) mg base 1 "_law_digits" ["_law_cell_here", "_law_k", "_law_many"] [] Bk.sp__law_digits := T__law_digits.own (fun _ _ _ _ _ _ us hl => match us, hl with | [_, _, _], _ => rfl) (fun f fd F => Bk.ok__law_digits F B )
    have o__law_divisor : L2.Own Hd.p w (Hd.K w.params) mg base 1 "_law_divisor" ["_law_one", "_law_other"] [] Bk.sp__law_divisor := T__law_divisor.own (fun _ _ _ _ _ _ us hl => match us, hl with | [_, _], _ => rfl) (fun f fd F => Bk.ok__law_divisor F B )
    have o__law_above : L2.Own Hd.p w (Hd.K w.params) mg base 1 "_law_above" ["_law_d", "_law_first", "_law_second"] [] Bk.sp__law_above := T__law_above.own (fun _ _ _ _ _ _ us hl => match us, hl with | [_, _, _], _ => rfl) (fun f fd F => Bk.ok__law_above F B )
    have o__law_tab : L2.Own Hd.p w (Hd.K w.params) mg base 1 "_law_tab" ["_law_heap_here"] [] Bk.sp__law_tab := T__law_tab.own (fun _ _ _ _ _ _ us hl => match us, hl with | [_], _ => rfl) (fun f fd F => Bk.ok__law_tab F B )
    have o__law_pair : L2.Own Hd.p w (Hd.K w.params) mg base 1 "_law_pair" ["_law_boards", "_law_side_here"] [] Bk.sp__law_pair := T__law_pair.own (fun _ _ _ _ _ _ us hl => match us, hl with | [_, _], _ => rfl) (fun f fd F => Bk.ok__law_pair F B )
    have o_Yard___init___3 : L2.OwnI Hd.p w (Hd.K w.params) mg base L2.CX0 Hd.cs.Yard 1 "Yard" ["self", "d", "heap", "turning"] [.bl false] (Bk.sp_Yard___init__ Hd.cs) := T_Yard___init__.own (ds := [.bool false]) (fun T _ _ _ _ _ _ us hl => by have hl' : us.length = 3 := (by simpa using hl); match us, hl' with | [_, _, _], _ => exact ⟨_, rfl, rfl⟩) (.cons rfl .nil) (fun f fd F => Bk.ok_Yard___init__ F B X)
    have o_Yard_boards : L2.OwnM Hd.p w (Hd.K w.params) mg base L2.CX0 Hd.cs.Yard 1 "boards" ["self"] [] (Bk.sp_Yard_boards Hd.cs) := T_Yard_boards.own X.c_Yard (fun _ _ _ _ _ _ us hl => match us, hl with | [_], _ => rfl) (fun f fd F => Bk.ok_Yard_boards F B X)
    have o_Yard_heap : L2.OwnM Hd.p w (Hd.K w.params) mg base L2.CX0 Hd.cs.Yard 1 "heap" ["self"] [] (Bk.sp_Yard_heap Hd.cs) := T_Yard_heap.own X.c_Yard (fun _ _ _ _ _ _ us hl => match us, hl with | [_], _ => rfl) (fun f fd F => Bk.ok_Yard_heap F B X)
    have o_length : L2.Own Hd.p w (Hd.K w.params) mg base 2 "length" ["a", "b", "n"] [] Bk.sp_length := T_length.own (ds := []) (fun T _ _ _ _ _ _ us hl => by have hl' : us.length = 3 := (by simpa using hl); match us, hl' with | [_, _, _], _ => exact ⟨_, rfl, rfl⟩) .nil (fun f fd F => Bk.ok_length F B o_with_sign_of o_common_divisor o_is_whole)
    have o_by_parts : L2.Own Hd.p w (Hd.K w.params) mg base 2 "by_parts" ["f", "g"] [] Bk.sp_by_parts := T_by_parts.own (fun _ _ _ _ _ _ us hl => match us, hl with | [_, _], _ => rfl) (fun f fd F => Bk.ok_by_parts F B o_common_divisor)
    have o_added : L2.Own Hd.p w (Hd.K w.params) mg base 2 "added" ["one", "other"] [] (Bk.sp_added (Hd.K w.params)) := T_added.own (fun _ _ _ _ _ _ us hl => match us, hl with | [_, _], _ => rfl) (fun f fd F => Bk.ok_added F B o_common_divisor)
    have o_under : L2.Own Hd.p w (Hd.K w.params) mg base 2 "under" ["d", "one", "other"] [] (Bk.sp_under (Hd.K w.params)) := T_under.own (fun _ _ _ _ _ _ us hl => match us, hl with | [_, _, _], _ => rfl) (fun f fd F => Bk.ok_under F B o_is_above_nought)
    have o_counts : L2.Own Hd.p w (Hd.K w.params) mg base 2 "counts" ["d", "base", "one"] [] Bk.sp_counts := T_counts.own (fun _ _ _ _ _ _ us hl => match us, hl with | [_, _, _], _ => rfl) (fun f fd F => Bk.ok_counts F B o_crossed)
    have o_common_bottom : L2.Own Hd.p w (Hd.K w.params) mg base 2 "common_bottom" ["lengths"] [] (Bk.sp_common_bottom (Hd.K w.params)) := T_common_bottom.own (fun _ _ _ _ _ _ us hl => match us, hl with | [_], _ => rfl) (fun f fd F => Bk.ok_common_bottom F B o_common_divisor)
    have o__law_root : L2.Own Hd.p w (Hd.K w.params) mg base 2 "_law_root" ["_law_script"] [] (Bk.sp__law_root (Hd.K w.params)) := T__law_root.own (fun _ _ _ _ _ _ us hl => match us, hl with | [_], _ => rfl) (fun f fd F => Bk.ok__law_root F B o__law_digits o__law_cell)
    have o__law_fraction : L2.Own Hd.p w (Hd.K w.params) mg base 2 "_law_fraction" ["_law_some", "_law_great"] [] Bk.sp__law_fraction := T__law_fraction.own (fun _ _ _ _ _ _ us hl => match us, hl with | [_, _], _ => rfl) (fun f fd F => Bk.ok__law_fraction F B o__law_divisor)
    have o__law_like : L2.Own Hd.p w (Hd.K w.params) mg base 2 "_law_like" ["_law_one", "_law_other"] [] Bk.sp__law_like := T__law_like.own (fun _ _ _ _ _ _ us hl => match us, hl with | [_, _], _ => rfl) (fun f fd F => Bk.ok__law_like F B o__law_tab)
    have o_Yard_check_names : L2.OwnM Hd.p w (Hd.K w.params) mg base L2.CX0 Hd.cs.Yard 2 "check_names" ["self", "names"] [] (Bk.sp_Yard_check_names Hd.cs) := T_Yard_check_names.own X.c_Yard (fun _ _ _ _ _ _ us hl => match us, hl with | [_, _], _ => rfl) (fun f fd F => Bk.ok_Yard_check_names F B X o_is_whole)
    have o_taken : L2.Own Hd.p w (Hd.K w.params) mg base 3 "taken" ["one", "other"] [] Bk.sp_taken := T_taken.own (fun _ _ _ _ _ _ us hl => match us, hl with | [_, _], _ => rfl) (fun f fd F => Bk.ok_taken F B o_added)
    have o_timed : L2.Own Hd.p w (Hd.K w.params) mg base 3 "timed" ["d", "one", "other"] [] Bk.sp_timed := T_timed.own (fun _ _ _ _ _ _ us hl => match us, hl with | [_, _, _], _ => rfl) (fun f fd F => Bk.ok_timed F B o_length)
    have o_first_base : L2.Own Hd.p w (Hd.K w.params) mg base 3 "first_base" ["d", "n"] [] Bk.sp_first_base := T_first_base.own (fun _ _ _ _ _ _ us hl => match us, hl with | [_, _], _ => rfl) (fun f fd F => Bk.ok_first_base F B o_length)
    have o_is_length : L2.Own Hd.p w (Hd.K w.params) mg base 3 "is_length" ["thing"] [] Bk.sp_is_length := T_is_length.own (fun _ _ _ _ _ _ us hl => match us, hl with | [_], _ => rfl) (fun f fd F => Bk.ok_is_length F B o_length o_is_whole)
    have o_glued_beside : L2.Own Hd.p w (Hd.K w.params) mg base 3 "glued_beside" ["one", "other"] [] Bk.sp_glued_beside := T_glued_beside.own (fun _ _ _ _ _ _ us hl => match us, hl with | [_, _], _ => rfl) (fun f fd F => Bk.ok_glued_beside F B o_added)
    have o_stacked : L2.Own Hd.p w (Hd.K w.params) mg base 3 "stacked" ["one", "many"] [] Bk.sp_stacked := T_stacked.own (fun _ _ _ _ _ _ us hl => match us, hl with | [_, _], _ => rfl) (fun f fd F => Bk.ok_stacked F B o_length)
    have o__law_side : L2.Own Hd.p w (Hd.K w.params) mg base 3 "_law_side" ["_law_d", "_law_some", "_law_great"] [] Bk.sp__law_side := T__law_side.own (fun _ _ _ _ _ _ us hl => match us, hl with | [_, _, _], _ => rfl) (fun f fd F => Bk.ok__law_side F B o__law_fraction o__law_above)
    have o_next_base : L2.Own Hd.p w (Hd.K w.params) mg base 4 "next_base" ["d", "base"] [] Bk.sp_next_base := T_next_base.own (fun _ _ _ _ _ _ us hl => match us, hl with | [_, _], _ => rfl) (fun f fd F => Bk.ok_next_base F B o_under o_taken)
    have o_times_over : L2.Own Hd.p w (Hd.K w.params) mg base 4 "times_over" ["d", "many", "one"] [] Bk.sp_times_over := T_times_over.own (fun _ _ _ _ _ _ us hl => match us, hl with | [_, _, _], _ => rfl) (fun f fd F => Bk.ok_times_over F B o_timed)
    have o_is_deed : L2.Own Hd.p w (Hd.K w.params) mg base 4 "is_deed" ["thing"] [] Bk.sp_is_deed := T_is_deed.own (fun _ _ _ _ _ _ us hl => match us, hl with | [_], _ => rfl) (fun f fd F => Bk.ok_is_deed F B g_CUTS g_SHIFTS g_GLUINGS g_TURN o_is_length o_is_whole)
    have o_cut_across : L2.Own Hd.p w (Hd.K w.params) mg base 4 "cut_across" ["d", "one", "at"] [] Bk.sp_cut_across := T_cut_across.own (fun _ _ _ _ _ _ us hl => match us, hl with | [_, _, _], _ => rfl) (fun f fd F => Bk.ok_cut_across F B g_NOUGHT o_under o_taken)
    have o__law_length : L2.Own Hd.p w (Hd.K w.params) mg base 4 "_law_length" ["_law_d", "_law_some"] [] Bk.sp__law_length := T__law_length.own (fun _ _ _ _ _ _ us hl => match us, hl with | [_, _], _ => rfl) (fun f fd F => Bk.ok__law_length F B o__law_side o_by_parts)
    have o_serving : L2.Own Hd.p w (Hd.K w.params) mg base 5 "serving" ["d", "lengths"] [] (Bk.sp_serving (Hd.K w.params)) := T_serving.own (fun _ _ _ _ _ _ us hl => match us, hl with | [_, _], _ => rfl) (fun f fd F => Bk.ok_serving F B o_first_base o_common_bottom o_next_base o_length o_counts)
    have o_normal_heap : L2.Own Hd.p w (Hd.K w.params) mg base 5 "normal_heap" ["d", "heap", "base"] [] Bk.sp_normal_heap := T_normal_heap.own (fun _ _ _ _ _ _ us hl => match us, hl with | [_, _, _], _ => rfl) (fun f fd F => Bk.ok_normal_heap F B g_NOUGHT o_added o_counts o_times_over)
    have o__law_heap : L2.Own Hd.p w (Hd.K w.params) mg base 5 "_law_heap" ["_law_d", "_law_cells"] [] Bk.sp__law_heap := T__law_heap.own (fun _ _ _ _ _ _ us hl => match us, hl with | [_, _], _ => rfl) (fun f fd F => Bk.ok__law_heap F B o__law_digits o__law_length)
    have o_Yard_put_by : L2.OwnM Hd.p w (Hd.K w.params) mg base L2.CX0 Hd.cs.Yard 5 "put_by" ["self", "deed", "boards"] [] (Bk.sp_Yard_put_by Hd.cs) := T_Yard_put_by.own X.c_Yard (fun _ _ _ _ _ _ us hl => match us, hl with | [_, _, _], _ => rfl) (fun f fd F => Bk.ok_Yard_put_by F B X o_cut_across o_turned o_glued_beside o_stacked)
    have o_Yard_do : L2.OwnM Hd.p w (Hd.K w.params) mg base L2.CX0 Hd.cs.Yard 6 "do" ["self", "deed"] [] (Bk.sp_Yard_do Hd.cs) := T_Yard_do.own X.c_Yard (fun _ _ _ _ _ _ us hl => match us, hl with | [_, _], _ => rfl) (fun f fd F => Bk.ok_Yard_do F B X g_TURN o_names_taken o_Yard_check_names o_Yard_put_by o_is_deed)
    have o__law_done : L2.Own Hd.p w (Hd.K w.params) mg base 7 "_law_done" ["_law_d", "_law_yard", "_law_some", "_law_most"] [] (Bk.sp__law_done Hd.cs) := T__law_done.own (fun _ _ _ _ _ _ us hl => match us, hl with | [_, _, _, _], _ => rfl) (fun f fd F => Bk.ok__law_done F B o_Yard_boards o_timed o_Yard_do o__law_pair o_length)
    exact Bk.ok_law F B X o__law_root o__law_heap o_Yard___init___3 o_Yard_heap o_serving o_normal_heap o__law_done o__law_like o__law_digits o_added o_length
