import PyProof.Rows.All
import Wide.All
import OpenK.AllK
import Wide.FinOn
import Lean
import PyProof.EqAt
import PyProof.EqKinds
import PyProof.TupleCall
import PySem.Challenge.RW_boardglue_k12_boards_and_heaps
set_option Elab.async false
set_option linter.all false
set_option maxRecDepth 100000
namespace L2
open PySem PySem.Spec PyProof.Rows
abbrev Key := Sum Int Str
def keyIs : Key → Value → Bool
  | .inl k, v => Value.isInt k v
  | .inr x, v => Value.isStrOf x v
def keyH (w : World) : Key → Int
  | .inl k => hashInt k
  | .inr x => hashStr w x
theorem keyIs_shape : ∀ {k : Key} {v : Value}, keyIs k v = true → (∃ i t, k = Sum.inl i ∧ v = Value.int i t) ∨ (∃ x t, k = Sum.inr x ∧ v = Value.str x t)
  | .inl i, v, h => by
    obtain ⟨t, e⟩ := Value.isInt_shape (k := i) (v := v) h
    exact .inl ⟨i, t, rfl, e⟩
  | .inr x, v, h => by
    obtain ⟨t, e⟩ := Value.isStrOf_shape (x := x) (v := v) h
    exact .inr ⟨x, t, rfl, e⟩
theorem key_ll (a b : Int) : decide ((Sum.inl a : Key) = Sum.inl b) = (a == b) := by
  by_cases e : a = b
  · subst e; simp
  · have h : ¬ (Sum.inl a : Key) = Sum.inl b := fun q => e (Sum.inl.inj q)
    rw [decide_eq_false h]
    exact (beq_eq_false_iff_ne.mpr e).symm
theorem key_rr (a b : Str) : decide ((Sum.inr a : Key) = Sum.inr b) = decide (a = b) := by
  by_cases e : a = b
  · subst e; simp
  · have h : ¬ (Sum.inr a : Key) = Sum.inr b := fun q => e (Sum.inr.inj q)
    rw [decide_eq_false h, decide_eq_false e]
theorem key_lr (a : Int) (b : Str) : decide ((Sum.inl a : Key) = Sum.inr b) = false := decide_eq_false (fun q => nomatch q)
theorem key_rl (a : Str) (b : Int) : decide ((Sum.inr a : Key) = Sum.inl b) = false := decide_eq_false (fun q => nomatch q)
def mixKind (prog : Program) (w : World) : PySem.KeyKind prog w Key where
  is := keyIs
  hash := keyH w
  inj := fun v a b ha hb => by
    rcases keyIs_shape ha with ⟨i, t, rfl, rfl⟩ | ⟨x, t, rfl, rfl⟩
    · rcases keyIs_shape hb with ⟨j, u, rfl, e⟩ | ⟨y, u, rfl, e⟩
      · injection e with e1 _; rw [e1]
      · exact nomatch e
    · rcases keyIs_shape hb with ⟨j, u, rfl, e⟩ | ⟨y, u, rfl, e⟩
      · exact nomatch e
      · injection e with e1 _; rw [e1]
  byValue := fun k v h => by
    rcases keyIs_shape h with ⟨i, t, rfl, rfl⟩ | ⟨x, t, rfl, rfl⟩ <;> rfl
  pyHash := fun hv h => by
    rcases keyIs_shape hv with ⟨i, t, rfl, rfl⟩ | ⟨x, t, rfl, rfl⟩
    · exact wpAny_pyHash_int h
    · exact wpAny_pyHash_str h
  eqBool := fun hu hv h => by
    rcases keyIs_shape hu with ⟨i, t, rfl, rfl⟩ | ⟨x, t, rfl, rfl⟩
    · rcases keyIs_shape hv with ⟨j, u, rfl, rfl⟩ | ⟨y, u, rfl, rfl⟩
      · rw [key_ll] at h; exact wpAny_eqBool_int h
      · rw [key_lr] at h; exact SeqAt.EqAt.int_str i t y u _ _ _ _ h
    · rcases keyIs_shape hv with ⟨j, u, rfl, rfl⟩ | ⟨y, u, rfl, rfl⟩
      · rw [key_rl] at h; exact SeqAt.EqAt.str_int x t j u _ _ _ _ h
      · rw [key_rr] at h; exact wpAny_eqBool_str h
  «strs» := fun k x t v h => by
    rcases keyIs_shape h with ⟨i, u, rfl, e⟩ | ⟨y, u, rfl, e⟩
    · exact nomatch e
    · injection e with e1 _
      subst e1
      cases v <;> rfl
end L2
namespace L2
open PySem PySem.Spec PyProof.Rows
inductive V where
  | non | bl (b : Bool) | int (i : Int) | str (x : Str) | byt (b : Array UInt8) | flt (b : UInt64) | ref (a : Addr) | ty (n : String)
  deriving DecidableEq
def RelV : V → Value → Prop
  | .non, u => u = Value.none
  | .bl b, u => u = Value.bool b
  | .int i, u => ∃ t, u = Value.int i t
  | .str x, u => ∃ t, u = Value.str x t
  | .byt b, u => ∃ t, u = Value.bytes b t
  | .flt b, u => ∃ t, u = Value.float b t
  | .ref a, u => u = Value.ref a
  | .ty n, u => u = Value.type n
abbrev Vals : List V → List Value → Prop := Paired RelV
theorem Vals.length {xs : List V} {us : List Value} (r : Vals xs us) : xs.length = us.length := Paired.length r
theorem Vals.get : ∀ {xs : List V} {us : List Value} {i : Nat} {x : V}, Vals xs us → xs[i]? = some x → ∃ u, us[i]? = some u ∧ RelV x u
  | _, _, _, _, .nil, e => by simp at e
  | _, _, 0, _, .cons r _, e => by simp at e; subst e; exact ⟨_, rfl, r⟩
  | _, _, i + 1, x, .cons _ t, e => by
    obtain ⟨u, h1, h2⟩ := Vals.get (i := i) (x := x) t (by simpa using e)
    exact ⟨u, by simpa using h1, h2⟩
theorem Vals.set {x : V} {u : Value} (r : RelV x u) : ∀ {xs : List V} {us : List Value} (i : Nat), Vals xs us → Vals (xs.set i x) (us.set i u)
  | _, _, _, .nil => .nil
  | _, _, 0, .cons _ t => .cons r t
  | _, _, i + 1, .cons q t => .cons q (Vals.set r i t)
theorem Vals.append : ∀ {xs ys : List V} {us ws : List Value}, Vals xs us → Vals ys ws → Vals (xs ++ ys) (us ++ ws)
  | _, _, _, _, .nil, s => s
  | _, _, _, _, .cons r t, s => .cons r (Vals.append t s)
theorem Vals.take : ∀ {xs : List V} {us : List Value} (n : Nat), Vals xs us → Vals (xs.take n) (us.take n)
  | _, _, 0, _ => .nil
  | _, _, _ + 1, .nil => .nil
  | _, _, n + 1, .cons r t => .cons r (Vals.take n t)
theorem Vals.drop : ∀ {xs : List V} {us : List Value} (n : Nat), Vals xs us → Vals (xs.drop n) (us.drop n)
  | _, _, 0, r => r
  | _, _, _ + 1, .nil => .nil
  | _, _, n + 1, .cons _ t => Vals.drop n t
theorem Vals.none_of : ∀ {xs : List V} {us : List Value} {i : Nat}, Vals xs us → xs[i]? = none → us[i]? = none := fun {xs us i} r e => by
  have h1 := r.length
  have h2 : xs.length ≤ i := List.getElem?_eq_none_iff.mp e
  exact List.getElem?_eq_none_iff.mpr (by omega)
def RelO : Option V → Option Value → Prop
  | some v, some u => RelV v u
  | none, none => True
  | _, _ => False
def KV {κ : Type} : List (κ × V) → List (κ × Value) → Prop := Paired fun (p : κ × V) (q : κ × Value) => p.1 = q.1 ∧ RelV p.2 q.2
def kV : Key → V
  | .inl i => .int i
  | .inr x => .str x
inductive HO where
  | lst (xs : List V)
  | tup (xs : List V)
  | dK (kvs : List (Key × V)) | dT (kvs : List (List Key × V))
  | set (S : Int → Bool) (n : Nat)
  | ins (C dx : Addr) (fs : List (Str × V))
  | own (x : Addr)
  | xd (fs : List (Str × V))
  | met (f x : Addr)
  | rng (lo hi : Int)
  | frz (o : Obj) (u : HO)
  | tbl (ps : Array Value)
  | ext (φ : Heap → Prop)
abbrev Hp := Addr → Option HO
def upd (H : Hp) (a : Addr) (o : HO) : Hp := fun b => if b = a then some o else H b
theorem upd_same {H : Hp} {a : Addr} {o : HO} : upd H a o a = some o := by unfold upd; rw [if_pos rfl]
theorem upd_ne {H : Hp} {a b : Addr} {o : HO} (h : b ≠ a) : upd H a o b = H b := by unfold upd; rw [if_neg h]
theorem ne_of {H : Hp} {a b : Addr} {o u : HO} (h : H a = some o) (h' : H b = some u) (d : o ≠ u) : a ≠ b := by
  intro e; subst e; rw [h] at h'; exact d (Option.some.inj h')
theorem ne_of_none {H : Hp} {a b : Addr} {o : HO} (h : H a = some o) (h' : H b = none) : a ≠ b := by
  intro e; subst e; rw [h] at h'; cases h'
section
variable (P : Program) (w : World)
def ObjOk (H : Hp) (h : Heap) (a : Addr) : HO → Prop
  | .lst xs => xs.length ≤ sizeLine ∧ ∃ (its : List Value) (n : Nat), Vals xs its ∧ h.get? a = some { cls := .type "list", data := .seq its.toArray n }
  | .tup xs => xs.length ≤ sizeLine ∧ ∃ its : List Value, Vals xs its ∧ IsTup h a its.toArray
  | .dK kvs => kvs.length ≤ sizeLine ∧ (a == sysModules) = false ∧ ∃ vs, KV kvs vs ∧ h.DictOf (mixKind P w) a vs
  | .dT kvs => kvs.length ≤ sizeLine ∧ (a == sysModules) = false ∧ ∃ xs : List (List Key × Addr × Value),
      Paired (fun (p : List Key × V) (q : List Key × Addr × Value) => p.1 = q.1 ∧ H q.2.1 = some (.tup (p.1.map kV)) ∧ RelV p.2 q.2.2) kvs xs ∧
      ∃ o es ep, h.get? a = some o ∧ o.ExactDict ∧ o.data = .dict es ep ∧ es.toList = xs.map (entryOfKey (tupleKind (mixKind P w))) ∧ (xs.map (·.1)).Nodup
  | .set S n => h.SetOf (intKind P w) a S n
  | .ins C dx fs => H dx = some (.own a) ∧ fs.length ≤ 1000 ∧ dx ≠ a ∧ h.get? a = some (PySem.W.instObj C dx) ∧
      ∃ mA, h.Ns1 dx mA ∧ (∀ f, RelO (fs.lookup f) (mA f)) ∧ PySem.Within mA (fs.map (·.1))
  | .own _ => ∃ o, h.get? a = some o
  | .xd fs => ∃ mA, h.Ns1 a mA ∧ ∀ f, RelO (fs.lookup f) (mA f)
  | .rng lo hi => ∃ t u v, h.get? a = some { cls := .type "range", data := .fields #[.int lo t, .int hi u, .int 1 v] }
  | .frz o u => h.get? a = some o ∧ ObjOk H h a u
  | .tbl ps => h.get? a = some { cls := .none, data := .fields ps }
  | .met f x => h.get? a = some (PySem.W.methodObj (.ref f) (.ref x))
  | .ext φ => φ h ∧ (∃ o, h.get? a = some o) ∧ ∀ h1 h2 : Heap, φ h1 → (∀ o, h1.get? a = some o → h2.get? a = some o) → φ h2
def HOk (H : Hp) (h : Heap) : Prop := ∀ a o, H a = some o → ObjOk P w H h a o
end
section
variable {P : Program} {w : World} {H H' : Hp} {h h' : Heap} {a : Addr} {o : HO}
theorem ObjOk.lt (x : ObjOk P w H h a o) : a < h.objs.size := by
  cases o with
  | lst xs => obtain ⟨_, _, _, _, e⟩ := x; exact Heap.lt_size e
  | tup xs => obtain ⟨_, _, _, p⟩ := x; exact p.lt
  | dK kvs => obtain ⟨_, _, _, _, o, _, _, e, _⟩ := x; exact Heap.lt_size e
  | dT kvs => obtain ⟨_, _, _, _, o, _, _, e, _⟩ := x; exact Heap.lt_size e
  | set S n => obtain ⟨o, _, _, _, e, _⟩ := x; exact Heap.lt_size e
  | ins C dx fs => obtain ⟨_, _, _, e, _⟩ := x; exact Heap.lt_size e
  | own y => obtain ⟨_, e⟩ := x; exact Heap.lt_size e
  | xd fs => obtain ⟨_, ⟨_, _, _, e, _⟩, _⟩ := x; exact Heap.lt_size e
  | rng lo hi => obtain ⟨_, _, _, e⟩ := x; exact Heap.lt_size e
  | frz ob u => obtain ⟨e, _⟩ := x; exact Heap.lt_size e
  | tbl ps => exact Heap.lt_size (show h.get? a = some _ from x)
  | met f y => exact Heap.lt_size (show h.get? a = some _ from x)
  | ext φ => obtain ⟨_, ⟨_, e⟩, _⟩ := x; exact Heap.lt_size e
theorem Paired.mapP {α β : Type} {F G : α → β → Prop} : ∀ {l₁ : List α} {l₂ : List β}, Paired F l₁ l₂ → (∀ a b, F a b → G a b) → Paired G l₁ l₂
  | _, _, .nil, _ => .nil
  | _, _, .cons r t, f => .cons (f _ _ r) (Paired.mapP t f)
theorem ObjOk.stay (x : ObjOk P w H h a o) (k : ∀ b u, (b = a ∨ H b = some (.own a)) → h.get? b = some u → h'.get? b = some u)
    (ho : ∀ b, H b = some (.own a) → H' b = some (.own a)) (ht : ∀ b xs, H b = some (.tup xs) → H' b = some (.tup xs)) : ObjOk P w H' h' a o := by
  induction o with
  | lst xs => obtain ⟨z, its, n, r, e⟩ := x; exact ⟨z, its, n, r, k _ _ (.inl rfl) e⟩
  | tup xs => obtain ⟨z, its, r, ob, e, c⟩ := x; exact ⟨z, its, r, ob, k _ _ (.inl rfl) e, c⟩
  | dK kvs => obtain ⟨z, y, vs, r, ob, es, ep, e, c⟩ := x; exact ⟨z, y, vs, r, ob, es, ep, k _ _ (.inl rfl) e, c⟩
  | dT kvs =>
    obtain ⟨z, y, xs, r, ob, es, ep, e, c⟩ := x
    exact ⟨z, y, xs, Paired.mapP r fun p q z => ⟨z.1, ht _ _ z.2.1, z.2.2⟩, ob, es, ep, k _ _ (.inl rfl) e, c⟩
  | set S n => obtain ⟨ob, es, ep, t, e, c⟩ := x; exact ⟨ob, es, ep, t, k _ _ (.inl rfl) e, c⟩
  | ins C dx fs =>
    obtain ⟨d, z, ne, e, mA, ⟨od, es, ep, e2, c⟩, r⟩ := x
    exact ⟨ho _ d, z, ne, k _ _ (.inl rfl) e, mA, ⟨od, es, ep, k _ _ (.inr d) e2, c⟩, r⟩
  | own y => obtain ⟨ob, e⟩ := x; exact ⟨ob, k _ _ (.inl rfl) e⟩
  | xd fs => obtain ⟨mA, ⟨od, es, ep, e, c⟩, r⟩ := x; exact ⟨mA, ⟨od, es, ep, k _ _ (.inl rfl) e, c⟩, r⟩
  | rng lo hi => obtain ⟨t, u, v, e⟩ := x; exact ⟨t, u, v, k _ _ (.inl rfl) e⟩
  | frz ob u ih => obtain ⟨e, q⟩ := x; exact ⟨k _ _ (.inl rfl) e, ih q⟩
  | tbl ps =>
    have e : h.get? a = some { cls := .none, data := .fields ps } := x
    show h'.get? a = some { cls := .none, data := .fields ps }
    exact k a _ (.inl rfl) e
  | met f y =>
    have e : h.get? a = some (PySem.W.methodObj (.ref f) (.ref y)) := x
    show h'.get? a = some (PySem.W.methodObj (.ref f) (.ref y))
    exact k a _ (.inl rfl) e
  | ext φ => obtain ⟨p, ⟨o, e⟩, st⟩ := x; exact ⟨st _ _ p fun o q => k _ _ (.inl rfl) q, ⟨o, k _ _ (.inl rfl) e⟩, st⟩
theorem HOk.lt (x : HOk P w H h) (e : H a = some o) : a < h.objs.size := (x a o e).lt
theorem HOk.fresh (x : HOk P w H h) (e : h.objs.size ≤ a) : H a = none := by
  cases q : H a with
  | none => rfl
  | some u => exact absurd (Nat.lt_of_lt_of_le (x.lt q) e) (Nat.lt_irrefl _)
theorem HOk.kept (x : HOk P w H h) (k : ∀ b u, h.get? b = some u → h'.get? b = some u) : HOk P w H h' := fun a o e =>
  (x a o e).stay (fun b u _ q => k b u q) (fun _ q => q) fun _ _ q => q
theorem HOk.laid (x : HOk P w H h) (k : ∀ b u, h.get? b = some u → h'.get? b = some u) (hp : h.objs.size ≤ a) (new : ObjOk P w (upd H a o) h' a o) : HOk P w (upd H a o) h' := fun b u e => by
  have hn := x.fresh hp
  by_cases hb : b = a
  · subst hb; rw [upd_same] at e; cases e; exact new
  · rw [upd_ne hb] at e
    exact (x b u e).stay (fun c v _ q => k c v q) (fun c q => by rw [upd_ne (ne_of_none q hn)]; exact q) fun c xs q => by rw [upd_ne (ne_of_none q hn)]; exact q
end
def Rd (H : Hp) (a : Addr) (u : HO) : Prop := H a = some u ∨ ∃ o, H a = some (.frz o u)
theorem Rd.of {H : Hp} {a : Addr} {u : HO} (h : H a = some u) : Rd H a u := .inl h
theorem Rd.ok {P : Program} {w : World} {H : Hp} {h : Heap} {a : Addr} {u : HO} (r : Rd H a u) (x : HOk P w H h) : ObjOk P w H h a u := by
  rcases r with r | ⟨o, r⟩
  · exact x a u r
  · obtain ⟨_, q⟩ := x a _ r
    exact q
def Mut : Option HO → Prop
  | some (.lst _) => True
  | some (.dK _) => True
  | some (.dT _) => True
  | some (.set _ _) => True
  | some (.ins _ _ _) => True
  | some (.ext _) => True
  | _ => False
section
variable {P : Program} {w : World} {H : Hp} {h h' : Heap} {x e : Addr} {o' : HO}
theorem HOk.write (ok : HOk P w H h) (mu : Mut (H x)) (he : e = x ∨ H e = some (.own x)) (k : ∀ b u, b ≠ e → h.get? b = some u → h'.get? b = some u) (heo : ∃ u, h'.get? e = some u)
    (new : ObjOk P w (upd H x o') h' x o') : HOk P w (upd H x o') h' := fun b u q => by
  have nown : ∀ c y, H c = some (.own y) → c ≠ x := fun c y r z => by subst z; rw [r] at mu; exact mu
  have ntup : ∀ c xs, H c = some (.tup xs) → c ≠ x := fun c xs r z => by subst z; rw [r] at mu; exact mu
  by_cases hb : b = x
  · subst hb; rw [upd_same] at q; cases q; exact new
  · rw [upd_ne hb] at q
    by_cases hbe : b = e
    · have q' : H b = some (.own x) := by
        rcases he with z | z
        · exact absurd (hbe.trans z) hb
        · rw [hbe]; exact z
      rw [q] at q'; cases q'
      obtain ⟨v, hv⟩ := heo
      exact ⟨v, by rw [hbe]; exact hv⟩
    · refine (ok b u q).stay (fun c v hc r => k c v ?_ r) (fun c r => by rw [upd_ne (nown c b r)]; exact r) fun c xs r => by rw [upd_ne (ntup c xs r)]; exact r
      rcases hc with rfl | hc
      · exact hbe
      · rintro rfl
        rcases he with z | z
        · exact nown c b hc z
        · rw [hc] at z; cases z; exact hb rfl
end
structure Un (fs ex : List Addr) (H H' : Hp) (h h' : Heap) : Prop where
  keep : ∀ b o, h.get? b = some o → H b = none → b ∉ fs → b ∉ ex → h'.get? b = some o
  slot : ∀ b o, h.get? b = some o → H b = none → b ∈ fs → b ∉ ex → ∃ sl, h'.get? b = some { o with slots := sl }
  free : ∀ b o, h.get? b = some o → H b = none → b ∉ ex → H' b = none
  there : ∀ b o, h.get? b = some o → b ∉ ex → ∃ o', h'.get? b = some o'
  tups : ∀ b xs, H b = some (.tup xs) → H' b = some (.tup xs)
  frzs : ∀ b o u, H b = some (.frz o u) → H' b = some (.frz o u)
  tbls : ∀ b ps, H b = some (.tbl ps) → ∃ more, H' b = some (.tbl (ps ++ more))
section
variable {fs fs' ex ex' : List Addr} {H H1 H2 : Hp} {h h1 h2 h' : Heap} {a x e : Addr} {o : HO}
theorem Un.any (u : Un fs ex H H1 h h1) {b : Addr} {ob : Obj} (q : h.get? b = some ob) (n : H b = none) (hx : b ∉ ex) : ∃ sl, h1.get? b = some { ob with slots := sl } := by
  by_cases hb : b ∈ fs
  · exact u.slot b ob q n hb hx
  · exact ⟨ob.slots, u.keep b ob q n hb hx⟩
theorem Un.trans (a : Un fs ex H H1 h h1) (b : Un fs ex H1 H2 h1 h2) : Un fs ex H H2 h h2 where
  keep := fun c ob q n hc hx => b.keep c ob (a.keep c ob q n hc hx) (a.free c ob q n hx) hc hx
  slot := fun c ob q n hc hx => by
    obtain ⟨sl, e1⟩ := a.slot c ob q n hc hx
    obtain ⟨sl', e2⟩ := b.slot c _ e1 (a.free c ob q n hx) hc hx
    exact ⟨sl', e2⟩
  free := fun c ob q n hx => by
    obtain ⟨o', e1⟩ := a.there c ob q hx
    exact b.free c o' e1 (a.free c ob q n hx) hx
  there := fun c ob q hx => by
    obtain ⟨o', e1⟩ := a.there c ob q hx
    exact b.there c o' e1 hx
  tups := fun c xs q => b.tups c xs (a.tups c xs q)
  frzs := fun c ob xs q => b.frzs c ob xs (a.frzs c ob xs q)
  tbls := fun c ps q => by
    obtain ⟨m1, e1⟩ := a.tbls c ps q
    obtain ⟨m2, e2⟩ := b.tbls c _ e1
    exact ⟨m1 ++ m2, by rw [e2, Array.append_assoc]⟩
theorem Un.kept (k : ∀ b u, h.get? b = some u → h'.get? b = some u) : Un fs ex H H h h' :=
  ⟨fun b ob q _ _ _ => k b ob q, fun b ob q _ _ _ => ⟨ob.slots, k b ob q⟩, fun _ _ _ n _ => n, fun b ob q _ => ⟨ob, k b ob q⟩, fun _ _ q => q, fun _ _ _ q => q, fun _ ps q => ⟨#[], by rw [q]; simp⟩⟩
theorem Un.refl : Un fs ex H H h h := Un.kept fun _ _ q => q
theorem Un.laid (k : ∀ b u, h.get? b = some u → h'.get? b = some u) (hp : h.objs.size ≤ a) (hn : H a = none) : Un fs ex H (upd H a o) h h' where
  keep := fun b u q _ _ _ => k b u q
  slot := fun b u q _ _ _ => ⟨u.slots, k b u q⟩
  free := fun b u q n _ => by rw [upd_ne (Nat.ne_of_lt (Nat.lt_of_lt_of_le (Heap.lt_size q) hp))]; exact n
  there := fun b u q _ => ⟨u, k b u q⟩
  tups := fun b xs q => by rw [upd_ne (ne_of_none q hn)]; exact q
  frzs := fun b u xs q => by rw [upd_ne (ne_of_none q hn)]; exact q
  tbls := fun b ps q => ⟨#[], by rw [upd_ne (ne_of_none q hn), q]; simp⟩
theorem Un.write (mu : Mut (H x)) (he : e = x ∨ H e = some (.own x)) (k : ∀ b u, b ≠ e → h.get? b = some u → h'.get? b = some u) (heo : ∃ u, h'.get? e = some u) : Un fs ex H (upd H x o) h h' := by
  have hx : ∀ b, H b = none → b ≠ x := fun b n z => by subst z; rw [n] at mu; exact mu
  have hb : ∀ b, H b = none → b ≠ e := fun b n z => by
    subst z
    rcases he with r | r
    · exact hx b n r
    · rw [n] at r; cases r
  have hm : ∀ b u, H b = some u → ¬ Mut (some u) → b ≠ x := fun b u q nm z => by subst z; rw [q] at mu; exact nm mu
  refine ⟨fun b u q n _ _ => k b u (hb b n) q, fun b u q n _ _ => ⟨u.slots, k b u (hb b n) q⟩, fun b u q n _ => by rw [upd_ne (hx b n)]; exact n, fun b u q _ => ?_,
    fun b xs q => by rw [upd_ne (hm b _ q fun z => z)]; exact q, fun b u xs q => by rw [upd_ne (hm b _ q fun z => z)]; exact q, fun b ps q => ⟨#[], by rw [upd_ne (hm b _ q fun z => z), q]; simp⟩⟩
  by_cases hbe : b = e
  · subst hbe; exact heo
  · exact ⟨u, k b u hbe q⟩
theorem Un.mono (u : Un fs ex H H1 h h1) (hs : ∀ b ∈ fs, b ∈ fs') (hx : ∀ b ∈ ex, b ∈ ex') : Un fs' ex' H H1 h h1 :=
  ⟨fun b ob q n hb he => u.keep b ob q n (fun z => hb (hs b z)) fun z => he (hx b z), fun _ _ q n _ he => u.any q n fun z => he (hx _ z), fun b ob q n he => u.free b ob q n fun z => he (hx b z), fun b ob q he => u.there b ob q fun z => he (hx b z), u.tups, u.frzs, u.tbls⟩
end
def trk (h : Heap) (H : Hp) : List Addr := (List.range h.objs.size).filter fun a => (H a).isSome
def hidT (h : Heap) (H : Hp) : Heap := PySem.W.hideAll h (trk h H)
theorem hidT_size (h : Heap) (H : Hp) : (hidT h H).objs.size = h.objs.size := PySem.W.hideAll_size _ _
theorem hidT_get {h : Heap} {H : Hp} {b : Addr} {o : Obj} (e : h.get? b = some o) (n : H b = none) : (hidT h H).get? b = some o :=
  PySem.W.hideAll_get _ e fun hm => by
    have q : (H b).isSome = true := (List.mem_filter.mp hm).2
    rw [n] at q; simp at q
theorem of_hidT {h : Heap} {H : Hp} {b : Addr} {o : Obj} (e : (hidT h H).get? b = some o) : h.get? b = some o ∧ H b = none := by
  have e' : h.get? b = some o := PySem.W.of_hideAll (trk h H) e
  refine ⟨e', ?_⟩
  cases q : H b with
  | none => rfl
  | some x =>
    have hm : b ∈ trk h H := List.mem_filter.mpr ⟨List.mem_range.mpr (Heap.lt_size e'), by simp [q]⟩
    have z : (hidT h H).get? b = none := PySem.W.hideAll_none (trk h H) hm
    rw [z] at e; cases e
def allNews (g h : Heap) (L : Addr) : List (Addr × Obj) := (List.range h.objs.size).filterMap fun a => if a = L ∨ (g.get? a).isSome = true then none else (h.get? a).map fun o => (a, o)
def rest (g h : Heap) (L d : Addr) : List (Addr × Obj) := (allNews g h L).filter fun p => decide (p.1 ≠ d)
end L2
namespace L2
open PySem PySem.Spec PyProof.Rows
structure Mod (K : PySem.W.Frag) (mg : Str → Option Value) (base : Heap) : Prop where
  kin : K.In base
  glob : base.Ns mainGlobals mg
  blt : ∃ mb, base.Ns builtinsNs mb ∧ ∀ x : Str, x ≠ "__name__" → mb x = bootBuiltins x
  nolimit : base.NoLimit
structure Cx where
  prog : Program
  w : World
  K : PySem.W.Frag
  mg : Str → Option Value
  base : Heap
  A : Around
  N : List Str
  s₀ : Shared
  H₀ : Hp
  env : Env
  outer : List Env
  stack : List Env
  ex : List Addr
  fn : Str → Bool
  calm : Bool
  pn : List (Addr × Obj)
  xe : Value → Shared → Prop
def frs (l : List Env) : List Addr := l.filterMap (·.frame)
abbrev Cx.fs (X : Cx) : List Addr := frs X.outer
def Vis (sc : Scope) (x : Str) : Prop := sc.names.lookup x = some .local ∨ sc.names.lookup x = some .cell ∨ sc.names.lookup x = some .free
def Loc (sc : Scope) (x : Str) : Prop := sc.names.lookup x = some .local ∨ sc.names.lookup x = some .cell
def Look (env : Env) (h : Heap) (m : Str → Option Value) (x : Str) (u : Value) : Prop :=
  (env.kindOf x = some .local ∧ m x = some u) ∨ ((env.kindOf x = some .cell ∨ env.kindOf x = some .free) ∧ ∃ c, env.cells.lookup x = some c ∧ h.IsCell c (some u))
structure Cx.Ok (X : Cx) : Prop where
  mod : Mod X.K X.mg X.base
  kind : X.env.scope.kind = .function
  glob : X.env.globals = mainGlobals
  blt : X.env.builtins = builtinsNs
  above : X.s₀.heap.objs.size ≤ X.env.locals
  inj : ∀ x y c, X.env.cells.lookup x = some c → X.env.cells.lookup y = some c → x = y
  has : ∀ x, (X.env.kindOf x = some .cell ∨ X.env.kindOf x = some .free) → ∃ c, X.env.cells.lookup x = some c
  cab : ∀ x c, X.fn x = true → X.env.cells.lookup x = some c → X.s₀.heap.objs.size ≤ c
  hd : X.calm = true → X.A.handled = none
  frames : X.A.frames = some X.stack
  stk : X.stack = X.outer ∨ (X.stack = X.env :: X.outer ∧ X.env.frame = some X.env.locals)
  exf : ∀ b ∈ X.ex, b ≠ X.env.locals ∧ ∀ x c, X.env.cells.lookup x = some c → c ≠ b
  bs : ∀ b o, X.base.get? b = some o → X.s₀.heap.get? b = some o ∧ X.H₀ b = none
  bsz : X.base.objs.size ≤ X.s₀.heap.objs.size
  noex : ∀ b o, X.base.get? b = some o → b ∉ X.ex
  exfs : ∀ b ∈ X.ex, b ∉ X.fs
  funs : X.s₀.heap.FunFrames X.base X.outer
  frf : ∀ b ∈ X.fs, X.H₀ b = none
structure Inv (X : Cx) (pins : List (Addr × Obj)) (σ : List (Option V)) (H : Hp) (s : Shared) : Prop where
  ok : X.Ok
  os : s.os = X.s₀.os
  bare : AllBare s.gens
  base : Un X.fs X.ex X.H₀ H X.s₀.heap s.heap
  loc : ∃ m, s.heap.Ns X.env.locals m ∧ ∀ (i : Nat) (x : Str) (v : V), X.N[i]? = some x → σ[i]? = some (some v) → Vis X.env.scope x → ∃ u, RelV v u ∧ Look X.env s.heap m x u
  cell : ∀ x c, X.env.cells.lookup x = some c → ∃ v, s.heap.IsCell c v
  free : H X.env.locals = none
  freeC : ∀ x c, X.env.cells.lookup x = some c → H c = none
  pin : ∀ p ∈ X.pn ++ pins, s.heap.get? p.1 = some p.2 ∧ H p.1 = none ∧ p.1 ≠ X.env.locals ∧ p.1 ∉ X.fs ∧ ∀ v, p.2.data ≠ .cell v
  hok : HOk X.prog X.w H s.heap
  len : σ.length = X.N.length
section
variable {X : Cx} {pins : List (Addr × Obj)} {σ : List (Option V)} {H H' : Hp} {s : Shared} {h' : Heap}
theorem Cx.Ok.nofr (ok : X.Ok) {b : Addr} {o : Obj} (e : X.base.get? b = some o) : b ∉ X.fs := fun hb => by
  have := (ok.funs.mem hb).1
  rw [e] at this; cases this
theorem Inv.bs (I : Inv X pins σ H s) : ∀ b o, X.base.get? b = some o → s.heap.get? b = some o ∧ H b = none := fun b o e =>
  ⟨I.base.keep b o (I.ok.bs b o e).1 (I.ok.bs b o e).2 (I.ok.nofr e) (I.ok.noex b o e), I.base.free b o (I.ok.bs b o e).1 (I.ok.bs b o e).2 (I.ok.noex b o e)⟩
theorem Inv.bk (I : Inv X pins σ H s) : ∀ b o, X.base.get? b = some o → s.heap.get? b = some o := fun b o e => (I.bs b o e).1
theorem Inv.mod (I : Inv X pins σ H s) : Mod X.K X.mg X.base := I.ok.mod
theorem Inv.kIn (I : Inv X pins σ H s) : X.K.In s.heap := I.ok.mod.kin.keeps I.bk
theorem Inv.nolimit (I : Inv X pins σ H s) : s.heap.NoLimit := I.ok.mod.nolimit.keeps I.bk
theorem Inv.lt (I : Inv X pins σ H s) : X.env.locals < s.heap.objs.size := let ⟨_, hn, _⟩ := I.loc; hn.lt
theorem Inv.sz (I : Inv X pins σ H s) : X.s₀.heap.objs.size ≤ s.heap.objs.size := Nat.le_trans I.ok.above (Nat.le_of_lt I.lt)
theorem Inv.nofs (I : Inv X pins σ H s) {a : Addr} (h : s.heap.objs.size ≤ a) : a ∉ X.fs := fun hb => by
  obtain ⟨_, o, ho, _⟩ := I.ok.funs.mem hb
  exact absurd (Nat.lt_of_lt_of_le (Heap.lt_size ho) (Nat.le_trans I.sz h)) (Nat.lt_irrefl _)
theorem Inv.cne (I : Inv X pins σ H s) : ∀ x c, X.env.cells.lookup x = some c → c ≠ X.env.locals := fun x c e z => by
  obtain ⟨v, o, ho, hd⟩ := I.cell x c e
  obtain ⟨m, ⟨o', es, ep, ho', hd', _⟩, _⟩ := I.loc
  rw [z, ho'] at ho; cases ho; rw [hd'] at hd; cases hd
theorem Inv.funs (I : Inv X pins σ H s) : s.heap.FunFrames X.base X.outer := by
  have all : ∀ (l : List Env), (∀ b ∈ frs l, b ∈ X.fs) → X.s₀.heap.FunFrames X.base l → s.heap.FunFrames X.base l := by
    intro l
    induction l with
    | nil => intro _ _; trivial
    | cons env r ih =>
      intro hs hl
      obtain ⟨hk, ⟨L, o, hf, hn, ho, hd⟩, hr⟩ := hl
      have hL : L ∈ X.fs := hs L (by unfold frs; rw [List.filterMap_cons, hf]; exact List.mem_cons_self)
      obtain ⟨sl, e⟩ := I.base.slot L o ho (I.ok.frf L hL) hL fun z => I.ok.exfs L z hL
      exact ⟨hk, ⟨L, _, hf, hn, e, hd⟩, ih (fun b hb => hs b (by unfold frs; rw [List.filterMap_cons, hf]; exact List.mem_cons_of_mem _ hb)) hr⟩
  exact all X.outer (fun _ hb => hb) I.ok.funs
theorem Inv.stack (I : Inv X pins σ H s) : s.heap.FunFrames X.base X.stack := by
  rcases I.ok.stk with e | ⟨e, hf⟩
  · rw [e]; exact I.funs
  · rw [e]
    obtain ⟨m, hn, _⟩ := I.loc
    refine .cons (by rw [I.ok.kind]; decide) hf hn ?_ I.funs
    exact Heap.get?_none_of_le (Nat.le_trans I.ok.bsz I.ok.above)
theorem Inv.stkSub (I : Inv X pins σ H s) : ∀ b ∈ frs X.stack, b ∈ X.env.locals :: X.fs := fun b hb => by
  rcases I.ok.stk with e | ⟨e, hf⟩
  · rw [e] at hb; exact List.mem_cons_of_mem _ hb
  · rw [e] at hb
    unfold frs at hb
    rw [List.filterMap_cons, hf] at hb
    exact hb
theorem Inv.stkFree (I : Inv X pins σ H s) : ∀ b ∈ frs X.stack, H b = none := fun b hb => by
  rcases List.mem_cons.mp (I.stkSub b hb) with e | hb
  · rw [e]; exact I.free
  · obtain ⟨_, o, ho, _⟩ := I.ok.funs.mem hb
    exact I.base.free b o ho (I.ok.frf b hb) fun z => I.ok.exfs b z hb
theorem Inv.step {g' : Array GenState} {t' : Nat} {d' : Drawn} {ch : List Addr} (I : Inv X pins σ H s)
    (hch : ∀ b ∈ ch, (b ∈ X.ex ∨ X.s₀.heap.objs.size ≤ b) ∧ b ≠ X.env.locals ∧ (∀ x c, X.env.cells.lookup x = some c → c ≠ b) ∧ ∀ p ∈ X.pn ++ pins, p.1 ≠ b)
    (keep : ∀ b o, b ≠ X.env.locals → b ∉ X.fs → b ∉ ch → s.heap.get? b = some o → H b = none → h'.get? b = some o)
    (slot : ∀ b o, b ≠ X.env.locals → b ∈ X.fs → b ∉ ch → s.heap.get? b = some o → H b = none → ∃ sl, h'.get? b = some { o with slots := sl }) (free : ∀ b o, b ∉ ch → s.heap.get? b = some o → H b = none → H' b = none)
    (there : ∀ b o, b ∉ ch → s.heap.get? b = some o → ∃ o', h'.get? b = some o')
    (tups : ∀ b xs, H b = some (.tup xs) → H' b = some (.tup xs)) (frzs : ∀ b o u, H b = some (.frz o u) → H' b = some (.frz o u)) (tbls : ∀ b ps, H b = some (.tbl ps) → ∃ more, H' b = some (.tbl (ps ++ more)))
    (ns : ∀ m, s.heap.Ns X.env.locals m → h'.Ns X.env.locals m) (hok : HOk X.prog X.w H' h') (hg : AllBare g') :
    Inv X pins σ H' { s with heap := h', gens := g', drawn := d', toks := t' } := by
  have neL : ∀ b o, X.s₀.heap.get? b = some o → b ≠ X.env.locals := fun b o e => Nat.ne_of_lt (Nat.lt_of_lt_of_le (Heap.lt_size e) I.ok.above)
  have neC : ∀ b o, X.s₀.heap.get? b = some o → b ∉ X.ex → b ∉ ch := fun b o e hx hb => by
    rcases (hch b hb).1 with z | z
    · exact hx z
    · exact absurd (Nat.lt_of_lt_of_le (Heap.lt_size e) z) (Nat.lt_irrefl _)
  have cellK : ∀ x c, X.env.cells.lookup x = some c → ∀ v, s.heap.IsCell c v → h'.IsCell c v := fun x c e v ⟨o, ho, hd⟩ => by
    have nch : c ∉ ch := fun z => (hch c z).2.2.1 x c e rfl
    by_cases hc : c ∈ X.fs
    · obtain ⟨sl, q⟩ := slot c o (I.cne x c e) hc nch ho (I.freeC x c e)
      exact ⟨_, q, hd⟩
    · exact ⟨o, keep c o (I.cne x c e) hc nch ho (I.freeC x c e), hd⟩
  refine ⟨I.ok, I.os, hg, ⟨fun b o e n hb hx => ?_, fun b o e n hb hx => ?_, fun b o e n hx => ?_, fun b o e hx => ?_, fun b xs e => tups b xs (I.base.tups b xs e), fun b o xs e => frzs b o xs (I.base.frzs b o xs e), fun b ps e => ?_⟩, ?_, fun x c e => ?_, ?_, fun x c e => ?_, fun p hp => ?_, hok, I.len⟩
  · exact keep b o (neL b o e) hb (neC b o e hx) (I.base.keep b o e n hb hx) (I.base.free b o e n hx)
  · obtain ⟨sl, e1⟩ := I.base.slot b o e n hb hx
    obtain ⟨sl', e2⟩ := slot b _ (neL b o e) hb (neC b o e hx) e1 (I.base.free b o e n hx)
    exact ⟨sl', e2⟩
  · obtain ⟨o', e1⟩ := I.base.there b o e hx
    exact free b o' (neC b o e hx) e1 (I.base.free b o e n hx)
  · obtain ⟨o', e1⟩ := I.base.there b o e hx
    exact there b o' (neC b o e hx) e1
  · obtain ⟨m1, e1⟩ := I.base.tbls b ps e
    obtain ⟨m2, e2⟩ := tbls b _ e1
    exact ⟨m1 ++ m2, by rw [e2, Array.append_assoc]⟩
  · obtain ⟨m, hn, hl⟩ := I.loc
    refine ⟨m, ns m hn, fun i x v e1 e2 e3 => ?_⟩
    obtain ⟨u, r, l⟩ := hl i x v e1 e2 e3
    refine ⟨u, r, ?_⟩
    rcases l with l | ⟨k, c, e, z⟩
    · exact .inl l
    · exact .inr ⟨k, c, e, cellK x c e _ z⟩
  · obtain ⟨v, z⟩ := I.cell x c e
    exact ⟨v, cellK x c e v z⟩
  · obtain ⟨m, ⟨o, _, _, ho, _⟩, _⟩ := I.loc
    exact free _ o (fun z => (hch _ z).2.1 rfl) ho I.free
  · obtain ⟨v, o, ho, hd⟩ := I.cell x c e
    exact free c o (fun z => (hch c z).2.2.1 x c e rfl) ho (I.freeC x c e)
  · obtain ⟨e, n, ne, nf, d⟩ := I.pin p hp
    have nch : p.1 ∉ ch := fun z => (hch p.1 z).2.2.2 p hp rfl
    exact ⟨keep p.1 p.2 ne nf nch e n, free p.1 p.2 nch e n, ne, nf, d⟩
theorem Inv.un {t' : Nat} (I : Inv X pins σ H s) (u : Un X.fs [] H H' s.heap h') (hok : HOk X.prog X.w H' h') : Inv X pins σ H' { s with heap := h', toks := t' } := by
  obtain ⟨m, ⟨o, es, ep, ho, r⟩, _⟩ := id I.loc
  obtain ⟨sl, hL⟩ := u.any ho I.free (by simp)
  exact I.step (g' := s.gens) (d' := s.drawn) (ch := []) (fun _ z => nomatch z) (fun b o _ hb _ e n => u.keep b o e n hb (by simp)) (fun b o _ hb _ e n => u.slot b o e n hb (by simp)) (fun b o _ e n => u.free b o e n (by simp)) (fun b o _ e => u.there b o e (by simp)) u.tups u.frzs u.tbls (fun m' hm => by
    obtain ⟨o', es', ep', ho', r'⟩ := hm
    rw [ho] at ho'; cases ho'
    exact ⟨_, es', ep', hL, r'⟩) hok I.bare
theorem Inv.call {g' : Array GenState} {t' : Nat} {d' : Drawn} {ch : List Addr} (I : Inv X pins σ H s) (u : Un (frs X.stack) ch H H' s.heap h') (hok : HOk X.prog X.w H' h') (hg : AllBare g')
    (hch : ∀ b ∈ ch, (b ∈ X.ex ∨ X.s₀.heap.objs.size ≤ b) ∧ b ≠ X.env.locals ∧ (∀ x c, X.env.cells.lookup x = some c → c ≠ b) ∧ ∀ p ∈ X.pn ++ pins, p.1 ≠ b) :
    Inv X pins σ H' { s with heap := h', gens := g', drawn := d', toks := t' } := by
  obtain ⟨m, ⟨o, es, ep, ho, r⟩, _⟩ := id I.loc
  obtain ⟨sl, hL⟩ := u.any ho I.free fun z => (hch _ z).2.1 rfl
  exact I.step (ch := ch) hch (fun b o hL hb hc e n => u.keep b o e n (fun z => (List.mem_cons.mp (I.stkSub b z)).elim hL hb) hc) (fun b o _ _ hc e n => u.any e n hc) (fun b o hc e n => u.free b o e n hc) (fun b o hc e => u.there b o e hc) u.tups u.frzs u.tbls (fun m' hm => by
    obtain ⟨o', es', ep', ho', r'⟩ := hm
    rw [ho] at ho'; cases ho'
    exact ⟨_, es', ep', hL, r'⟩) hok hg
theorem Inv.turned {t' : Nat} {it : Addr} (I : Inv X pins σ H s) (k : ∀ b o, b ≠ it → s.heap.get? b = some o → h'.get? b = some o) (hn : H it = none) (hL : it ≠ X.env.locals)
    (h1 : it ∈ X.ex ∨ X.s₀.heap.objs.size ≤ it) (h2 : ∀ x c, X.env.cells.lookup x = some c → c ≠ it) (h3 : ∀ p ∈ X.pn ++ pins, p.1 ≠ it) : Inv X pins σ H { s with heap := h', toks := t' } := by
  have nit : ∀ b u, H b = some u → b ≠ it := fun b u e z => by rw [z, hn] at e; cases e
  refine I.step (g' := s.gens) (d' := s.drawn) (ch := [it]) (fun b hb => ?_) (fun b o _ _ hc e _ => k b o (fun z => hc (by simp [z])) e) (fun b o _ _ hc e _ => ⟨o.slots, k b o (fun z => hc (by simp [z])) e⟩) (fun _ _ _ _ n => n)
    (fun b o hc e => ⟨o, k b o (fun z => hc (by simp [z])) e⟩) (fun _ _ e => e) (fun _ _ _ e => e) (fun b ps e => ⟨#[], by rw [e]; simp⟩) (fun m hm => ?_) (fun b u e => ?_) I.bare
  · have e : b = it := by simpa using hb
    subst e
    exact ⟨h1, hL, h2, h3⟩
  · obtain ⟨o, es, ep, ho, r⟩ := hm
    exact ⟨o, es, ep, k _ o (Ne.symm hL) ho, r⟩
  · refine (I.hok b u e).stay (fun c v hc q => k c v ?_ q) (fun _ q => q) fun _ _ q => q
    rcases hc with z | z
    · rw [z]; exact nit b u e
    · exact nit c _ z
theorem Inv.tok (I : Inv X pins σ H s) (t : Nat) : Inv X pins σ H { s with toks := t } := I.un (h' := s.heap) (t' := t) Un.refl I.hok
theorem Inv.kept {t' : Nat} (I : Inv X pins σ H s) (k : ∀ b u, s.heap.get? b = some u → h'.get? b = some u) : Inv X pins σ H { s with heap := h', toks := t' } := I.un (Un.kept k) (I.hok.kept k)
theorem Inv.laid {a : Addr} {o : HO} {t' : Nat} (I : Inv X pins σ H s) (k : ∀ b u, s.heap.get? b = some u → h'.get? b = some u) (hp : s.heap.objs.size ≤ a) (new : ObjOk X.prog X.w (upd H a o) h' a o) :
    Inv X pins σ (upd H a o) { s with heap := h', toks := t' } := I.un (Un.laid k hp (I.hok.fresh hp)) (I.hok.laid k hp new)
theorem Inv.write {x e : Addr} {o : HO} {t' : Nat} (I : Inv X pins σ H s) (mu : Mut (H x)) (he : e = x ∨ H e = some (.own x)) (k : ∀ b u, b ≠ e → s.heap.get? b = some u → h'.get? b = some u) (heo : ∃ u, h'.get? e = some u)
    (new : ObjOk X.prog X.w (upd H x o) h' x o) : Inv X pins σ (upd H x o) { s with heap := h', toks := t' } := I.un (Un.write mu he k heo) (I.hok.write mu he k heo new)
theorem Inv.pins_of {pins' : List (Addr × Obj)} (I : Inv X pins σ H s) (h : ∀ p ∈ pins', s.heap.get? p.1 = some p.2 ∧ H p.1 = none ∧ p.1 ≠ X.env.locals ∧ p.1 ∉ X.fs ∧ ∀ v, p.2.data ≠ .cell v) : Inv X pins' σ H s :=
  ⟨I.ok, I.os, I.bare, I.base, I.loc, I.cell, I.free, I.freeC, fun p hp => (List.mem_append.mp hp).elim (fun z => I.pin p (List.mem_append_left _ z)) (h p), I.hok, I.len⟩
theorem nodup_ix {N : List Str} (hN : N.Nodup) {i j : Nat} {x : Str} (a : N[i]? = some x) (b : N[j]? = some x) : i = j := by
  obtain ⟨h1, e1⟩ := List.getElem?_eq_some_iff.mp a
  obtain ⟨h2, e2⟩ := List.getElem?_eq_some_iff.mp b
  exact (List.getElem_inj hN).mp (e1.trans e2.symm)
theorem store_ok2 {M : Model} {A : Around} {E : Value → Shared → Prop} {i : Nat} {x : Str} {v : V} {u : Value} {Q : Unit → Shared → Prop} (I : Inv X pins σ H s) (hN : X.N.Nodup) (hi : X.N[i]? = some x) (hx : Loc X.env.scope x) (r : RelV v u)
    (h : ∀ s', Inv X pins (σ.set i (some v)) H s' → (∃ a, Heap.SameBut a s.heap s'.heap ∧ (a = X.env.locals ∨ X.env.cells.lookup x = some a)) → Q () s') (hf : X.fn x = true ∨ X.env.scope.names.lookup x = some .local := by first | exact .inl rfl | exact .inr rfl | assumption) : wpAny M A (storeName X.env x u) Q E s := by
  obtain ⟨m, hn, hl⟩ := id I.loc
  have hcls : (X.env.scope.kind == .class || (X.env.scope.kind == .module && X.env.locals != X.env.globals)) = false := by rw [I.ok.kind]; rfl
  have hiσ : i < σ.length := by rw [I.len]; exact (List.getElem?_eq_some_iff.mp hi).1
  have cne := I.cne
  have tracked : ∀ {a : Addr} {h' : Heap}, (∃ o, s.heap.get? a = some o ∧ H a = none) → Heap.SameBut a s.heap h' → HOk X.prog X.w H h' := fun {a h'} ha hs b ob e => by
    obtain ⟨_, _, hfree⟩ := ha
    refine (I.hok b ob e).stay (fun c w' hc q => (hs.2 c ?_).trans q) (fun _ q => q) fun _ _ q => q
    rintro rfl
    rcases hc with rfl | hc
    · rw [hfree] at e; cases e
    · rw [hfree] at hc; cases hc
  rcases hx with hk | hk
  · refine wpAny_storeName_local hk hn (fun h' hn' hs => ?_) hcls
    obtain ⟨oL, _, _, hoL, _⟩ := id hn
    refine h _ ⟨I.ok, I.os, I.bare, ⟨fun b o e n hb hx => ?_, fun b o e n hb hx => ?_, I.base.free, fun b o e hx => ?_, I.base.tups, I.base.frzs, I.base.tbls⟩, ⟨_, hn', fun j y v' e1 e2 e3 => ?_⟩, fun y c e => ?_, I.free, I.freeC, fun p hp => ?_, tracked ⟨oL, hoL, I.free⟩ hs, by simpa using I.len⟩ ⟨_, hs, .inl rfl⟩
    · exact (hs.2 b (Nat.ne_of_lt (Nat.lt_of_lt_of_le (Heap.lt_size e) I.ok.above))).trans (I.base.keep b o e n hb hx)
    · obtain ⟨sl, e1⟩ := I.base.slot b o e n hb hx
      exact ⟨sl, (hs.2 b (Nat.ne_of_lt (Nat.lt_of_lt_of_le (Heap.lt_size e) I.ok.above))).trans e1⟩
    · obtain ⟨o', e1⟩ := I.base.there b o e hx
      exact ⟨o', (hs.2 b (Nat.ne_of_lt (Nat.lt_of_lt_of_le (Heap.lt_size e) I.ok.above))).trans e1⟩
    · by_cases hj : j = i
      · subst hj
        rw [hi] at e1; cases e1
        rw [List.getElem?_set_self hiσ] at e2
        cases e2
        exact ⟨u, r, .inl ⟨hk, by simp⟩⟩
      · rw [List.getElem?_set_ne (Ne.symm hj)] at e2
        obtain ⟨u', r', q⟩ := hl j y v' e1 e2 e3
        refine ⟨u', r', ?_⟩
        rcases q with ⟨k, e⟩ | ⟨k, c, e, z⟩
        · refine .inl ⟨k, ?_⟩
          have : y ≠ x := fun e => hj (nodup_ix hN e1 (e ▸ hi))
          simp [this, e]
        · exact .inr ⟨k, c, e, z.sameBut hs (cne y c e)⟩
    · obtain ⟨w', z⟩ := I.cell y c e
      exact ⟨w', z.sameBut hs (cne y c e)⟩
    · obtain ⟨e, n, ne, nf, d⟩ := I.pin p hp
      exact ⟨(hs.2 p.1 ne).trans e, n, ne, nf, d⟩
  · have hfn : X.fn x = true := by
      rcases hf with z | z
      · exact z
      · rw [z] at hk; cases hk
    obtain ⟨c, hc⟩ := I.ok.has x (.inl hk)
    obtain ⟨w', z⟩ := I.cell x c hc
    refine wpAny_storeName_cell I.ok.kind hk hc z (fun h' hc' hs => ?_)
    obtain ⟨oc, hoc, hocd⟩ := id z
    refine h { s with heap := h' } ⟨I.ok, I.os, I.bare, ⟨fun b o e n hb hx => ?_, fun b o e n hb hx => ?_, I.base.free, fun b o e hx => ?_, I.base.tups, I.base.frzs, I.base.tbls⟩, ⟨m, hn.sameBut hs (Ne.symm (cne x c hc)), fun j y v' e1 e2 e3 => ?_⟩, fun y c' e => ?_, I.free, I.freeC, fun p hp => ?_, tracked ⟨oc, hoc, I.freeC x c hc⟩ hs, by simpa using I.len⟩ ⟨c, hs, .inr hc⟩
    · exact (hs.2 b (Nat.ne_of_lt (Nat.lt_of_lt_of_le (Heap.lt_size e) (I.ok.cab x c hfn hc)))).trans (I.base.keep b o e n hb hx)
    · obtain ⟨sl, e1⟩ := I.base.slot b o e n hb hx
      exact ⟨sl, (hs.2 b (Nat.ne_of_lt (Nat.lt_of_lt_of_le (Heap.lt_size e) (I.ok.cab x c hfn hc)))).trans e1⟩
    · obtain ⟨o', e1⟩ := I.base.there b o e hx
      exact ⟨o', (hs.2 b (Nat.ne_of_lt (Nat.lt_of_lt_of_le (Heap.lt_size e) (I.ok.cab x c hfn hc)))).trans e1⟩
    · by_cases hj : j = i
      · subst hj
        rw [hi] at e1; cases e1
        rw [List.getElem?_set_self hiσ] at e2
        cases e2
        exact ⟨u, r, .inr ⟨.inl hk, c, hc, hc'⟩⟩
      · rw [List.getElem?_set_ne (Ne.symm hj)] at e2
        obtain ⟨u', r', q⟩ := hl j y v' e1 e2 e3
        refine ⟨u', r', ?_⟩
        rcases q with q | ⟨k, c', e, z'⟩
        · exact .inl q
        · refine .inr ⟨k, c', e, z'.sameBut hs ?_⟩
          rintro rfl
          exact hj (nodup_ix hN e1 (I.ok.inj _ _ _ e hc ▸ hi))
    · by_cases hcc : c' = c
      · subst hcc; exact ⟨_, hc'⟩
      · obtain ⟨w2, z2⟩ := I.cell y c' e
        exact ⟨w2, z2.sameBut hs hcc⟩
    · obtain ⟨e, n, ne, nf, d⟩ := I.pin p hp
      refine ⟨(hs.2 p.1 ?_).trans e, n, ne, nf, d⟩
      intro q
      rw [q, hoc] at e
      have q' : oc = p.2 := Option.some.inj e
      exact d w' (by rw [← q']; exact hocd)
theorem store_ok {M : Model} {A : Around} {E : Value → Shared → Prop} {i : Nat} {x : Str} {v : V} {u : Value} {Q : Unit → Shared → Prop} (I : Inv X pins σ H s) (hN : X.N.Nodup) (hi : X.N[i]? = some x) (hx : Loc X.env.scope x) (r : RelV v u)
    (h : ∀ s', Inv X pins (σ.set i (some v)) H s' → Q () s') (hf : X.fn x = true ∨ X.env.scope.names.lookup x = some .local := by first | exact .inl rfl | exact .inr rfl | assumption) : wpAny M A (storeName X.env x u) Q E s :=
  store_ok2 I hN hi hx r (fun s' I' _ => h s' I') hf
theorem Inv.call' {s' : Shared} {ch : List Addr} (I : Inv X pins σ H s) (ho : s'.os = s.os) (u : Un (frs X.stack) ch H H' s.heap s'.heap) (hok : HOk X.prog X.w H' s'.heap) (hg : AllBare s'.gens)
    (hch : ∀ b ∈ ch, (b ∈ X.ex ∨ X.s₀.heap.objs.size ≤ b) ∧ b ≠ X.env.locals ∧ (∀ x c, X.env.cells.lookup x = some c → c ≠ b) ∧ ∀ p ∈ X.pn ++ pins, p.1 ≠ b) : Inv X pins σ H' s' := by
  obtain ⟨h', g', d', t', o'⟩ := s'
  have e : o' = s.os := ho
  subst e
  exact I.call (g' := g') (t' := t') (d' := d') u hok hg hch
end
abbrev XK := Value → Option Addr → Hp → Prop
abbrev St := List (Option V)
abbrev VK := V → Hp → Prop
abbrev TE := St → Hp → VK → Prop
abbrev TT := St → Hp → (Bool → Hp → Prop) → Prop
abbrev TA := St → Hp → (List V → Hp → Prop) → Prop
structure Ends where
  nx : St → Hp → Prop
  rt : VK
  bk : St → Hp → Prop := fun _ _ => False
  ct : St → Hp → Prop := fun _ _ => False
abbrev TS := Ends → St → Hp → Prop
def EP (X : Cx) (pins : List (Addr × Obj)) (σ : St) (Q : VK) (u : Value) (s' : Shared) : Prop := ∃ v H', Inv X pins σ H' s' ∧ RelV v u ∧ Q v H'
def TP (X : Cx) (pins : List (Addr × Obj)) (σ : St) (Q : Bool → Hp → Prop) (b : Bool) (s' : Shared) : Prop := ∃ H', Inv X pins σ H' s' ∧ Q b H'
def AP (X : Cx) (pins : List (Addr × Obj)) (σ : St) (Q : List V → Hp → Prop) (us : List Value) (s' : Shared) : Prop := ∃ vs H', Inv X pins σ H' s' ∧ Vals vs us ∧ Q vs H'
def SP (X : Cx) (pins : List (Addr × Obj)) (D : Ends) (f : Flow) (s' : Shared) : Prop :=
  match f with
  | .next => ∃ σ' H', Inv X pins σ' H' s' ∧ D.nx σ' H'
  | .brk => ∃ σ' H', Inv X pins σ' H' s' ∧ D.bk σ' H'
  | .cont => ∃ σ' H', Inv X pins σ' H' s' ∧ D.ct σ' H'
  | .ret u => ∃ v σ' H', Inv X pins σ' H' s' ∧ RelV v u ∧ D.rt v H'
def PE (X : Cx) (e : Expr) (t : TE) : Prop :=
  ∀ (pins : List (Addr × Obj)) (s : Shared) (σ : St) (H : Hp) (Q : VK), Inv X pins σ H s → t σ H Q → wpAny (model X.prog X.w) X.A (eval e X.env) (EP X pins σ Q) X.xe s
def PT (X : Cx) (e : Expr) (t : TT) : Prop :=
  ∀ (pins : List (Addr × Obj)) (s : Shared) (σ : St) (H : Hp) (Q : Bool → Hp → Prop), Inv X pins σ H s → t σ H Q → wpAny (model X.prog X.w) X.A (isTrue e X.env (eval e X.env)) (TP X pins σ Q) X.xe s
def PW (X : Cx) (e : Expr) (t : TT) : Prop :=
  ∀ (whole : Sem Value) (pins : List (Addr × Obj)) (s : Shared) (σ : St) (H : Hp) (Q : Bool → Hp → Prop), Inv X pins σ H s → t σ H Q → wpAny (model X.prog X.w) X.A (isTrue e X.env whole) (TP X pins σ Q) X.xe s
theorem PW.pt {X : Cx} {e : Expr} {t : TT} (h : PW X e t) : PT X e t := h _
def PA (X : Cx) (es : List Expr) (t : TA) : Prop :=
  ∀ (pos : Pos) (pins : List (Addr × Obj)) (s : Shared) (σ : St) (H : Hp) (Q : List V → Hp → Prop), Inv X pins σ H s → t σ H Q → wpAny (model X.prog X.w) X.A (spliced (backTo pos (starEach es X.env))) (AP X pins σ Q) X.xe s
def PS (X : Cx) (st : Stmt) (t : TS) : Prop :=
  ∀ (pins : List (Addr × Obj)) (s : Shared) (σ : St) (H : Hp) (D : Ends), Inv X pins σ H s → t D σ H → wpAny (model X.prog X.w) X.A (exec st X.env) (SP X pins D) X.xe s
def PSs (X : Cx) (st : List Stmt) (t : TS) : Prop :=
  ∀ (pins : List (Addr × Obj)) (s : Shared) (σ : St) (H : Hp) (D : Ends), Inv X pins σ H s → t D σ H → wpAny (model X.prog X.w) X.A (execs st X.env) (SP X pins D) X.xe s
theorem thn {α : Type} {t : Sem α} {Q Q' : α → Shared → Prop} {M : Model} {A : Around} {E : Value → Shared → Prop} {s : Shared} (h : wpAny M A t Q E s) (hQ : ∀ a s, Q a s → Q' a s) : wpAny M A t Q' E s := wpAny_mono h hQ fun _ _ x => x
end L2
namespace L2
open PySem PySem.Spec PyProof.Rows
section
variable {X : Cx}
def tVar (i : Nat) : TE := fun σ H Q => ∃ v, σ[i]? = some (some v) ∧ Q v H
def tC (v : V) : TE := fun _ H Q => Q v H
theorem pe_var {i : Nat} {x : Str} {pos : Pos} (hN : X.N[i]? = some x) (hv : Vis X.env.scope x) (hd : (x == ("__debug__" : Str)) = false := by decide) (hcd : (x == ("__classdict__" : Str)) = false := by decide) : PE X (.Name x pos) (tVar i) := by
  intro pins s σ H Q I h
  obtain ⟨v, e, h⟩ := h
  obtain ⟨m, hn, hl⟩ := I.loc
  obtain ⟨u, r, l⟩ := hl i x v hN e hv
  have fin : EP X pins σ Q u s := ⟨v, H, I, r, h⟩
  rcases l with ⟨hk, hm⟩ | ⟨hk, c, hc, hcell⟩
  · exact wpAny_Name (wpAny_loadName_local I.ok.kind hk hn hm fin) hd
  · rcases hk with hk | hk
    · exact wpAny_Name (wpAny_loadName_cell I.ok.kind hk hc hcell fin) hd
    · exact wpAny_Name (wpAny_loadName_free I.ok.kind hk hc hcell fin hcd) hd
theorem pe_int {i j pos} : PE X (.Constant (.int i) j pos) (tC (.int i)) := fun _ _ _ H _ I h => wpAny_Constant_int ⟨.int i, H, I.tok _, ⟨_, rfl⟩, h⟩
theorem pe_bl {b j pos} : PE X (.Constant (.bool b) j pos) (tC (.bl b)) := fun _ _ _ H _ I h => Constant_bool ⟨.bl b, H, I, rfl, h⟩
theorem pe_non {j pos} : PE X (.Constant .none j pos) (tC .non) := fun _ _ _ H _ I h => Constant_none ⟨.non, H, I, rfl, h⟩
theorem pe_str {x j pos} : PE X (.Constant (.str x) j pos) (tC (.str x)) := fun _ _ _ H _ I h => Calls.Constant_str ⟨.str x, H, I.tok _, ⟨_, rfl⟩, h⟩
def Gl (X : Cx) (x : Str) : Prop := X.env.kindOf x = some .globalImplicit
theorem ld_glob {E : Value → Shared → Prop} {pins : List (Addr × Obj)} {s : Shared} {σ : St} {H : Hp} {x : Str} {u : Value} {pos : Pos} {Q : Value → Shared → Prop} (I : Inv X pins σ H s) (hg : Gl X x) (hm : X.mg x = some u) (h : Q u s)
    (hd : (x == ("__debug__" : Str)) = false := by decide) : wpAny (model X.prog X.w) X.A (eval (.Name x pos) X.env) Q E s :=
  Calls.Name_function_global I.ok.kind hg (Calls.loadGlobal_global (by rw [I.ok.glob]; exact I.mod.glob.keeps I.bk) hm h) hd
theorem ld_blt {E : Value → Shared → Prop} {pins : List (Addr × Obj)} {s : Shared} {σ : St} {H : Hp} {x : Str} {u : Value} {pos : Pos} {Q : Value → Shared → Prop} (I : Inv X pins σ H s) (hg : Gl X x) (hm : X.mg x = none) (hv : bootBuiltins x = some u) (h : Q u s)
    (hn : x ≠ "__name__" := by decide) (hd : (x == ("__debug__" : Str)) = false := by decide) : wpAny (model X.prog X.w) X.A (eval (.Name x pos) X.env) Q E s := by
  obtain ⟨mb, h1, h2⟩ := I.mod.blt
  exact Calls.Name_function_global I.ok.kind hg (Calls.loadGlobal_builtin (by rw [I.ok.glob]; exact I.mod.glob.keeps I.bk) hm (by rw [I.ok.blt]; exact h1.keeps I.bk) ((h2 x hn).trans hv) h) hd
theorem pe_glob {x : Str} {v : V} {u : Value} {pos : Pos} (hg : Gl X x) (hm : X.mg x = some u) (r : RelV v u) (hd : (x == ("__debug__" : Str)) = false := by decide) : PE X (.Name x pos) (tC v) :=
  fun _ _ _ H _ I h => ld_glob I hg hm ⟨v, H, I, r, h⟩ hd
theorem pe_bltn {x : Str} {v : V} {u : Value} {pos : Pos} (hg : Gl X x) (hm : X.mg x = none) (hv : bootBuiltins x = some u) (r : RelV v u) (hn : x ≠ "__name__" := by decide) (hd : (x == ("__debug__" : Str)) = false := by decide) : PE X (.Name x pos) (tC v) :=
  fun _ _ _ H _ I h => ld_blt I hg hm hv ⟨v, H, I, r, h⟩ hn hd
def t2I (ta tb : TE) (k : Int → Int → Hp → Prop) : St → Hp → Prop := fun σ H => ta σ H fun x H1 => tb σ H1 fun y H2 => ∃ i j, x = .int i ∧ y = .int j ∧ k i j H2
def tAdd (ta tb : TE) : TE := fun σ H Q => t2I ta tb (fun i j H2 => Q (.int (i + j)) H2) σ H
def tSub (ta tb : TE) : TE := fun σ H Q => t2I ta tb (fun i j H2 => Q (.int (i - j)) H2) σ H
def tMul (ta tb : TE) : TE := fun σ H Q => t2I ta tb (fun i j H2 => (-(2 ^ 64) < i ∧ i < 2 ^ 64) ∧ Q (.int (i * j)) H2) σ H
variable {a b : Expr} {ta tb : TE} {pos : Pos}
def PC (X : Cx) (op : CmpOp) (a b : Expr) (t : TE) : Prop :=
  ∀ (pins : List (Addr × Obj)) (s : Shared) (σ : St) (H : Hp) (Q : VK), Inv X pins σ H s → t σ H Q →
    wpAny (model X.prog X.w) X.A (eval a X.env) (fun v s₁ => wpAny (model X.prog X.w) X.A (eval b X.env) (fun u s₂ => wpAny (model X.prog X.w) X.A (compareOp op v u) (EP X pins σ Q) X.xe s₂) X.xe s₁) X.xe s
def tCmp (p : Int → Int → Bool) (ta tb : TE) : TE := fun σ H Q => t2I ta tb (fun i j H2 => Q (.bl (p i j)) H2) σ H
abbrev tLt : TE → TE → TE := tCmp fun i j => decide (i < j)
abbrev tLe : TE → TE → TE := tCmp fun i j => decide (i ≤ j)
abbrev tGt : TE → TE → TE := tCmp fun i j => decide (j < i)
abbrev tGe : TE → TE → TE := tCmp fun i j => decide (j ≤ i)
abbrev tEqI : TE → TE → TE := tCmp fun i j => decide (i = j)
abbrev tNeI : TE → TE → TE := tCmp fun i j => !decide (i = j)
def tIsN (ta : TE) : TE := fun σ H Q => ta σ H fun x H1 => Q (.bl (decide (x = .non))) H1
def tNotN (ta : TE) : TE := fun σ H Q => ta σ H fun x H1 => Q (.bl (!decide (x = .non))) H1
def tB (t : TE) : TT := fun σ H Q => t σ H fun x H1 => ∃ c, x = .bl c ∧ Q c H1
theorem pt_val {e : Expr} {t : TE} (h : PE X e t) (he : ∀ whole, isTrue e X.env whole = (do let v ← whole; standAt e.pos; holding [v] (truthy v)) := by intro _; rfl) : PT X e (tB t) := by
  intro pins s σ H Q I hw
  refine isTrue_plain (thn (h pins s σ H _ I hw) fun v s1 ⟨x, H1, I1, r1, q1⟩ => ?_) (he _)
  obtain ⟨d, rfl, q⟩ := q1
  cases r1
  exact wpAny_truthy_bool ⟨H1, I1, q⟩
variable {tA tB' : TT} {rest : List Expr}
def tAnd (t u : TT) : TT := fun σ H Q => t σ H fun c H1 => if c = true then u σ H1 Q else Q false H1
def tOr (t u : TT) : TT := fun σ H Q => t σ H fun c H1 => if c = true then Q true H1 else u σ H1 Q
def tNot (t : TT) : TT := fun σ H Q => t σ H fun c H1 => Q (!c) H1
theorem pw_and1 (ha : PT X a tA) : PW X (.BoolOp .And [a] pos) tA := by
  intro wh pins s σ H Q I h
  refine isTrue_and (thn (ha pins s σ H Q I h) fun c s1 e => ?_)
  cases c with
  | true => exact isTrue_and_nil e
  | false => exact e
theorem pw_or1 (ha : PT X a tA) : PW X (.BoolOp .Or [a] pos) tA := by
  intro wh pins s σ H Q I h
  refine isTrue_or (thn (ha pins s σ H Q I h) fun c s1 e => ?_)
  cases c with
  | false => exact isTrue_or_nil e
  | true => exact e
theorem pw_and (ha : PT X a tA) (hb : PW X (.BoolOp .And (b :: rest) pos) tB') : PW X (.BoolOp .And (a :: b :: rest) pos) (tAnd tA tB') := by
  intro wh pins s σ H Q I h
  refine isTrue_and (thn (ha pins s σ H _ I h) fun c s1 ⟨H1, I1, q1⟩ => ?_)
  cases c with
  | true => exact hb wh pins s1 σ H1 Q I1 q1
  | false => exact ⟨H1, I1, q1⟩
theorem pw_or (ha : PT X a tA) (hb : PW X (.BoolOp .Or (b :: rest) pos) tB') : PW X (.BoolOp .Or (a :: b :: rest) pos) (tOr tA tB') := by
  intro wh pins s σ H Q I h
  refine isTrue_or (thn (ha pins s σ H _ I h) fun c s1 ⟨H1, I1, q1⟩ => ?_)
  cases c with
  | true => exact ⟨H1, I1, q1⟩
  | false => exact hb wh pins s1 σ H1 Q I1 q1
theorem pt_not (ha : PT X a tA) : PT X (.UnaryOp .Not a pos) (tNot tA) := by
  intro pins s σ H Q I h
  exact isTrue_not (ha pins s σ H (fun c H1 => Q (!c) H1) I h)
def tAndV (ta tb : TE) : TE := fun σ H Q => ta σ H fun x H1 => ∃ c, x = .bl c ∧ if c = true then tb σ H1 Q else Q (.bl false) H1
def tOrV (ta tb : TE) : TE := fun σ H Q => ta σ H fun x H1 => ∃ c, x = .bl c ∧ if c = true then Q (.bl true) H1 else tb σ H1 Q
def tNotV (ta : TE) : TE := fun σ H Q => ta σ H fun x H1 => ∃ c, x = .bl c ∧ Q (.bl (!c)) H1
theorem pe_one {op} {t : TE} (h : PE X a t) : PE X (.BoolOp op [a] pos) t := fun pins s σ H Q I hw => BoolOp_one (h pins s σ H Q I hw)
theorem pe_and (ha : PE X a ta) (hb : PE X (.BoolOp .And (b :: rest) pos) tb) : PE X (.BoolOp .And (a :: b :: rest) pos) (tAndV ta tb) := by
  intro pins s σ H Q I h
  refine BoolOp_and (thn (ha pins s σ H _ I h) fun v s1 ⟨x, H1, I1, r1, q1⟩ => ?_)
  obtain ⟨c, rfl, q1⟩ := q1
  cases r1
  refine wpAny_truthy_bool ?_
  cases c with
  | true => exact hb pins s1 σ H1 Q I1 q1
  | false => exact ⟨.bl false, H1, I1, rfl, q1⟩
theorem pe_or (ha : PE X a ta) (hb : PE X (.BoolOp .Or (b :: rest) pos) tb) : PE X (.BoolOp .Or (a :: b :: rest) pos) (tOrV ta tb) := by
  intro pins s σ H Q I h
  refine BoolOp_or (thn (ha pins s σ H _ I h) fun v s1 ⟨x, H1, I1, r1, q1⟩ => ?_)
  obtain ⟨c, rfl, q1⟩ := q1
  cases r1
  refine wpAny_truthy_bool ?_
  cases c with
  | false => exact hb pins s1 σ H1 Q I1 q1
  | true => exact ⟨.bl true, H1, I1, rfl, q1⟩
theorem pe_not (ha : PE X a ta) : PE X (.UnaryOp .Not a pos) (tNotV ta) := by
  intro pins s σ H Q I h
  refine UnaryOp_ (thn (ha pins s σ H _ I h) fun v s1 ⟨x, H1, I1, r1, q1⟩ => ?_)
  obtain ⟨c, rfl, q1⟩ := q1
  cases r1
  exact not_of (wpAny_truthy_bool ⟨.bl (!c), H1, I1, rfl, q1⟩)
def tIf (t : TT) (ta tb : TE) : TE := fun σ H Q => t σ H fun c H1 => if c = true then ta σ H1 Q else tb σ H1 Q
theorem pe_ifExp {c : Expr} (hc : PT X c tA) (ha : PE X a ta) (hb : PE X b tb) : PE X (.IfExp c a b pos) (tIf tA ta tb) := by
  intro pins s σ H Q I h
  refine wpAny_IfExp (thn (hc pins s σ H _ I h) fun d s1 ⟨H1, I1, q1⟩ => ?_)
  cases d with
  | true => exact ha pins s1 σ H1 Q I1 q1
  | false => exact hb pins s1 σ H1 Q I1 q1
end
end L2
namespace L2
open PySem PySem.Spec PyProof.Rows
def SqL (K : PySem.W.Frag) (H : Hp) (a : Addr) (xs : List V) : Prop :=
  Rd H a (.lst xs) ∨
    ∃ (o : Obj) (its : Array Value) (n : Nat), K.lookup a = some o ∧ o.cls = .type "list" ∧ o.dict = none ∧ o.data = .seq its n ∧ its.size ≤ sizeLine ∧ Vals xs its.toList
def SqT (K : PySem.W.Frag) (H : Hp) (a : Addr) (xs : List V) : Prop :=
  Rd H a (.tup xs) ∨
    ∃ (o : Obj) (its : Array Value) (n : Nat), K.lookup a = some o ∧ o.cls = .type "tuple" ∧ o.data = .seq its n ∧ its.size ≤ sizeLine ∧ Vals xs its.toList
def absV : Value → Option V
  | .none => some .non
  | .bool b => some (.bl b)
  | .int i _ => some (.int i)
  | .str x _ => some (.str x)
  | .bytes b _ => some (.byt b)
  | .float b _ => some (.flt b)
  | .ref a => some (.ref a)
  | .type n => some (.ty n)
  | _ => none
theorem RelV.abs {x : V} {u : Value} (r : RelV x u) : absV u = some x := by
  cases x with
  | non => cases r; rfl
  | bl _ => cases r; rfl
  | int _ => obtain ⟨t, rfl⟩ := r; rfl
  | str _ => obtain ⟨t, rfl⟩ := r; rfl
  | byt _ => obtain ⟨t, rfl⟩ := r; rfl
  | flt _ => obtain ⟨t, rfl⟩ := r; rfl
  | ref _ => cases r; rfl
  | ty _ => cases r; rfl
theorem RelV.inj {x y : V} {u : Value} (r : RelV x u) (q : RelV y u) : x = y := Option.some.inj (r.abs.symm.trans q.abs)
theorem Vals.inj : ∀ {xs ys : List V} {us : List Value}, Vals xs us → Vals ys us → xs = ys
  | _, _, _, .nil, .nil => rfl
  | _, _, _, .cons r t, .cons r' t' => by rw [r.inj r', Vals.inj t t']
section
variable {X : Cx} {pins : List (Addr × Obj)} {σ : St} {H : Hp} {s : Shared} {a : Addr} {xs ys : List V}
theorem SqL.of {K : PySem.W.Frag} (h : H a = some (.lst xs)) : SqL K H a xs := .inl (.inl h)
theorem SqT.of {K : PySem.W.Frag} (h : H a = some (.tup xs)) : SqT K H a xs := .inl (.inl h)
theorem Inv.list (I : Inv X pins σ H s) (h : SqL X.K H a xs) : ∃ its : List Value, Vals xs its ∧ PlainL s.heap a its.toArray ∧ xs.length ≤ sizeLine := by
  rcases h with h | ⟨o, its, n, hk, hc, hd, hs, hz, r⟩
  · obtain ⟨z, its, n, r, e⟩ := h.ok I.hok
    exact ⟨its, r, ⟨_, n, e, rfl, rfl, rfl⟩, z⟩
  · refine ⟨its.toList, r, ⟨o, n, I.kIn a o hk, hc, hd, by simpa using hs⟩, ?_⟩
    have e := r.length
    simp only [Array.length_toList] at e
    omega
theorem Inv.tuple (I : Inv X pins σ H s) (h : SqT X.K H a xs) : ∃ its : List Value, Vals xs its ∧ IsTup s.heap a its.toArray ∧ xs.length ≤ sizeLine := by
  rcases h with h | ⟨o, its, n, hk, hc, hs, hz, r⟩
  · obtain ⟨z, its, r, p⟩ := h.ok I.hok
    exact ⟨its, r, p, z⟩
  · refine ⟨its.toList, r, ⟨o, I.kIn a o hk, hc, n, by simpa using hs⟩, ?_⟩
    have e := r.length
    simp only [Array.length_toList] at e
    omega
theorem Inv.list_inj (I : Inv X pins σ H s) (h : SqL X.K H a xs) (h' : SqL X.K H a ys) : xs = ys := by
  obtain ⟨its, r, ⟨o, n, e, _, _, d⟩, _⟩ := I.list h
  obtain ⟨its', r', ⟨o', n', e', _, _, d'⟩, _⟩ := I.list h'
  rw [e] at e'; cases e'
  rw [d] at d'
  injection d' with d1 _
  have : its = its' := by simpa using congrArg Array.toList d1
  subst this
  exact r.inj r'
theorem Inv.tuple_inj (I : Inv X pins σ H s) (h : SqT X.K H a xs) (h' : SqT X.K H a ys) : xs = ys := by
  obtain ⟨its, r, ⟨o, e, _, n, d⟩, _⟩ := I.tuple h
  obtain ⟨its', r', ⟨o', e', _, n', d'⟩, _⟩ := I.tuple h'
  rw [e] at e'; cases e'
  rw [d] at d'
  injection d' with d1 _
  have : its = its' := by simpa using congrArg Array.toList d1
  subst this
  exact r.inj r'
end
abbrev Cx.wish (X : Cx) (E : Value → Shared → Prop) : Cx := { X with xe := E }
abbrev Cx.nox (X : Cx) : Cx := X.wish fun _ _ => False
theorem Cx.Ok.wish {X : Cx} (ok : X.Ok) (E : Value → Shared → Prop) : (X.wish E).Ok :=
  ⟨ok.mod, ok.kind, ok.glob, ok.blt, ok.above, ok.inj, ok.has, ok.cab, ok.hd, ok.frames, ok.stk, ok.exf, ok.bs, ok.bsz, ok.noex, ok.exfs, ok.funs, ok.frf⟩
theorem Cx.Ok.unwish {X : Cx} {E : Value → Shared → Prop} (ok : (X.wish E).Ok) : X.Ok :=
  ⟨ok.mod, ok.kind, ok.glob, ok.blt, ok.above, ok.inj, ok.has, ok.cab, ok.hd, ok.frames, ok.stk, ok.exf, ok.bs, ok.bsz, ok.noex, ok.exfs, ok.funs, ok.frf⟩
section
variable {X : Cx} {pins : List (Addr × Obj)} {σ : St} {H : Hp} {s : Shared} {E : Value → Shared → Prop}
theorem Inv.wish (I : Inv X pins σ H s) (E : Value → Shared → Prop) : Inv (X.wish E) pins σ H s := ⟨I.ok.wish E, I.os, I.bare, I.base, I.loc, I.cell, I.free, I.freeC, I.pin, I.hok, I.len⟩
theorem Inv.unwish (I : Inv (X.wish E) pins σ H s) : Inv X pins σ H s := ⟨I.ok.unwish, I.os, I.bare, I.base, I.loc, I.cell, I.free, I.freeC, I.pin, I.hok, I.len⟩
theorem SP.unwish {D : Ends} {f : Flow} {s' : Shared} (h : SP (X.wish E) pins D f s') : SP X pins D f s' := by
  cases f with
  | next => obtain ⟨σ', H', I, q⟩ := h; exact ⟨σ', H', I.unwish, q⟩
  | brk => obtain ⟨σ', H', I, q⟩ := h; exact ⟨σ', H', I.unwish, q⟩
  | cont => obtain ⟨σ', H', I, q⟩ := h; exact ⟨σ', H', I.unwish, q⟩
  | ret u => obtain ⟨v, σ', H', I, r, q⟩ := h; exact ⟨v, σ', H', I.unwish, r, q⟩
theorem PE.nox {e : Expr} {t : TE} (h : PE X.nox e t) : PE X e t := fun pins s σ H Q I hw =>
  wpAny_mono (h pins s σ H Q (I.wish _) hw) (fun _ _ ⟨v, H', I', r, q⟩ => ⟨v, H', I'.unwish, r, q⟩) fun _ _ z => False.elim z
theorem PT.nox {e : Expr} {t : TT} (h : PT X.nox e t) : PT X e t := fun pins s σ H Q I hw =>
  wpAny_mono (h pins s σ H Q (I.wish _) hw) (fun _ _ ⟨H', I', q⟩ => ⟨H', I'.unwish, q⟩) fun _ _ z => False.elim z
theorem PSs.nox {st : List Stmt} {t : TS} (h : PSs X.nox st t) : PSs X st t := fun pins s σ H D I hw =>
  wpAny_mono (h pins s σ H D (I.wish _) hw) (fun _ _ q => q.unwish) fun _ _ z => False.elim z
end
section
variable {X : Cx} {st : Stmt} {rest : List Stmt} {t u : TS} {e : Expr} {te : TE} {pos : Pos}
def tNext : TS := fun D σ H => D.nx σ H
def tSeq (t u : TS) : TS := fun D σ H => t { D with nx := u D } σ H
theorem pss_nil : PSs X [] tNext := fun _ _ σ H _ I h => wpAny_execs_nil ⟨σ, H, I, h⟩
theorem pss_cons (h1 : PS X st t) (h2 : PSs X rest u) : PSs X (st :: rest) (tSeq t u) := by
  intro pins s σ H D I h
  refine wpAny_execs_cons (thn (h1 pins s σ H { D with nx := u D } I h) fun f s1 q => ?_)
  cases f with
  | next =>
    obtain ⟨σ', H', I', q⟩ := q
    exact h2 pins s1 σ' H' D I' q
  | ret v => exact q
  | brk => exact q
  | cont => exact q
theorem pss_one (h1 : PS X st t) : PSs X [st] t := by
  intro pins s σ H D I h
  refine wpAny_execs_cons (thn (h1 pins s σ H D I h) fun f s1 q => ?_)
  cases f with
  | next => exact wpAny_execs_nil q
  | ret v => exact q
  | brk => exact q
  | cont => exact q
def tBreak : TS := fun D σ H => D.bk σ H
def tCont : TS := fun D σ H => D.ct σ H
def tDrop (te : TE) : TS := fun D σ H => te σ H fun _ H1 => D.nx σ H1
def tRet (te : TE) : TS := fun D σ H => te σ H D.rt
theorem ps_ret (he : PE X e te) : PS X (.Return (some e) pos) (tRet te) := by
  intro pins s σ H D I h
  exact wpAny_Return_some (thn (he pins s σ H _ I h) fun v s1 ⟨x, H1, I1, r1, q1⟩ => ⟨x, σ, H1, I1, r1, q1⟩)
def tRetN : TS := fun D _ H => D.rt .non H
def tIfS (c : TT) (t u : TS) : TS := fun D σ H => c σ H fun b H1 => if b = true then t D σ H1 else u D σ H1
theorem ps_if {c : Expr} {a b : List Stmt} {tc : TT} (hc : PT X c tc) (ha : PSs X a t) (hb : PSs X b u) : PS X (.If c a b pos) (tIfS tc t u) := by
  intro pins s σ H D I h
  refine wpAny_If (thn (hc pins s σ H _ I h) fun d s1 ⟨H1, I1, q1⟩ => ?_)
  cases d with
  | true => exact ha pins s1 σ H1 D I1 q1
  | false => exact hb pins s1 σ H1 D I1 q1
def tNever : TS := fun _ _ _ => False
theorem ps_never : PS X st tNever := fun _ _ _ _ _ _ h => h.elim
theorem pss_never {sts : List Stmt} : PSs X sts tNever := fun _ _ _ _ _ _ h => h.elim
end
abbrev TG := V → St → Hp → (St → Hp → Prop) → Prop
abbrev TGs := List V → St → Hp → (St → Hp → Prop) → Prop
def PG (X : Cx) (target : Expr) (t : TG) : Prop :=
  ∀ (pins : List (Addr × Obj)) (s : Shared) (σ : St) (H : Hp) (v : V) (u : Value) (Q : St → Hp → Prop), Inv X pins σ H s → RelV v u → t v σ H Q →
    wpAny (model X.prog X.w) X.A (assign target X.env u) (fun _ s' => ∃ σ' H', Inv X pins σ' H' s' ∧ Q σ' H') X.xe s
def PGs (X : Cx) (ts : List Expr) (t : TGs) : Prop :=
  ∀ (pins : List (Addr × Obj)) (s : Shared) (σ : St) (H : Hp) (vs : List V) (us : List Value) (Q : St → Hp → Prop), Inv X pins σ H s → Vals vs us → t vs σ H Q →
    wpAny (model X.prog X.w) X.A (assignInOrder ((assignEach ts X.env).map (·.2)) us) (fun _ s' => ∃ σ' H', Inv X pins σ' H' s' ∧ Q σ' H') X.xe s
abbrev TSet := V → V → V → Hp → (Hp → Prop) → Prop
def PSet (X : Cx) (t : TSet) : Prop :=
  ∀ (pins : List (Addr × Obj)) (s : Shared) (σ : St) (H : Hp) (o i v : V) (ov iv u : Value) (Q : Hp → Prop), Inv X pins σ H s → RelV o ov → RelV i iv → RelV v u → t o i v H Q →
    wpAny (model X.prog X.w) X.A (setItem ov iv u) (fun _ s' => ∃ H', Inv X pins σ H' s' ∧ Q H') X.xe s
abbrev TIp := V → V → Hp → VK → Prop
def PIp (X : Cx) (op : Operator) (t : TIp) : Prop :=
  ∀ (pins : List (Addr × Obj)) (s : Shared) (σ : St) (H : Hp) (x y : V) (v u : Value) (Q : VK), Inv X pins σ H s → RelV x v → RelV y u → t x y H Q →
    wpAny (model X.prog X.w) X.A (inplaceOp op v u) (EP X pins σ Q) X.xe s
section
variable {X : Cx} {pos : Pos}
def gName (i : Nat) : TG := fun v σ H Q => Q (σ.set i (some v)) H
theorem pg_name {i : Nat} {x : Str} (hN : X.N.Nodup) (hi : X.N[i]? = some x) (hx : Loc X.env.scope x) (hf : X.fn x = true ∨ X.env.scope.names.lookup x = some .local := by first | exact .inl rfl | exact .inr rfl | assumption) : PG X (.Name x pos) (gName i) := by
  intro pins s σ H v u Q I r h
  exact wpAny_assign_Name (store_ok I hN hi hx r (fun s' I' => ⟨_, H, I', h⟩) hf)
def gNil : TGs := fun vs σ H Q => vs = [] ∧ Q σ H
def gCons (t : TG) (u : TGs) : TGs := fun vs σ H Q => ∃ v r, vs = v :: r ∧ t v σ H fun σ' H' => u r σ' H' Q
theorem pgs_nil : PGs X [] gNil := by
  intro pins s σ H vs us Q I r h
  obtain ⟨e, h⟩ := h
  subst e
  cases r
  exact assignInOrder_nil ⟨σ, H, I, h⟩
theorem pgs_cons {e : Expr} {es : List Expr} {t : TG} {u : TGs} (h1 : PG X e t) (h2 : PGs X es u)
    (hs : (assignEach (e :: es) X.env).map (·.2) = assign e X.env :: (assignEach es X.env).map (·.2) := by rfl) : PGs X (e :: es) (gCons t u) := by
  intro pins s σ H vs us Q I r h
  obtain ⟨v, vr, e1, h⟩ := h
  subst e1
  cases r with
  | cons r rr =>
    rw [hs]
    refine assignInOrder_cons (thn (h1 pins s σ H _ _ _ I r h) fun _ s1 ⟨σ1, H1, I1, q1⟩ => ?_)
    exact h2 pins s1 σ1 H1 _ _ Q I1 rr q1
def gTup (K : PySem.W.Frag) (n : Nat) (t : TGs) : TG := fun v σ H Q => ∃ a xs, v = .ref a ∧ SqT K H a xs ∧ xs.length = n ∧ t xs σ H Q
theorem pg_tup {es : List Expr} {k : Nat} {t : TGs} {n : Nat} (hc : X.calm = true) (h : PGs X es t)
    (hn : (assignEach es X.env).length = n := by rfl) (hst : (assignEach es X.env).findIdx? (·.1) = none := by rfl) : PG X (.Tuple es k pos) (gTup X.K n t) := by
  intro pins s σ H v u Q I r hw
  obtain ⟨a, xs, e1, hq, hl, hw⟩ := hw
  subst e1
  cases r
  obtain ⟨its, rv, ht, hz⟩ := I.tuple hq
  refine assign_Tuple_tuple (I.ok.hd hc) ht (by simp [hn, ← hl, rv.length]) hst fun h' hx => ?_
  have I1 : Inv X pins σ H { s with heap := h' } := I.kept (t' := s.toks) fun b o e => hx b o (Nat.ne_of_lt (Heap.lt_size e)) e
  exact h pins _ σ H xs _ Q I1 (by simpa using rv) hw
def gSub (to ti : TE) (t : TSet) : TG := fun v σ H Q => to σ H fun o H1 => ti σ H1 fun i H2 => t o i v H2 fun H3 => Q σ H3
theorem pg_sub {o i : Expr} {to ti : TE} {t : TSet} (ho : PE X o to) (hi : PE X i ti) (hs : PSet X t)
    (ha : ∀ v, assign (.Subscript o i pos) X.env v = (do
      let ov ← holding [v] (eval o X.env)
      let iv ← holding [v, ov] (eval i X.env)
      standAt pos
      holding [v, ov, iv] (setItem ov iv v)
      release [v, ov, iv] []) := by intro _; rfl) : PG X (.Subscript o i pos) (gSub to ti t) := by
  intro pins s σ H v u Q I r h
  rw [ha]
  refine wpAny_bind (wpAny_holding (thn (ho pins s σ H _ I h) fun ov s1 ⟨x, H1, I1, r1, q1⟩ => ?_))
  refine wpAny_bind (wpAny_holding (thn (hi pins s1 σ H1 _ I1 q1) fun iv s2 ⟨y, H2, I2, r2, q2⟩ => ?_))
  refine wpAny_bind (wpAny_standAt (wpAny_bind (wpAny_holding (thn (hs pins s2 σ H2 x y v ov iv u _ I2 r1 r2 r q2) fun _ s3 ⟨H3, I3, q3⟩ => ?_))))
  exact wpAny_release ⟨σ, H3, I3, q3⟩
def tAsg (te : TE) (g : TG) : TS := fun D σ H => te σ H fun x H1 => g x σ H1 D.nx
theorem ps_asg {tg e : Expr} {te : TE} {g : TG} (he : PE X e te) (hg : PG X tg g) (hs : swapsWithSole [tg] e pos.line X.env = pure false := by rfl) (hw : swappedStores [tg] e X.env = pure none := by rfl)
    (h1 : (assignEach [tg] X.env).map (·.2) = [assign tg X.env] := by rfl) : PS X (.Assign [tg] e pos) (tAsg te g) := by
  intro pins s σ H D I h
  refine wpAny_Assign_stores (thn (he pins s σ H _ I h) fun v s1 ⟨x, H1, I1, r1, q1⟩ => ?_) hs hw
  rw [h1]
  exact thn (hg pins s1 σ H1 x v _ I1 r1 q1) fun _ s2 q => q
theorem ps_set {i : Nat} {x : Str} {e : Expr} {te : TE} {pos' : Pos} (hN : X.N.Nodup) (hi : X.N[i]? = some x) (hx : Loc X.env.scope x) (he : PE X e te) (hs : swapsWith e (some (.Name x pos')) pos.line X.env = pure false := by rfl) (hf : X.fn x = true ∨ X.env.scope.names.lookup x = some .local := by first | exact .inl rfl | exact .inr rfl | assumption) :
    PS X (.Assign [.Name x pos'] e pos) (tAsg te (gName i)) := by
  intro pins s σ H D I h
  refine wpAny_Assign_Name (thn (he pins s σ H _ I h) fun v s1 ⟨y, H1, I1, r1, q1⟩ => ?_) hs
  exact store_ok I1 hN hi hx r1 (fun s2 I2 => ⟨_, H1, I2, q1⟩) hf
def tPar (i j : Nat) (ta : TA) : TS := fun D σ H => ta σ H fun vs H1 => ∃ v w, vs = [v, w] ∧ D.nx ((σ.set i (some v)).set j (some w)) H1
theorem ps_par {i j : Nat} {x y : Str} {a b : Expr} {ta : TA} {px py pt : Pos} {kt k2 pt2} (hc : X.calm = true) (hN : X.N.Nodup) (hi : X.N[i]? = some x) (hj : X.N[j]? = some y) (hij : i ≠ j)
    (hx : X.env.scope.names.lookup x = some .local) (hy : X.env.scope.names.lookup y = some .local) (ha : PA X [a, b] ta)
    (hw : swappedStores [.Tuple [.Name x px, .Name y py] kt pt] (.Tuple [a, b] k2 pt2) X.env = pure (some [x, y]))
    (hs : swapsWithSole [.Tuple [.Name x px, .Name y py] kt pt] (.Tuple [a, b] k2 pt2) pos.line X.env = pure false := by rfl) :
    PS X (.Assign [.Tuple [.Name x px, .Name y py] kt pt] (.Tuple [a, b] k2 pt2) pos) (tPar i j ta) := by
  intro pins s σ H D I h
  rw [exec_Assign_arm]
  refine wpAny_bind (wpAny_standAt ?_)
  rw [hs]
  refine wpAny_bind (wpAny_pure ?_)
  rw [if_neg (by decide)]
  refine wpAny_bind (Tuple_ (thn (ha _ pins s σ H _ I h) fun us s1 ⟨vs, H1, I1, r1, q1⟩ => ?_))
  obtain ⟨v, w, e1, q1⟩ := q1
  subst e1
  obtain ⟨u1, u2, rfl, rv, rw'⟩ : ∃ u1 u2, us = [u1, u2] ∧ RelV v u1 ∧ RelV w u2 := by
    cases r1 with
    | cons p q =>
      cases q with
      | cons p' q' =>
        cases q'
        exact ⟨_, _, rfl, p, p'⟩
  refine wpAny_newObj_type ?_ (by show 2 ≤ sizeLine; decide)
  have I2 : Inv X pins σ H1 { s1 with heap := s1.heap.push { cls := .type "tuple", data := .seq [u1, u2].toArray } } := I1.kept (t' := s1.toks) fun b o e => Heap.get?_push_of_some _ e
  rw [hw]
  refine wpAny_bind (wpAny_pure ?_)
  show wpAny (model X.prog X.w) X.A (do rule "assign.swapped-stores"; let items ← unpackItems (.ref s1.heap.objs.size) 2 none; assignInOrder [fun v => bindName X.env y v, fun v => bindName X.env x v] items.reverse; pure Flow.next) _ _ _
  refine wpAny_bind (wpAny_rule (wpAny_bind (unpackItems_tuple (items := #[u1, u2]) (I.ok.hd hc) (IsTup.new s1.heap _) fun h' hx' => ?_)))
  have I3 := I2.kept (h' := h') (t' := s1.toks) fun b o e => hx' b o (Nat.ne_of_lt (Heap.lt_size e)) e
  show wpAny _ _ (assignInOrder [fun v => bindName X.env y v, fun v => bindName X.env x v] [u2, u1] >>= fun _ => pure Flow.next) _ _ _
  refine wpAny_bind (assignInOrder_cons (wpAny_bindName (store_ok I3 hN hj (.inl hy) rw' (fun s2 I4 => ?_) (.inr hy))))
  refine assignInOrder_cons (wpAny_bindName (store_ok I4 hN hi (.inl hx) rv (fun s3 I5 => assignInOrder_nil (wpAny_pure ?_)) (.inr hx)))
  rw [List.set_comm _ _ (Ne.symm hij)] at I5
  exact ⟨_, H1, I5, q1⟩
def tAug (i : Nat) (te : TE) (ti : TIp) : TS := fun D σ H => ∃ x, σ[i]? = some (some x) ∧ te σ H fun y H1 => ti x y H1 fun z H2 => D.nx (σ.set i (some z)) H2
def tAugS (to ti te : TE) (tget : V → V → Hp → VK → Prop) (tip : TIp) (tset : TSet) : TS := fun D σ H => to σ H fun o H1 => ti σ H1 fun i H2 => tget o i H2 fun x H3 => te σ H3 fun y H4 => tip x y H4 fun z H5 => tset o i z H5 fun H6 => D.nx σ H6
def PGet (X : Cx) (t : V → V → Hp → VK → Prop) : Prop :=
  ∀ (pins : List (Addr × Obj)) (s : Shared) (σ : St) (H : Hp) (o i : V) (ov iv : Value) (Q : VK), Inv X pins σ H s → RelV o ov → RelV i iv → t o i H Q →
    wpAny (model X.prog X.w) X.A (getItem ov iv) (EP X pins σ Q) X.xe s
def ipI (f : Int → Int → Int) : TIp := fun x y H Q => ∃ i j, x = .int i ∧ y = .int j ∧ Q (.int (f i j)) H
end
section
variable {X : Cx} {pos : Pos}
def tWhile (c : TT) (tb : TS) : TS := fun D σ H => ∃ W : Nat → St → Hp → Prop, (∃ m, W m σ H) ∧ ∀ m σ H, W m σ H →
  c σ H fun b H1 => if b = true then ∃ N : St → Hp → Prop, (∀ σ' H', N σ' H' → ∃ m', m' < m ∧ W m' σ' H') ∧ tb { D with nx := N, ct := N, bk := D.nx } σ H1 else D.nx σ H1
theorem ps_while {c : Expr} {body : List Stmt} {tc : TT} {tb : TS} (hp : PassesOwn (model X.prog X.w) X.A X.env X.xe) (hc : PT X c tc) (hb : PSs X body tb) : PS X (.While c body [] pos) (tWhile tc tb) := by
  intro pins s σ H D I h
  obtain ⟨W, ⟨m0, w0⟩, turn⟩ := h
  refine wpAny_While (codeAny_whileLoop (fun n s' => ∃ σ' H', Inv X pins σ' H' s' ∧ W n σ' H') ?_ m0 ⟨σ, H, I, w0⟩)
  rintro n s1 ⟨σ1, H1, I1, w1⟩
  refine wpAny_passesOwn hp (thn (hc pins s1 σ1 H1 _ I1 (turn n σ1 H1 w1)) fun b s2 ⟨H2, I2, q2⟩ => ?_)
  cases b with
  | true =>
    obtain ⟨N, hN, q2⟩ := q2
    rw [if_pos rfl]
    refine wpAny_passesOwn hp (thn (hb pins s2 σ1 H2 _ I2 q2) fun f s3 q3 => ?_)
    cases f with
    | next =>
      obtain ⟨σ3, H3, I3, n3⟩ := q3
      obtain ⟨m', hm, w3⟩ := hN σ3 H3 n3
      exact ⟨m', hm, σ3, H3, I3, w3⟩
    | cont =>
      obtain ⟨σ3, H3, I3, n3⟩ := q3
      obtain ⟨m', hm, w3⟩ := hN σ3 H3 n3
      exact ⟨m', hm, σ3, H3, I3, w3⟩
    | brk => exact q3
    | ret v => exact q3
  | false =>
    rw [if_neg Bool.false_ne_true]
    exact wpAny_execs_nil ⟨σ1, H2, I2, q2⟩
end
structure It where
  go : Nat → Hp → Prop
  yld : Nat → Hp → V → Hp → Prop
  stop : Nat → Hp → Prop
def FpOk (X : Cx) (pins : List (Addr × Obj)) (H : Hp) (b : Addr) : Prop :=
  H b = none ∧ b ≠ X.env.locals ∧ b ∉ X.fs ∧ (b ∈ X.ex ∨ X.s₀.heap.objs.size ≤ b) ∧ (∀ x c, X.env.cells.lookup x = some c → c ≠ b) ∧ ∀ p ∈ X.pn ++ pins, p.1 ≠ b
theorem Inv.fpOk {X : Cx} {pins : List (Addr × Obj)} {σ : St} {H H' : Hp} {s : Shared} {b : Addr} (I : Inv X pins σ H s) (hb : s.heap.objs.size ≤ b) (hn : H' b = none) : FpOk X pins H' b := by
  refine ⟨hn, Nat.ne_of_gt (Nat.lt_of_lt_of_le I.lt hb), I.nofs hb, .inr (Nat.le_trans I.sz hb), fun x c e z => ?_, fun p hp z => ?_⟩
  · obtain ⟨v, q⟩ := I.cell x c e
    exact absurd (Nat.lt_of_lt_of_le q.lt (by rw [z]; exact hb)) (Nat.lt_irrefl _)
  · exact absurd (Nat.lt_of_lt_of_le (Heap.lt_size (I.pin p hp).1) (by rw [z]; exact hb)) (Nat.lt_irrefl _)
structure Turn (P : Program) (w : World) (K : PySem.W.Frag) (tg : Expr) (J : It) (fp : List Addr) (it : Addr) (tn : Nat → Heap → Prop) : Prop where
  mem : it ∈ fp
  obj : ∀ i h, tn i h → ∀ b ∈ fp, ∃ o, h.get? b = some o ∧ ∀ v, o.data ≠ .cell v
  keep : ∀ i h h', tn i h → (∀ b ∈ fp, ∀ o, h.get? b = some o → h'.get? b = some o) → tn i h'
  item : ∀ (X : Cx), X.prog = P → X.w = w → X.K = K → X.calm = true → ∀ (i : Nat) (pins : List (Addr × Obj)) (s : Shared) (σ : St) (H : Hp) (E : Value → Shared → Prop), Inv X pins σ H s → (∀ b ∈ fp, FpOk X pins H b) → tn i s.heap → J.go i H →
    wpAny (model P w) X.A (pyNext (.ref it)) (fun r s1 => ∃ u, r = some u ∧
      wpAny (model P w) X.A (letOwnedTupleGo tg (.ref it) u) (fun _ s2 => ∃ x H', Inv X pins σ H' s2 ∧ RelV x u ∧ J.yld i H x H' ∧ tn (i + 1) s2.heap ∧ ∀ b ∈ fp, H' b = none) E s1) E s
  done : ∀ (X : Cx), X.prog = P → X.w = w → X.K = K → X.calm = true → ∀ (i : Nat) (pins : List (Addr × Obj)) (s : Shared) (σ : St) (H : Hp) (E : Value → Shared → Prop), Inv X pins σ H s → (∀ b ∈ fp, FpOk X pins H b) → tn i s.heap → J.stop i H →
    wpAny (model P w) X.A (pyNext (.ref it)) (fun r s1 => r = none ∧ Inv X pins σ H s1) E s
  self : ∀ (A : Around) (i : Nat) (s : Shared) (Q : Value → Shared → Prop) (E : Value → Shared → Prop), tn i s.heap → Q (.ref it) s → wpAny (model P w) A (pyIter (.ref it)) Q E s
abbrev TI := St → Hp → (It → Hp → Prop) → Prop
def PIE (X : Cx) (pins : List (Addr × Obj)) (σ : St) (tg : Expr) (R : It → Hp → Prop) (itv : Value) (s2 : Shared) : Prop :=
  ∃ (it : Addr) (fp : List Addr) (tn : Nat → Heap → Prop) (J : It) (H' : Hp), itv = .ref it ∧ Inv X pins σ H' s2 ∧ Turn X.prog X.w X.K tg J fp it tn ∧ tn 0 s2.heap ∧ (∀ b ∈ fp, FpOk X pins H' b) ∧ R J H'
def PI (X : Cx) (tg iter : Expr) (wi : TI) : Prop :=
  ∀ (pins : List (Addr × Obj)) (s : Shared) (σ : St) (H : Hp) (R : It → Hp → Prop), Inv X pins σ H s → wi σ H R →
    wpAny (model X.prog X.w) X.A (eval iter X.env) (fun v s1 => wpAny (model X.prog X.w) X.A (pyIter v) (PIE X pins σ tg R) X.xe s1) X.xe s
theorem go_of {M : Model} {A : Around} {E : Value → Shared → Prop} {s : Shared} {tg : Expr} {it : Addr} {u : Value} {o : Obj} {n : String} {vs : Array Value} {Q : Unit → Shared → Prop} (ho : s.heap.get? it = some o) (hc : o.cls = .type n) (hd : o.data = .fields vs)
    (hn : ["enumerate", "zip", "dict_itemiterator", "dict_reverseitemiterator", "odict_iterator", "itertools.zip_longest", "itertools.pairwise"].contains n = false) (hQ : Q () s) : wpAny M A (letOwnedTupleGo tg (.ref it) u) Q E s := by
  unfold letOwnedTupleGo
  cases tg <;> first
    | exact wpAny_pure hQ
    | (cases u <;> first
        | exact wpAny_pure hQ
        | (refine wpAny_bind (wpAny_load ho ?_)
           rw [hc, hd]
           show wpAny M A (if (["enumerate", "zip", "dict_itemiterator", "dict_reverseitemiterator", "odict_iterator", "itertools.zip_longest", "itertools.pairwise"].contains n && vs[0]? == some (rawInt _)) = true then _ else _) Q E s
           rw [if_neg (by intro h; rw [hn, Bool.false_and] at h; cases h)]
           exact wpAny_pure hQ))
def Itl (K : PySem.W.Frag) (a : Addr) : It :=
  ⟨fun i H => ∃ xs x, SqL K H a xs ∧ xs[i]? = some x, fun i H x H' => H' = H ∧ ∀ xs, SqL K H a xs → xs[i]? = some x, fun i H => ∃ xs, SqL K H a xs ∧ xs.length ≤ i⟩
def Itt (K : PySem.W.Frag) (a : Addr) : It :=
  ⟨fun i H => ∃ xs x, SqT K H a xs ∧ xs[i]? = some x, fun i H x H' => H' = H ∧ ∀ xs, SqT K H a xs → xs[i]? = some x, fun i H => ∃ xs, SqT K H a xs ∧ xs.length ≤ i⟩
def Itr (lo : Int) (n : Nat) : It := ⟨fun i _ => i < n, fun i H x H' => H' = H ∧ x = .int (lo + i), fun i _ => n ≤ i⟩
theorem turn_list {P : Program} {w : World} {K : PySem.W.Frag} {tg : Expr} (a it : Addr) : Turn P w K tg (Itl K a) [it] it (fun i h => h.IsListIter it a i) where
  mem := by simp
  obj := fun i h st b hb => by
    have e : b = it := by simpa using hb
    subst e
    obtain ⟨o, e, c, d⟩ := st
    exact ⟨o, e, fun v z => by rw [d] at z; cases z⟩
  keep := fun i h h' st k => st.at fun o e => k it (by simp) o e
  item := by
    intro X hP hw hK hc i pins s σ H E I hf st hg
    subst hP hw hK
    obtain ⟨xs, x, hq, hx⟩ := hg
    obtain ⟨its, rv, p, hz⟩ := I.list hq
    obtain ⟨u, hu, ru⟩ := rv.get hx
    obtain ⟨f0, f1, f2, f3, f4, f5⟩ := hf it (by simp)
    refine wpAny_pyNext_list_item st p.isList (x := u) (by simpa using hu) fun h' st' sb => ?_
    have I1 : Inv X pins σ H { s with heap := h' } := I.turned (t' := s.toks) (fun b o hb e => (sb.2 b hb).trans e) f0 f1 f3 f4 f5
    obtain ⟨o, e, c, d⟩ := id st'
    exact ⟨u, rfl, go_of (s := { s with heap := h' }) e c d (by decide) ⟨x, H, I1, ru, ⟨rfl, fun ys hy => by rw [I.list_inj hy hq]; exact hx⟩, st', fun b hb => (hf b hb).1⟩⟩
  done := by
    intro X hP hw hK hc i pins s σ H E I hf st hg
    subst hP hw hK
    obtain ⟨xs, hq, hx⟩ := hg
    obtain ⟨its, rv, p, hz⟩ := I.list hq
    obtain ⟨f0, f1, f2, f3, f4, f5⟩ := hf it (by simp)
    have hl := rv.length
    exact wpAny_pyNext_list_end (I.ok.hd hc) st p.isList (by simp; omega) fun h' eb => ⟨rfl, I.turned (t' := s.toks) (fun b o hb e => eb b o hb e) f0 f1 f3 f4 f5⟩
  self := fun _ _ _ _ _ st h => wpAny_pyIter_listiter st h
theorem turn_tuple {P : Program} {w : World} {K : PySem.W.Frag} {tg : Expr} (a it : Addr) : Turn P w K tg (Itt K a) [it] it (fun i h => h.IsTupleIter it a i) where
  mem := by simp
  obj := fun i h st b hb => by
    have e : b = it := by simpa using hb
    subst e
    obtain ⟨o, e, c, d⟩ := st
    exact ⟨o, e, fun v z => by rw [d] at z; cases z⟩
  keep := fun i h h' st k => st.at fun o e => k it (by simp) o e
  item := by
    intro X hP hw hK hc i pins s σ H E I hf st hg
    subst hP hw hK
    obtain ⟨xs, x, hq, hx⟩ := hg
    obtain ⟨its, rv, p, hz⟩ := I.tuple hq
    obtain ⟨u, hu, ru⟩ := rv.get hx
    obtain ⟨f0, f1, f2, f3, f4, f5⟩ := hf it (by simp)
    refine wpAny_pyNext_tuple_item st (show s.heap.IsTuple a its.toArray from p) (x := u) (by simpa using hu) fun h' st' sb => ?_
    have I1 : Inv X pins σ H { s with heap := h' } := I.turned (t' := s.toks) (fun b o hb e => (sb.2 b hb).trans e) f0 f1 f3 f4 f5
    obtain ⟨o, e, c, d⟩ := id st'
    exact ⟨u, rfl, go_of (s := { s with heap := h' }) e c d (by decide) ⟨x, H, I1, ru, ⟨rfl, fun ys hy => by rw [I.tuple_inj hy hq]; exact hx⟩, st', fun b hb => (hf b hb).1⟩⟩
  done := by
    intro X hP hw hK hc i pins s σ H E I hf st hg
    subst hP hw hK
    obtain ⟨xs, hq, hx⟩ := hg
    obtain ⟨its, rv, p, hz⟩ := I.tuple hq
    obtain ⟨f0, f1, f2, f3, f4, f5⟩ := hf it (by simp)
    have hl := rv.length
    exact wpAny_pyNext_tuple_end (I.ok.hd hc) st (show s.heap.IsTuple a its.toArray from p) (by simp; omega) fun h' eb => ⟨rfl, I.turned (t' := s.toks) (fun b o hb e => eb b o hb e) f0 f1 f3 f4 f5⟩
  self := fun _ _ _ _ _ st h => wpAny_pyIter_tupleiter st h
theorem turn_range {P : Program} {w : World} {K : PySem.W.Frag} {tg : Expr} (it : Addr) (lo : Int) (n : Nat) : Turn P w K tg (Itr lo n) [it] it (fun i h => IsRangeIter h it (lo + (i : Nat) * 1) ((n : Int) - (i : Nat)) 1) where
  mem := by simp
  obj := fun i h st b hb => by
    have e : b = it := by simpa using hb
    subst e
    exact ⟨_, st, fun v z => by
      have z' : Data.fields _ = Data.cell v := z
      cases z'⟩
  keep := fun i h h' st k => k it (by simp) _ st
  item := by
    intro X hP hw hK hc i pins s σ H E I hf st hg
    subst hP hw hK
    obtain ⟨f0, f1, f2, f3, f4, f5⟩ := hf it (by simp)
    have W := Walks.range (prog := X.prog) (w := X.w) (I.ok.hd hc) it lo 1 n
    refine W.item i s _ _ hg st fun v h' tk hv st' kk => ?_
    obtain ⟨t, rfl⟩ := hv
    have I1 : Inv X pins σ H { s with heap := h', toks := tk } := I.turned (fun b o hb e => kk b o (by simpa using hb) e) f0 f1 f3 f4 f5
    refine ⟨_, rfl, go_of (s := { s with heap := h', toks := tk }) (n := "range_iterator") st' rfl rfl (by decide) ⟨.int (lo + i), H, I1, ⟨t, ?_⟩, ⟨rfl, rfl⟩, st', fun b hb => (hf b hb).1⟩⟩
    rw [Int.mul_one]
  done := by
    intro X hP hw hK hc i pins s σ H E I hf st hg
    subst hP hw hK
    obtain ⟨f0, f1, f2, f3, f4, f5⟩ := hf it (by simp)
    exact wpAny_pyNext_range_end (I.ok.hd hc) st (by have : n ≤ i := hg; omega) fun h' eb => ⟨rfl, I.turned (t' := s.toks) (fun b o hb e => eb b o hb e) f0 f1 f3 f4 f5⟩
  self := fun _ _ _ _ _ st h => wpAny_pyIter_rangeiter st h
end L2
namespace L2
open PySem PySem.Spec PyProof.Rows
section
variable {X : Cx} {tg : Expr}
def iList (K : PySem.W.Frag) (tl : TE) : TI := fun σ H R => tl σ H fun x H1 => ∃ a, x = .ref a ∧ (∃ xs, SqL K H1 a xs) ∧ R (Itl K a) H1
def iTup (K : PySem.W.Frag) (tl : TE) : TI := fun σ H R => tl σ H fun x H1 => ∃ a, x = .ref a ∧ (∃ xs, SqT K H1 a xs) ∧ R (Itt K a) H1
theorem pi_list {l : Expr} {tl : TE} (hl : PE X l tl) : PI X tg l (iList X.K tl) := by
  intro pins s σ H R I h
  refine thn (hl pins s σ H _ I h) fun v s1 ⟨x, H1, I1, r1, q1⟩ => ?_
  obtain ⟨a, e, ⟨xs, hq⟩, q⟩ := q1
  subst e
  cases r1
  obtain ⟨its, rv, p, hz⟩ := I1.list hq
  refine wpAny_pyIter_list p.isList ?_
  refine ⟨s1.heap.objs.size, [s1.heap.objs.size], _, _, H1, rfl, I1.kept (t' := s1.toks) fun b o e => Heap.get?_push_of_some _ e, turn_list a _, ⟨_, Heap.get?_push_size _ rfl, rfl, rfl⟩, fun b hb => ?_, q⟩
  have e : b = s1.heap.objs.size := by simpa using hb
  subst e
  exact I1.fpOk (Nat.le_refl _) (I1.hok.fresh (Nat.le_refl _))
theorem pi_tup {l : Expr} {tl : TE} (hl : PE X l tl) : PI X tg l (iTup X.K tl) := by
  intro pins s σ H R I h
  refine thn (hl pins s σ H _ I h) fun v s1 ⟨x, H1, I1, r1, q1⟩ => ?_
  obtain ⟨a, e, ⟨xs, hq⟩, q⟩ := q1
  subst e
  cases r1
  obtain ⟨its, rv, p, hz⟩ := I1.tuple hq
  refine wpAny_pyIter_tuple (show s1.heap.IsTuple a its.toArray from p) ?_
  refine ⟨s1.heap.objs.size, [s1.heap.objs.size], _, _, H1, rfl, I1.kept (t' := s1.toks) fun b o e => Heap.get?_push_of_some _ e, turn_tuple a _, ⟨_, Heap.get?_push_size _ rfl, rfl, rfl⟩, fun b hb => ?_, q⟩
  have e : b = s1.heap.objs.size := by simpa using hb
  subst e
  exact I1.fpOk (Nat.le_refl _) (I1.hok.fresh (Nat.le_refl _))
theorem range_it {pins : List (Addr × Obj)} {σ : St} {H : Hp} {s : Shared} {R : It → Hp → Prop} {E : Value → Shared → Prop} {lo hi : Int} {t u v : Tok} {tk : Nat} (I : Inv X pins σ H s) (h1 : -(2 ^ 62) ≤ lo) (h2 : lo < 2 ^ 62) (h3 : -(2 ^ 62) ≤ hi) (h4 : hi < 2 ^ 62)
    (q : R (Itr lo (hi - lo).toNat) H) : wpAny (model X.prog X.w) X.A (pyIter (.ref s.heap.objs.size)) (PIE X pins σ tg R) E { s with heap := s.heap.push { cls := .type "range", data := .fields #[.int lo t, .int hi u, .int 1 v] }, toks := tk } := by
  refine wpAny_pyIter_range (IsRange.new ..) (small_one h1 h2 h3 h4) ?_
  have I1 : Inv X pins σ H { s with heap := s.heap.push { cls := .type "range", data := .fields #[.int lo t, .int hi u, .int 1 v] }, toks := tk } := I.kept fun b o e => Heap.get?_push_of_some _ e
  refine ⟨(s.heap.push { cls := .type "range", data := .fields #[.int lo t, .int hi u, .int 1 v] }).objs.size, [(s.heap.push { cls := .type "range", data := .fields #[.int lo t, .int hi u, .int 1 v] }).objs.size], _, _, H, rfl,
    I1.kept (t' := tk) fun b o e => Heap.get?_push_of_some _ e, turn_range _ lo (hi - lo).toNat, ?_, fun b hb => ?_, q⟩
  · have e1 : lo + ((0 : Nat) : Int) * 1 = lo := by simp
    have e2 : (((hi - lo).toNat : Nat) : Int) - ((0 : Nat) : Int) = Builtin.Range.rangeSize lo hi 1 := by rw [rangeSize_one]; split <;> omega
    show IsRangeIter _ _ (lo + ((0 : Nat) : Int) * 1) ((((hi - lo).toNat : Nat) : Int) - ((0 : Nat) : Int)) 1
    rw [e1, e2]
    exact Heap.get?_push_size _ rfl
  · have e : b = (s.heap.push { cls := .type "range", data := .fields #[.int lo t, .int hi u, .int 1 v] }).objs.size := by simpa using hb
    subst e
    exact I1.fpOk (Nat.le_refl _) (I1.hok.fresh (Nat.le_refl _))
def iRng1 (ta : TA) : TI := fun σ H R => ta σ H fun vs H1 => ∃ j : Int, vs = [.int j] ∧ -(2 ^ 62) ≤ j ∧ j < 2 ^ 62 ∧ R (Itr 0 j.toNat) H1
def iRng2 (ta : TA) : TI := fun σ H R => ta σ H fun vs H1 => ∃ i j : Int, vs = [.int i, .int j] ∧ (-(2 ^ 62) ≤ i ∧ i < 2 ^ 62 ∧ -(2 ^ 62) ≤ j ∧ j < 2 ^ 62) ∧ R (Itr i (j - i).toNat) H1
theorem pi_range1 {a : Expr} {ta : TA} {p pos : Pos} (hg : Gl X "range") (hm : X.mg "range" = none) (ha : PA X [a] ta) (hs : starEach [a] X.env = [(false, eval a X.env)] := by rfl) : PI X tg (.Call (.Name "range" p) [a] [] pos) (iRng1 ta) := by
  intro pins s σ H R I h
  refine Call_ (ld_blt I hg hm boot_range (PyProof.Rows.callWith_type1 (thn (ha pos pins s σ H _ I h) fun us s1 ⟨vs, H1, I1, r1, q1⟩ => ?_) hs rfl))
  obtain ⟨j, e, q1, q2, q⟩ := q1
  subst e
  cases r1 with
  | cons r rr =>
    cases rr
    obtain ⟨t, rfl⟩ := r
    exact call_range_1 (range_it I1 (by omega) (by omega) q1 q2 (by simpa using q))
theorem pi_range2 {a b : Expr} {ta : TA} {p pos : Pos} (hg : Gl X "range") (hm : X.mg "range" = none) (ha : PA X [a, b] ta) (hs : starEach [a, b] X.env = [(false, eval a X.env), (false, eval b X.env)] := by rfl) (hs2 : starEach [b] X.env = [(false, eval b X.env)] := by rfl) :
    PI X tg (.Call (.Name "range" p) [a, b] [] pos) (iRng2 ta) := by
  intro pins s σ H R I h
  refine Call_ (ld_blt I hg hm boot_range (PyProof.Rows.callWith_type1 (thn (ha pos pins s σ H _ I h) fun us s1 ⟨vs, H1, I1, r1, q1⟩ => ?_) (by rw [hs, hs2]) (by rw [hs2]; rfl)))
  obtain ⟨i, j, e, ⟨q1, q2, q3, q4⟩, q⟩ := q1
  subst e
  cases r1 with
  | cons r rr =>
    cases rr with
    | cons r' rr =>
      cases rr
      obtain ⟨t, rfl⟩ := r
      obtain ⟨t', rfl⟩ := r'
      exact call_range_2 (range_it I1 q1 q2 q3 q4 q)
def tFor (wi : TI) (g : TG) (tb : TS) : TS := fun D σ H => wi σ H fun J H1 => ∃ W : Nat → Nat → St → Hp → Prop, (∃ m, W 0 m σ H1) ∧ ∀ i m σ H, W i m σ H →
  (J.stop i H ∧ D.nx σ H) ∨ (J.go i H ∧ ∃ N : St → Hp → Prop, (∀ σ' H', N σ' H' → ∃ m', m' < m ∧ W (i + 1) m' σ' H') ∧ ∀ x H', J.yld i H x H' → g x σ H' fun σ2 H2 => tb { D with nx := N, ct := N, bk := D.nx } σ2 H2)
def pinsAt (fp : List Addr) (h : Heap) : List (Addr × Obj) := fp.filterMap fun b => (h.get? b).map fun o => (b, o)
theorem mem_pinsAt {fp : List Addr} {h : Heap} {b : Addr} {o : Obj} (hb : b ∈ fp) (e : h.get? b = some o) : (b, o) ∈ pinsAt fp h := List.mem_filterMap.mpr ⟨b, hb, by rw [e]; rfl⟩
theorem of_pinsAt {fp : List Addr} {h : Heap} {p : Addr × Obj} (hp : p ∈ pinsAt fp h) : p.1 ∈ fp ∧ h.get? p.1 = some p.2 := by
  obtain ⟨b, hb, e⟩ := List.mem_filterMap.mp hp
  cases q : h.get? b with
  | none => rw [q] at e; cases e
  | some o =>
    rw [q] at e
    have e' : (b, o) = p := Option.some.inj e
    subst e'
    exact ⟨hb, q⟩
theorem Inv.pinned {pins : List (Addr × Obj)} {σ : St} {H : Hp} {s : Shared} {fp : List Addr} (I : Inv X pins σ H s) (hf : ∀ b ∈ fp, FpOk X pins H b) (ho : ∀ b ∈ fp, ∃ o, s.heap.get? b = some o ∧ ∀ v, o.data ≠ .cell v) : Inv X (pins ++ pinsAt fp s.heap) σ H s :=
  I.pins_of fun p hp => (List.mem_append.mp hp).elim (fun z => I.pin p (List.mem_append_right _ z)) fun z => by
    obtain ⟨hb, e⟩ := of_pinsAt z
    obtain ⟨f0, f1, f2, _⟩ := hf p.1 hb
    obtain ⟨o, e', d⟩ := ho p.1 hb
    rw [e] at e'; cases e'
    exact ⟨e, f0, f1, f2, d⟩
theorem Inv.unpinned {pins pl : List (Addr × Obj)} {σ : St} {H : Hp} {s : Shared} (I : Inv X (pins ++ pl) σ H s) : Inv X pins σ H s := I.pins_of fun p hp => I.pin p (List.mem_append_right _ (List.mem_append_left _ hp))
theorem ps_for {iter : Expr} {body : List Stmt} {wi : TI} {g : TG} {tb : TS} {pos : Pos} (hp : PassesOwn (model X.prog X.w) X.A X.env X.xe) (hc : X.calm = true) (hi : PI X tg iter wi) (hg : PG X tg g) (hb : PSs X body tb)
    (hs : ∀ x, foldedSetIterable iter X.env x = pure x := by intro _; rfl) : PS X (.For tg iter body [] pos) (tFor wi g tb) := by
  intro pins s σ H D I h
  refine wpAny_For (thn (hi pins s σ H _ I h) fun v s1 h1 => thn h1 fun itv s2 h2 => ?_) hs
  obtain ⟨it, fp, tn, J, H2, e, I2, T, st2, f2, W, ⟨m0, w0⟩, turn⟩ := h2
  subst e
  have stat : ∀ {H' : Hp}, (∀ b ∈ fp, H' b = none) → ∀ b ∈ fp, FpOk X pins H' b := fun hn b hb => ⟨hn b hb, (f2 b hb).2⟩
  refine codeAny_forLoop_any (fun n s' => ∃ i σ' H', Inv X pins σ' H' s' ∧ tn i s'.heap ∧ (∀ b ∈ fp, H' b = none) ∧ W i n σ' H') ?_ m0 ⟨0, σ, H2, I2, st2, fun b hb => (f2 b hb).1, w0⟩
  rintro n s3 ⟨i, σ3, H3, I3, st3, fr3, w3⟩
  rcases turn i n σ3 H3 w3 with ⟨stop, qn⟩ | ⟨go, N, hN, step⟩
  · refine wpAny_passesOwn hp (thn (T.done X rfl rfl rfl hc i pins s3 σ3 H3 X.xe I3 (stat fr3) st3 stop) fun r s4 ⟨hr, I4⟩ => ?_)
    subst hr
    exact wpAny_execs_nil ⟨σ3, H3, I4, qn⟩
  · refine wpAny_passesOwn hp (thn (T.item X rfl rfl rfl hc i pins s3 σ3 H3 X.xe I3 (stat fr3) st3 go) fun r s4 ⟨u, hr, h4⟩ => ?_)
    subst hr
    refine wpAny_passesOwn hp (thn h4 fun _ s5 ⟨x, H5, I5, r5, y5, st5, fr5⟩ => ?_)
    have I5' := I5.pinned (stat fr5) (T.obj _ _ st5)
    refine wpAny_passesOwn hp (thn (hg _ s5 σ3 H5 x u _ I5' r5 (step x H5 y5)) fun _ s6 ⟨σ6, H6, I6, q6⟩ => ?_)
    refine wpAny_passesOwn hp (thn (hb _ s6 σ6 H6 _ I6 q6) fun f s7 q7 => ?_)
    have again : ∀ {σ7 : St} {H7 : Hp}, Inv X (pins ++ pinsAt fp s5.heap) σ7 H7 s7 → N σ7 H7 → ∃ m, m < n ∧ ∃ i σ' H', Inv X pins σ' H' s7 ∧ tn i s7.heap ∧ (∀ b ∈ fp, H' b = none) ∧ W i m σ' H' := fun {σ7 H7} I7 n7 => by
      obtain ⟨m', hm, w7⟩ := hN σ7 H7 n7
      refine ⟨m', hm, i + 1, σ7, H7, I7.unpinned, T.keep _ _ _ st5 fun b hb o e => (I7.pin (b, o) (List.mem_append_right _ (List.mem_append_right _ (mem_pinsAt hb e)))).1, fun b hb => ?_, w7⟩
      obtain ⟨o, e, d⟩ := T.obj _ _ st5 b hb
      exact (I7.pin (b, o) (List.mem_append_right _ (List.mem_append_right _ (mem_pinsAt hb e)))).2.1
    cases f with
    | next => obtain ⟨σ7, H7, I7, n7⟩ := q7; exact again I7 n7
    | cont => obtain ⟨σ7, H7, I7, n7⟩ := q7; exact again I7 n7
    | brk => obtain ⟨σ7, H7, I7, q7⟩ := q7; exact ⟨σ7, H7, I7.unpinned, q7⟩
    | ret v => obtain ⟨x7, σ7, H7, I7, r7, q7⟩ := q7; exact ⟨x7, σ7, H7, I7.unpinned, r7, q7⟩
end
theorem for_list {K : PySem.W.Frag} {a : Addr} {xs : List V} {g : TG} {tb : TS} {D : Ends} {σ : St} {H : Hp} (Pv : Nat → St → Hp → Prop) (h0 : Pv 0 σ H) (hl : ∀ i σ H, i ≤ xs.length → Pv i σ H → SqL K H a xs)
    (hs : ∀ i x σ H, xs[i]? = some x → Pv i σ H → g x σ H fun σ2 H2 => tb { D with nx := Pv (i + 1), ct := Pv (i + 1), bk := D.nx } σ2 H2) (hd : ∀ σ H, Pv xs.length σ H → D.nx σ H) :
    ∃ W : Nat → Nat → St → Hp → Prop, (∃ m, W 0 m σ H) ∧ ∀ i m σ H, W i m σ H →
      ((Itl K a).stop i H ∧ D.nx σ H) ∨ ((Itl K a).go i H ∧ ∃ N : St → Hp → Prop, (∀ σ' H', N σ' H' → ∃ m', m' < m ∧ W (i + 1) m' σ' H') ∧ ∀ x H', (Itl K a).yld i H x H' → g x σ H' fun σ2 H2 => tb { D with nx := N, ct := N, bk := D.nx } σ2 H2) := by
  refine ⟨fun i m σ H => m = xs.length - i ∧ i ≤ xs.length ∧ Pv i σ H, ⟨xs.length, by simp, Nat.zero_le _, h0⟩, ?_⟩
  rintro i m σ H ⟨rfl, hi, p⟩
  have q := hl i σ H hi p
  by_cases hlt : i < xs.length
  · refine .inr ⟨⟨xs, xs[i], q, by simp [hlt]⟩, Pv (i + 1), fun σ' H' p' => ⟨xs.length - (i + 1), by omega, rfl, hlt, p'⟩, fun x H' y => ?_⟩
    obtain ⟨e, y⟩ := y
    subst e
    exact hs i x σ _ (y xs q) p
  · have e : i = xs.length := by omega
    subst e
    exact .inl ⟨⟨xs, q, Nat.le_refl _⟩, hd σ H p⟩
theorem for_tup {K : PySem.W.Frag} {a : Addr} {xs : List V} {g : TG} {tb : TS} {D : Ends} {σ : St} {H : Hp} (Pv : Nat → St → Hp → Prop) (h0 : Pv 0 σ H) (hl : ∀ i σ H, i ≤ xs.length → Pv i σ H → SqT K H a xs)
    (hs : ∀ i x σ H, xs[i]? = some x → Pv i σ H → g x σ H fun σ2 H2 => tb { D with nx := Pv (i + 1), ct := Pv (i + 1), bk := D.nx } σ2 H2) (hd : ∀ σ H, Pv xs.length σ H → D.nx σ H) :
    ∃ W : Nat → Nat → St → Hp → Prop, (∃ m, W 0 m σ H) ∧ ∀ i m σ H, W i m σ H →
      ((Itt K a).stop i H ∧ D.nx σ H) ∨ ((Itt K a).go i H ∧ ∃ N : St → Hp → Prop, (∀ σ' H', N σ' H' → ∃ m', m' < m ∧ W (i + 1) m' σ' H') ∧ ∀ x H', (Itt K a).yld i H x H' → g x σ H' fun σ2 H2 => tb { D with nx := N, ct := N, bk := D.nx } σ2 H2) := by
  refine ⟨fun i m σ H => m = xs.length - i ∧ i ≤ xs.length ∧ Pv i σ H, ⟨xs.length, by simp, Nat.zero_le _, h0⟩, ?_⟩
  rintro i m σ H ⟨rfl, hi, p⟩
  have q := hl i σ H hi p
  by_cases hlt : i < xs.length
  · refine .inr ⟨⟨xs, xs[i], q, by simp [hlt]⟩, Pv (i + 1), fun σ' H' p' => ⟨xs.length - (i + 1), by omega, rfl, hlt, p'⟩, fun x H' y => ?_⟩
    obtain ⟨e, y⟩ := y
    subst e
    exact hs i x σ _ (y xs q) p
  · have e : i = xs.length := by omega
    subst e
    exact .inl ⟨⟨xs, q, Nat.le_refl _⟩, hd σ H p⟩
theorem while_by {c : TT} {tb : TS} {D : Ends} {σ : St} {H : Hp} (Pv : St → Hp → Prop) (μ : St → Hp → Nat) (h0 : Pv σ H)
    (hs : ∀ σ H, Pv σ H → c σ H fun b H1 => if b = true then tb { D with nx := fun σ' H' => Pv σ' H' ∧ μ σ' H' < μ σ H, ct := fun σ' H' => Pv σ' H' ∧ μ σ' H' < μ σ H, bk := D.nx } σ H1 else D.nx σ H1)
    (mono : ∀ σ H Q Q', (∀ b H1, Q b H1 → Q' b H1) → c σ H Q → c σ H Q') : tWhile c tb D σ H := by
  refine ⟨fun m σ H => m = μ σ H ∧ Pv σ H, ⟨_, rfl, h0⟩, ?_⟩
  rintro m σ H ⟨rfl, p⟩
  refine mono σ H _ _ (fun b H1 q => ?_) (hs σ H p)
  cases b with
  | true => exact ⟨_, fun σ' H' ⟨p', l⟩ => ⟨_, l, rfl, p'⟩, q⟩
  | false => exact q
end L2
namespace L2
open PySem PySem.Spec PyProof.Rows
abbrev R2 := V → V → Hp → VK → Prop
def OpR (X : Cx) (f : Value → Value → Sem Value) (r : R2) : Prop :=
  ∀ (pins : List (Addr × Obj)) (s : Shared) (σ : St) (H : Hp) (x y : V) (v u : Value) (Q : VK), Inv X pins σ H s → RelV x v → RelV y u → r x y H Q →
    wpAny (model X.prog X.w) X.A (f v u) (EP X pins σ Q) X.xe s
def UnR (X : Cx) (f : Value → Sem Value) (r : V → Hp → VK → Prop) : Prop :=
  ∀ (pins : List (Addr × Obj)) (s : Shared) (σ : St) (H : Hp) (x : V) (v : Value) (Q : VK), Inv X pins σ H s → RelV x v → r x H Q →
    wpAny (model X.prog X.w) X.A (f v) (EP X pins σ Q) X.xe s
def CallR (X : Cx) (f : Value) (r : List V → Hp → VK → Prop) : Prop :=
  ∀ (pins : List (Addr × Obj)) (s : Shared) (σ : St) (H : Hp) (xs : List V) (us : List Value) (Q : VK), Inv X pins σ H s → Vals xs us → r xs H Q →
    wpAny (model X.prog X.w) X.A (call f us) (EP X pins σ Q) X.xe s
def TruR (X : Cx) (r : V → Hp → (Bool → Hp → Prop) → Prop) : Prop :=
  ∀ (pins : List (Addr × Obj)) (s : Shared) (σ : St) (H : Hp) (x : V) (v : Value) (Q : Bool → Hp → Prop), Inv X pins σ H s → RelV x v → r x H Q →
    wpAny (model X.prog X.w) X.A (truthy v) (TP X pins σ Q) X.xe s
def tOp (r : R2) (ta tb : TE) : TE := fun σ H Q => ta σ H fun x H1 => tb σ H1 fun y H2 => r x y H2 Q
def tUn (r : V → Hp → VK → Prop) (ta : TE) : TE := fun σ H Q => ta σ H fun x H1 => r x H1 Q
def rI (C : Int → Int → Prop) (g : Int → Int → V) : R2 := fun x y H Q => ∃ i j, x = .int i ∧ y = .int j ∧ C i j ∧ Q (g i j) H
def rI0 (g : Int → Int → V) : R2 := fun x y H Q => ∃ i j, x = .int i ∧ y = .int j ∧ Q (g i j) H
def rU (g : Int → V) : V → Hp → VK → Prop := fun x H Q => ∃ i, x = .int i ∧ Q (g i) H
section
variable {X : Cx} {a b c : Expr} {ta tb tc : TE} {pos : Pos}
theorem binT (ha : PE X a ta) (hb : PE X b tb) {pins : List (Addr × Obj)} {s : Shared} {σ : St} {H : Hp} {R : V → V → Hp → Prop} (I : Inv X pins σ H s)
    (h : ta σ H fun x H1 => tb σ H1 fun y H2 => R x y H2) {Q : Value → Shared → Prop} {f : Value → Value → Sem Value}
    (hf : ∀ v u s2 x y H2, Inv X pins σ H2 s2 → RelV x v → RelV y u → R x y H2 → wpAny (model X.prog X.w) X.A (f v u) Q X.xe s2) :
    wpAny (model X.prog X.w) X.A (eval a X.env) (fun v s₁ => wpAny (model X.prog X.w) X.A (eval b X.env) (fun u s₂ => wpAny (model X.prog X.w) X.A (f v u) Q X.xe s₂) X.xe s₁) X.xe s := by
  refine thn (ha pins s σ H _ I h) fun v s1 ⟨x, H1, I1, r1, q1⟩ => ?_
  refine thn (hb pins s1 σ H1 _ I1 q1) fun u s2 ⟨y, H2, I2, r2, q2⟩ => ?_
  exact hf v u s2 x y H2 I2 r1 r2 q2
theorem pe_op {op : Operator} {r : R2} (ho : OpR X (binaryOp op) r) (ha : PE X a ta) (hb : PE X b tb) : PE X (.BinOp a op b pos) (tOp r ta tb) := by
  intro pins s σ H Q I h
  exact wpAny_BinOp (binT ha hb I h fun v u s2 x y H2 I2 rx ry q => ho pins s2 σ H2 x y v u Q I2 rx ry q)
theorem pe_un {op : UnaryOp} {r : V → Hp → VK → Prop} (ho : UnR X (unaryOp op) r) (ha : PE X a ta) : PE X (.UnaryOp op a pos) (tUn r ta) := by
  intro pins s σ H Q I h
  exact UnaryOp_ (thn (ha pins s σ H _ I h) fun v s1 ⟨x, H1, I1, r1, q1⟩ => ho pins s1 σ H1 x v Q I1 r1 q1)
theorem opI {f : Value → Value → Sem Value} {C : Int → Int → Prop} {g : Int → Int → Int}
    (rule : ∀ (i j : Int) (t u : Tok) (s : Shared) (Q : Value → Shared → Prop) (E : Value → Shared → Prop), C i j → Q (.int (g i j) s.toks) { s with toks := s.toks + 1 } → wpAny (model X.prog X.w) X.A (f (.int i t) (.int j u)) Q E s) :
    OpR X f (rI C fun i j => .int (g i j)) := by
  intro pins s σ H x y v u Q I rx ry h
  obtain ⟨i, j, rfl, rfl, hc, q⟩ := h
  obtain ⟨t, rfl⟩ := rx
  obtain ⟨t', rfl⟩ := ry
  exact rule i j t t' s _ _ hc ⟨.int (g i j), H, I.tok _, ⟨_, rfl⟩, q⟩
theorem opI0 {f : Value → Value → Sem Value} {g : Int → Int → Int}
    (rule : ∀ (i j : Int) (t u : Tok) (s : Shared) (Q : Value → Shared → Prop) (E : Value → Shared → Prop), Q (.int (g i j) s.toks) { s with toks := s.toks + 1 } → wpAny (model X.prog X.w) X.A (f (.int i t) (.int j u)) Q E s) :
    OpR X f (rI0 fun i j => .int (g i j)) := by
  intro pins s σ H x y v u Q I rx ry h
  obtain ⟨i, j, rfl, rfl, q⟩ := h
  obtain ⟨t, rfl⟩ := rx
  obtain ⟨t', rfl⟩ := ry
  exact rule i j t t' s _ _ ⟨.int (g i j), H, I.tok _, ⟨_, rfl⟩, q⟩
theorem opB0 {f : Value → Value → Sem Value} {g : Int → Int → Bool}
    (rule : ∀ (i j : Int) (t u : Tok) (s : Shared) (Q : Value → Shared → Prop) (E : Value → Shared → Prop), Q (.bool (g i j)) s → wpAny (model X.prog X.w) X.A (f (.int i t) (.int j u)) Q E s) :
    OpR X f (rI0 fun i j => .bl (g i j)) := by
  intro pins s σ H x y v u Q I rx ry h
  obtain ⟨i, j, rfl, rfl, q⟩ := h
  obtain ⟨t, rfl⟩ := rx
  obtain ⟨t', rfl⟩ := ry
  exact rule i j t t' s _ _ ⟨.bl (g i j), H, I, rfl, q⟩
def CDiv (i j : Int) : Prop := 0 < j ∧ j < 1073741824
def CDivN (i j : Int) : Prop := j ≠ 0 ∧ j.natAbs < 1073741824
def CPow (i j : Int) : Prop := 0 ≤ j ∧ j ≤ 1000000 ∧ i.natAbs < 2 ^ 64
def CMul (i j : Int) : Prop := (-(2 ^ 64) < i ∧ i < 2 ^ 64) ∨ (-(2 ^ 64) < j ∧ j < 2 ^ 64)
theorem CMul.ok {i j : Int} (h : CMul i j) : IntMulOk i j := by
  rcases h with ⟨h1, h2⟩ | ⟨h1, h2⟩
  · exact .of_left (intBits_le_64 h1 h2)
  · exact .of_right (intBits_le_64 h1 h2)
theorem op_add : OpR X (binaryOp .Add) (rI0 fun i j => .int (i + j)) := opI0 fun _ _ _ _ _ _ _ q => add_int q
theorem op_sub : OpR X (binaryOp .Sub) (rI0 fun i j => .int (i - j)) := opI0 fun _ _ _ _ _ _ _ q => sub_int q
theorem op_mod : OpR X (binaryOp .Mod) (rI (fun _ j => 0 < j) fun i j => .int (i % j)) := opI fun i j _ _ _ _ _ hc q => by
  have h1 : (0 : Int) < j := hc
  exact mod_int' (by omega) (by rw [Int.fmod_eq_emod_of_nonneg i (by omega)]; exact q)
theorem op_modN : OpR X (binaryOp .Mod) (rI (fun _ j => j ≠ 0) fun i j => .int (i.fmod j)) := opI fun _ _ _ _ _ _ _ hc q => mod_int' hc q
theorem unI {f : Value → Sem Value} {g : Int → Int}
    (rule : ∀ (i : Int) (t : Tok) (s : Shared) (Q : Value → Shared → Prop) (E : Value → Shared → Prop), Q (.int (g i) s.toks) { s with toks := s.toks + 1 } → wpAny (model X.prog X.w) X.A (f (.int i t)) Q E s) :
    UnR X f (rU fun i => .int (g i)) := by
  intro pins s σ H x v Q I rx h
  obtain ⟨i, rfl, q⟩ := h
  obtain ⟨t, rfl⟩ := rx
  exact rule i t s _ _ ⟨.int (g i), H, I.tok _, ⟨_, rfl⟩, q⟩
theorem un_neg : UnR X (unaryOp .USub) (rU fun i => .int (-i)) := unI fun _ _ _ _ _ q => neg_int q
end
def scal : V → V → Bool
  | .non, .non => true | .non, .int _ => true | .int _, .non => true | .non, .bl _ => true | .bl _, .non => true | .non, .str _ => true | .str _, .non => true
  | .int _, .int _ => true | .bl _, .bl _ => true | .str _, .str _ => true | .byt _, .byt _ => true
  | .int _, .str _ => true | .str _, .int _ => true | .bl _, .str _ => true | .str _, .bl _ => true
  | _, _ => false
def rEq : R2 := fun x y H Q => scal x y = true ∧ Q (.bl (decide (x = y))) H
def rNe : R2 := fun x y H Q => scal x y = true ∧ Q (.bl (!decide (x = y))) H
theorem dec_int {i j : Int} : decide (V.int i = V.int j) = (i == j) := by
  rw [Bool.eq_iff_iff]
  simp
theorem dec_bl {i j : Bool} : decide (V.bl i = V.bl j) = (i == j) := by
  rw [Bool.eq_iff_iff]
  simp
theorem dec_str {i j : Str} : decide (V.str i = V.str j) = (i == j) := by
  rw [Bool.eq_iff_iff]
  simp
theorem dec_byt {i j : Array UInt8} : decide (V.byt i = V.byt j) = (i.toList == j.toList) := by
  rw [Bool.eq_iff_iff]
  cases i
  cases j
  simp
section
variable {X : Cx} {a b c : Expr} {ta tb tc : TE} {pos : Pos}
theorem fin_bl {pins : List (Addr × Obj)} {σ : St} {H : Hp} {s : Shared} {Q : VK} {k k' : Bool} (I : Inv X pins σ H s) (q : Q (.bl k) H) (e : k = k') : EP X pins σ Q (.bool k') s := by
  subst e
  exact ⟨.bl k, H, I, rfl, q⟩
theorem op_eq : OpR X (compareOp .Eq) rEq := by
  intro pins s σ H x y v u Q I rx ry h
  obtain ⟨hs, q⟩ := h
  cases x with
  | non =>
    cases rx
    cases y with
    | non => cases ry; exact PySem.EqNone.eq_none_none (fin_bl I q (by simp))
    | bl j => cases ry; exact PySem.EqNone.eq_none_bool (fin_bl I q (by simp))
    | int j => obtain ⟨t', rfl⟩ := ry; exact PySem.EqNone.eq_none_int (fin_bl I q (by simp))
    | str j => obtain ⟨t', rfl⟩ := ry; exact PySem.EqNone.eq_none_str (fin_bl I q (by simp))
    | _ => exact absurd (show false = true from hs) Bool.false_ne_true
  | bl i =>
    cases rx
    cases y with
    | non => cases ry; exact PySem.EqNone.eq_bool_none (fin_bl I q (by simp))
    | bl j => cases ry; exact eq_bool (fin_bl I q dec_bl)
    | str j => obtain ⟨t', rfl⟩ := ry; exact PySem.EqMixed.eq_bool_str (fin_bl I q (by simp))
    | _ => exact absurd (show false = true from hs) Bool.false_ne_true
  | int i =>
    obtain ⟨t, rfl⟩ := rx
    cases y with
    | non => cases ry; exact PySem.EqNone.eq_int_none (fin_bl I q (by simp))
    | int j => obtain ⟨t', rfl⟩ := ry; exact eq_int (fin_bl I q dec_int)
    | str j => obtain ⟨t', rfl⟩ := ry; exact PySem.EqMixed.eq_int_str (fin_bl I q (by simp))
    | _ => exact absurd (show false = true from hs) Bool.false_ne_true
  | str i =>
    obtain ⟨t, rfl⟩ := rx
    cases y with
    | non => cases ry; exact PySem.EqNone.eq_str_none (fin_bl I q (by simp))
    | bl j => cases ry; exact PySem.EqMixed.eq_str_bool (fin_bl I q (by simp))
    | int j => obtain ⟨t', rfl⟩ := ry; exact PySem.EqMixed.eq_str_int (fin_bl I q (by simp))
    | str j => obtain ⟨t', rfl⟩ := ry; exact eq_str (fin_bl I q dec_str)
    | _ => exact absurd (show false = true from hs) Bool.false_ne_true
  | byt i =>
    obtain ⟨t, rfl⟩ := rx
    cases y with
    | byt j => obtain ⟨t', rfl⟩ := ry; exact PySem.W.eq_bytes (fin_bl I q dec_byt)
    | _ => exact absurd (show false = true from hs) Bool.false_ne_true
  | _ => cases y <;> exact absurd (show false = true from hs) Bool.false_ne_true
theorem op_ne : OpR X (compareOp .NotEq) rNe := by
  intro pins s σ H x y v u Q I rx ry h
  obtain ⟨hs, q⟩ := h
  cases x with
  | non =>
    cases rx
    cases y with
    | non => cases ry; exact PySem.EqNone.ne_none_none (fin_bl I q (by simp))
    | bl j => cases ry; exact PySem.EqNone.ne_none_bool (fin_bl I q (by simp))
    | int j => obtain ⟨t', rfl⟩ := ry; exact PySem.EqNone.ne_none_int (fin_bl I q (by simp))
    | str j => obtain ⟨t', rfl⟩ := ry; exact PySem.EqNone.ne_none_str (fin_bl I q (by simp))
    | _ => exact absurd (show false = true from hs) Bool.false_ne_true
  | bl i =>
    cases rx
    cases y with
    | non => cases ry; exact PySem.EqNone.ne_bool_none (fin_bl I q (by simp))
    | bl j => cases ry; exact ne_bool (fin_bl I q (congrArg not dec_bl))
    | str j => obtain ⟨t', rfl⟩ := ry; exact PySem.EqMixed.ne_bool_str (fin_bl I q (by simp))
    | _ => exact absurd (show false = true from hs) Bool.false_ne_true
  | int i =>
    obtain ⟨t, rfl⟩ := rx
    cases y with
    | non => cases ry; exact PySem.EqNone.ne_int_none (fin_bl I q (by simp))
    | int j => obtain ⟨t', rfl⟩ := ry; exact ne_int (fin_bl I q (congrArg not dec_int))
    | str j => obtain ⟨t', rfl⟩ := ry; exact PySem.EqMixed.ne_int_str (fin_bl I q (by simp))
    | _ => exact absurd (show false = true from hs) Bool.false_ne_true
  | str i =>
    obtain ⟨t, rfl⟩ := rx
    cases y with
    | non => cases ry; exact PySem.EqNone.ne_str_none (fin_bl I q (by simp))
    | bl j => cases ry; exact PySem.EqMixed.ne_str_bool (fin_bl I q (by simp))
    | int j => obtain ⟨t', rfl⟩ := ry; exact PySem.EqMixed.ne_str_int (fin_bl I q (by simp))
    | str j => obtain ⟨t', rfl⟩ := ry; exact ne_str (fin_bl I q (congrArg not dec_str))
    | _ => exact absurd (show false = true from hs) Bool.false_ne_true
  | byt i =>
    obtain ⟨t, rfl⟩ := rx
    cases y with
    | byt j => obtain ⟨t', rfl⟩ := ry; exact PySem.W.ne_bytes (fin_bl I q (congrArg not dec_byt))
    | _ => exact absurd (show false = true from hs) Bool.false_ne_true
  | _ => cases y <;> exact absurd (show false = true from hs) Bool.false_ne_true
theorem op_lt : OpR X (compareOp .Lt) (rI0 fun i j => .bl (decide (i < j))) := opB0 fun _ _ _ _ _ _ _ q => lt_int q
theorem op_le : OpR X (compareOp .LtE) (rI0 fun i j => .bl (decide (i ≤ j))) := opB0 fun _ _ _ _ _ _ _ q => le_int q
theorem op_gt : OpR X (compareOp .Gt) (rI0 fun i j => .bl (decide (j < i))) := opB0 fun _ _ _ _ _ _ _ q => gt_int q
theorem op_ge : OpR X (compareOp .GtE) (rI0 fun i j => .bl (decide (j ≤ i))) := opB0 fun _ _ _ _ _ _ _ q => ge_int q
theorem op_notN : OpR X (compareOp .IsNot) (fun x y H Q => y = .non ∧ Q (.bl (!decide (x = .non))) H) := by
  intro pins s σ H x y v u Q I rx ry h
  obtain ⟨rfl, q⟩ := h
  cases ry
  refine isnot_none_gen (fin_bl I q ?_)
  cases x <;> first
    | (cases rx; rfl)
    | (obtain ⟨t, rfl⟩ := rx; rfl)
def isObj : HO → Bool
  | .lst _ => true
  | .ins _ _ _ => true
  | _ => false
theorem OpR.or {f : Value → Value → Sem Value} {r r' : R2} (h : OpR X f r) (h' : OpR X f r') : OpR X f (fun x y H Q => r x y H Q ∨ r' x y H Q) := by
  intro pins s σ H x y v u Q I rx ry q
  rcases q with q | q
  · exact h pins s σ H x y v u Q I rx ry q
  · exact h' pins s σ H x y v u Q I rx ry q
theorem nomark (b : Expr) {op : CmpOp} (h : op ≠ .In := by decide) (h2 : op ≠ .NotIn := by decide) : behindInMarks op b = false := by
  have e1 : (op == CmpOp.In) = false := by cases op <;> first | rfl | exact absurd rfl h
  have e2 : (op == CmpOp.NotIn) = false := by cases op <;> first | rfl | exact absurd rfl h2
  cases b <;> simp [behindInMarks, e1, e2]
theorem pe_cmpR {op : CmpOp} {r : R2} (ho : OpR X (compareOp op) r) (ha : PE X a ta) (hb : PE X b tb) (hm : behindInMarks op b = false) : PE X (.Compare a [op] [b] pos) (tOp r ta tb) := by
  intro pins s σ H Q I h
  exact wpAny_Compare1 (binT ha hb I h fun v u s2 x y H2 I2 rx ry q => ho pins s2 σ H2 x y v u Q I2 rx ry q) hm
def tTest (t : TE) : TT := fun σ H Q => t σ H fun x H' => ∃ k, x = .bl k ∧ Q k H'
theorem pt_cmpR {op : CmpOp} {r : R2} (ho : OpR X (compareOp op) r) (ha : PE X a ta) (hb : PE X b tb) (hm : behindInMarks op b = false) : PT X (.Compare a [op] [b] pos) (tTest (tOp r ta tb)) := by
  intro pins s σ H Q I h
  refine wpAny_isTrue_Compare1 (thn (ha pins s σ H _ I h) fun v s1 ⟨x, H1, I1, r1, q1⟩ => thn (hb pins s1 σ H1 _ I1 q1) fun u s2 ⟨y, H2, I2, r2, q2⟩ =>
    thn (ho pins s2 σ H2 x y v u _ I2 r1 r2 q2) fun c s3 ⟨z, H3, I3, r3, k, e, q3⟩ => ?_) hm
  subst e
  cases r3
  exact wpAny_truthy_bool ⟨H3, I3, q3⟩
def tChain (r r' : R2) (ta tb tc : TE) : TE := fun σ H Q => ta σ H fun x H1 => tb σ H1 fun y H2 => r x y H2 fun z H3 => ∃ k, z = .bl k ∧
  (if k = true then tc σ H3 fun w' H4 => r' y w' H4 Q else Q (.bl false) H3)
theorem pt_chain {op op' : CmpOp} {r r' : R2} (ho : OpR X (compareOp op) r) (ho' : OpR X (compareOp op') r') (ha : PE X a ta) (hb : PE X b tb) (hc : PE X c tc)
    (hm : lastMarks [op, op'] [b, c] = false := by with_unfolding_all rfl) : PT X (.Compare a [op, op'] [b, c] pos) (tTest (tChain r r' ta tb tc)) := by
  intro pins s σ H Q I h
  refine isTrue_chain (thn (ha pins s σ H _ I h) fun v s1 ⟨x, H1, I1, r1, q1⟩ => test_link (thn (hb pins s1 σ H1 _ I1 q1) fun u s2 ⟨y, H2, I2, r2, q2⟩ =>
    thn (ho pins s2 σ H2 x y v u _ I2 r1 r2 q2) fun d s3 ⟨z, H3, I3, r3, k, e, q3⟩ => ?_)) hm
  subst e
  cases r3
  refine wpAny_truthy_bool ?_
  cases k with
  | false =>
    obtain ⟨k', e', q'⟩ := q3
    cases e'
    exact ite_ff ⟨H3, I3, q'⟩
  | true =>
    refine ite_tt (test_last (thn (hc pins s3 σ H3 _ I3 q3) fun w' s4 ⟨z', H4, I4, r4, q4⟩ => thn (ho' pins s4 σ H4 y z' u w' _ I4 r2 r4 q4) fun d' s5 ⟨z2, H5, I5, r5, k2, e2, q5⟩ => ?_))
    subst e2
    cases r5
    exact wpAny_truthy_bool ⟨H5, I5, q5⟩
def TruV (K : PySem.W.Frag) (x : V) (H : Hp) (k : Bool) : Prop :=
  match x with
  | .non => k = false
  | .bl b => k = b
  | .int i => k = (i != 0)
  | .str y => y.length ≤ sizeLine ∧ k = ((y.length : Int) != 0)
  | .byt y => y.size ≤ sizeLine ∧ k = ((y.size : Int) != 0)
  | .ref p => (∃ xs, SqL K H p xs ∧ k = !xs.isEmpty) ∨ (∃ xs, SqT K H p xs ∧ k = !xs.isEmpty) ∨ ∃ kvs, H p = some (.dK kvs) ∧ k = !kvs.isEmpty
  | _ => False
theorem line63 : (sizeLine : Nat) < 2 ^ 63 := by rw [sizeLine_eq]; decide
def PlainIxT (b : Expr) : Prop := ∀ o i, subscripted b false o i = operate [o, i] (getItem o i)
theorem vals1 {x : V} {us : List Value} (r : Vals [x] us) : ∃ u, us = [u] ∧ RelV x u := by
  cases r with
  | cons r1 r2 => cases r2; exact ⟨_, rfl, r1⟩
theorem vals2 {x y : V} {us : List Value} (r : Vals [x, y] us) : ∃ u w', us = [u, w'] ∧ RelV x u ∧ RelV y w' := by
  cases r with
  | cons r1 r2 =>
    cases r2 with
    | cons r3 r4 => cases r4; exact ⟨_, _, rfl, r1, r3⟩
theorem call_abs : CallR X (.builtin "abs") (fun xs H Q => ∃ i, xs = [.int i] ∧ Q (.int (if i < 0 then -i else i)) H) := by
  intro pins s σ H xs us Q I r h
  obtain ⟨i, rfl, q⟩ := h
  obtain ⟨u, rfl, t, rfl⟩ := vals1 r
  exact call_abs_int fun u tk => ⟨.int (if i < 0 then -i else i), H, I.tok _, ⟨_, rfl⟩, q⟩
theorem call_int1 : CallR X (.type "int") (fun xs H Q => (∃ i, xs = [.int i] ∧ Q (.int i) H) ∨ ∃ k, xs = [.bl k] ∧ Q (.int (if k then 1 else 0)) H) := by
  intro pins s σ H xs us Q I r h
  rcases h with ⟨i, rfl, q⟩ | ⟨k, rfl, q⟩
  · obtain ⟨u, rfl, t, rfl⟩ := vals1 r
    exact call_int_int ⟨.int i, H, I, ⟨_, rfl⟩, q⟩
  · obtain ⟨u, rfl, r1⟩ := vals1 r
    cases r1
    exact call_int_bool ⟨.int (if k then 1 else 0), H, I.tok _, ⟨_, rfl⟩, q⟩
def LenV (K : PySem.W.Frag) (x : V) (H : Hp) (n : Nat) : Prop :=
  match x with
  | .str y => y.length ≤ sizeLine ∧ n = y.length
  | .byt y => y.size ≤ sizeLine ∧ n = y.size
  | .ref p => (∃ xs, SqL K H p xs ∧ n = xs.length) ∨ ∃ xs, SqT K H p xs ∧ n = xs.length
  | _ => False
end
end L2
namespace L2
open PySem PySem.Spec PyProof.Rows
structure ObjM (h : Heap) (x dx C : Addr) (mA : Str → Option Value) : Prop where
  obj : h.get? x = some (PySem.W.instObj C dx)
  ns : h.Ns1 dx mA
  ne : dx ≠ x
theorem lookIn_ns {h : Heap} {dx : Addr} {mA : Str → Option Value} (n : h.Ns1 dx mA) : ∃ od, h.get? dx = some od ∧ ∀ name, PySem.W.lookIn name od = some (mA name) := by
  obtain ⟨o, es, ep, ho, hd, hk, _, hm⟩ := n
  refine ⟨o, ho, fun name => ?_⟩
  have e := hm name
  unfold nsFind findBy at e
  rw [← Array.find?_toList] at e
  unfold PySem.W.lookIn
  rw [hd]
  dsimp only
  split
  · rename_i y q
    rw [q] at e
    exact congrArg some e
  · rename_i q
    rw [q] at e
    have a : es.toList.any (·.refKey) = false := by
      rw [List.any_eq_false]
      intro y hy
      obtain ⟨z, t, hkey⟩ := hk y (Array.mem_toList_iff.mp hy)
      simp [DictEntry.refKey, hkey]
    have a' : ¬ es.toList.any (·.refKey) = true := by rw [a]; exact Bool.false_ne_true
    rw [if_neg a']
    exact congrArg some e
theorem ObjM.look {h : Heap} {x dx C : Addr} {mA : Str → Option Value} (I : ObjM h x dx C mA) : ∃ od, PySem.W.InstAt h x (PySem.W.instObj C dx) C (some od) ∧ ∀ name, PySem.W.lookIn name od = some (mA name) :=
  let ⟨od, ho, hl⟩ := lookIn_ns I.ns
  ⟨od, ⟨I.obj, rfl, rfl, ho⟩, hl⟩
section
variable {prog : Program} {w : World} {A : Around} {E : Value → Shared → Prop} {s : Shared} {K : PySem.W.Frag} {x dx C f : Addr} {mA : Str → Option Value} {name : Str} {v : Value}
end
def putF (f : Str) (v : V) : List (Str × V) → List (Str × V)
  | [] => [(f, v)]
  | (g, x) :: r => if g = f then (g, v) :: r else (g, x) :: putF f v r
theorem RelO.none_of {o : Option Value} (r : RelO none o) : o = none := by
  cases o with
  | none => rfl
  | some u => exact (show False from r).elim
section
variable {P : Program} {w : World} {H H' : Hp} {h h' : Heap} {a C dx : Addr} {fs fs' : List (Str × V)}
theorem ins_get (hok : HOk P w H h) (e : H a = some (.ins C dx fs)) : ∃ mA, ObjM h a dx C mA ∧ (∀ f, RelO (fs.lookup f) (mA f)) ∧ PySem.Within mA (fs.map (·.1)) ∧ fs.length ≤ 1000 ∧ H dx = some (.own a) := by
  obtain ⟨d, z, ne, ob, mA, n, r, q⟩ := (show ObjOk P w H h a (.ins C dx fs) from hok a _ e)
  exact ⟨mA, ⟨ob, n, ne⟩, r, q, z, d⟩
end
structure Cls (K : PySem.W.Frag) (C : Addr) : Prop where
  pg : PySem.W.plainGet K C Str.empty = true
  hd : PySem.W.hasDictIn K C = true
  po : PySem.W.plainOver K C = true
  sa : PySem.W.findIn K (.ref C) "__setattr__" = some (some (.builtin "object.__setattr__"))
theorem Cls.get {K : PySem.W.Frag} {C : Addr} (c : Cls K C) (f : Str) : PySem.W.plainGet K C f = true := c.pg
def NoAttr (K : PySem.W.Frag) (C : Addr) (f : Str) : Prop := PySem.W.findIn K (.ref C) f = some none
structure Con (K : PySem.W.Frag) (C : Addr) (f : Str) (v : V) (u : Value) : Prop where
  at_ : PySem.W.findIn K (.ref C) f = some (some u)
  rel : RelV v u
  get : PySem.W.specialIn K u "__get__" = some none
  cp : PySem.W.copiedNames.contains f = false
structure Meth (K : PySem.W.Frag) (C : Addr) (m : Str) (f : Addr) : Prop where
  at_ : PySem.W.findIn K (.ref C) m = some (some (.ref f))
  fn : PySem.W.isFn K (.ref f) = true
  kp : PySem.W.keepIn K (.ref f) = true
section
variable {X : Cx} {pins : List (Addr × Obj)} {σ : St} {H : Hp} {s : Shared} {a C dx : Addr} {fs : List (Str × V)} {f : Str} {v : V} {A : Around} {E : Value → Shared → Prop}
theorem Inv.made (I : Inv X pins σ H s) : Inv X pins σ (upd (upd H s.heap.objs.size (.own (s.heap.objs.size + 1))) (s.heap.objs.size + 1) (.ins C s.heap.objs.size []))
    { s with heap := (s.heap.push PySem.W.emptyDict).push (PySem.W.instObj C s.heap.objs.size) } := by
  have e1 : (s.heap.push PySem.W.emptyDict).get? s.heap.objs.size = some PySem.W.emptyDict := Heap.get?_push_size s.heap rfl
  have e2 : ((s.heap.push PySem.W.emptyDict).push (PySem.W.instObj C s.heap.objs.size)).get? (s.heap.objs.size + 1) = some (PySem.W.instObj C s.heap.objs.size) := by
    have := Heap.get?_push_size (s.heap.push PySem.W.emptyDict) (o := PySem.W.instObj C s.heap.objs.size) rfl
    rwa [Heap.size_push] at this
  have e3 : (s.heap.push PySem.W.emptyDict).Ns s.heap.objs.size (fun _ => none) := ⟨PySem.W.emptyDict, #[], _, e1, rfl, (fun e he => absurd he (by simp)), fun _ => rfl⟩
  have I1 := I.laid (a := s.heap.objs.size) (o := .own (s.heap.objs.size + 1)) (h' := s.heap.push PySem.W.emptyDict) (t' := s.toks) (fun b u q => Heap.get?_push_of_some _ q) (Nat.le_refl _) ⟨_, e1⟩
  refine I1.laid (a := s.heap.objs.size + 1) (o := .ins C s.heap.objs.size []) (t' := s.toks) (fun b u q => Heap.get?_push_of_some _ q) (Nat.le_of_eq (Heap.size_push _ _)) ?_
  have ne : s.heap.objs.size ≠ s.heap.objs.size + 1 := Nat.ne_of_lt (Nat.lt_succ_self _)
  refine ⟨by rw [upd_ne ne, upd_same], Nat.zero_le _, ne, e2, fun _ => none, (Heap.Ns1.of_empty e3).at fun o q => Heap.get?_push_of_some _ q, fun _ => True.intro, fun y hy => absurd rfl hy⟩
end
def tFld (K : PySem.W.Frag) (ta : TE) (f : Str) : TE := fun σ H Q => ta σ H fun x H1 => ∃ a C dx fs v, x = .ref a ∧ H1 a = some (.ins C dx fs) ∧ Cls K C ∧ NoAttr K C f ∧ fs.lookup f = some v ∧ Q v H1
def tCon (K : PySem.W.Frag) (ta : TE) (f : Str) : TE := fun σ H Q => ta σ H fun x H1 => ∃ a C dx fs v u, x = .ref a ∧ H1 a = some (.ins C dx fs) ∧ Cls K C ∧ Con K C f v u ∧ fs.lookup f = none ∧ Q v H1
def sFld (K : PySem.W.Frag) (ta tv : TE) (f : Str) : TS := fun D σ H => tv σ H fun y H1 => ta σ H1 fun x H2 => ∃ a C dx fs, x = .ref a ∧ H2 a = some (.ins C dx fs) ∧ Cls K C ∧ NoAttr K C f ∧ fs.length < 1000 ∧
  D.nx σ (upd H2 a (.ins C dx (putF f y fs)))
def InOp (X : Cx) (op : Operator) (rd : V → V → Hp → VK → Prop) : Prop :=
  ∀ (pins : List (Addr × Obj)) (s : Shared) (σ : St) (H : Hp) (x y : V) (u v : Value) (Q : VK), Inv X pins σ H s → RelV x u → RelV y v → rd x y H Q → wpAny (model X.prog X.w) X.A (inplaceOp op u v) (EP X pins σ Q) X.xe s
def sFldAug (K : PySem.W.Frag) (ta tv : TE) (rd : V → V → Hp → VK → Prop) (f : Str) : TS := fun D σ H => ta σ H fun x H1 => ∃ a C dx fs v, x = .ref a ∧ H1 a = some (.ins C dx fs) ∧ Cls K C ∧ NoAttr K C f ∧ fs.lookup f = some v ∧
  tv σ H1 fun y H2 => rd v y H2 fun z H3 => ∃ dx' fs', H3 a = some (.ins C dx' fs') ∧ fs'.length < 1000 ∧ D.nx σ (upd H3 a (.ins C dx' (putF f z fs')))
section
variable {X : Cx} {o e value : Expr} {f : Str} {pos pos' tpos : Pos} {ta tv : TE}
def rAdd : V → V → Hp → VK → Prop := fun x y H Q => ∃ i j, x = .int i ∧ y = .int j ∧ Q (.int (i + j)) H
def rSub : V → V → Hp → VK → Prop := fun x y H Q => ∃ i j, x = .int i ∧ y = .int j ∧ Q (.int (i - j)) H
end
section
variable {X : Cx} {pins : List (Addr × Obj)} {σ : St} {H : Hp} {s : Shared} {A : Around} {E : Value → Shared → Prop} {Q : Value → Shared → Prop} {c : Value} {b : Bool}
inductive TyOf (K : PySem.W.Frag) (H : Hp) : V → Value → Prop where
  | non : TyOf K H .non (.type "NoneType")
  | bl (x : Bool) : TyOf K H (.bl x) (.type "bool")
  | int (i : Int) : TyOf K H (.int i) (.type "int")
  | str (x : Str) : TyOf K H (.str x) (.type "str")
  | flt (x : UInt64) : TyOf K H (.flt x) (.type "float")
  | lst {a : Addr} {xs : List V} (e : H a = some (.lst xs)) : TyOf K H (.ref a) (.type "list")
  | frz {a : Addr} {o : Obj} {xs : List V} (e : H a = some (.frz o (.lst xs))) : TyOf K H (.ref a) (.type "list")
  | tup {a : Addr} {xs : List V} (e : H a = some (.tup xs)) : TyOf K H (.ref a) (.type "tuple")
  | dK {a : Addr} {kvs : List (Key × V)} (e : H a = some (.dK kvs)) : TyOf K H (.ref a) (.type "dict")
  | dT {a : Addr} {kvs : List (List Key × V)} (e : H a = some (.dT kvs)) : TyOf K H (.ref a) (.type "dict")
  | ins {a C dx : Addr} {fs : List (Str × V)} (e : H a = some (.ins C dx fs)) (cl : Cls K C) (ha : PySem.W.findIn K (.ref C) "__class__" = some (some (.builtin "object.__class__")))
      (hn : PySem.W.specialIn K (.builtin "object.__class__") "__get__" = some (some (.builtin "getset_descriptor.__get__"))) (htk : PySem.W.takesIn K (.builtin "object.__class__") = some true)
      (hm : PySem.W.mroIn K C (.type "object") = some true) : TyOf K H (.ref a) (.ref C)
theorem isinst_ok {x : V} {u t : Value} (I : Inv X pins σ H s) (rx : RelV x u) (ty : TyOf X.K H x t) (e : PySem.W.kitOne X.K t c = some b) (h : ∀ tk, Q (.bool b) { s with toks := tk }) :
    wpAny (model X.prog X.w) A (call (.builtin "isinstance") [u, c]) Q E s := by
  cases ty with
  | non => cases (show u = Value.none from rx); exact PySem.W.kia_one PySem.W.kitx_none I.kIn True.intro e (fun z => nomatch z) h
  | bl y => cases (show u = Value.bool y from rx); exact PySem.W.kia_one PySem.W.kitx_bool I.kIn True.intro e (fun z => nomatch z) h
  | int i => obtain ⟨t, q⟩ := (show ∃ t, u = Value.int i t from rx); cases q; exact PySem.W.kia_one PySem.W.kitx_int I.kIn True.intro e (fun z => nomatch z) h
  | str y => obtain ⟨t, q⟩ := (show ∃ t, u = Value.str y t from rx); cases q; exact PySem.W.kia_one PySem.W.kitx_str I.kIn True.intro e (fun z => nomatch z) h
  | flt y => obtain ⟨t, q⟩ := (show ∃ t, u = Value.float y t from rx); cases q; exact PySem.W.kia_one PySem.W.kitx_float I.kIn True.intro e (fun z => nomatch z) h
  | @lst a xs ea =>
    cases (show u = Value.ref a from rx)
    obtain ⟨_, _, n, _, h1⟩ := (show ObjOk X.prog X.w H s.heap a (.lst xs) from I.hok a _ ea)
    exact PySem.W.kia_one PySem.W.kitx_list I.kIn ⟨_, h1, rfl⟩ e (fun z => nomatch z) h
  | @frz a ob xs ea =>
    cases (show u = Value.ref a from rx)
    obtain ⟨_, _, _, n, _, h1⟩ := (show ObjOk X.prog X.w H s.heap a (.frz ob (.lst xs)) from I.hok a _ ea)
    exact PySem.W.kia_one PySem.W.kitx_list I.kIn ⟨_, h1, rfl⟩ e (fun z => nomatch z) h
  | @tup a xs ea =>
    cases (show u = Value.ref a from rx)
    obtain ⟨_, _, _, p⟩ := (show ObjOk X.prog X.w H s.heap a (.tup xs) from I.hok a _ ea)
    obtain ⟨o, h1, h2, _⟩ := p
    exact PySem.W.kia_one PySem.W.kitx_tuple I.kIn ⟨o, h1, h2⟩ e (fun z => nomatch z) h
  | @dK a kvs ea =>
    cases (show u = Value.ref a from rx)
    obtain ⟨_, _, vs, _, p⟩ := (show ObjOk X.prog X.w H s.heap a (.dK kvs) from I.hok a _ ea)
    obtain ⟨o, es, ep, h1, h2, _⟩ := p
    exact PySem.W.kia_one PySem.W.kitx_dict I.kIn ⟨o, h1, h2.1⟩ e (fun z => nomatch z) h
  | @dT a kvs ea =>
    cases (show u = Value.ref a from rx)
    obtain ⟨_, _, xs, _, o, es, ep, h1, h2, _⟩ := (show ObjOk X.prog X.w H s.heap a (.dT kvs) from I.hok a _ ea)
    exact PySem.W.kia_one PySem.W.kitx_dict I.kIn ⟨o, h1, h2.1⟩ e (fun z => nomatch z) h
  | @ins a C dx fs ea cl ha hn htk hm =>
    cases (show u = Value.ref a from rx)
    obtain ⟨mA, O, _⟩ := ins_get I.hok ea
    obtain ⟨od, J, _⟩ := O.look
    exact PySem.W.kia_one (PySem.W.kitx_own (cl.get _) cl.hd ha hn htk hm) I.kIn J e (fun z => nomatch z) h
end
end L2
namespace L2
open PySem PySem.Spec PyProof.Rows
structure Room (k : Nat) (A : Around) : Prop where
  hd : A.handled = none
  dp : A.depth + 3 * k + 5 < recursionLimit
  un : A.units + 16 * k + 200 < cLine
theorem Room.mono {j k : Nat} {A : Around} (r : Room k A) (h : j ≤ k) : Room j A := ⟨r.hd, by have := r.dp; omega, by have := r.un; omega⟩
theorem Room.deeper {k : Nat} {A : Around} (r : Room (k + 1) A) (env : Env) : Room k (A.deeper env) :=
  ⟨r.hd, by have := r.dp; show A.depth + 1 + 3 * k + 5 < _; omega, by have := r.un; show A.units + 3 + 16 * k + 200 < _; omega⟩
theorem Room.in1 {k : Nat} {A : Around} (r : Room (k + 1) A) : Room k A.in1 :=
  ⟨r.hd, by have := r.dp; show A.depth + 3 * k + 5 < _; omega, by have := r.un; show A.units + 1 + 16 * k + 200 < _; omega⟩
theorem make_depth {A : Around} {C : Addr} {us : List Value} {kw : List (Str × Value)} : (A.under (.builtin "type.__call__" ⟨.ref C :: us, kw⟩)).depth = A.depth + 1 := by
  first | rfl | simp [Around.under, Code.weight, Code.isCreation, Code.isGuard, Code.isCaller, Code.frames, Code.isFrame, guardIds]
theorem make_units {A : Around} {C : Addr} {us : List Value} {kw : List (Str × Value)} : (A.under (.builtin "type.__call__" ⟨.ref C :: us, kw⟩)).units = A.units + 1 := by
  first | rfl | simp [Around.under, Code.cUnits, Code.frames, Code.isFrame]
theorem Room.make {k : Nat} {A : Around} (r : Room (k + 1) A) (C : Addr) (us : List Value) (kw : List (Str × Value)) : Room k (A.under (.builtin "type.__call__" ⟨.ref C :: us, kw⟩)) :=
  ⟨r.hd, by have := r.dp; rw [make_depth]; omega, by have := r.un; rw [make_units]; omega⟩
theorem Room.depth {k : Nat} {A : Around} (r : Room k A) : A.depth < recursionLimit := by have := r.dp; omega
theorem Room.units {k : Nat} {A : Around} (r : Room k A) : A.units + 64 < cLine := by have := r.un; omega
def tNil : TA := fun _ H Q => Q [] H
def tCons (ta : TE) (tr : TA) : TA := fun σ H Q => ta σ H fun x H1 => tr σ H1 fun xs H2 => Q (x :: xs) H2
section
variable {X : Cx} {e : Expr} {es : List Expr} {te : TE} {t : TA} {pos : Pos}
theorem pa_nil : PA X [] tNil := fun _ _ _ _ H Q I h => Calls.spliced_nil ⟨[], H, I, .nil, h⟩
theorem pa_cons (ha : PE X e te) (hr : PA X es t) (hs : starEach (e :: es) X.env = (false, eval e X.env) :: starEach es X.env := by rfl) : PA X (e :: es) (tCons te t) := by
  intro pos pins s σ H Q I h
  rw [hs]
  show wpAny _ _ (spliced ((false, eval e X.env) :: backTo pos (starEach es X.env))) _ _ s
  refine Calls.spliced_cons (thn (ha pins s σ H _ I h) fun u s1 ⟨x, H1, I1, r1, q1⟩ => ?_)
  exact thn (hr pos pins s1 σ H1 _ I1 q1) fun us s2 ⟨xs, H2, I2, r2, q2⟩ => ⟨x :: xs, H2, I2, .cons r1 r2, q2⟩
def tTup (t : TA) : TE := fun σ H Q => t σ H fun xs H1 => xs.length ≤ sizeLine ∧ ∀ p, H1 p = none → Q (.ref p) (upd H1 p (.tup xs))
def tLst (t : TA) : TE := fun σ H Q => t σ H fun xs H1 => xs.length ≤ sizeLine ∧ ∀ p, H1 p = none → Q (.ref p) (upd H1 p (.lst xs))
theorem pe_tup {x1} (h : PA X es t) : PE X (.Tuple es x1 pos) (tTup t) := by
  intro pins s σ H Q I hq
  refine wpAny_Tuple_spliced (thn (h pos pins s σ H _ I hq) fun us s1 ⟨xs, H1, I1, r, z, q⟩ => ⟨by rw [← r.length]; exact z, ?_⟩)
  have hf : H1 s1.heap.objs.size = none := I1.hok.fresh (Nat.le_refl _)
  refine ⟨.ref s1.heap.objs.size, upd H1 s1.heap.objs.size (.tup xs), I1.laid (t' := s1.toks) (fun b u e => Heap.get?_push_of_some _ e) (Nat.le_refl _) ?_, rfl, q _ hf⟩
  exact ⟨z, us, r, ⟨_, Heap.get?_push_size _ rfl, rfl, _, rfl⟩⟩
theorem pe_lst (h : PA X es t) : PE X (.List es pos) (tLst t) := by
  intro pins s σ H Q I hq
  refine wpAny_List_spliced (thn (h pos pins s σ H _ I hq) fun us s1 ⟨xs, H1, I1, r, z, q⟩ => ⟨by rw [← r.length]; exact z, ?_⟩)
  have hf : H1 s1.heap.objs.size = none := I1.hok.fresh (Nat.le_refl _)
  refine ⟨.ref s1.heap.objs.size, upd H1 s1.heap.objs.size (.lst xs), I1.laid (t' := s1.toks) (fun b u e => Heap.get?_push_of_some _ e) (Nat.le_refl _) ?_, rfl, q _ hf⟩
  exact ⟨z, us, 0, r, Heap.get?_push_size _ rfl⟩
end
abbrev Sp := List V → Hp → VK → XK → Prop
abbrev CXT := List Env → Hp → Shared → XK → Value → Shared → Prop
structure Env0 (P : Program) (w : World) (K : PySem.W.Frag) (mg : Str → Option Value) (base : Heap) (A : Around) (outer : List Env) (s : Shared) (H : Hp) : Prop where
  frames : A.frames = some outer
  mod : Mod K mg base
  bs : ∀ b o, base.get? b = some o → s.heap.get? b = some o ∧ H b = none
  bsz : base.objs.size ≤ s.heap.objs.size
  funs : s.heap.FunFrames base outer
  frf : ∀ b ∈ frs outer, H b = none
  hok : HOk P w H s.heap
  bare : AllBare s.gens
def CE (outer : List Env) (P : Program) (w : World) (H : Hp) (s : Shared) (Q : VK) (u : Value) (s' : Shared) : Prop :=
  ∃ v H', s'.os = s.os ∧ AllBare s'.gens ∧ Un (frs outer) [] H H' s.heap s'.heap ∧ HOk P w H' s'.heap ∧ RelV v u ∧ Q v H'
def CR (CX : CXT) (outer : List Env) (P : Program) (w : World) (H : Hp) (s : Shared) (Q : VK) (E : XK) (r : Result) (s' : Shared) : Prop :=
  match r with
  | .ok (.ret u) => CE outer P w H s Q u s'
  | .ok _ => False
  | .error e => CX outer H s E e s'
structure FnOk (P : Program) (w : World) (K : PySem.W.Frag) (mg : Str → Option Value) (base : Heap) (CX : CXT) (k : Nat) (f : Addr) (fd : FuncData) (ps : List Str) (sp : Sp) : Prop where
  len : ∀ vs H Q E, sp vs H Q E → vs.length = ps.length
  run : ∀ (A : Around) (outer : List Env) (s : Shared) (H : Hp) (args : Args) (us : List Value) (vs : List V) (Q : VK) (E : XK), Room k A → Env0 P w K mg base A outer s H → BindsTo s fd args (ps.zip us) → Vals vs us → sp vs H Q E →
    codeAny (model P w) A (.call (.ref f) args) (CR CX outer P w H s Q E) s
theorem FnOk.mono {P : Program} {w : World} {K : PySem.W.Frag} {mg : Str → Option Value} {base : Heap} {CX : CXT} {j k : Nat} {f : Addr} {fd : FuncData} {ps : List Str} {sp : Sp} (F : FnOk P w K mg base CX j f fd ps sp) (h : j ≤ k) :
    FnOk P w K mg base CX k f fd ps sp := ⟨F.len, fun A outer s H args us vs Q E hr => F.run A outer s H args us vs Q E (hr.mono h)⟩
theorem Env0.make {P : Program} {w : World} {K : PySem.W.Frag} {mg : Str → Option Value} {base : Heap} {A : Around} {outer : List Env} {s : Shared} {H : Hp} (e : Env0 P w K mg base A outer s H) (C : Addr) (us : List Value) (kw : List (Str × Value)) :
    Env0 P w K mg base (A.under (.builtin "type.__call__" ⟨.ref C :: us, kw⟩)) outer s H := ⟨by first | exact e.frames | (simpa [Around.under, Code.envs, Code.isFrame, pushEnvs] using e.frames), e.mod, e.bs, e.bsz, e.funs, e.frf, e.hok, e.bare⟩
theorem Env0.in1 {P : Program} {w : World} {K : PySem.W.Frag} {mg : Str → Option Value} {base : Heap} {A : Around} {outer : List Env} {s : Shared} {H : Hp} (e : Env0 P w K mg base A outer s H) :
    Env0 P w K mg base A.in1 outer s H := ⟨e.frames, e.mod, e.bs, e.bsz, e.funs, e.frf, e.hok, e.bare⟩
section
variable {X : Cx} {pins : List (Addr × Obj)} {σ : St} {H : Hp} {s s' : Shared}
theorem Inv.env0 (I : Inv X pins σ H s) : Env0 X.prog X.w X.K X.mg X.base X.A X.stack s H :=
  ⟨I.ok.frames, I.ok.mod, I.bs, Nat.le_trans I.ok.bsz I.sz, I.stack, I.stkFree, I.hok, I.bare⟩
theorem Inv.after {Q : VK} {u : Value} (I : Inv X pins σ H s) (h : CE X.stack X.prog X.w H s Q u s') : EP X pins σ Q u s' := by
  obtain ⟨v, H', os, bare, un, hok, r, q⟩ := h
  obtain ⟨hh, g, d, t, os'⟩ := s'
  obtain rfl : os' = s.os := os
  exact ⟨v, H', I.call (h' := hh) (g' := g) (d' := d) (t' := t) (ch := []) un hok bare (fun b z => absurd z (by simp)), r, q⟩
end
def tCall (sp : Sp) (dvs : List V) (E : XK) (t : TA) : TE := fun σ H Q => t σ H fun vs H1 => sp (vs ++ dvs) H1 Q E
def tMeth (C : Addr) (m : Str) (sp : Sp) (dvs : List V) (E : XK) (ta : TE) (t : TA) : TE := fun σ H Q => ta σ H fun x H1 => ∃ a dx fs, x = .ref a ∧ H1 a = some (.ins C dx fs) ∧ fs.lookup m = none ∧
  t σ H1 fun vs H2 => sp (x :: (vs ++ dvs)) H2 Q E
def tMake (C : Addr) (sp : Sp) (dvs : List V) (E : XK) (t : TA) : TE := fun σ H Q => t σ H fun vs H1 => ∀ x dx, H1 x = none → H1 dx = none → dx ≠ x →
  sp (.ref x :: (vs ++ dvs)) (upd (upd H1 dx (.own x)) x (.ins C dx [])) (fun v H2 => v = .non ∧ Q (.ref x) H2) E
def Binds (K : PySem.W.Frag) (fd : FuncData) (ps : List Str) (ds : List Value) : Prop :=
  ∀ (s : Shared) (us : List Value), K.In s.heap → (us ++ ds).length = ps.length → BindsTo s fd ⟨us, []⟩ (ps.zip (us ++ ds))
theorem Binds.all {K : PySem.W.Frag} {fd : FuncData} {ps : List Str} (h : ∀ us : List Value, us.length = ps.length → bindArgs fd ⟨us, []⟩ = pure (ps.zip us)) : Binds K fd ps [] := fun s us _ hl => by
  rw [List.append_nil] at hl ⊢
  exact .of_eq (h us hl)
def Passes (CX : CXT) (X : Cx) (E : XK) : Prop := ∀ (pins : List (Addr × Obj)) (σ : St) (H : Hp) (s : Shared) (e : Value) (s' : Shared), Inv X pins σ H s → CX X.stack H s E e s' → X.xe e s'
section
variable {X : Cx} {CX : CXT} {k : Nat} {f C : Addr} {fd : FuncData} {ps : List Str} {sp : Sp} {dvs : List V} {ds : List Value} {E : XK} {x m : Str} {p pos apos : Pos} {e o : Expr} {es : List Expr} {ta : TE} {t : TA}
theorem run_fn {pins : List (Addr × Obj)} {σ : St} {H : Hp} {s : Shared} {Q : VK} {us : List Value} {vs : List V} (F : FnOk X.prog X.w X.K X.mg X.base CX k f fd ps sp) (hr : Room k X.A) (hb : Binds X.K fd ps ds) (hd : Vals dvs ds) (hx : Passes CX X E)
    (I : Inv X pins σ H s) (r : Vals vs us) (h : sp (vs ++ dvs) H Q E) : wpAny (model X.prog X.w) X.A (call (.ref f) us) (EP X pins σ Q) X.xe s := by
  have r2 : Vals (vs ++ dvs) (us ++ ds) := r.append hd
  have hl : (us ++ ds).length = ps.length := by rw [← r2.length]; exact F.len _ _ _ _ h
  refine wpAny_call (codeAny_mono (F.run X.A X.stack s H ⟨us, []⟩ (us ++ ds) (vs ++ dvs) Q E hr I.env0 (hb s us I.kIn hl) r2 h) fun r s' hq => ?_)
  cases r with
  | error e => exact hx pins σ H s e s' I hq
  | ok fl =>
    cases fl with
    | ret u => exact I.after hq
    | next => exact False.elim hq
    | brk => exact False.elim hq
    | cont => exact False.elim hq
theorem pe_call (F : FnOk X.prog X.w X.K X.mg X.base CX k f fd ps sp) (hr : Room k X.A) (hg : Gl X x) (hm : X.mg x = some (.ref f)) (hk : PySem.W.keepIn X.K (.ref f) = true) (hb : Binds X.K fd ps ds) (hd : Vals dvs ds) (hx : Passes CX X E)
    (ha : PA X (e :: es) t) (hdb : (x == ("__debug__" : Str)) = false := by decide) (he : starEach (e :: es) X.env = (false, eval e X.env) :: starEach es X.env := by rfl) (hpl : (backTo pos (starEach es X.env)).any (·.1) = false := by rfl) :
    PE X (.Call (.Name x p) (e :: es) [] pos) (tCall sp dvs E t) := by
  intro pins s σ H Q I h
  refine wpAny_Call_Name_kw (ld_glob I hg hm ?_ hdb)
  refine PySem.W.callWith_K (h₀ := X.base) I.ok.mod.kin hk (thn (ha pos pins s σ H _ I h) fun us s1 ⟨vs, H1, I1, r, q⟩ => ⟨I1.kIn, ?_⟩) he hpl
  exact run_fn F hr hb hd hx I1 r q
structure Mk (K : PySem.W.Frag) (C f : Addr) : Prop where
  makes : PySem.W.makesIn K C = true
  init : PySem.W.findIn K (.ref C) "__init__" = some (some (.ref f))
  fn : PySem.W.isFn K (.ref f) = true
  kp : PySem.W.keepIn K (.ref C) = true
end
def PK (X : Cx) (kws : List Keyword) (t : TA) : Prop :=
  ∀ (pos : Pos) (pins : List (Addr × Obj)) (s : Shared) (σ : St) (H : Hp) (Q : List V → Hp → Prop), Inv X pins σ H s → t σ H Q → wpAny (model X.prog X.w) X.A (evalAll ((backToKw pos (keywordEach kws X.env)).map (·.2))) (AP X pins σ Q) X.xe s
section
variable {X : Cx} {CX : CXT} {k : Nat} {f C : Addr} {fd : FuncData} {ps ks : List Str} {sp : Sp} {E : XK} {x m : Str} {p pos apos kpos : Pos} {e o : Expr} {es : List Expr} {kws : List Keyword} {te ta : TE} {t tk : TA} {nm : Option Str}
structure KBinds (K : PySem.W.Frag) (fd : FuncData) (ps ks : List Str) (g : List Value → List Value → List Value) (gV : List V → List V → List V) : Prop where
  to : ∀ (s : Shared) (us ws : List Value), K.In s.heap → (g us ws).length = ps.length → BindsTo s fd ⟨us, ks.zip ws⟩ (ps.zip (g us ws))
  rel : ∀ {vs : List V} {us : List Value} {zs : List V} {ws : List Value}, Vals vs us → Vals zs ws → Vals (gV vs zs) (g us ws)
def tCallK (sp : Sp) (gV : List V → List V → List V) (E : XK) (t tk : TA) : TE := fun σ H Q => t σ H fun vs H1 => tk σ H1 fun zs H2 => sp (gV vs zs) H2 Q E
variable {g : List Value → List Value → List Value} {gV : List V → List V → List V}
end
structure FnScope (N P : List Str) (sc : Scope) : Prop where
  kind : sc.kind = .function
  co : sc.isCoroutine = false
  gen : sc.isGenerator = false
  nd : N.Nodup
  pre : N.take P.length = P
  par : ∀ x ∈ P, sc.names.lookup x = some .local ∨ sc.names.lookup x = some .cell
  nofree : ∀ y ∈ sc.names, y.2 ≠ .free
theorem bindL_out {kindOf : Str → Option NameKind} {x : Str} : ∀ {binds : List (Str × Value)} {m : Str → Option Value}, (∀ v, (x, v) ∉ binds) → bindL kindOf binds m x = m x
  | [], _, _ => rfl
  | (n, v) :: r, m, h => by
    unfold bindL
    rw [bindL_out fun w hw => h w (List.mem_cons_of_mem _ hw)]
    split
    · have : x ≠ n := by rintro rfl; exact h v List.mem_cons_self
      simp [this]
    · rfl
theorem bindC_out {kindOf : Str → Option NameKind} {x : Str} : ∀ {binds : List (Str × Value)} {m : Str → Option Value}, (∀ v, (x, v) ∉ binds) → bindC kindOf binds m x = m x
  | [], _, _ => rfl
  | (n, v) :: r, m, h => by
    unfold bindC
    rw [bindC_out fun w hw => h w (List.mem_cons_of_mem _ hw)]
    split
    · rfl
    · have : x ≠ n := by rintro rfl; exact h v List.mem_cons_self
      simp [this]
theorem bindL_get {kindOf : Str → Option NameKind} {x : Str} {v : Value} : ∀ {P : List Str} {vs : List Value} {i : Nat} {m : Str → Option Value}, P.Nodup → P[i]? = some x → vs[i]? = some v → kindOf x = some .local →
    bindL kindOf (P.zip vs) m x = some v
  | [], _, _, _, _, h, _, _ => by simp at h
  | _ :: _, [], _, _, _, _, h, _ => by simp at h
  | p :: P, w :: vs, 0, m, nd, h1, h2, hk => by
    simp at h1 h2; subst h1; subst h2
    show bindL kindOf ((p, w) :: P.zip vs) m p = _
    unfold bindL
    rw [bindL_out fun v hv => (List.nodup_cons.mp nd).1 (List.of_mem_zip hv).1, if_pos hk]
    simp
  | p :: P, w :: vs, i + 1, m, nd, h1, h2, hk => by
    show bindL kindOf ((p, w) :: P.zip vs) m x = _
    unfold bindL
    exact bindL_get (i := i) (List.nodup_cons.mp nd).2 (by simpa using h1) (by simpa using h2) hk
theorem bindC_get {kindOf : Str → Option NameKind} {x : Str} {v : Value} : ∀ {P : List Str} {vs : List Value} {i : Nat} {m : Str → Option Value}, P.Nodup → P[i]? = some x → vs[i]? = some v → kindOf x ≠ some .local →
    bindC kindOf (P.zip vs) m x = some v
  | [], _, _, _, _, h, _, _ => by simp at h
  | _ :: _, [], _, _, _, _, h, _ => by simp at h
  | p :: P, w :: vs, 0, m, nd, h1, h2, hk => by
    simp at h1 h2; subst h1; subst h2
    show bindC kindOf ((p, w) :: P.zip vs) m p = _
    unfold bindC
    rw [bindC_out fun v hv => (List.nodup_cons.mp nd).1 (List.of_mem_zip hv).1, if_neg hk]
    simp
  | p :: P, w :: vs, i + 1, m, nd, h1, h2, hk => by
    show bindC kindOf ((p, w) :: P.zip vs) m x = _
    unfold bindC
    exact bindC_get (i := i) (List.nodup_cons.mp nd).2 (by simpa using h1) (by simpa using h2) hk
def start (N : List Str) (vs : List V) : St := vs.map some ++ List.replicate (N.length - vs.length) none
def cxOf (CX : CXT) (P : Program) (w : World) (K : PySem.W.Frag) (mg : Str → Option Value) (base : Heap) (N : List Str) (qual : Str) (scope : Scope) (f : Addr) (cd : Value) (A : Around) (outer : List Env) (s : Shared) (H : Hp) (E : XK) : Cx where
  prog := P
  w := w
  K := K
  mg := mg
  base := base
  A := A.deeper (envOfC qual scope s.heap.objs.size f cd)
  N := N
  s₀ := s
  H₀ := H
  env := envOfC qual scope s.heap.objs.size f cd
  outer := outer
  stack := envOfC qual scope s.heap.objs.size f cd :: outer
  ex := []
  calm := true
  fn := fun _ => true
  pn := []
  xe := fun e s' => wpAny (model P w) (A.deeper (envOfC qual scope s.heap.objs.size f cd)) (leaving (envOfC qual scope s.heap.objs.size f cd) e) (fun _ s'' => CX outer H s E e s'') (fun e' s'' => CX outer H s E e' s'') s'
theorem cell_has {sc : Scope} {n : Nat} {x : Str} (h : sc.names.lookup x = some .cell) : ∃ c, (cellsFrom n sc.names []).lookup x = some c := by
  have q := PySem.W.cellsFrom_some sc.names n [] (.inl h)
  exact Option.isSome_iff_exists.mp q
theorem inv_start {CX : CXT} {P : Program} {w : World} {K : PySem.W.Frag} {mg : Str → Option Value} {base : Heap} {N ps : List Str} {qual : Str} {scope : Scope} {f : Addr} {cd : Value} {A : Around} {outer : List Env} {s s1 : Shared} {H : Hp} {E : XK} {us : List Value} {vs : List V}
    (S : FnScope N ps scope) (hd : A.handled = none) (e0 : Env0 P w K mg base A outer s H) (hl : vs.length = ps.length) (r : Vals vs us)
    (x : InCallC s s.heap.objs.size (bindL (envOfC qual scope s.heap.objs.size f cd).kindOf (ps.zip us) fun _ => none) (cellsFrom (s.heap.objs.size + 1) scope.names []) (bindC (envOfC qual scope s.heap.objs.size f cd).kindOf (ps.zip us) fun _ => none) s1) :
    Inv (cxOf CX P w K mg base N qual scope f cd A outer s H E) [] (start N vs) H s1 := by
  have hpl : ps.length ≤ N.length := by have := congrArg List.length S.pre; rw [List.length_take] at this; omega
  obtain ⟨h1, tk, rfl, hk⟩ := x.done
  have noA : ∀ b : Addr, b ∉ (cxOf CX P w K mg base N qual scope f cd A outer s H E).ex := fun b z => absurd (show b ∈ ([] : List Addr) from z) (by simp)
  refine ⟨⟨e0.mod, S.kind, rfl, rfl, Nat.le_refl _, fun y z c h1 h2 => ?_, fun y hy => ?_, fun y c _ h => ?_, fun _ => hd, Around.frames_deeper e0.frames, .inr ⟨rfl, rfl⟩, fun b z => absurd z (noA b), e0.bs, e0.bsz, fun b _ _ => noA b, fun b z => absurd z (noA b), e0.funs, e0.frf⟩,
    rfl, e0.bare, Un.kept hk, ⟨_, x.toInCall.ns, fun i y v h1 h2 h3 => ?_⟩, fun y c h => ⟨_, x.cell y c h⟩, e0.hok.fresh (Nat.le_refl _), fun y c h => ?_, fun p hp => absurd (show p ∈ ([] : List (Addr × Obj)) from hp) (by simp), e0.hok.kept hk, ?_⟩
  · exact name_of_addr x.apart (PySem.mem_of_lookup h1) (PySem.mem_of_lookup h2)
  · have hy : scope.names.lookup y = some .cell ∨ scope.names.lookup y = some .free := hy
    rcases hy with hy | hy
    · exact cell_has hy
    · exact absurd rfl (S.nofree _ (PySem.mem_of_lookup hy))
  · exact Nat.le_of_lt (x.above y c (PySem.mem_of_lookup h))
  · have hi : i < vs.length := by
      unfold start at h2
      by_cases hi : i < vs.length
      · exact hi
      · rw [List.getElem?_append_right (by simpa using hi)] at h2
        rw [List.getElem?_replicate] at h2
        split at h2 <;> cases h2
    have ha : vs[i]? = some v := by
      unfold start at h2
      rw [List.getElem?_append_left (by simpa using hi), List.getElem?_map] at h2
      cases e : vs[i]? with
      | none => rw [e] at h2; cases h2
      | some a => rw [e] at h2; cases h2; rfl
    obtain ⟨u, hu, rv⟩ := r.get ha
    have hp : ps[i]? = some y := by
      rw [← S.pre, List.getElem?_take_of_lt (by omega)]; exact h1
    have ndP : ps.Nodup := by rw [← S.pre]; exact S.nd.sublist (List.take_sublist _ _)
    refine ⟨u, rv, ?_⟩
    rcases S.par y (List.mem_of_getElem? hp) with k | k
    · exact .inl ⟨k, bindL_get ndP hp hu k⟩
    · obtain ⟨c, e⟩ := cell_has (n := s.heap.objs.size + 1) k
      refine .inr ⟨.inl k, c, e, ?_⟩
      have q := x.cell y c e
      rw [bindC_get ndP hp hu (by show scope.names.lookup y ≠ _; rw [k]; decide)] at q
      exact q
  · exact e0.hok.fresh (Nat.le_of_lt (x.above y c (PySem.mem_of_lookup h)))
  · unfold start
    show _ = N.length
    rw [List.length_append, List.length_map, List.length_replicate]
    omega
theorem fn_of {CX : CXT} {P : Program} {w : World} {K : PySem.W.Frag} {mg : Str → Option Value} {base : Heap} {k : Nat} {f : Addr} {name qual : Str} {params : Arguments} {body : List Stmt} {scope : Scope} {dV kV doc pm cdv ct oc : Value} {an od : Option Addr}
    {osl : Array (Option Value)} {N ps : List Str} {sp : Sp} (lk : K.lookup f = some ⟨oc, od, .func (PySem.W.fnOf name qual params body scope dV kV doc pm an cdv ct), osl⟩) (hcd : PySem.W.codeIn K cdv qual = true) (S : FnScope N ps scope)
    (len : ∀ vs H Q E, sp vs H Q E → vs.length = ps.length)
    (hbody : ∀ (A : Around) (outer : List Env) (s : Shared) (H : Hp) (vs : List V) (Q : VK) (E : XK), Room k (A.deeper (envOfC qual scope s.heap.objs.size f cdv)) → sp vs H Q E →
      ∃ t, PSs (cxOf CX P w K mg base N qual scope f cdv A outer s H E) body t ∧ t { nx := fun _ H' => Q .non H', rt := Q } (start N vs) H) :
    FnOk P w K mg base CX (k + 1) f (PySem.W.fnOf name qual params body scope dV kV doc pm an cdv ct) ps sp := by
  refine ⟨len, fun A outer s H args us vs Q E hr e0 hb r hsp => ?_⟩
  have hl := len _ _ _ _ hsp
  have KX : K.In s.heap := e0.mod.kin.keeps fun b o e => (e0.bs b o e).1
  have lim : s.heap.NoLimit := e0.mod.nolimit.keeps fun b o e => (e0.bs b o e).1
  have hkind : ∀ y ∈ ps.zip us, scope.names.lookup y.1 = some .local ∨ (scope.names.lookup y.1 = some .cell ∧ ((cellsFrom (s.heap.objs.size + 1) scope.names []).lookup y.1).isSome = true) := fun ⟨n, v⟩ hy => by
    rcases S.par n (List.of_mem_zip hy).1 with q | q
    · exact .inl q
    · exact .inr ⟨q, PySem.W.cellsFrom_some _ _ _ (.inl q)⟩
  refine codeAny_call_function hr.depth (KX _ _ lk) rfl S.co S.gen rfl (PySem.W.codeRec_of KX hcd) (hb _ _ _ _ ?_)
  refine wpAny_newFunctionEnv_cells S.kind hkind fun env he s1 x => ?_
  subst he
  refine ⟨lim.keeps x.toInCall.keep, codeAny_func ?_⟩
  obtain ⟨t, ht, hq⟩ := hbody A outer s H vs Q E (hr.deeper _) hsp
  have I : Inv (cxOf CX P w K mg base N qual scope f cdv A outer s H E) [] (start N vs) H s1 := inv_start S hr.hd e0 hl r x
  refine wpAny_mono (ht [] s1 (start N vs) H _ I hq) (fun fl s' hs => ?_) fun e s' hs => hs
  have fin : ∀ {σ' : St} {H' : Hp} {v : V} {u : Value}, Inv (cxOf CX P w K mg base N qual scope f cdv A outer s H E) [] σ' H' s' → RelV v u → Q v H' → CE outer P w H s Q u s' :=
    fun {σ' H' v u} J rv q => ⟨v, H', J.os, J.bare, J.base, J.hok, rv, q⟩
  cases fl with
  | ret u =>
    obtain ⟨v, σ', H', J, rv, q⟩ := hs
    exact fin J rv q
  | next =>
    obtain ⟨σ', H', J, q⟩ := hs
    exact fin (v := V.non) (u := Value.none) J rfl q
  | brk =>
    obtain ⟨_, _, _, q⟩ := hs
    exact False.elim q
  | cont =>
    obtain ⟨_, _, _, q⟩ := hs
    exact False.elim q
end L2
namespace L2
open PySem PySem.Spec PyProof.Rows
section
variable {X : Cx} {x : Str} {p pos : Pos} {e : Expr} {es : List Expr} {t : TA} {id T : String} {r : List V → Hp → VK → Prop}
def tCB (r : List V → Hp → VK → Prop) (t : TA) : TE := fun σ H Q => t σ H fun vs H1 => r vs H1 Q
theorem pe_callB (hc : CallR X (.builtin id) r) (hg : Gl X x) (hm : X.mg x = none) (hv : bootBuiltins x = some (.builtin id)) (ha : PA X (e :: es) t) (hn : x ≠ "__name__" := by decide) (hdb : (x == ("__debug__" : Str)) = false := by decide)
    (he : starEach (e :: es) X.env = (false, eval e X.env) :: starEach es X.env := by rfl) (hpl : (backTo pos (starEach es X.env)).any (·.1) = false := by rfl) : PE X (.Call (.Name x p) (e :: es) [] pos) (tCB r t) := by
  intro pins s σ H Q I h
  refine wpAny_Call_Name_kw (ld_blt I hg hm hv ?_ hn hdb)
  exact PyProof.Rows.callWith_builtin1 (thn (ha pos pins s σ H _ I h) fun us s1 ⟨vs, H1, I1, r1, q1⟩ => hc pins s1 σ H1 vs us Q I1 r1 q1) he hpl
theorem pe_callTy (hc : CallR X (.type T) r) (hg : Gl X x) (hm : X.mg x = none) (hv : bootBuiltins x = some (.type T)) (ha : PA X (e :: es) t) (hn : x ≠ "__name__" := by decide) (hdb : (x == ("__debug__" : Str)) = false := by decide)
    (he : starEach (e :: es) X.env = (false, eval e X.env) :: starEach es X.env := by rfl) (hpl : (backTo pos (starEach es X.env)).any (·.1) = false := by rfl) : PE X (.Call (.Name x p) (e :: es) [] pos) (tCB r t) := by
  intro pins s σ H Q I h
  refine wpAny_Call_Name_kw (ld_blt I hg hm hv ?_ hn hdb)
  exact PyProof.Rows.callWith_type1 (thn (ha pos pins s σ H _ I h) fun us s1 ⟨vs, H1, I1, r1, q1⟩ => hc pins s1 σ H1 vs us Q I1 r1 q1) he hpl
end
end L2
namespace HT
open PySem PyProof.Rows
def lexLt : List Int → List Int → Bool
  | [], [] => false
  | [], _ :: _ => true
  | _ :: _, [] => false
  | x :: xs, y :: ys => if x = y then lexLt xs ys else decide (x < y)
section
open PySem.SeqAt
open PySem.AutoSeq1 (wpAny_loadPart')
open PySem.MeetsSeq PySem.MeetsSeq2 PySem.MeetsSeq3
end
section
variable {prog : Program} {w : World} {A : Around} {E : Value → Shared → Prop} {s : Shared}
theorem cat_tup {t b : Addr} {vs ws : List Value} {Q : Value → Shared → Prop} (ht : IsTup s.heap t vs.toArray) (hb : IsTup s.heap b ws.toArray) (hv : vs ≠ [])
    (h1 : ws = [] → Q (.ref t) s) (h2 : ws ≠ [] → Q (.ref s.heap.objs.size) { s with heap := s.heap.push { cls := .type "tuple", data := .seq (vs ++ ws).toArray } })
    (hsz : vs.length + ws.length ≤ sizeLine) : wpAny (model prog w) A (binaryOp .Add (.ref t) (.ref b)) Q E s := by
  obtain ⟨⟨cls, dd, data, sl⟩, ho, hc, n, hd⟩ := id ht
  obtain ⟨⟨cls2, dd2, data2, sl2⟩, ho2, hc2, n2, hd2⟩ := id hb
  simp only at hc hd hc2 hd2
  subst hc hd hc2 hd2
  have e : vs.toArray ++ ws.toArray = (vs ++ ws).toArray := by simp
  by_cases hw : ws = []
  · exact concat_meets ⟨_, ho, rfl⟩ ⟨_, ho2, rfl⟩ noFill_tuple_add seq_tuple_add PySem.F.slot_tuple_add PySem.F.entry_tuple_add (PySem.F.args_tuple_add_2 _ _)
      (tuple_addW1 t b vs.toArray ws.toArray n n2 dd dd2 sl sl2 (by simpa using hv) (by simp [hw])) ⟨ho, ho2, h1 hw⟩
  · refine concat_meets ⟨_, ho, rfl⟩ ⟨_, ho2, rfl⟩ noFill_tuple_add seq_tuple_add PySem.F.slot_tuple_add PySem.F.entry_tuple_add (PySem.F.args_tuple_add_2 _ _)
      (tuple_addW2 t b vs.toArray ws.toArray n n2 dd dd2 sl sl2 (by simpa using hv) (by simpa using hw) (by rw [List.size_toArray, List.size_toArray]; exact hsz)) ⟨ho, ho2, ?_⟩
    rw [e]
    exact h2 hw
def sIx (n d : Nat) : Option Int → Nat
  | none => d
  | some v => if v < 0 then (v + (n : Int)).toNat else min v.toNat n
theorem sIx_none (n d : Nat) : sIx n d none = d := rfl
theorem sIx_nat (n d k : Nat) : sIx n d (some (k : Int)) = min k n := by
  show (if (k : Int) < 0 then ((k : Int) + (n : Int)).toNat else min (k : Int).toNat n) = min k n
  rw [if_neg (by omega), Int.toNat_natCast]
theorem sIx_le (n d : Nat) (hd : d ≤ n) (o : Option Int) : sIx n d o ≤ n := by
  cases o with
  | none => exact hd
  | some v =>
    show (if v < 0 then (v + (n : Int)).toNat else min v.toNat n) ≤ n
    by_cases hv : v < 0
    · rw [if_pos hv]; omega
    · rw [if_neg hv]; exact Nat.min_le_right _ _
theorem clip_eq (v : Int) (n d : Nat) : (if v < 0 then max (v + (n : Int)) 0 else min v (n : Int)) = ((sIx n d (some v) : Nat) : Int) := by
  show (if v < 0 then max (v + (n : Int)) 0 else min v (n : Int)) = (((if v < 0 then (v + (n : Int)).toNat else min v.toNat n) : Nat) : Int)
  by_cases hv : v < 0
  · simp only [if_pos hv]; omega
  · simp only [if_neg hv]; omega
theorem adjust_gen (lo hi : Option Int) (n : Nat) : Builtin.Slice.sliceAdjust lo hi 1 (n : Int) = (((sIx n 0 lo : Nat) : Int), ((sIx n n hi : Nat) : Int)) := by
  have h1 : ¬ ((1 : Int) < 0) := by omega
  unfold Builtin.Slice.sliceAdjust
  simp only [h1, if_false]
  refine Prod.ext ?_ ?_
  · cases lo with
    | none => rfl
    | some v => exact clip_eq v n 0
  · cases hi with
    | none => rfl
    | some v => exact clip_eq v n n
theorem places_gen (i j : Nat) : Builtin.Slice.slicePlaces (i : Int) (j : Int) 1 = j - i := by
  unfold Builtin.Slice.slicePlaces
  have h1 : (1 : Int) > 0 := by omega
  simp only [h1, if_true, Int.ediv_one]
  split <;> omega
theorem slicePart_ {v : Value} {o : Option Int} {Q : Option Int → Shared → Prop} (p : IsPart v o) (h : Q o s) : wpAny (model prog w) A (Builtin.Slice.slicePartIndex v) Q E s := by
  cases p with
  | none => exact slicePart_none h
  | int i t => exact slicePart_int h
theorem sliceApplied_gen {sl : Addr} {vl vu : Value} {lo hi : Option Int} {n : Nat} {Q : Int × Int × Nat → Shared → Prop} (hs : s.heap.IsSliceOf sl vl vu .none) (pl : IsPart vl lo) (pu : IsPart vu hi)
    (h : Q (((sIx n 0 lo : Nat) : Int), 1, sIx n n hi - sIx n 0 lo) s) : wpAny (model prog w) A (Builtin.Slice.sliceApplied (.ref sl) (pure (n : Int))) Q E s := by
  obtain ⟨os, hos, hcs, hds⟩ := id hs
  unfold Builtin.Slice.sliceApplied Builtin.Slice.sliceFields
  refine wpAny_bind (wpAny_bind (wpAny_field hos hds (x := vl) rfl (wpAny_bind (wpAny_field hos hds (x := vu) rfl (wpAny_bind (wpAny_field hos hds (x := .none) rfl (wpAny_pure ?_)))))))
  refine wpAny_bind (slicePart_none ?_)
  show wpAny _ _ (if ((1 : Int) == 0) = true then _ else _) _ _ s
  rw [if_neg (by decide)]
  refine wpAny_bind (slicePart_ pl (wpAny_bind (slicePart_ pu (wpAny_bind (wpAny_pure ?_)))))
  show wpAny _ _ (match Builtin.Slice.sliceAdjust lo hi 1 (n : Int) with | (lo, hi) => pure (lo, (1 : Int), Builtin.Slice.slicePlaces lo hi 1)) _ _ s
  rw [adjust_gen lo hi n]
  show wpAny _ _ (pure (((sIx n 0 lo : Nat) : Int), (1 : Int), Builtin.Slice.slicePlaces ((sIx n 0 lo : Nat) : Int) ((sIx n n hi : Nat) : Int) 1)) _ _ s
  rw [places_gen]
  exact wpAny_pure h
theorem pick_gen (xs : Array Value) (i k : Nat) : ((List.range k).filterMap fun (m : Nat) => xs[((i : Int) + (m : Int) * 1).toNat]?).toArray = ((xs.toList.drop i).take k).toArray := by
  have e : (fun (m : Nat) => xs[((i : Int) + (m : Int) * 1).toNat]?) = fun m => xs[i + m]? := by
    funext m
    have : ((i : Int) + (m : Int) * 1).toNat = i + m := by omega
    rw [this]
  rw [e]
  have := pick_run xs i k
  rw [List.filterMap_map] at this
  have e2 : ((fun x => xs[x]?) ∘ fun x => i + x) = fun m => xs[i + m]? := rfl
  rw [e2] at this
  rw [this]
theorem getItem_tuple_cut {t sl : Addr} {items : Array Value} {vl vu : Value} {lo hi : Option Int} {Q : Value → Shared → Prop} (ht : IsTup s.heap t items) (hs : s.heap.IsSliceOf sl vl vu .none) (pl : IsPart vl lo) (pu : IsPart vu hi)
    (hw : ¬ (sIx items.size 0 lo = 0 ∧ sIx items.size items.size hi = items.size))
    (h : Q (.ref s.heap.objs.size) { s with heap := s.heap.push { cls := .type "tuple", data := .seq ((items.toList.drop (sIx items.size 0 lo)).take (sIx items.size items.size hi - sIx items.size 0 lo)).toArray } })
    (hsz : items.size ≤ sizeLine) : wpAny (model prog w) A (getItem (.ref t) (.ref sl)) Q E s := by
  have htake : sizeOk (.seq ((items.toList.drop (sIx items.size 0 lo)).take (sIx items.size items.size hi - sIx items.size 0 lo)).toArray) := by
    show ((items.toList.drop (sIx items.size 0 lo)).take (sIx items.size items.size hi - sIx items.size 0 lo)).toArray.size ≤ sizeLine
    rw [List.size_toArray, List.length_take, List.length_drop, Array.length_toList]
    omega
  have hj : sIx items.size items.size hi ≤ items.size := sIx_le _ _ (Nat.le_refl _) hi
  obtain ⟨os, hos, hcs, hds⟩ := id hs
  have hTs : s.TypeIs (.ref sl) "slice" := ⟨os, hos, hcs⟩
  unfold getItem
  try with_reducible refine wpAny_holding ?_
  first | refine wpAny_bind (wpAny_pure ?_) | skip
  refine wpAny_bind (wpAny_sequenceKey ht.typeIs (by decide) ?_)
  refine wpAny_bind (wpAny_callSpecial?_slot (name := Str.ofString "__getitem__") ht.typeIs PyProof.Rows.slot_tuple_getitem
    (wpAny_call_entry PyProof.Rows.slot_tuple_getitem ht.typeIs entry_tuple_getitem ?_ (args_tuple_getitem _ _)))
  show wpAny _ _ (Builtin.Tuple.tupleItemsOf (.ref t) >>= _) _ _ s
  refine wpAny_bind (tupleItemsOf_ ht ?_)
  refine wpAny_bind (wpAny_typeOf hTs ?_)
  rw [if_pos (by decide)]
  refine wpAny_bind (sliceApplied_gen hs pl pu ?_)
  have hno : ¬ ((((sIx items.size 0 lo : Nat) : Int) == 0 && (1 : Int) == 1 && (sIx items.size items.size hi - sIx items.size 0 lo) == items.size) = true) := by
    intro q
    rw [Bool.and_eq_true, Bool.and_eq_true] at q
    have q1 : ((sIx items.size 0 lo : Nat) : Int) = 0 := eq_of_beq q.1.1
    have q2 : sIx items.size items.size hi - sIx items.size 0 lo = items.size := eq_of_beq q.2
    exact hw ⟨by omega, by omega⟩
  show wpAny _ _ (if (((sIx items.size 0 lo : Nat) : Int) == 0 && (1 : Int) == 1 && (sIx items.size items.size hi - sIx items.size 0 lo) == items.size) = true then _ else _) _ _ s
  rw [if_neg hno, pick_gen]
  first
    | exact wpAny_bind (m := Builtin.Tuple.tupleExact _) (wpAny_newObj_type (wpAny_pure ⟨_, rfl, wpAny_pure h⟩) htake)
    | exact wpAny_bind (m := Builtin.Tuple.tupleExact _) (wpAny_newObj_type (wpAny_bind (wpAny_pure (wpAny_pure ⟨_, rfl, wpAny_pure h⟩))) htake)
    | exact wpAny_bind (wpAny_bind (m := Builtin.Tuple.tupleExact _) (wpAny_newObj_type (wpAny_pure (wpAny_pure ⟨_, rfl, wpAny_pure h⟩)) htake))
    | exact wpAny_bind (wpAny_bind (m := Builtin.Tuple.tupleExact _) (wpAny_newObj_type (wpAny_pure ⟨_, rfl, wpAny_pure h⟩) htake))
end
end HT
namespace L2
open PySem PySem.Spec PyProof.Rows
abbrev TO := St → Hp → (Option Int → Hp → Prop) → Prop
def PO (X : Cx) (e : Option Expr) (t : TO) : Prop :=
  ∀ (pins : List (Addr × Obj)) (s : Shared) (σ : St) (H : Hp) (Q : Option Int → Hp → Prop), Inv X pins σ H s → t σ H Q →
    wpAny (model X.prog X.w) X.A (evalPart e X.env) (fun u s' => ∃ o H', Inv X pins σ H' s' ∧ IsPart u o ∧ Q o H') X.xe s
def tNoPart : TO := fun _ H Q => Q none H
def tPart (t : TE) : TO := fun σ H Q => t σ H fun x H1 => ∃ i, x = .int i ∧ Q (some i) H1
section
variable {X : Cx} {e : Expr} {te : TE} {lo hi : Option Expr} {tl th : TO} {pos p2 : Pos}
theorem po_none : PO X none tNoPart := by
  intro pins s σ H Q I h
  rw [evalPart_none]
  exact wpAny_pure ⟨none, H, I, .none, h⟩
theorem po_some (h : PE X e te) : PO X (some e) (tPart te) := by
  intro pins s σ H Q I hw
  rw [evalPart_some]
  refine thn (h pins s σ H _ I hw) fun u s1 ⟨x, H1, I1, r1, q1⟩ => ?_
  obtain ⟨i, rfl, q⟩ := q1
  obtain ⟨t, rfl⟩ := r1
  exact ⟨some i, H1, I1, .int i t, q⟩
def SlR (X : Cx) (r : V → Option Int → Option Int → Hp → VK → Prop) : Prop :=
  ∀ (pins : List (Addr × Obj)) (s : Shared) (σ : St) (H : Hp) (x : V) (v vl vu : Value) (lo hi : Option Int) (sl : Addr) (Q : VK), Inv X pins σ H s → RelV x v → s.heap.IsSliceOf sl vl vu .none → IsPart vl lo → IsPart vu hi → r x lo hi H Q →
    ∃ T id, typeLookup (.type T) "__getitem__" = pure (some (.builtin id)) ∧ s.TypeIs v T ∧ wpAny (model X.prog X.w) X.A (getItem v (.ref sl)) (EP X pins σ Q) X.xe s
theorem SlR.or {r r' : V → Option Int → Option Int → Hp → VK → Prop} (h : SlR X r) (h' : SlR X r') : SlR X (fun x lo hi H Q => r x lo hi H Q ∨ r' x lo hi H Q) := by
  intro pins s σ H x v vl vu lo hi sl Q I rx hs pl pu q
  rcases q with q | q
  · exact h pins s σ H x v vl vu lo hi sl Q I rx hs pl pu q
  · exact h' pins s σ H x v vl vu lo hi sl Q I rx hs pl pu q
def tSl (r : V → Option Int → Option Int → Hp → VK → Prop) (te : TE) (tl th : TO) : TE := fun σ H Q => te σ H fun x H1 => tl σ H1 fun l H2 => th σ H2 fun u H3 => r x l u H3 Q
theorem pe_slice {r : V → Option Int → Option Int → Hp → VK → Prop} (hr : SlR X r) (he : PE X e te) (hl : PO X lo tl) (hu : PO X hi th) : PE X (.Subscript e (.Slice lo hi none p2) pos) (tSl r te tl th) := by
  intro pins s σ H Q I h
  refine Subscript_ (thn (he pins s σ H _ I h) fun v s1 ⟨x, H1, I1, r1, q1⟩ => ?_)
  refine wpAny_Slice (thn (hl pins s1 σ H1 _ I1 q1) fun vl s2 ⟨l, H2, I2, pl, q2⟩ => thn (hu pins s2 σ H2 _ I2 q2) fun vu s3 ⟨u, H3, I3, pu, q3⟩ => ?_)
  rw [evalPart_none]
  refine wpAny_pure ?_
  have I4 : Inv X pins σ H3 { s3 with heap := s3.heap.push { cls := .type "slice", data := .fields #[vl, vu, .none] } } := I3.kept (t' := s3.toks) fun b ob q => Heap.get?_push_of_some _ q
  obtain ⟨T, id, hT, ht, hg⟩ := hr pins { s3 with heap := s3.heap.push { cls := .type "slice", data := .fields #[vl, vu, .none] } } σ H3 x v vl vu l u s3.heap.objs.size Q I4 r1 (Heap.IsSliceOf.new ..) pl pu q3
  show wpAny (model X.prog X.w) X.A (subscriptTail e (.Slice lo hi none p2) v (.ref s3.heap.objs.size)) (EP X pins σ Q) X.xe { s3 with heap := s3.heap.push { cls := .type "slice", data := .fields #[vl, vu, .none] } }
  exact tail_any (ops := [.ref s3.heap.objs.size, v]) ht hT hg (by with_unfolding_all rfl)
def cutV (xs : List V) (lo hi : Option Int) : List V := (xs.drop (HT.sIx xs.length 0 lo)).take (HT.sIx xs.length xs.length hi - HT.sIx xs.length 0 lo)
theorem cutV_length (xs : List V) (lo hi : Option Int) : (cutV xs lo hi).length ≤ xs.length := by
  unfold cutV
  rw [List.length_take, List.length_drop]
  omega
def rSlT (K : PySem.W.Frag) : V → Option Int → Option Int → Hp → VK → Prop := fun x lo hi H Q => ∃ a xs, x = .ref a ∧ SqT K H a xs ∧
  ¬ (HT.sIx xs.length 0 lo = 0 ∧ HT.sIx xs.length xs.length hi = xs.length) ∧ ∀ p, H p = none → Q (.ref p) (upd H p (.tup (cutV xs lo hi)))
theorem sl_tup : SlR X (rSlT X.K) := by
  intro pins s σ H x v vl vu lo hi sl Q I rx hs pl pu h
  obtain ⟨a, xs, rfl, hx, hw, q⟩ := h
  cases rx
  obtain ⟨its, r, ht, hz⟩ := I.tuple hx
  have hlen : its.toArray.size = xs.length := by rw [List.size_toArray]; exact r.length.symm
  refine ⟨"tuple", _, PyProof.Rows.slot_tuple_getitem.lookup, ht.typeIs, ?_⟩
  refine HT.getItem_tuple_cut ht hs pl pu (by rw [hlen]; exact hw) ?_ (by rw [hlen]; exact hz)
  rw [hlen]
  refine ⟨.ref s.heap.objs.size, _, I.laid (t' := s.toks) (o := .tup (cutV xs lo hi)) (fun b ob q => Heap.get?_push_of_some _ q) (Nat.le_refl _) ?_, rfl, q _ (I.hok.fresh (Nat.le_refl _))⟩
  exact ⟨Nat.le_trans (cutV_length xs lo hi) hz, _, (r.drop (HT.sIx xs.length 0 lo)).take (HT.sIx xs.length xs.length hi - HT.sIx xs.length 0 lo), IsTup.new _ _⟩
def rLtT (K : PySem.W.Frag) : R2 := fun x y H Q => ∃ a b ns ms, x = .ref a ∧ y = .ref b ∧ SqT K H a (ns.map V.int) ∧ SqT K H b (ms.map V.int) ∧ Q (.bl (HT.lexLt ns ms)) H
def rCatT (K : PySem.W.Frag) : R2 := fun x y H Q => ∃ a b xs ys, x = .ref a ∧ y = .ref b ∧ SqT K H a xs ∧ SqT K H b ys ∧ xs ≠ [] ∧ xs.length + ys.length ≤ sizeLine ∧
  (ys = [] → Q (.ref a) H) ∧ (ys ≠ [] → ∀ p, H p = none → Q (.ref p) (upd H p (.tup (xs ++ ys))))
theorem Vals.nil_iff {xs : List V} {us : List Value} (r : Vals xs us) : us = [] ↔ xs = [] := by
  cases r with
  | nil => simp
  | cons _ _ => simp
theorem op_catT : OpR X (binaryOp .Add) (rCatT X.K) := by
  intro pins s σ H x y v u Q I rx ry h
  obtain ⟨a, b, xs, ys, rfl, rfl, ha, hb, hx, hz, q1, q2⟩ := h
  cases rx
  cases ry
  obtain ⟨its, r1, p1, _⟩ := I.tuple ha
  obtain ⟨its2, r2, p2, _⟩ := I.tuple hb
  refine HT.cat_tup p1 p2 (fun z => hx (r1.nil_iff.mp z)) (fun z => ⟨.ref a, H, I, rfl, q1 (r2.nil_iff.mp z)⟩) (fun z => ?_) (by rw [← r1.length, ← r2.length]; exact hz)
  refine ⟨.ref s.heap.objs.size, _, I.laid (t' := s.toks) (o := .tup (xs ++ ys)) (fun b ob q => Heap.get?_push_of_some _ q) (Nat.le_refl _) ?_, rfl, q2 (fun w => z (r2.nil_iff.mpr w)) _ (I.hok.fresh (Nat.le_refl _))⟩
  exact ⟨by rw [List.length_append]; exact hz, _, r1.append r2, IsTup.new _ _⟩
end
end L2
namespace L2
open PySem PySem.Spec PyProof.Rows
def ixN (n : Nat) (i : Int) : Option Nat := if 0 ≤ i then (if i < n then some i.toNat else none) else if -(n : Int) ≤ i then some (i + n).toNat else none
def atI {α : Type} (xs : List α) (i : Int) : Option α := (ixN xs.length i).bind fun j => xs[j]?
theorem ixN_seq {n : Nat} {i : Int} {j : Nat} (h : ixN n i = some j) : seqIndex? i n = some j ∧ j < n ∧ -(n : Int) ≤ i ∧ i < n := by
  unfold ixN at h
  by_cases h0 : 0 ≤ i
  · rw [if_pos h0] at h
    by_cases h1 : i < n
    · rw [if_pos h1] at h
      have e : i.toNat = j := Option.some.inj h
      exact ⟨by rw [seqIndex_of h0 h1, e], by omega, by omega, h1⟩
    · rw [if_neg h1] at h; cases h
  · rw [if_neg h0] at h
    by_cases h1 : -(n : Int) ≤ i
    · rw [if_pos h1] at h
      have e : (i + n).toNat = j := Option.some.inj h
      exact ⟨by rw [seqIndex_neg (by omega) h1, e], by omega, h1, by omega⟩
    · rw [if_neg h1] at h; cases h
theorem atI_get {α : Type} {xs : List α} {i : Int} {v : α} (h : atI xs i = some v) : ∃ j, seqIndex? i xs.length = some j ∧ xs[j]? = some v ∧ j < xs.length ∧ -(xs.length : Int) ≤ i ∧ i < xs.length := by
  unfold atI at h
  cases e : ixN xs.length i with
  | none => rw [e] at h; cases h
  | some j =>
    rw [e] at h
    obtain ⟨h1, h2, h3, h4⟩ := ixN_seq e
    exact ⟨j, h1, h, h2, h3, h4⟩
theorem atI_nat {α : Type} {xs : List α} {j : Nat} {v : α} (h : xs[j]? = some v) : atI xs (j : Int) = some v := by
  have hj : j < xs.length := (List.getElem?_eq_some_iff.mp h).1
  have e : ixN xs.length (j : Int) = some j := by
    unfold ixN
    rw [if_pos (by omega), if_pos (by omega)]; simp
  unfold atI; rw [e]; exact h
def PlainIx (b : Expr) : Prop := ∀ o i, subscripted b false o i = operate [o, i] (getItem o i)
def IxR (X : Cx) (r : R2) : Prop :=
  ∀ (value slice : Expr) (pins : List (Addr × Obj)) (s : Shared) (σ : St) (H : Hp) (x y : V) (v u : Value) (Q : VK), Inv X pins σ H s → RelV x v → RelV y u → r x y H Q →
    subscripted slice false v u = operate [v, u] (getItem v u) → wpAny (model X.prog X.w) X.A (subscriptTail value slice v u) (EP X pins σ Q) X.xe s
def MtR (X : Cx) (id : String) (r : V → List V → Hp → VK → Prop) : Prop :=
  ∀ (pins : List (Addr × Obj)) (s : Shared) (σ : St) (H : Hp) (x : V) (xs : List V) (v : Value) (us : List Value) (Q : VK), Inv X pins σ H s → RelV x v → Vals xs us → r x xs H Q →
    wpAny (model X.prog X.w) X.A (call (.builtin id) (v :: us)) (EP X pins σ Q) X.xe s
section
variable {X : Cx} {a b : Expr} {ta tb : TE} {pos : Pos}
theorem IxR.or {r r' : R2} (h : IxR X r) (h' : IxR X r') : IxR X (fun x y H Q => r x y H Q ∨ r' x y H Q) := by
  intro value slice pins s σ H x y v u Q I rx ry q hs
  rcases q with q | q
  · exact h value slice pins s σ H x y v u Q I rx ry q hs
  · exact h' value slice pins s σ H x y v u Q I rx ry q hs
theorem MtR.or {id : String} {r r' : V → List V → Hp → VK → Prop} (h : MtR X id r) (h' : MtR X id r') : MtR X id (fun x xs H Q => r x xs H Q ∨ r' x xs H Q) := by
  intro pins s σ H x xs v us Q I rx rs q
  rcases q with q | q
  · exact h pins s σ H x xs v us Q I rx rs q
  · exact h' pins s σ H x xs v us Q I rx rs q
theorem pe_ix {r : R2} (hr : IxR X r) (ha : PE X a ta) (hb : PE X b tb) (hs : PlainIx b) : PE X (.Subscript a b pos) (tOp r ta tb) := by
  intro pins s σ H Q I h
  exact Subscript_ (binT ha hb I h fun v u s2 x y H2 I2 rx ry q => hr a b pins s2 σ H2 x y v u Q I2 rx ry q (hs _ _))
def rIxL (K : PySem.W.Frag) : R2 := fun x y H Q => ∃ p xs i v, x = .ref p ∧ y = .int i ∧ SqL K H p xs ∧ atI xs i = some v ∧ Q v H
def rIxT (K : PySem.W.Frag) : R2 := fun x y H Q => ∃ p xs i v, x = .ref p ∧ y = .int i ∧ SqT K H p xs ∧ atI xs i = some v ∧ Q v H
def rIxS : R2 := fun x y H Q => ∃ z i c, x = .str z ∧ y = .int i ∧ z.length ≤ sizeLine ∧ atI z.cps.toList i = some c ∧ Q (.str ⟨#[c]⟩) H
theorem ix_list : IxR X (rIxL X.K) := by
  intro value slice pins s σ H x y v u Q I rx ry h hs
  obtain ⟨p, xs, i, z, rfl, rfl, hq, he, q⟩ := h
  cases rx
  obtain ⟨t, rfl⟩ := ry
  obtain ⟨its, r, pl, hz⟩ := I.list hq
  obtain ⟨j, h1, h2, h3, h4, h5⟩ := atI_get he
  obtain ⟨w, ew, rw'⟩ := r.get h2
  have hl := r.length
  have hn := line63
  have fin : EP X pins σ Q w s := ⟨z, H, I, rw', q⟩
  by_cases h0 : 0 ≤ i
  · have hj : i.toNat = j := by
      rw [seqIndex_of h0 h5] at h1
      exact Option.some.inj h1
    exact item_listR pl.isList h0 (by omega) (by rw [hj]; simpa using ew) fin hs
  · have hj : (i + (its.toArray.size : Int)).toNat = j := by
      rw [seqIndex_neg (by omega) h4] at h1
      rw [List.size_toArray, ← hl]
      exact Option.some.inj h1
    exact subscriptTail_builtinR (x := w) pl.isList.typeIs slot_list_getitem.lookup
      (wpAny_getItem_list_neg (Q := fun r s' => r = w ∧ EP X pins σ Q r s') pl.isList (by omega) (by rw [List.size_toArray] <;> omega) (by omega) (by rw [hj]; simpa using ew) ⟨rfl, fin⟩) hs
theorem ix_tup : IxR X (rIxT X.K) := by
  intro value slice pins s σ H x y v u Q I rx ry h hs
  obtain ⟨p, xs, i, z, rfl, rfl, hq, he, q⟩ := h
  cases rx
  obtain ⟨t, rfl⟩ := ry
  obtain ⟨its, r, pl, hz⟩ := I.tuple hq
  obtain ⟨j, h1, h2, h3, h4, h5⟩ := atI_get he
  obtain ⟨w, ew, rw'⟩ := r.get h2
  have hl := r.length
  have hn := line63
  have fin : EP X pins σ Q w s := ⟨z, H, I, rw', q⟩
  exact subscriptTail_builtinR (x := w) pl.typeIs slot_tuple_getitem.lookup
    (getItem_tuple (j := j) (Q := fun r s' => r = w ∧ EP X pins σ Q r s') pl (by omega) (by omega) (by rw [List.size_toArray, ← hl]; exact h1) (by simpa using ew) ⟨rfl, fin⟩) hs
def rIx (K : PySem.W.Frag) : R2 := fun x y H Q => rIxL K x y H Q ∨ rIxT K x y H Q ∨ rIxS x y H Q
theorem mapSeq_set (its : List Value) (n j : Nat) (u : Value) : Obj.mapSeq (·.setIfInBounds j u) { cls := .type "list", data := .seq its.toArray n } = { cls := .type "list", data := .seq (its.set j u).toArray n } := by
  simp [Obj.mapSeq]
theorem Inv.lst {pins : List (Addr × Obj)} {σ : St} {H : Hp} {s : Shared} {p : Addr} {xs : List V} (I : Inv X pins σ H s) (h : H p = some (.lst xs)) :
    ∃ (its : List Value) (n : Nat), Vals xs its ∧ s.heap.get? p = some { cls := .type "list", data := .seq its.toArray n } ∧ xs.length ≤ sizeLine := by
  obtain ⟨z, its, n, r, e⟩ := I.hok p _ h
  exact ⟨its, n, r, e, z⟩
theorem Inv.lstUpd {pins : List (Addr × Obj)} {σ : St} {H : Hp} {s : Shared} {p : Addr} {xs ys : List V} {its its' : List Value} {n n' : Nat} {f : Obj → Obj} (I : Inv X pins σ H s) (h : H p = some (.lst xs))
    (ho : s.heap.get? p = some { cls := .type "list", data := .seq its.toArray n }) (hf : f { cls := .type "list", data := .seq its.toArray n } = { cls := .type "list", data := .seq its'.toArray n' }) (r : Vals ys its') (hz : ys.length ≤ sizeLine) (t : Nat) :
    Inv X pins σ (upd H p (.lst ys)) { s with heap := s.heap.update p f, toks := t } := by
  have e : (s.heap.update p f).get? p = some { cls := .type "list", data := .seq its'.toArray n' } := by
    rw [Heap.get?_update_self f ho (by rw [hf] <;> rfl), hf]
  refine I.write (x := p) (e := p) (by rw [h]; trivial) (.inl rfl) (fun b u hb q => (Heap.get?_update_other _ _ (Ne.symm hb)).trans q) ⟨_, e⟩ ?_
  exact ⟨hz, its', n', r, e⟩
def rSetL : V → V → V → Hp → (Hp → Prop) → Prop := fun o i v H Q => ∃ p xs k j, o = .ref p ∧ i = .int k ∧ H p = some (.lst xs) ∧ ixN xs.length k = some j ∧ Q (upd H p (.lst (xs.set j v)))
theorem set_list : PSet X rSetL := by
  intro pins s σ H o i v ov iv u Q I ro ri rv h
  obtain ⟨p, xs, k, j, rfl, rfl, hp, hj, q⟩ := h
  cases ro
  obtain ⟨t, rfl⟩ := ri
  obtain ⟨its, n, r, ho, hz⟩ := I.lst hp
  obtain ⟨h1, h2, h3, h4⟩ := ixN_seq hj
  have hl := r.length
  have hn := line63
  have I' : Inv X pins σ (upd H p (.lst (xs.set j v))) { s with heap := s.heap.update p (Obj.mapSeq (·.setIfInBounds j u)) } :=
    I.lstUpd hp ho (mapSeq_set its n j u) (r.set rv j) (by rw [List.length_set]; exact hz) s.toks
  by_cases h0 : 0 ≤ k
  · have hk : k.toNat = j := by
      rw [seqIndex_of h0 h4] at h1
      exact Option.some.inj h1
    exact PySem.W.ki_setAt ho h0 (by omega) (by rw [List.size_toArray, ← hl]; exact h4) (by rw [hk]; exact ⟨_, I', q⟩)
  · have hk : (k + (its.toArray.size : Int)).toNat = j := by
      rw [seqIndex_neg (by omega) h3] at h1
      rw [List.size_toArray, ← hl]
      exact Option.some.inj h1
    exact PySem.W.ki_setBack ho (by omega) (by rw [List.size_toArray, ← hl]; exact h3) (by omega) (by rw [hk]; exact ⟨_, I', q⟩)
theorem slice_bounds (lo hi : Option Int) (n : Nat) : (sliceBounds lo hi none n).1 = ((HT.sIx n 0 lo : Nat) : Int) ∧ (sliceBounds lo hi none n).2.1 = ((HT.sIx n n hi : Nat) : Int) ∧ (sliceBounds lo hi none n).2.2 = 1 := by
  refine ⟨?_, ?_, rfl⟩
  · cases lo with
    | none => simp [sliceBounds, HT.sIx]
    | some i =>
      simp only [sliceBounds, HT.sIx, Option.getD_none, show (1 : Int) > 0 by decide, if_true]
      by_cases h : i < 0
      · simp only [h, if_true] <;> omega
      · simp only [h, if_false] <;> omega
  · cases hi with
    | none => simp [sliceBounds, HT.sIx]
    | some i =>
      simp only [sliceBounds, HT.sIx, Option.getD_none, show (1 : Int) > 0 by decide, if_true]
      by_cases h : i < 0
      · simp only [h, if_true] <;> omega
      · simp only [h, if_false] <;> omega
theorem slicePick_cut (its : List Value) (lo hi : Option Int) : slicePick its.toArray lo hi none = ((its.drop (HT.sIx its.length 0 lo)).take (HT.sIx its.length its.length hi - HT.sIx its.length 0 lo)).toArray := by
  obtain ⟨h1, h2, h3⟩ := slice_bounds lo hi its.toArray.size
  unfold slicePick
  rw [h1, h2, h3]
  simp only [sliceRange_one, pick_run, List.size_toArray] <;> rfl
def rSlL (K : PySem.W.Frag) : V → Option Int → Option Int → Hp → VK → Prop := fun x lo hi H Q => ∃ a xs, x = .ref a ∧ SqL K H a xs ∧ ∀ p, H p = none → Q (.ref p) (upd H p (.lst (cutV xs lo hi)))
theorem sl_list : SlR X (rSlL X.K) := by
  intro pins s σ H x v vl vu lo hi sl Q I rx hs pl pu h
  obtain ⟨a, xs, rfl, hx, q⟩ := h
  cases rx
  obtain ⟨its, r, ht, hz⟩ := I.list hx
  have hlen := r.length
  refine ⟨"list", _, slot_list_getitem.lookup, ht.isList.typeIs, ?_⟩
  refine wpAny_getItem_list_slice ht.isList hs pl pu .none (by simp) ?_ (by rw [List.size_toArray] <;> omega)
  rw [slicePick_cut, ← hlen]
  refine ⟨.ref s.heap.objs.size, _, I.laid (t' := s.toks) (o := .lst (cutV xs lo hi)) (fun b ob q => Heap.get?_push_of_some _ q) (Nat.le_refl _) ?_, rfl, q _ (I.hok.fresh (Nat.le_refl _))⟩
  exact ⟨Nat.le_trans (cutV_length xs lo hi) hz, _, 0, (r.drop (HT.sIx xs.length 0 lo)).take (HT.sIx xs.length xs.length hi - HT.sIx xs.length 0 lo), Heap.get?_push_size _ rfl⟩
def flatV : V → Bool
  | .non => true
  | .bl _ => true
  | .int _ => true
  | .str _ => true
  | _ => false
def eqV : V → V → Bool
  | .non, .non => true
  | .bl a, .bl b => a == b
  | .bl a, .int b => (if a then 1 else 0) == b
  | .int a, .bl b => a == (if b then 1 else 0)
  | .int a, .int b => a == b
  | .str a, .str b => a == b
  | _, _ => false
theorem eqAt_V {A : Around} {s : Shared} {y x : V} {u v : Value} (ry : RelV y u) (rx : RelV x v) (fy : flatV y = true) (fx : flatV x = true) : SeqAt.EqAt A s u v (eqV y x) := by
  cases y with
  | non =>
    cases ry
    cases x with
    | non => cases rx; exact SeqAt.EqAt.same _
    | bl b => cases rx; exact SeqAt.EqAt.none_bool b
    | int b => obtain ⟨t, rfl⟩ := rx; exact SeqAt.EqAt.none_int b t
    | str b => obtain ⟨t, rfl⟩ := rx; exact SeqAt.EqAt.none_str b t
    | _ => exact absurd (show false = true from fx) Bool.false_ne_true
  | bl a =>
    cases ry
    cases x with
    | non => cases rx; exact SeqAt.EqAt.bool_none a
    | bl b => cases rx; exact SeqAt.EqAt.bool_bool a b
    | int b => obtain ⟨t, rfl⟩ := rx; exact SeqAt.EqAt.bool_int a b t
    | str b => obtain ⟨t, rfl⟩ := rx; exact SeqAt.EqAt.bool_str a b t
    | _ => exact absurd (show false = true from fx) Bool.false_ne_true
  | int a =>
    obtain ⟨t', rfl⟩ := ry
    cases x with
    | non => cases rx; exact SeqAt.EqAt.int_none a t'
    | bl b => cases rx; exact SeqAt.EqAt.int_bool a t' b
    | int b => obtain ⟨t, rfl⟩ := rx; exact SeqAt.EqAt.int_int a t' b t
    | str b => obtain ⟨t, rfl⟩ := rx; exact SeqAt.EqAt.int_str a t' b t
    | _ => exact absurd (show false = true from fx) Bool.false_ne_true
  | str a =>
    obtain ⟨t', rfl⟩ := ry
    cases x with
    | non => cases rx; exact SeqAt.EqAt.str_none a t'
    | bl b => cases rx; exact SeqAt.EqAt.str_bool a t' b
    | int b => obtain ⟨t, rfl⟩ := rx; exact SeqAt.EqAt.str_int a t' b t
    | str b => obtain ⟨t, rfl⟩ := rx; exact SeqAt.EqAt.str_str a t' b t
    | _ => exact absurd (show false = true from fx) Bool.false_ne_true
  | _ => exact absurd (show false = true from fy) Bool.false_ne_true
def eqU (x : V) (u : Value) : Bool := match u with
  | .none => eqV .non x
  | .bool b => eqV (.bl b) x
  | .int i _ => eqV (.int i) x
  | .str z _ => eqV (.str z) x
  | _ => false
theorem eqU_of {x y : V} {u : Value} (r : RelV y u) (f : flatV y = true) : eqU x u = eqV y x := by
  cases y with
  | non => cases r; rfl
  | bl b => cases r; rfl
  | int i => obtain ⟨t, rfl⟩ := r; rfl
  | str z => obtain ⟨t, rfl⟩ := r; rfl
  | _ => exact absurd (show false = true from f) Bool.false_ne_true
theorem any_eqU {x : V} : ∀ {xs : List V} {us : List Value}, Vals xs us → xs.all flatV = true → us.any (eqU x) = xs.any fun y => eqV y x
  | _, _, .nil, _ => rfl
  | y :: xs, u :: us, .cons r t, f => by
    rw [List.all_cons, Bool.and_eq_true] at f
    rw [List.any_cons, List.any_cons, eqU_of r f.1, any_eqU t f.2]
theorem mem_eqAt {A : Around} {s : Shared} {x : V} {v : Value} (rx : RelV x v) (fx : flatV x = true) : ∀ {xs : List V} {us : List Value}, Vals xs us → xs.all flatV = true → ∀ u ∈ us, SeqAt.EqAt A s u v (eqU x u)
  | _, _, .nil, _ => fun u hu => by cases hu
  | y :: xs, u :: us, .cons r t, f => fun u' hu => by
    rw [List.all_cons, Bool.and_eq_true] at f
    rcases List.mem_cons.mp hu with rfl | hu
    · rw [eqU_of r f.1]; exact eqAt_V r rx f.1 fx
    · exact mem_eqAt rx fx t f.2 u' hu
def inV (x : V) (xs : List V) : Bool := xs.any fun y => eqV y x
def rIn (K : PySem.W.Frag) (neg : Bool) : R2 := fun x y H Q => ∃ p xs, y = .ref p ∧ (SqL K H p xs ∨ SqT K H p xs) ∧ flatV x = true ∧ xs.all flatV = true ∧ Q (.bl (if neg then !inV x xs else inV x xs)) H
theorem op_notIn_seq : OpR X (compareOp .NotIn) (rIn X.K true) := by
  intro pins s σ H x y v u Q I rx ry h
  obtain ⟨p, xs, rfl, hq, fx, fs, q⟩ := h
  cases ry
  rcases hq with hq | hq
  · obtain ⟨its, r, pl, hz⟩ := I.list hq
    refine SeqAt.notIn_listAt (eqU x) pl.isList (fun w hw => mem_eqAt rx fx r fs w (by simpa using hw)) ⟨.bl _, H, I, rfl, ?_⟩
    rw [show its.toArray.any (eqU x) = its.any (eqU x) by simp, any_eqU r fs]
    exact q
  · obtain ⟨its, r, pl, hz⟩ := I.tuple hq
    refine SeqAt.notIn_tupleAt (eqU x) pl (fun w hw => mem_eqAt rx fx r fs w (by simpa using hw)) ⟨.bl _, H, I, rfl, ?_⟩
    rw [show its.toArray.any (eqU x) = its.any (eqU x) by simp, any_eqU r fs]
    exact q
theorem call_len_seq : CallR X (.builtin "len") (fun xs H Q => ∃ p ys, xs = [.ref p] ∧ (SqL X.K H p ys ∨ SqT X.K H p ys) ∧ Q (.int ys.length) H) := by
  intro pins s σ H xs us Q I r h
  obtain ⟨p, ys, rfl, hq, q⟩ := h
  obtain ⟨u, rfl, rx⟩ := vals1 r
  cases rx
  have hn := line63
  rcases hq with hq | hq
  · obtain ⟨its, r', pl, hz⟩ := I.list hq
    have hlen := r'.length
    exact Calls.call_len_list pl.isList (by simp only [List.size_toArray] <;> omega) ⟨.int ys.length, H, I.tok _, ⟨s.toks + 1, by rw [List.size_toArray, hlen]⟩, q⟩
  · obtain ⟨its, r', pl, hz⟩ := I.tuple hq
    have hlen := r'.length
    exact len_tuple pl (by simp only [List.size_toArray] <;> omega) ⟨.int ys.length, H, I.tok _, ⟨s.toks + 1, by rw [List.size_toArray, hlen]⟩, q⟩
theorem CallR.or {f : Value} {r r' : List V → Hp → VK → Prop} (h : CallR X f r) (h' : CallR X f r') : CallR X f (fun xs H Q => r xs H Q ∨ r' xs H Q) := by
  intro pins s σ H xs us Q I rs q
  rcases q with q | q
  · exact h pins s σ H xs us Q I rs q
  · exact h' pins s σ H xs us Q I rs q
theorem call_list_of : CallR X (.type "list") (fun xs H Q => ∃ p ys, xs = [.ref p] ∧ (SqL X.K H p ys ∨ SqT X.K H p ys) ∧ ∀ l, H l = none → Q (.ref l) (upd H l (.lst ys))) := by
  intro pins s σ H xs us Q I r h
  obtain ⟨p, ys, rfl, hq, q⟩ := h
  obtain ⟨u, rfl, rx⟩ := vals1 r
  cases rx
  have fin : ∀ (its : List Value), Vals ys its → ys.length ≤ sizeLine → ∀ (h' : Heap) (c' : Nat), (∀ b o', s.heap.get? b = some o' → h'.get? b = some o') →
      h'.get? s.heap.objs.size = some { cls := .type "list", dict := none, data := .seq its.toArray c', slots := #[] } → EP X pins σ Q (.ref s.heap.objs.size) { s with heap := h' } := fun its r' hz h' c' kp e =>
    ⟨.ref s.heap.objs.size, _, I.laid (t' := s.toks) kp (Nat.le_refl _) (show ObjOk X.prog X.w _ h' _ (.lst ys) from ⟨hz, its, c', r', e⟩), rfl, q _ (I.hok.fresh (Nat.le_refl _))⟩
  rcases hq with hq | hq
  · obtain ⟨its, r', pl, hz⟩ := I.list hq
    have hlen := r'.length
    obtain ⟨o, ho, hc, n, hd⟩ := pl.isList
    exact call_list_seq p (.inl rfl) ho hc hd (fun h' c' kp e => fin its r' hz h' c' kp e) (by simp only [List.size_toArray] <;> omega)
  · obtain ⟨its, r', pl, hz⟩ := I.tuple hq
    have hlen := r'.length
    obtain ⟨o, ho, hc, n, hd⟩ := pl
    exact call_list_seq p (.inr rfl) ho hc hd (fun h' c' kp e => fin its r' hz h' c' kp e) (by simp only [List.size_toArray] <;> omega)
theorem call_tuple_of : CallR X (.type "tuple") (fun xs H Q => ∃ p ys, xs = [.ref p] ∧ ((SqL X.K H p ys ∧ ∀ l, H l = none → Q (.ref l) (upd H l (.tup ys))) ∨ (SqT X.K H p ys ∧ Q (.ref p) H))) := by
  intro pins s σ H xs us Q I r h
  obtain ⟨p, ys, rfl, h⟩ := h
  obtain ⟨u, rfl, rx⟩ := vals1 r
  cases rx
  rcases h with ⟨hq, q⟩ | ⟨hq, q⟩
  · obtain ⟨its, r', pl, hz⟩ := I.list hq
    have hlen := r'.length
    refine call_tuple_list pl.isList (fun h' kp => ?_) (by simp only [List.size_toArray] <;> omega)
    have I1 : Inv X pins σ H { s with heap := h' } := I.kept (t' := s.toks) kp
    have I2 : Inv X pins σ (upd H h'.objs.size (.tup ys)) { s with heap := h'.push { cls := .type "tuple", data := .seq its.toArray } } :=
      I1.laid (t' := s.toks) (fun b o e => Heap.get?_push_of_some _ e) (Nat.le_refl _) (show ObjOk X.prog X.w _ _ _ (.tup ys) from ⟨hz, its, r', IsTup.new _ _⟩)
    exact ⟨.ref h'.objs.size, _, I2, rfl, q _ (I1.hok.fresh (Nat.le_refl _))⟩
  · obtain ⟨its, r', pl, hz⟩ := I.tuple hq
    exact call_tuple_same pl ⟨.ref p, H, I, rfl, q⟩
def tyV (K : PySem.W.Frag) (T : String) (x : V) (H : Hp) : Prop := match x with
  | .str _ => T = "str"
  | .int _ => T = "int"
  | .ref p => (T = "list" ∧ ∃ xs, SqL K H p xs) ∨ (T = "tuple" ∧ ∃ o, K.lookup p = some o ∧ o.cls = .type "tuple" ∧ o.dict = none) ∨
      (T = "dict" ∧ ((∃ kvs, H p = some (.dK kvs)) ∨ ∃ kvs, H p = some (.dT kvs))) ∨ (T = "set" ∧ ∃ S n, H p = some (.set S n))
  | _ => False
theorem tyV_is {pins : List (Addr × Obj)} {σ : St} {H : Hp} {s : Shared} {T : String} {x : V} {v : Value} (I : Inv X pins σ H s) (r : RelV x v) (ty : tyV X.K T x H) :
    s.TypeIs v T ∧ ∀ a, v = .ref a → ∃ ob, s.heap.get? a = some ob ∧ ob.dict = none := by
  cases x with
  | str z =>
    obtain ⟨t, rfl⟩ := r
    cases (show T = "str" from ty)
    exact ⟨typeIs_str s z t, fun _ e => nomatch e⟩
  | int i =>
    obtain ⟨t, rfl⟩ := r
    cases (show T = "int" from ty)
    exact ⟨typeIs_int s i t, fun _ e => nomatch e⟩
  | ref p =>
    cases r
    rcases ty with ⟨rfl, xs, hq⟩ | ⟨rfl, o, hk, hc, hd⟩ | ⟨rfl, hk⟩ | ⟨rfl, S, n, hk⟩
    · obtain ⟨its, _, pl, _⟩ := I.list hq
      refine ⟨pl.isList.typeIs, fun a e => ?_⟩
      cases e
      obtain ⟨o, n, e, c, hd, _⟩ := pl
      exact ⟨o, e, hd⟩
    · refine ⟨⟨o, I.kIn p o hk, hc⟩, fun a e => ?_⟩
      cases e
      exact ⟨o, I.kIn _ o hk, hd⟩
    · have z : ∃ o, s.heap.get? p = some o ∧ o.ExactDict := by
        rcases hk with ⟨kvs, hk⟩ | ⟨kvs, hk⟩
        · obtain ⟨_, _, _, _, o, _, _, e, ex, _⟩ := I.hok p _ hk
          exact ⟨o, e, ex⟩
        · obtain ⟨_, _, _, _, o, _, _, e, ex, _⟩ := I.hok p _ hk
          exact ⟨o, e, ex⟩
      obtain ⟨o, e, ex⟩ := z
      refine ⟨⟨o, e, ex.1⟩, fun a e2 => ?_⟩
      cases e2
      exact ⟨o, e, ex.2.1⟩
    · obtain ⟨o, _, _, _, e, ex, _⟩ := I.hok p _ hk
      refine ⟨⟨o, e, ex.1⟩, fun a e2 => ?_⟩
      cases e2
      exact ⟨o, e, ex.2.1⟩
  | _ => exact False.elim ty
def tBM0 (K : PySem.W.Frag) (T : String) (r : V → List V → Hp → VK → Prop) (to : TE) : TE := fun σ H Q => to σ H fun x H1 => tyV K T x H1 ∧ r x [] H1 Q
def tBM (K : PySem.W.Frag) (T : String) (r : V → List V → Hp → VK → Prop) (to : TE) (t : TA) : TE := fun σ H Q => to σ H fun x H1 => tyV K T x H1 ∧ t σ H1 fun xs H2 => r x xs H2 Q
variable {o e : Expr} {es : List Expr} {to : TE} {t : TA} {name : Str} {apos cpos : Pos} {T id : String} {r : V → List V → Hp → VK → Prop}
theorem pe_bm0 (pa : PlainAttrs T) (slot : Slot T name id) (hty : typeOf (.builtin id) = pure (.type "method_descriptor")) (hm : MtR X id r) (ho : PE X o to)
    (hbase : attributeBase o name X.env (eval o X.env) = eval o X.env := by rfl) (hline : (apos.endLine == cpos.line) = true := by rfl) : PE X (.Call (.Attribute o name apos) [] [] cpos) (tBM0 X.K T r to) := by
  intro pins s σ H Q I h
  refine wpAny_Call_method0_late hbase hline (thn (ho pins s σ H _ I h) fun v s1 ⟨x, H1, I1, r1, ty, q1⟩ => ?_)
  obtain ⟨h1, h2⟩ := tyV_is I1 r1 ty
  exact ⟨T, id, pa, slot, hty, h1, h2, Calls.callWith_builtin rfl (PySem.evalArgs_none (hm pins s1 σ H1 x [] v [] Q I1 r1 .nil q1))⟩
theorem pe_bm (pa : PlainAttrs T) (slot : Slot T name id) (hty : typeOf (.builtin id) = pure (.type "method_descriptor")) (hm : MtR X id r) (ho : PE X o to) (ha : PA X (e :: es) t)
    (hbase : attributeBase o name X.env (eval o X.env) = eval o X.env := by rfl)
    (hfew : ((backTo cpos (starEach (e :: es) X.env)).all (fun x => !x.1) && (backToKw cpos (keywordEach [] X.env)).all (fun x => x.1.isSome)
      && decide ((e :: es).length + ([] : List Keyword).length + (if ([] : List Keyword).isEmpty then 0 else 1) < 30)) = true := by rfl)
    (hline : (apos.endLine == cpos.line) = true := by rfl) (hs : starEach (e :: es) X.env = (false, eval e X.env) :: starEach es X.env := by rfl) (hplain : (backTo cpos (starEach es X.env)).any (·.1) = false := by rfl) :
    PE X (.Call (.Attribute o name apos) (e :: es) [] cpos) (tBM X.K T r to t) := by
  intro pins s σ H Q I h
  refine wpAny_Call_method_late hbase hfew hline rfl (thn (ho pins s σ H _ I h) fun v s1 ⟨x, H1, I1, r1, ty, q1⟩ => ?_)
  obtain ⟨h1, h2⟩ := tyV_is I1 r1 ty
  refine ⟨T, id, pa, slot, hty, h1, h2, ?_⟩
  have hA := ha cpos pins s1 σ H1 _ I1 q1
  rw [hs] at hA ⊢
  refine Calls.callWith_builtin (by show (false || (backTo cpos (starEach es X.env)).any (·.1)) = false; rw [hplain] <;> rfl) (Calls.evalArgs_plain ?_)
  exact thn hA fun us s2 ⟨vs, H2, I2, r2, q2⟩ => hm pins s2 σ H2 x vs v us Q I2 r1 r2 q2
end
end L2
namespace L2
open PySem PySem.Spec PyProof.Rows
def MtM (X : Cx) (id : String) (r : V → List V → Hp → VK → Prop) : Prop :=
  ∀ (pins : List (Addr × Obj)) (s : Shared) (σ : St) (H : Hp) (x : V) (xs : List V) (v : Value) (us : List Value) (Q : VK), Inv X pins σ H s → RelV x v → Vals xs us → r x xs H Q →
    wpAny (model X.prog X.w) X.A (call (.builtin id) (v :: us)) (EP X pins σ Q) X.xe s
theorem Vals.one : ∀ {x : V} {us : List Value}, Vals [x] us → ∃ u, us = [u] ∧ RelV x u
  | _, _, .cons r .nil => ⟨_, rfl, r⟩
theorem Vals.two : ∀ {x y : V} {us : List Value}, Vals [x, y] us → ∃ u v, us = [u, v] ∧ RelV x u ∧ RelV y v
  | _, _, _, .cons r (.cons q .nil) => ⟨_, _, rfl, r, q⟩
theorem Vals.zero : ∀ {us : List Value}, Vals [] us → us = []
  | _, .nil => rfl
theorem Vals.dropLast {xs : List V} {us : List Value} (h : Vals xs us) : Vals xs.dropLast us.dropLast := by
  induction h with
  | nil => exact .nil
  | cons r t ih =>
    cases t with
    | nil => exact .nil
    | cons q t' => exact .cons r ih
theorem Vals.eraseIdx : ∀ {xs : List V} {us : List Value} (i : Nat), Vals xs us → Vals (xs.eraseIdx i) (us.eraseIdx i)
  | _, _, _, .nil => .nil
  | _, _, 0, .cons _ t => t
  | _, _, i + 1, .cons r t => .cons r (Vals.eraseIdx i t)
theorem Vals.reverse {xs : List V} {us : List Value} (h : Vals xs us) : Vals xs.reverse us.reverse := by
  induction h with
  | nil => exact .nil
  | cons r t ih => rw [List.reverse_cons, List.reverse_cons]; exact Vals.append ih (.cons r .nil)
section
variable {X : Cx} {pins : List (Addr × Obj)} {σ : St} {H : Hp} {s : Shared} {l b : Addr} {xs ys zs : List V}
theorem Inv.lset {its its' : List Value} {n : Nat} {f : Array Value → Array Value} {t' : Nat} (I : Inv X pins σ H s) (hH : H l = some (.lst xs))
    (e : s.heap.get? l = some { cls := .type "list", data := .seq its.toArray n }) (hf : f its.toArray = its'.toArray) (hv : Vals ys its') (hz : ys.length ≤ sizeLine) :
    Inv X pins σ (upd H l (.lst ys)) { s with heap := s.heap.update l (Obj.mapSeq f), toks := t' } := by
  have q := PySem.IsL.update e f
  rw [hf] at q
  refine I.write (x := l) (e := l) (by rw [hH]; exact trivial) (.inl rfl) (fun b' u hb hu => (Heap.get?_update_other s.heap (Obj.mapSeq f) (Ne.symm hb)).trans hu) ⟨_, q⟩ ?_
  exact ⟨hz, its', _, hv, q⟩
theorem Inv.lnew {its : List Value} {t' : Nat} (I : Inv X pins σ H s) (hv : Vals ys its) (hz : ys.length ≤ sizeLine) :
    Inv X pins σ (upd H s.heap.objs.size (.lst ys)) { s with heap := s.heap.push { cls := .type "list", data := .seq its.toArray }, toks := t' } :=
  I.laid (fun _ _ q => Heap.get?_push_of_some _ q) (Nat.le_refl _) ⟨hz, its, 0, hv, Heap.get?_push_size _ rfl⟩
theorem Inv.fresh (I : Inv X pins σ H s) : H s.heap.objs.size = none := I.hok.fresh (Nat.le_refl _)
theorem Inv.lstM (I : Inv X pins σ H s) (hH : H l = some (.lst xs)) : xs.length ≤ sizeLine ∧ ∃ (its : List Value) (n : Nat), Vals xs its ∧ xs.length = its.length ∧ s.heap.get? l = some { cls := .type "list", data := .seq its.toArray n } := by
  obtain ⟨z, its, n, r, e⟩ := I.hok l _ hH
  exact ⟨z, its, n, r, r.length, e⟩
end
section
variable {X : Cx}
def rAppend : V → List V → Hp → VK → Prop := fun x vs H Q => ∃ l xs y, x = .ref l ∧ vs = [y] ∧ H l = some (.lst xs) ∧ xs.length < sizeLine ∧ Q .non (upd H l (.lst (xs ++ [y])))
theorem mt_append : MtM X "list.append" rAppend := by
  intro pins s σ H x vs v us Q I rx rv h
  obtain ⟨l, xs, y, rfl, rfl, hH, hz, q⟩ := h
  cases rx
  obtain ⟨u, rfl, ru⟩ := rv.one
  obtain ⟨z, its, n, r, hl, e⟩ := I.lstM hH
  refine call_meets F.slot_list_append ⟨_, e, rfl⟩ F.entry_list_append (F.args_list_append_2 _ _) (PySem.list_append l its.toArray n u (by rw [List.size_toArray]; omega)) ⟨e, ?_⟩
  refine ⟨.non, _, I.lset (its' := its ++ [u]) hH e (by simp) (r.append (.cons ru .nil)) ?_, rfl, q⟩
  rw [List.length_append, List.length_singleton]
  omega
def rExtend : V → List V → Hp → VK → Prop := fun x vs H Q => ∃ l b xs zs, x = .ref l ∧ vs = [.ref b] ∧ H l = some (.lst xs) ∧ H b = some (.lst zs) ∧ xs.length + zs.length ≤ sizeLine ∧ Q .non (upd H l (.lst (xs ++ zs)))
def rPop : V → List V → Hp → VK → Prop := fun x vs H Q => ∃ l xs y, x = .ref l ∧ vs = [] ∧ H l = some (.lst xs) ∧ xs[xs.length - 1]? = some y ∧ Q y (upd H l (.lst xs.dropLast))
def rPopAt : V → List V → Hp → VK → Prop := fun x vs H Q => ∃ l xs i k y, x = .ref l ∧ vs = [.int i] ∧ H l = some (.lst xs) ∧ -(2 ^ 63) ≤ i ∧ i < 2 ^ 63 ∧ seqIndex? i xs.length = some k ∧ xs[k]? = some y ∧ Q y (upd H l (.lst (xs.eraseIdx k)))
def rReverse : V → List V → Hp → VK → Prop := fun x vs H Q => ∃ l xs, x = .ref l ∧ vs = [] ∧ H l = some (.lst xs) ∧ Q .non (upd H l (.lst xs.reverse))
def rClear : V → List V → Hp → VK → Prop := fun x vs H Q => ∃ l xs, x = .ref l ∧ vs = [] ∧ H l = some (.lst xs) ∧ Q .non (upd H l (.lst []))
def rCat : R2 := fun x y H Q => ∃ l b xs zs, x = .ref l ∧ y = .ref b ∧ H l = some (.lst xs) ∧ H b = some (.lst zs) ∧ xs.length + zs.length ≤ sizeLine ∧ ∀ p, H p = none → Q (.ref p) (upd H p (.lst (xs ++ zs)))
theorem op_cat : OpR X (binaryOp .Add) rCat := by
  intro pins s σ H x y v u Q I rx ry h
  obtain ⟨l, b, xs, zs, rfl, rfl, hH, hB, hz, q⟩ := h
  cases rx
  cases ry
  obtain ⟨z, its, n, r, hl, e⟩ := I.lstM hH
  obtain ⟨z2, its2, n2, r2, hl2, e2⟩ := I.lstM hB
  refine PySem.P.add_list e e2 ?_ (by rw [List.size_toArray, List.size_toArray]; omega)
  have ea : its.toArray ++ its2.toArray = (its ++ its2).toArray := by simp
  rw [ea]
  exact ⟨.ref _, _, I.lnew (t' := s.toks) (r.append r2) (by rw [List.length_append]; omega), rfl, q _ I.fresh⟩
def rRep : R2 := fun x y H Q => ∃ l k xs, x = .ref l ∧ y = .int k ∧ H l = some (.lst xs) ∧ -(2 ^ 63) ≤ k ∧ k < 2 ^ 63 ∧ xs.length * k.toNat ≤ sizeLine ∧
  ∀ p, H p = none → Q (.ref p) (upd H p (.lst (List.replicate k.toNat xs).flatten))
end
section
variable {prog : Program} {w : World} {A : Around} {E : Value → Shared → Prop} {s : Shared}
end
section
variable {X : Cx}
end
end L2
namespace Att
open PySem PySem.W PySem.Calls PyProof.Rows
theorem ints_of_wellAll {P : Params} {h : Heap} : ∀ (ns : List Int) (vs : List Value), WellAll P h vs (ns.map WData.int) → IntsAre vs ns := by
  intro ns
  induction ns with
  | nil =>
    intro vs w
    rw [List.map_nil] at w
    cases w
    exact .nil
  | cons n ns ih =>
    intro vs w
    rw [List.map_cons] at w
    cases w with
    | cons a b =>
      cases a
      exact .cons _ _ (ih _ b)
theorem script_of {l : OpenLaw} {n : Nat} (hn : l.most = some n) {P : Params} {h : Heap} {args : List WData} {vals : List Value}
    (hpre : l.row.toRowW.claim.pre args = true) (hwl : WellAll P h vals args) :
    ∃ a vs ns, vals = [Value.ref a] ∧ args = [WData.list (ns.map WData.int)] ∧ h.get? a = some { cls := .type "list", data := .seq vs.toArray } ∧ IntsAre vs ns ∧ ns.length ≤ n := by
  have hsh : WShape.hasAll [] args [.list .int] = true := (pre_splitW hpre).1
  have hc : l.pre.holds [] { args := args } = true := (pre_splitW hpre).2
  obtain ⟨d, r, rfl, h1, h2⟩ := hasAllW_cons hsh
  obtain rfl := hasAllW_nil h2
  obtain ⟨xs, rfl, h3⟩ := hasW_list h1
  obtain ⟨ns, rfl⟩ := items_int h3
  have hlen : ns.length ≤ n := by
    unfold OpenLaw.pre at hc
    have h4 : (WTm.not (.lt (.lit (.int (n : Int))) (.len (.arg 0)))).holds [] { args := [.list (ns.map .int)] } = true := by
      have h4 := (holds_andW hc).1
      rw [hn] at h4
      exact h4
    have h5 := condW_of h4 (w_not (w_lt w_lit (w_len_list (w_arg rfl))))
    rw [List.length_map] at h5
    refine Nat.le_of_not_lt fun q => ?_
    have q' : (n : Int) < ((ns.length : Nat) : Int) := by omega
    first
      | (rw [decide_eq_true q'] at h5; exact absurd h5 (by decide))
      | (simp at h5; omega)
  cases hwl with
  | cons w1 w2 =>
    cases w2
    cases w1 with
    | list ho hall => exact ⟨_, _, ns, rfl, rfl, ho, ints_of_wellAll ns _ hall, hlen⟩
theorem post_true (l : OpenLaw) (args : List WData) : l.row.toRowW.claim.post args (.bool true) args = true :=
  postW_of (r := l.row.toRowW) (X := (true == true))
    (show WShape.has [] (.bool true) .bool = true by first | rfl | decide | simp [WShape.has, WShape.arms, WShape.armsAll])
    (show (WTm.eq .res (.lit (.bool true))).value [] { args := args, res := some (.bool true), after := args } = some (.bool (true == true)) from w_eq_bool (w_res rfl) w_lit) rfl
section
variable {prog : Program} {w : World} {A : Around} {E : Value → Shared → Prop} {s : Shared} {K : Frag}
def noObjs (h : Heap) : Heap := { h with objs := #[] }
def ledger (h : Heap) (L d : Addr) : List (Addr × Obj) := (List.range h.objs.size).filterMap fun a => if a = L ∨ a = d then none else (h.get? a).map fun o => (a, o)
end
end Att
namespace L2
open PySem PySem.Spec PyProof.Rows
theorem vals_ints : ∀ {vs : List Value} {ns : List Int}, IntsAre vs ns → Vals (ns.map V.int) vs
  | _, _, .nil => .nil
  | _, _, .cons n t h => .cons ⟨t, rfl⟩ (vals_ints h)
def Only (H : Hp) : Prop := ∀ b, H b = none ∨ ∃ o xs, H b = some (.frz o (.lst xs))
theorem law_call {P : Program} {w : World} {K : PySem.W.Frag} {mg mb : Str → Option Value} {CX : CXT} {k : Nat} {fa a : Addr} {fd : FuncData} {x : Str} {sp : Sp} {s₁ : Shared} {vs : List Value} {ns : List Int}
    (KX : K.In s₁.heap) (hns : s₁.heap.Ns mainGlobals mg) (hb : s₁.heap.Ns builtinsNs mb) (hbb : ∀ x : Str, x ≠ "__name__" → mb x = bootBuiltins x) (hlim : s₁.heap.NoLimit) (hg : s₁.gens = #[])
    (ha : s₁.heap.get? a = some { cls := .type "list", data := .seq vs.toArray }) (hi : IntsAre vs ns) (hl : ns.length ≤ sizeLine) (hr : Room k callerA)
    (F : ∀ base : Heap, K.In base → base.Ns mainGlobals mg → FnOk P w K mg base CX k fa fd [x] sp) (hbind : ∀ (s : Shared) (u : Value), BindsTo s fd ⟨[u], []⟩ [(x, u)])
    (hsp : ∀ H : Hp, Only H → SqL K H a (ns.map V.int) → sp [.ref a] H (fun v _ => v = .bl true) fun _ _ _ => False)
    (hCX : ∀ H e s', CX [] H s₁ (fun _ _ _ => False) e s' → False) :
    codeAny (model P w) callerA (.call (.ref fa) ⟨[.ref a], []⟩) (fun r s' => r = .ok (.ret (.bool true)) ∧ OldK s₁.heap s'.heap ∧ s'.os = s₁.os ∧ AllBare s'.gens) s₁ := by
  have rv := vals_ints hi
  have lenV := hi.length
  have core : ∀ H : Hp, Only H → SqL K H a (ns.map V.int) → HOk P w H s₁.heap → (∀ b, H b ≠ none → b = a) → (H a ≠ none → K.lookup a = none) →
      codeAny (model P w) callerA (.call (.ref fa) ⟨[.ref a], []⟩) (fun r s' => r = .ok (.ret (.bool true)) ∧ OldK s₁.heap s'.heap ∧ s'.os = s₁.os ∧ AllBare s'.gens) s₁ := by
    intro H hO hS hok hA hK
    have base_of : ∀ {b : Addr} {o : Obj}, s₁.heap.get? b = some o → H b = none → (hidT s₁.heap H).get? b = some o := fun e n => hidT_get e n
    have noA : ∀ {b : Addr} {o : Obj} {es : Array DictEntry} {ep : Nat}, s₁.heap.get? b = some o → o.data = .dict es ep → H b = none := fun {b o es ep} e d => by
      cases q : H b with
      | none => rfl
      | some u =>
        have e' : b = a := hA b (by rw [q]; simp)
        subst e'
        rw [ha] at e; cases e
        have d' : Data.seq vs.toArray _ = Data.dict es ep := d
        cases d'
    have nsK : ∀ {b : Addr} {m : Str → Option Value}, s₁.heap.Ns b m → (hidT s₁.heap H).Ns b m := fun {b m} ⟨o, es, ep, e, d, r⟩ => ⟨o, es, ep, base_of e (noA e d), d, r⟩
    have hKb : K.In (hidT s₁.heap H) := fun b o e => base_of (KX b o e) (by
      cases q : H b with
      | none => rfl
      | some u =>
        have e' : b = a := hA b (by rw [q]; simp)
        subst e'
        rw [hK (by rw [q]; simp)] at e; cases e)
    have hM : Mod K mg (hidT s₁.heap H) := ⟨hKb, nsK hns, ⟨mb, nsK hb, hbb⟩, let ⟨mc, h1, h2⟩ := hlim; ⟨mc, nsK h1, h2⟩⟩
    have e0 : Env0 P w K mg (hidT s₁.heap H) callerA [] s₁ H := ⟨rfl, hM, fun b o e => of_hidT e, Nat.le_of_eq (hidT_size _ _), trivial, fun b hb => absurd (show b ∈ ([] : List Addr) from hb) (by simp), hok, .of_eq hg⟩
    refine codeAny_mono ((F _ hKb (nsK hns)).run callerA [] s₁ H ⟨[.ref a], []⟩ [.ref a] [.ref a] _ _ hr e0 (hbind s₁ (.ref a)) (.cons rfl .nil) (hsp H hO hS)) fun r s' h => ?_
    cases r with
    | error e => exact (hCX H e s' h).elim
    | ok fl =>
      cases fl with
      | next => exact False.elim h
      | brk => exact False.elim h
      | cont => exact False.elim h
      | ret u =>
        obtain ⟨v, H', os, bare, un, hok', r', q⟩ := h
        have q' : v = .bl true := q
        subst q'
        obtain rfl : u = Value.bool true := r'
        refine ⟨rfl, OldK.of_keep fun b o e => ?_, os, bare⟩
        cases q : H b with
        | none => exact un.keep b o e q (by intro z; exact absurd (show b ∈ ([] : List Addr) from z) (by simp)) (by simp)
        | some u =>
          rcases hO b with z | ⟨ob, xs, z⟩
          · rw [q] at z; cases z
          · have z2 := un.frzs b ob _ z
            obtain ⟨e1, _⟩ := hok b _ z
            obtain ⟨e2, _⟩ := hok' b _ z2
            rw [e] at e1; cases e1
            exact e2
  cases hk : K.lookup a with
  | some o =>
    have e := KX a o hk
    rw [ha] at e
    cases e
    refine core (fun _ => none) (fun _ => .inl rfl) (.inr ⟨_, vs.toArray, _, hk, rfl, rfl, rfl, by rw [List.size_toArray, lenV]; exact hl, by simpa using rv⟩) (fun b u z => by have z' : (none : Option HO) = some u := z; cases z') (fun b z => absurd rfl z) fun z => absurd rfl z
  | none =>
    refine core (fun b => if b = a then some (.frz { cls := .type "list", data := .seq vs.toArray } (.lst (ns.map V.int))) else none) (fun b => ?_) (.inl (.inr ⟨{ cls := .type "list", data := .seq vs.toArray }, if_pos rfl⟩)) (fun b u z => ?_) (fun b z => ?_) fun _ => hk
    · by_cases hb : b = a
      · exact .inr ⟨_, _, if_pos hb⟩
      · exact .inl (if_neg hb)
    · by_cases hb : b = a
      · have z' := (if_pos hb).symm.trans z
        cases z'
        subst hb
        exact ⟨ha, by rw [List.length_map]; exact hl, vs, _, rv, ha⟩
      · have z' := (if_neg hb).symm.trans z
        cases z'
    · by_cases hb : b = a
      · exact hb
      · exact absurd (if_neg hb) z
end L2
namespace L2
open PySem PySem.Spec PyProof.Rows
abbrev KOf {K : PySem.W.Frag} {h : Heap} (_ : K.In h) : PySem.W.Frag := K
end L2
namespace L2
open PySem PySem.Spec PyProof.Rows
def inClass (s : Stmt) (j : Nat) : Stmt := match s with
  | .ClassDef _ _ _ body _ _ _ _ _ _ _ => body.getD j (.Pass ⟨0, 0, 0, 0⟩)
  | _ => .Pass ⟨0, 0, 0, 0⟩
def defArgs (s : Stmt) : Arguments := match s with
  | .FunctionDef _ a _ _ _ _ _ _ _ _ => a
  | _ => { posonlyargs := [], args := [], vararg := none, kwonlyargs := [], kw_defaults := [], kwarg := none, defaults := [] }
def defBody (s : Stmt) : List Stmt := match s with
  | .FunctionDef _ _ b _ _ _ _ _ _ _ => b
  | _ => []
def defScope (s : Stmt) : Scope := match s with
  | .FunctionDef _ _ _ _ _ _ sc _ _ _ => sc
  | _ => { kind := .function, names := [], isGenerator := false, isCoroutine := false }
abbrev CX0 : CXT := fun _ _ _ _ _ _ => False
abbrev E0 : XK := fun _ _ _ => False
theorem pass0 {X : Cx} : Passes CX0 X E0 := fun _ _ _ _ _ _ _ h => h.elim
structure Fun (K : PySem.W.Frag) (x qual : Str) (st : Stmt) (f : Addr) (fd : FuncData) : Prop where
  ex : ∃ (oc : Value) (od : Option Addr) (kV doc pm : Value) (an : Option Addr) (cdv ct : Value) (osl : Array (Option Value)),
    fd = PySem.W.fnOf x qual (defArgs st) (defBody st) (defScope st) .none kV doc pm an cdv ct ∧ K.lookup f = some ⟨oc, od, .func fd, osl⟩ ∧ PySem.W.codeIn K cdv qual = true
  kp : PySem.W.keepIn K (.ref f) = true
section
variable {P : Program} {w : World} {K : PySem.W.Frag} {mg : Str → Option Value} {base : Heap}
theorem Fun.ok {x qual : Str} {st : Stmt} {f : Addr} {fd : FuncData} {N ps : List Str} {k : Nat} {sp : Sp} (F : Fun K x qual st f fd) (S : FnScope N ps (defScope st)) (len : ∀ vs H Q E, sp vs H Q E → vs.length = ps.length)
    (hbody : ∀ (cdv : Value) (A : Around) (outer : List Env) (s : Shared) (H : Hp) (vs : List V) (Q : VK) (E : XK), Room k (A.deeper (envOfC qual (defScope st) s.heap.objs.size f cdv)) → sp vs H Q E →
      ∃ t, PSs (cxOf CX0 P w K mg base N qual (defScope st) f cdv A outer s H E).nox (defBody st) t ∧ t { nx := fun _ H' => Q .non H', rt := Q } (start N vs) H) : FnOk P w K mg base CX0 (k + 1) f fd ps sp := by
  obtain ⟨oc, od, kV, doc, pm, an, cdv, ct, osl, rfl, lk, hcd⟩ := F.ex
  refine fn_of lk hcd S len fun A outer s H vs Q E hr hsp => ?_
  obtain ⟨t, h, q⟩ := hbody cdv A outer s H vs Q E hr hsp
  exact ⟨t, h.nox, q⟩
theorem Fun.binds {x qual : Str} {st : Stmt} {f : Addr} {fd : FuncData} {ps : List Str} (F : Fun K x qual st f fd)
    (h : ∀ (kV doc pm : Value) (an : Option Addr) (cdv ct : Value) (us : List Value), us.length = ps.length → bindArgs (PySem.W.fnOf x qual (defArgs st) (defBody st) (defScope st) .none kV doc pm an cdv ct) ⟨us, []⟩ = pure (ps.zip us)) : Binds K fd ps [] := by
  obtain ⟨oc, od, kV, doc, pm, an, cdv, ct, osl, rfl, lk, hcd⟩ := F.ex
  exact .all (h kV doc pm an cdv ct)
theorem fun_mk {x qual : Str} {st : Stmt} {f : Addr} {oc : Value} {od an : Option Addr} {osl : Array (Option Value)} {kV doc pm cdv ct : Value} (l : K.lookup f = some ⟨oc, od, .func (PySem.W.fnOf x qual (defArgs st) (defBody st) (defScope st) .none kV doc pm an cdv ct), osl⟩)
    (c : PySem.W.codeIn K cdv qual = true) (k : PySem.W.keepIn K (.ref f) = true) : Fun K x qual st f (PySem.W.fnOf x qual (defArgs st) (defBody st) (defScope st) .none kV doc pm an cdv ct) := ⟨⟨oc, od, kV, doc, pm, an, cdv, ct, osl, rfl, l, c⟩, k⟩
end
theorem small1000 {n : Nat} (h : n ≤ 1000) : n < sizeLine := Nat.lt_of_le_of_lt h (by decide)
section
variable {X : Cx}
theorem pv (i : Nat) {x : Str} {pos : Pos} (hN : X.N[i]? = some x := by rfl) (hv : Vis X.env.scope x := by first | exact Or.inl rfl | exact Or.inr (Or.inl rfl) | exact Or.inr (Or.inr rfl)) (hd : (x == ("__debug__" : Str)) = false := by decide)
    (hcd : (x == ("__classdict__" : Str)) = false := by decide) : PE X (.Name x pos) (tVar i) := pe_var hN hv hd hcd
end
def Same (H H' : Hp) : Prop := ∀ b o, H b = some o → H' b = some o
theorem Same.refl (H : Hp) : Same H H := fun _ _ h => h
theorem Same.trans {H H1 H2 : Hp} (a : Same H H1) (b : Same H1 H2) : Same H H2 := fun c o h => b c o (a c o h)
theorem Same.free {H H' : Hp} (e : Same H H') {l : Addr} (h : H' l = Option.none) : H l = Option.none := by
  cases q : H l with
  | none => rfl
  | some o =>
    rw [e l o q] at h
    cases h
theorem Same.seq {K : PySem.W.Frag} {H H' : Hp} {a : Addr} {xs : List V} (e : Same H H') (h : SqL K H a xs) : SqL K H' a xs := by
  rcases h with (h | ⟨o, h⟩) | h
  · exact .inl (.inl (e _ _ h))
  · exact .inl (.inr ⟨o, e _ _ h⟩)
  · exact .inr h
end L2
namespace Bg
theorem gcd_fmod (a b : Int) : Int.gcd b (a.fmod b) = Int.gcd a b := by
  rw [Int.fmod_def, Int.mul_comm, Int.gcd_sub_mul_right_right, Int.gcd_comm]
theorem gcd_emod (a b : Int) : Int.gcd b (a % b) = Int.gcd a b := by
  rw [Int.emod_def, Int.mul_comm, Int.gcd_sub_mul_right_right, Int.gcd_comm]
theorem fmod_lt {a b : Int} (h : b ≠ 0) : (a.fmod b).natAbs < b.natAbs := by
  rw [Int.fmod_eq_emod]
  have h1 := Int.emod_nonneg a h
  have h2 := Int.emod_lt a h
  by_cases c : 0 ≤ b ∨ b ∣ a
  · rw [if_pos c]; omega
  · rw [if_neg c]
    have hb : b < 0 := by
      rcases Int.lt_or_le b 0 with z | z
      · exact z
      · exact absurd (Or.inl z) c
    have hd : ¬ b ∣ a := fun z => c (Or.inr z)
    have hn : a % b ≠ 0 := fun z => hd (Int.dvd_of_emod_eq_zero z)
    omega
def Bd (k : Nat) (x : Int) : Prop := x.natAbs < 2 ^ k
instance {k : Nat} {x : Int} : Decidable (Bd k x) := inferInstanceAs (Decidable (x.natAbs < 2 ^ k))
theorem Bd.mono {j k : Nat} {x : Int} (h : Bd j x) (l : j ≤ k) : Bd k x := Nat.lt_of_lt_of_le h (Nat.pow_le_pow_right (by decide) l)
theorem Bd.neg {k : Nat} {x : Int} (h : Bd k x) : Bd k (-x) := by unfold Bd at *; rw [Int.natAbs_neg]; exact h
theorem Bd.mul {j k : Nat} {x y : Int} (h : Bd j x) (g : Bd k y) : Bd (j + k) (x * y) := by
  unfold Bd at *
  rw [Int.natAbs_mul, Nat.pow_add]
  exact Nat.mul_lt_mul_of_lt_of_lt h g
theorem Bd.add {k : Nat} {x y : Int} (h : Bd k x) (g : Bd k y) : Bd (k + 1) (x + y) := by
  unfold Bd at *
  rw [Nat.pow_succ]
  omega
theorem Bd.sub {k : Nat} {x y : Int} (h : Bd k x) (g : Bd k y) : Bd (k + 1) (x - y) := by
  unfold Bd at *
  rw [Nat.pow_succ]
  omega
theorem Bd.of_le {k : Nat} {x y : Int} (h : Bd k y) (l : x.natAbs ≤ y.natAbs) : Bd k x := Nat.lt_of_le_of_lt l h
theorem Bd.abs {k : Nat} {x : Int} (h : Bd k x) : Bd k (if x < 0 then -x else x) := by
  split
  · exact h.neg
  · exact h
theorem natAbs_fdiv_le (a b : Int) : (a.fdiv b).natAbs ≤ a.natAbs := by
  by_cases hb : b = 0
  · subst hb; simp
  have key : ∀ a b : Int, 0 < b → (a.fdiv b).natAbs ≤ a.natAbs := fun a b hb => by
    rw [Int.fdiv_eq_ediv_of_nonneg a (by omega)]
    have h1 : b * (a / b) + a % b = a := Int.mul_ediv_add_emod a b
    have h2 := Int.emod_nonneg a (show b ≠ 0 by omega)
    have h3 := Int.emod_lt_of_pos a hb
    rcases Int.lt_or_le (a / b) 0 with q | q
    · have e : a ≤ a / b := by
        have : b * (a / b) ≤ 1 * (a / b) - (b - 1) := by
          have z : (b - 1) * (a / b) ≤ (b - 1) * (-1) := Int.mul_le_mul_of_nonneg_left (by omega) (by omega)
          have z2 : b * (a / b) = (b - 1) * (a / b) + a / b := by rw [Int.sub_mul]; omega
          omega
        omega
      omega
    · have e : a / b ≤ a := by
        have z : 1 * (a / b) ≤ b * (a / b) := Int.mul_le_mul_of_nonneg_right (by omega) q
        omega
      omega
  rcases Int.lt_or_le b 0 with h | h
  · have e : a.fdiv b = (-a).fdiv (-b) := by rw [Int.neg_fdiv_neg]
    rw [e]
    have := key (-a) (-b) (by omega)
    omega
  · exact key a b (by omega)
theorem Bd.fdiv {k : Nat} {x : Int} (h : Bd k x) (y : Int) : Bd k (x.fdiv y) := h.of_le (natAbs_fdiv_le x y)
theorem Bd.fmod {k : Nat} {y : Int} (h : Bd k y) (hy : y ≠ 0) (x : Int) : Bd k (x.fmod y) := h.of_le (Nat.le_of_lt (fmod_lt hy))
theorem Bd.emod {k : Nat} {y : Int} (h : Bd k y) (hy : y ≠ 0) (x : Int) : Bd k (x % y) := by
  refine h.of_le ?_
  have h1 := Int.emod_nonneg x hy
  have h2 := Int.emod_lt x hy
  omega
theorem Bd.log {k : Nat} {x : Int} (h : Bd k x) : x.natAbs.log2 ≤ k := by
  by_cases z : x.natAbs = 0
  · rw [z]; simp
  · exact Nat.le_of_lt ((Nat.log2_lt z).mpr h)
def g3 (a b n : Int) : Nat := Int.gcd (Int.gcd n a) b
def gd (a b n : Int) : Int := if n < 0 then -(g3 a b n : Int) else (g3 a b n : Int)
theorem g3_n (a b n : Int) : (g3 a b n : Int) ∣ n := Int.dvd_trans (Int.gcd_dvd_left ..) (Int.gcd_dvd_left ..)
theorem g3_a (a b n : Int) : (g3 a b n : Int) ∣ a := Int.dvd_trans (Int.gcd_dvd_left ..) (Int.gcd_dvd_right ..)
theorem g3_b (a b n : Int) : (g3 a b n : Int) ∣ b := Int.gcd_dvd_right ..
theorem g3_pos {a b n : Int} (h : n ≠ 0) : 0 < g3 a b n := by
  rcases Nat.eq_zero_or_pos (g3 a b n) with z | z
  · have := g3_n a b n
    rw [z] at this
    exact absurd (Int.zero_dvd.mp (by simpa using this)) h
  · exact z
theorem gd_ne {a b n : Int} (h : n ≠ 0) : gd a b n ≠ 0 := by
  have := g3_pos (a := a) (b := b) h
  unfold gd
  split <;> omega
theorem gd_abs (a b n : Int) : (gd a b n).natAbs = g3 a b n := by
  unfold gd
  split <;> simp
theorem gd_dvd {a b n x : Int} (h : (g3 a b n : Int) ∣ x) : gd a b n ∣ x := by
  unfold gd
  split
  · exact Int.neg_dvd.mpr h
  · exact h
theorem gd_bd {k : Nat} {a b n : Int} (hn : n ≠ 0) (h : Bd k n) : Bd k (gd a b n) := by
  refine h.of_le ?_
  rw [gd_abs]
  exact Nat.le_of_dvd (by omega) (by
    have := Int.natAbs_dvd_natAbs.mpr (g3_n a b n)
    simpa using this)
def lA (a b n : Int) : Int := a.fdiv (gd a b n)
def lB (a b n : Int) : Int := b.fdiv (gd a b n)
def lN (a b n : Int) : Int := n.fdiv (gd a b n)
theorem lA_mul {a b n : Int} : lA a b n * gd a b n = a := Int.fdiv_mul_cancel (gd_dvd (g3_a a b n))
theorem lB_mul {a b n : Int} : lB a b n * gd a b n = b := Int.fdiv_mul_cancel (gd_dvd (g3_b a b n))
theorem lN_mul {a b n : Int} : lN a b n * gd a b n = n := Int.fdiv_mul_cancel (gd_dvd (g3_n a b n))
theorem l_a {a b n : Int} : lA a b n * n = a * lN a b n := by
  have h1 := lA_mul (a := a) (b := b) (n := n)
  have h2 := lN_mul (a := a) (b := b) (n := n)
  calc lA a b n * n = lA a b n * (lN a b n * gd a b n) := by rw [h2]
    _ = lA a b n * gd a b n * lN a b n := by rw [Int.mul_assoc, Int.mul_comm (gd a b n)]
    _ = a * lN a b n := by rw [h1]
theorem l_b {a b n : Int} : lB a b n * n = b * lN a b n := by
  have h1 := lB_mul (a := a) (b := b) (n := n)
  have h2 := lN_mul (a := a) (b := b) (n := n)
  calc lB a b n * n = lB a b n * (lN a b n * gd a b n) := by rw [h2]
    _ = lB a b n * gd a b n * lN a b n := by rw [Int.mul_assoc, Int.mul_comm (gd a b n)]
    _ = b * lN a b n := by rw [h1]
theorem l_n {a b n : Int} (h : n ≠ 0) : 1 ≤ lN a b n := by
  have h2 := lN_mul (a := a) (b := b) (n := n)
  have hp := g3_pos (a := a) (b := b) h
  have hs : 0 < lN a b n := by
    by_cases c : n < 0
    · have e : gd a b n = -(g3 a b n : Int) := if_pos c
      rw [e] at h2
      refine Int.lt_of_not_ge fun z => ?_
      have : 0 ≤ lN a b n * -(g3 a b n : Int) := Int.mul_nonneg_of_nonpos_of_nonpos z (by omega)
      omega
    · have e : gd a b n = (g3 a b n : Int) := if_neg c
      rw [e] at h2
      refine Int.lt_of_not_ge fun z => ?_
      have : lN a b n * (g3 a b n : Int) ≤ 0 := Int.mul_nonpos_of_nonpos_of_nonneg z (by omega)
      omega
  omega
theorem l_gcd {a b n : Int} (h : n ≠ 0) : g3 (lA a b n) (lB a b n) (lN a b n) = 1 := by
  have hp := g3_pos (a := a) (b := b) h
  have e : g3 a b n = g3 (lA a b n) (lB a b n) (lN a b n) * (gd a b n).natAbs := by
    have h1 := lA_mul (a := a) (b := b) (n := n)
    have h2 := lB_mul (a := a) (b := b) (n := n)
    have h3 := lN_mul (a := a) (b := b) (n := n)
    have : g3 (lA a b n * gd a b n) (lB a b n * gd a b n) (lN a b n * gd a b n) = g3 (lA a b n) (lB a b n) (lN a b n) * (gd a b n).natAbs := by
      unfold g3
      rw [Int.gcd_mul_right]
      have e1 : ((Int.gcd (lN a b n) (lA a b n) * (gd a b n).natAbs : Nat) : Int).gcd (lB a b n * gd a b n) = Int.gcd ((Int.gcd (lN a b n) (lA a b n) : Int) * gd a b n) (lB a b n * gd a b n) := by
        rw [Int.gcd_eq_natAbs_gcd_natAbs, Int.gcd_eq_natAbs_gcd_natAbs]
        congr 1
        rw [Int.natAbs_mul, Int.natAbs_natCast, Int.natAbs_natCast]
      rw [e1, Int.gcd_mul_right]
    rw [h1, h2, h3] at this
    exact this
  rw [gd_abs] at e
  have : 1 * g3 a b n = g3 (lA a b n) (lB a b n) (lN a b n) * g3 a b n := by omega
  exact (Nat.eq_of_mul_eq_mul_right hp this).symm
end Bg
namespace L2
open PySem PySem.Spec PyProof.Rows Bg
theorem bits_of {k : Nat} {x : Int} (h : Bd k x) : Builtin.Int.intBits x ≤ k := by
  unfold Builtin.Int.intBits
  split
  · exact Nat.zero_le _
  · rename_i z
    have z' : x ≠ 0 := by simpa using z
    exact (Nat.log2_lt (by omega)).mpr h
theorem Bd.ok {j k : Nat} {x y : Int} (h : Bd j x) (g : Bd k y) (l : j + k ≤ 134217728) : IntMulOk x y := by
  have h1 := bits_of h
  have h2 := bits_of g
  unfold IntMulOk
  have : Builtin.Int.intTooBig (Builtin.Int.intBits x + Builtin.Int.intBits y) = false := by
    unfold Builtin.Int.intTooBig bitsLine
    simp only [decide_eq_false_iff_not, Int.not_lt, gt_iff_lt]
    have : (2 ^ 27 : Nat) = 134217728 := by decide
    omega
  rw [this]
  simp
section
variable {X : Cx}
theorem op_mulB : OpR X (binaryOp .Mult) (rI IntMulOk fun i j => .int (i * j)) := opI fun _ _ _ _ _ _ _ hc q => mul_int q hc
abbrev CFd (_ j : Int) : Prop := j ≠ 0 ∧ j.natAbs.log2 < 9000
abbrev CFp (_ j : Int) : Prop := 0 < j ∧ j.natAbs.log2 < 9000
abbrev CPw (i j : Int) : Prop := 0 ≤ j ∧ (Builtin.Int.intBits i : Int) * j ≤ 2 ^ 27
theorem op_fdivB : OpR X (binaryOp .FloorDiv) (rI CFd fun i j => .int (i.fdiv j)) := opI fun _ _ _ _ _ _ _ hc q => floordiv_int hc.1 q (.inl (PyProof.noPylong_of_log2 hc.2))
theorem op_powB : OpR X (binaryOp .Pow) (rI CPw fun i j => .int (i ^ j.toNat)) := opI fun _ _ _ _ _ _ _ hc q => pow_int hc.1 hc.2 q
def rIs (K : PySem.W.Frag) : List V → Hp → VK → Prop := fun xs H Q => ∃ x T t b, xs = [x, .ty T] ∧ TyOf K H x t ∧ PySem.W.kitOne K t (.type T) = some b ∧ Q (.bl b) H
theorem call_isinst : CallR X (.builtin "isinstance") (rIs X.K) := by
  intro pins s σ H xs us Q I r h
  obtain ⟨x, T, t, b, rfl, ty, e, q⟩ := h
  obtain ⟨u, c, rfl, ru, rc⟩ := vals2 r
  cases (show c = Value.type T from rc)
  exact isinst_ok I ru ty e fun tk => ⟨.bl b, H, I.tok tk, rfl, q⟩
end
theorem kit_same (K : PySem.W.Frag) (T : String) : PySem.W.kitOne K (.type T) (.type T) = some true := by
  unfold PySem.W.kitOne
  rw [if_pos]
  simp
theorem kit_int_bool (K : PySem.W.Frag) : PySem.W.kitOne K (.type "int") (.type "bool") = some false := by
  unfold PySem.W.kitOne
  rw [if_neg (by decide)]
  show (if PySem.W.kitMeta "bool" = true then PySem.W.subIn K (.type "int") (.type "bool") else none) = some false
  rw [if_pos (by decide +kernel)]
  show (fastBuiltinMro "int").map (·.contains (Value.type "bool")) = some false
  decide +kernel
section
variable {K : PySem.W.Frag} {H : Hp} {Q : VK}
theorem i_is_int {i : Int} (h : Q (.bl true) H) : rIs K [.int i, .ty "int"] H Q := ⟨_, _, _, _, rfl, .int i, kit_same K _, h⟩
theorem i_is_intb {i : Int} (h : Q (.bl false) H) : rIs K [.int i, .ty "bool"] H Q := ⟨_, _, _, _, rfl, .int i, kit_int_bool K, h⟩
theorem i_is_tup {a : Addr} {xs : List V} (e : H a = some (.tup xs)) (h : Q (.bl true) H) : rIs K [.ref a, .ty "tuple"] H Q := ⟨_, _, _, _, rfl, .tup e, kit_same K _, h⟩
theorem i_is_bool {b : Bool} (h : Q (.bl true) H) : rIs K [.bl b, .ty "bool"] H Q := ⟨_, _, _, _, rfl, .bl b, kit_same K _, h⟩
end
def Own (P : Program) (w : World) (K : PySem.W.Frag) (mg : Str → Option Value) (base : Heap) (k : Nat) (x : Str) (ps : List Str) (dvs : List V) (sp : Sp) : Prop :=
  ∃ (f : Addr) (fd : FuncData) (ds : List Value), FnOk P w K mg base CX0 k f fd ps sp ∧ mg x = some (.ref f) ∧ PySem.W.keepIn K (.ref f) = true ∧ Binds K fd ps ds ∧ Vals dvs ds
theorem pe_own {X : Cx} {k j : Nat} {x : Str} {ps : List Str} {dvs : List V} {sp : Sp} {p pos : Pos} {e : Expr} {es : List Expr} {t : TA} (O : Own X.prog X.w X.K X.mg X.base k x ps dvs sp) (hr : Room j X.A) (hg : Gl X x)
    (ha : PA X (e :: es) t) (hk : k ≤ j := by decide) (hdb : (x == ("__debug__" : Str)) = false := by decide) (he : starEach (e :: es) X.env = (false, eval e X.env) :: starEach es X.env := by rfl) (hpl : (backTo pos (starEach es X.env)).any (·.1) = false := by rfl) :
    PE X (.Call (.Name x p) (e :: es) [] pos) (tCall sp dvs E0 t) := by
  obtain ⟨f, fd, ds, F, hm, kp, hb, hd⟩ := O
  exact pe_call F (hr.mono hk) hg hm kp hb hd pass0 ha hdb he hpl
def OwnK (P : Program) (w : World) (K : PySem.W.Frag) (mg : Str → Option Value) (base : Heap) (k : Nat) (x : Str) (ps ks : List Str) (gV : List V → List V → List V) (sp : Sp) : Prop :=
  ∃ (f : Addr) (fd : FuncData) (g : List Value → List Value → List Value), FnOk P w K mg base CX0 k f fd ps sp ∧ mg x = some (.ref f) ∧ PySem.W.keepIn K (.ref f) = true ∧ KBinds K fd ps ks g gV
structure FunD (K : PySem.W.Frag) (x qual : Str) (st : Stmt) (f : Addr) (fd : FuncData) (its : List Value) : Prop where
  ex : ∃ (oc : Value) (od : Option Addr) (T : Addr) (kV doc pm : Value) (an : Option Addr) (cdv ct : Value) (osl : Array (Option Value)) (to : Obj) (n : Nat),
    fd = PySem.W.fnOf x qual (defArgs st) (defBody st) (defScope st) (.ref T) kV doc pm an cdv ct ∧ K.lookup f = some ⟨oc, od, .func fd, osl⟩ ∧ PySem.W.codeIn K cdv qual = true ∧ K.lookup T = some to ∧ to.data = .seq its.toArray n
  kp : PySem.W.keepIn K (.ref f) = true
section
variable {P : Program} {w : World} {K : PySem.W.Frag} {mg : Str → Option Value} {base : Heap}
theorem FunD.ok {x qual : Str} {st : Stmt} {f : Addr} {fd : FuncData} {its : List Value} {N ps : List Str} {k : Nat} {sp : Sp} (F : FunD K x qual st f fd its) (S : FnScope N ps (defScope st)) (len : ∀ vs H Q E, sp vs H Q E → vs.length = ps.length)
    (hbody : ∀ (cdv : Value) (A : Around) (outer : List Env) (s : Shared) (H : Hp) (vs : List V) (Q : VK) (E : XK), Room k (A.deeper (envOfC qual (defScope st) s.heap.objs.size f cdv)) → sp vs H Q E →
      ∃ t, PSs (cxOf CX0 P w K mg base N qual (defScope st) f cdv A outer s H E).nox (defBody st) t ∧ t { nx := fun _ H' => Q .non H', rt := Q } (start N vs) H) : FnOk P w K mg base CX0 (k + 1) f fd ps sp := by
  obtain ⟨oc, od, T, kV, doc, pm, an, cdv, ct, osl, to, n, rfl, lk, hcd, _⟩ := F.ex
  refine fn_of lk hcd S len fun A outer s H vs Q E hr hsp => ?_
  obtain ⟨t, h, q⟩ := hbody cdv A outer s H vs Q E hr hsp
  exact ⟨t, h.nox, q⟩
end
def Top (K : PySem.W.Frag) (mg : Str → Option Value) (x : Str) (st : Stmt) : Prop := ∃ (f : Addr) (fd : FuncData), Fun K x x st f fd ∧ mg x = some (.ref f)
def TopD (K : PySem.W.Frag) (mg : Str → Option Value) (x : Str) (st : Stmt) (its : List Value) : Prop := ∃ (f : Addr) (fd : FuncData), FunD K x x st f fd its ∧ mg x = some (.ref f)
theorem top_mk {K : PySem.W.Frag} {h : Heap} {mg : Str → Option Value} {x : Str} {st : Stmt} {f : Addr} {oc : Value} {od an : Option Addr} {osl : Array (Option Value)} {kV doc pm cdv ct : Value} (X : K.In h) (G : h.Ns mainGlobals mg)
    (a : PySem.W.nsIn K mainGlobals x = some (some (.ref f))) (l : K.lookup f = some ⟨oc, od, .func (PySem.W.fnOf x x (defArgs st) (defBody st) (defScope st) .none kV doc pm an cdv ct), osl⟩)
    (c : PySem.W.codeIn K cdv x = true) (k : PySem.W.keepIn K (.ref f) = true) : Top K mg x st := ⟨f, _, fun_mk l c k, PySem.W.mg_of X G a⟩
theorem topD_mk {K : PySem.W.Frag} {h : Heap} {mg : Str → Option Value} {x : Str} {st : Stmt} {f T : Addr} {oc : Value} {od an : Option Addr} {osl : Array (Option Value)} {kV doc pm cdv ct : Value} {its : List Value} {n : Nat} {to : Obj} (X : K.In h) (G : h.Ns mainGlobals mg)
    (a : PySem.W.nsIn K mainGlobals x = some (some (.ref f))) (l : K.lookup f = some ⟨oc, od, .func (PySem.W.fnOf x x (defArgs st) (defBody st) (defScope st) (.ref T) kV doc pm an cdv ct), osl⟩)
    (c : PySem.W.codeIn K cdv x = true) (k : PySem.W.keepIn K (.ref f) = true) (t : K.lookup T = some to) (d : to.data = .seq its.toArray n) : TopD K mg x st its := ⟨f, _, ⟨⟨oc, od, T, kV, doc, pm, an, cdv, ct, osl, _, n, rfl, l, c, t, d⟩, k⟩, PySem.W.mg_of X G a⟩
theorem Top.own {P : Program} {w : World} {K : PySem.W.Frag} {mg : Str → Option Value} {base : Heap} {k : Nat} {x : Str} {st : Stmt} {ps : List Str} {sp : Sp} (T : Top K mg x st)
    (hb : ∀ (kV doc pm : Value) (an : Option Addr) (cdv ct : Value) (us : List Value), us.length = ps.length → bindArgs (PySem.W.fnOf x x (defArgs st) (defBody st) (defScope st) .none kV doc pm an cdv ct) ⟨us, []⟩ = pure (ps.zip us))
    (h : ∀ f fd, Fun K x x st f fd → FnOk P w K mg base CX0 k f fd ps sp) : Own P w K mg base k x ps [] sp := by
  obtain ⟨f, fd, F, m⟩ := T
  exact ⟨f, fd, [], h f fd F, m, F.kp, F.binds hb, .nil⟩
def NewL (xs : List V) (H : Hp) (Q : VK) : Prop := xs.length ≤ sizeLine ∧ ∀ p, H p = none → Q (.ref p) (upd H p (.lst xs))
def NewT (xs : List V) (H : Hp) (Q : VK) : Prop := xs.length ≤ sizeLine ∧ ∀ p, H p = none → Q (.ref p) (upd H p (.tup xs))
def rLen (K : PySem.W.Frag) : List V → Hp → VK → Prop := fun xs H Q => ∃ p ys, xs = [.ref p] ∧ (SqL K H p ys ∨ SqT K H p ys) ∧ Q (.int ys.length) H
def rAbs : List V → Hp → VK → Prop := fun xs H Q => ∃ i, xs = [.int i] ∧ Q (.int (if i < 0 then -i else i)) H
def rInt : List V → Hp → VK → Prop := fun xs H Q => (∃ i, xs = [.int i] ∧ Q (.int i) H) ∨ ∃ k, xs = [.bl k] ∧ Q (.int (if k then 1 else 0)) H
theorem call_lenR {X : Cx} : CallR X (.builtin "len") (rLen X.K) := call_len_seq
theorem call_absR {X : Cx} : CallR X (.builtin "abs") rAbs := call_abs
theorem call_intR {X : Cx} : CallR X (.type "int") rInt := call_int1
section
variable {σ : St} {H : Hp} {Q : VK} {B : Bool → Hp → Prop} {D : Ends} {K : PySem.W.Frag}
theorem i_seq {t u : TS} (h : t { D with nx := u D } σ H) : tSeq t u D σ H := h
theorem i_next (h : D.nx σ H) : tNext D σ H := h
theorem i_asg {te : TE} {g : TG} (h : te σ H fun x H1 => g x σ H1 D.nx) : tAsg te g D σ H := h
theorem i_gname {i : Nat} {v : V} {R : St → Hp → Prop} (h : R (σ.set i (some v)) H) : gName i v σ H R := h
theorem i_ret {te : TE} (h : te σ H D.rt) : tRet te D σ H := h
theorem i_drop {te : TE} (h : te σ H fun _ H1 => D.nx σ H1) : tDrop te D σ H := h
theorem i_ifS {c : TT} {t u : TS} (h : c σ H fun b H1 => if b = true then t D σ H1 else u D σ H1) : tIfS c t u D σ H := h
theorem i_c {v : V} (h : Q v H) : tC v σ H Q := h
theorem i_op {r : R2} {ta tb : TE} (h : ta σ H fun x H1 => tb σ H1 fun y H2 => r x y H2 Q) : tOp r ta tb σ H Q := h
theorem i_un {r : V → Hp → VK → Prop} {ta : TE} (h : ta σ H fun x H1 => r x H1 Q) : tUn r ta σ H Q := h
theorem i_I0 {g : Int → Int → V} {i j : Int} (h : Q (g i j) H) : rI0 g (.int i) (.int j) H Q := ⟨i, j, rfl, rfl, h⟩
theorem i_I {C : Int → Int → Prop} {g : Int → Int → V} {i j : Int} (h : Q (g i j) H) (c : C i j) : rI C g (.int i) (.int j) H Q := ⟨i, j, rfl, rfl, c, h⟩
theorem i_U {g : Int → V} {i : Int} (h : Q (g i) H) : rU g (.int i) H Q := ⟨i, rfl, h⟩
theorem i_eqI {i j : Int} (h : Q (.bl (decide (i = j))) H) : rEq (.int i) (.int j) H Q := ⟨rfl, by
  have e : decide (V.int i = V.int j) = decide (i = j) := by rw [dec_int]; exact Bool.beq_eq_decide_eq i j
  rw [e]; exact h⟩
theorem i_neI {i j : Int} (h : Q (.bl (!decide (i = j))) H) : rNe (.int i) (.int j) H Q := ⟨rfl, by
  have e : decide (V.int i = V.int j) = decide (i = j) := by rw [dec_int]; exact Bool.beq_eq_decide_eq i j
  rw [e]; exact h⟩
theorem i_eqB {i j : Bool} (h : Q (.bl (decide (i = j))) H) : rEq (.bl i) (.bl j) H Q := ⟨rfl, by
  have e : decide (V.bl i = V.bl j) = decide (i = j) := by rw [dec_bl]; cases i <;> cases j <;> rfl
  rw [e]; exact h⟩
theorem i_neB {i j : Bool} (h : Q (.bl (!decide (i = j))) H) : rNe (.bl i) (.bl j) H Q := ⟨rfl, by
  have e : decide (V.bl i = V.bl j) = decide (i = j) := by rw [dec_bl]; cases i <;> cases j <;> rfl
  rw [e]; exact h⟩
theorem i_test {t : TE} (h : t σ H fun x H' => ∃ k, x = .bl k ∧ B k H') : tTest t σ H B := h
theorem i_tB {t : TE} (h : t σ H fun x H' => ∃ k, x = .bl k ∧ B k H') : tB t σ H B := h
theorem i_bl {k : Bool} {R : Bool → Prop} (h : R k) : ∃ k', V.bl k = .bl k' ∧ R k' := ⟨k, rfl, h⟩
theorem i_and {t u : TT} (h : t σ H fun c H1 => if c = true then u σ H1 B else B false H1) : tAnd t u σ H B := h
theorem i_or {t u : TT} (h : t σ H fun c H1 => if c = true then B true H1 else u σ H1 B) : tOr t u σ H B := h
theorem i_not {t : TT} (h : t σ H fun c H1 => B (!c) H1) : tNot t σ H B := h
theorem i_andV {t u : TE} (h : t σ H fun x H1 => ∃ c, x = .bl c ∧ if c = true then u σ H1 Q else Q (.bl false) H1) : tAndV t u σ H Q := h
theorem i_orV {t u : TE} (h : t σ H fun x H1 => ∃ c, x = .bl c ∧ if c = true then Q (.bl true) H1 else u σ H1 Q) : tOrV t u σ H Q := h
theorem i_notV {t : TE} (h : t σ H fun x H1 => ∃ c, x = .bl c ∧ Q (.bl (!c)) H1) : tNotV t σ H Q := h
theorem i_ifE {c : TT} {ta tb : TE} (h : c σ H fun b H1 => if b = true then ta σ H1 Q else tb σ H1 Q) : tIf c ta tb σ H Q := h
theorem i_nil {R : List V → Hp → Prop} (h : R [] H) : tNil σ H R := h
theorem i_cons {ta : TE} {tr : TA} {R : List V → Hp → Prop} (h : ta σ H fun x H1 => tr σ H1 fun xs H2 => R (x :: xs) H2) : tCons ta tr σ H R := h
theorem i_call {sp : Sp} {dvs : List V} {E : XK} {t : TA} (h : t σ H fun vs H1 => sp (vs ++ dvs) H1 Q E) : tCall sp dvs E t σ H Q := h
theorem i_callK {sp : Sp} {gV : List V → List V → List V} {E : XK} {t tk : TA} (h : t σ H fun vs H1 => tk σ H1 fun zs H2 => sp (gV vs zs) H2 Q E) : tCallK sp gV E t tk σ H Q := h
theorem i_cb {r : List V → Hp → VK → Prop} {t : TA} (h : t σ H fun vs H1 => r vs H1 Q) : tCB r t σ H Q := h
theorem i_tup {t : TA} (h : t σ H fun xs H1 => NewT xs H1 Q) : tTup t σ H Q := h
theorem i_lst {t : TA} (h : t σ H fun xs H1 => NewL xs H1 Q) : tLst t σ H Q := h
theorem small_le {n : Nat} (h : n ≤ 1000) : n ≤ sizeLine := Nat.le_of_lt (small1000 h)
theorem i_ixT {p : Addr} {xs : List V} {i : Int} {v : V} (h : H p = some (.tup xs)) (e : atI xs i = some v) (q : Q v H) : rIxT K (.ref p) (.int i) H Q := ⟨p, xs, i, v, rfl, rfl, SqT.of h, e, q⟩
theorem i_ixL {p : Addr} {xs : List V} {i : Int} {v : V} (h : H p = some (.lst xs)) (e : atI xs i = some v) (q : Q v H) : rIxL K (.ref p) (.int i) H Q := ⟨p, xs, i, v, rfl, rfl, SqL.of h, e, q⟩
theorem i_lenT {p : Addr} {xs : List V} (h : H p = some (.tup xs)) (q : Q (.int xs.length) H) : rLen K [.ref p] H Q := ⟨p, xs, rfl, .inr (SqT.of h), q⟩
theorem i_lenL {p : Addr} {xs : List V} (h : H p = some (.lst xs)) (q : Q (.int xs.length) H) : rLen K [.ref p] H Q := ⟨p, xs, rfl, .inl (SqL.of h), q⟩
theorem i_abs {i : Int} (q : Q (.int (if i < 0 then -i else i)) H) : rAbs [.int i] H Q := ⟨i, rfl, q⟩
theorem i_intB {k : Bool} (q : Q (.int (if k then 1 else 0)) H) : rInt [.bl k] H Q := .inr ⟨k, rfl, q⟩
theorem i_par {i j : Nat} {ta : TA} (h : ta σ H fun vs H1 => ∃ v w, vs = [v, w] ∧ D.nx ((σ.set i (some v)).set j (some w)) H1) : tPar i j ta D σ H := h
theorem i_par2 {v w : V} {R : V → V → Prop} (h : R v w) : ∃ v' w', [v, w] = [v', w'] ∧ R v' w' := ⟨v, w, rfl, h⟩
end
theorem if_d {p A B : Prop} [Decidable p] (h1 : p → A) (h2 : ¬ p → B) : if decide p = true then A else B := by
  by_cases h : p
  · rw [if_pos (decide_eq_true h)]; exact h1 h
  · rw [if_neg (by simp [h])]; exact h2 h
theorem if_nd {p A B : Prop} [Decidable p] (h1 : ¬ p → A) (h2 : p → B) : if (!decide p) = true then A else B := by
  by_cases h : p
  · rw [if_neg (by simp [h])]; exact h2 h
  · rw [if_pos (by simp [h])]; exact h1 h
theorem if_ne {α : Type} {x y : α} {A B : Prop} [Decidable (x = y)] (e : x = y) (h : B) : if (!decide (x = y)) = true then A else B := if_nd (fun c => absurd e c) fun _ => h
theorem if_t {A B : Prop} (h : A) : if true = true then A else B := by rw [if_pos rfl]; exact h
theorem if_f {A B : Prop} (h : B) : if false = true then A else B := by rw [if_neg Bool.false_ne_true]; exact h
theorem if_nt {A B : Prop} (h : B) : if (!true) = true then A else B := by rw [if_neg (by decide)]; exact h
theorem if_nf {A B : Prop} (h : A) : if (!false) = true then A else B := by rw [if_pos (by decide)]; exact h
theorem same_upd {H : Hp} {p : Addr} (h : H p = none) (o : HO) : Same H (upd H p o) := fun b u q => by rw [upd_ne (ne_of_none q h)]; exact q
theorem bd_self (x : Int) : Bd (x.natAbs.log2 + 1) x := by
  unfold Bd
  exact Nat.lt_log2_self
theorem bd_addx {j k : Nat} {x y : Int} (h : Bd j x) (g : Bd k y) : Bd (j + k + 1) (x + y) := (h.mono (Nat.le_add_right ..)).add (g.mono (Nat.le_add_left ..))
theorem bd_subx {j k : Nat} {x y : Int} (h : Bd j x) (g : Bd k y) : Bd (j + k + 1) (x - y) := (h.mono (Nat.le_add_right ..)).sub (g.mono (Nat.le_add_left ..))
end L2
namespace L2
open PySem PySem.Spec PyProof.Rows Bg
section
variable {P : Program} {w : World} {K : PySem.W.Frag} {mg : Str → Option Value} {base : Heap}
theorem FunD.binds {x qual : Str} {st : Stmt} {f : Addr} {fd : FuncData} {its ds : List Value} {ps : List Str} (F : FunD K x qual st f fd its)
    (h : ∀ (T : Addr) (kV doc pm : Value) (an : Option Addr) (cdv ct : Value) (us : List Value), (us ++ ds).length = ps.length → ∃ k : Option (Array Value) → Sem (List (Str × Value)),
      bindArgs (PySem.W.fnOf x qual (defArgs st) (defBody st) (defScope st) (.ref T) kV doc pm an cdv ct) ⟨us, []⟩ = seqItems? (.ref T) >>= k ∧ k (some its.toArray) = pure (ps.zip (us ++ ds))) : Binds K fd ps ds := by
  obtain ⟨oc, od, T, kV, doc, pm, an, cdv, ct, osl, to, n, rfl, lk, hcd, lT, hs⟩ := F.ex
  intro s us KX hl
  obtain ⟨k, h1, h2⟩ := h T kV doc pm an cdv ct us hl
  exact BindsTo.of_defaults rfl (KX _ _ lT) hs h1 h2
theorem TopD.own {k : Nat} {x : Str} {st : Stmt} {ps : List Str} {its ds : List Value} {dvs : List V} {sp : Sp} (T : TopD K mg x st its)
    (hb : ∀ (T : Addr) (kV doc pm : Value) (an : Option Addr) (cdv ct : Value) (us : List Value), (us ++ ds).length = ps.length → ∃ k : Option (Array Value) → Sem (List (Str × Value)),
      bindArgs (PySem.W.fnOf x x (defArgs st) (defBody st) (defScope st) (.ref T) kV doc pm an cdv ct) ⟨us, []⟩ = seqItems? (.ref T) >>= k ∧ k (some its.toArray) = pure (ps.zip (us ++ ds)))
    (hd : Vals dvs ds) (h : ∀ f fd, FunD K x x st f fd its → FnOk P w K mg base CX0 k f fd ps sp) : Own P w K mg base k x ps dvs sp := by
  obtain ⟨f, fd, F, m⟩ := T
  exact ⟨f, fd, ds, h f fd F, m, F.kp, F.binds hb, hd⟩
end
end L2
namespace Att
open PySem PySem.W PySem.Calls PyProof.Rows Bg
theorem weight_item {x : WData} : ∀ {xs : List WData}, x ∈ xs → WData.weight x ≤ WData.weightAll xs
  | [], h => absurd h (by simp)
  | y :: ys, h => by
    simp only [WData.weightAll]
    rcases List.mem_cons.mp h with e | e
    · subst e; omega
    · have := weight_item e
      omega
theorem lay_bits {ns : List Int} (h : WData.layableAll [WData.list (ns.map WData.int)] = true) : ∀ x ∈ ns, Bd 1048576 x := fun x hx => by
  have h1 : WData.layable (WData.list (ns.map WData.int)) = true := by simpa [WData.layableAll] using h
  unfold WData.layable at h1
  rw [Bool.and_eq_true] at h1
  have h2 : WData.weight (WData.list (ns.map WData.int)) ≤ 2 ^ 20 := of_decide_eq_true h1.2
  simp only [WData.weight] at h2
  have h3 : WData.weight (WData.int x) ≤ WData.weightAll (ns.map WData.int) := weight_item (List.mem_map.mpr ⟨x, hx, rfl⟩)
  simp only [WData.weight] at h3
  unfold Bd
  by_cases z : x = 0
  · subst z
    exact Nat.pow_pos (by decide)
  · rw [if_neg (by simpa using z)] at h3
    have e : (2 : Nat) ^ 20 = 1048576 := by decide
    exact (Nat.log2_lt (by omega)).mp (by omega)
theorem attach_callB {l : OpenLaw} {n : Nat} {q : Program} {loose : List Str} {XP : (Str → Option Value) → Heap → Prop} {YP : World → Heap → Prop} {d : DefRec}
    (hn : l.most = some n) (hdf : d.params.defaults = [])
    (call : ∀ (w : World) (s₀ s₁ : Shared) (mg mb : Str → Option Value) (fa : Addr) (a : Addr) (vs : List Value) (ns : List Int),
      Ground q loose [] XP w s₀ mg mb s₁.heap → YP w s₁.heap → mg d.name = some (.ref fa) →
      s₁.heap.get? a = some { cls := .type "list", data := .seq vs.toArray } → IntsAre vs ns → ns.length ≤ n → (∀ x ∈ ns, Bd 1048576 x) → s₁.gens = #[] →
      codeAny (model l.prog w) callerA (.call (.ref fa) ⟨[.ref a], []⟩) (fun r s' => r = .ok (.ret (.bool true)) ∧ OldK s₁.heap s'.heap ∧ s'.os = s₁.os ∧ AllBare s'.gens) s₁) :
    WalkO q loose XP YP l.row.toRowW d [] (fun f vs => PySem.call f vs) := by
  intro w s₀ s₁ mg mb G Y fa o pm cd doc dV kV ho hd hcd hD hmg hg args vals as hpre hlay hrd hwl hlo
  obtain ⟨a, vs, ns, rfl, rfl, hobj, hints, hlen⟩ := script_of hn hpre hwl
  refine enter_call (codeAny_mono (call w s₀ s₁ mg mb fa a vs ns G Y hmg hobj hints hlen (lay_bits hlay) hg) fun r s' hq => ?_)
  obtain ⟨rfl, h2, h3, h4⟩ := hq
  exact ⟨.inl ⟨.bool true, .bool true, [], rfl, fun _ => rfl, .bool true, post_true l _, fun _ => ⟨List.Pairwise.nil, fun _ hm => (nomatch hm)⟩⟩, h2, h3, h4⟩
end Att
namespace L2
open PySem PySem.Spec PyProof.Rows Bg
def spLaw (K : PySem.W.Frag) : Sp := fun vs H Q _ => ∃ (a : Addr) (ns : List Int), vs = [.ref a] ∧ SqL K H a (ns.map V.int) ∧ ns.length ≤ 63 ∧ (∀ x ∈ ns, Bd 1048576 x) ∧ ∀ H', Q (.bl true) H'
theorem walk_B {l : PySem.W.OpenLaw} {k : Nat} {q : Program} {loose : List Str} {XP : (Str → Option Value) → Heap → Prop} {YP : World → Heap → Prop} {d : DefRec} {K : Params → PySem.W.Frag} {x : Str}
    (hn : l.most = some 63) (hdf : d.params.defaults = []) (hr : Room k callerA)
    (hY : ∀ (w : World) (h : Heap), YP w h → (K w.params).In h)
    (F : ∀ (w : World) (mg : Str → Option Value) (fa : Addr) (h : Heap), (K w.params).In h → h.Ns mainGlobals mg → mg d.name = some (.ref fa) →
      ∃ fd : FuncData, (∀ (s : Shared) (u : Value), BindsTo s fd ⟨[u], []⟩ [(x, u)]) ∧
        ∀ base : Heap, (K w.params).In base → base.Ns mainGlobals mg → FnOk l.prog w (K w.params) mg base CX0 k fa fd [x] (spLaw (K w.params))) :
    PySem.W.WalkO q loose XP YP l.row.toRowW d [] (fun f vs => PySem.call f vs) := by
  refine Att.attach_callB hn hdf fun w s₀ s₁ mg mb fa a vs ns G Y hmg hobj hints hlen hbd hg => ?_
  have KX := hY w _ Y
  obtain ⟨fd, hb, hF⟩ := F w mg fa _ KX G.T.g hmg
  exact law_call KX G.T.g G.T.b G.T.builtins G.T.nolimit hg hobj hints (Nat.le_trans hlen (by decide)) hr hF hb (fun H hO hS => ⟨a, ns, rfl, hS, hlen, hbd, fun _ => rfl⟩) fun H e s' z => z
theorem law_mk {P : Program} {w : World} {K : PySem.W.Frag} {mg : Str → Option Value} {fa : Addr} {k : Nat} {st : Stmt} {x : Str} (T : Top K mg "law" st) (hfa : mg "law" = some (.ref fa))
    (hb : ∀ (kV doc pm : Value) (an : Option Addr) (cdv ct : Value) (v : Value), bindArgs (PySem.W.fnOf "law" "law" (defArgs st) (defBody st) (defScope st) .none kV doc pm an cdv ct) ⟨[v], []⟩ = pure [(x, v)])
    (h : ∀ base f fd, Fun K "law" "law" st f fd → FnOk P w K mg base CX0 k f fd [x] (spLaw K)) :
    ∃ fd : FuncData, (∀ (s : Shared) (u : Value), BindsTo s fd ⟨[u], []⟩ [(x, u)]) ∧ ∀ base : Heap, K.In base → base.Ns mainGlobals mg → FnOk P w K mg base CX0 k fa fd [x] (spLaw K) := by
  obtain ⟨f, fd, F, m⟩ := T
  have e := hfa.symm.trans m
  cases e
  obtain ⟨oc, od, kV, doc, pm, an, cdv, ct, osl, e1, lk, hcd⟩ := id F.ex
  refine ⟨fd, fun s u => ?_, fun base _ _ => h base _ _ F⟩
  rw [e1]
  exact .of_eq (hb kV doc pm an cdv ct u)
end L2
namespace Bg
def fg (t b : Int) : Int := if b < 0 then -((Int.gcd t b : Nat) : Int) else ((Int.gcd t b : Nat) : Int)
def fT (t b : Int) : Int := t.fdiv (fg t b)
def fB (t b : Int) : Int := b.fdiv (fg t b)
theorem fg_gd (t b : Int) : fg t b = gd t t b := by
  have e : g3 t t b = Int.gcd t b := by
    unfold g3
    rw [Int.gcd_comm b t]
    have h : ((Int.gcd t b : Nat) : Int) ∣ t := Int.gcd_dvd_left ..
    rw [Int.gcd_comm]
    have := Int.gcd_eq_right_iff_dvd (a := t) (b := ((Int.gcd t b : Nat) : Int))
    rw [Int.gcd_eq_natAbs_gcd_natAbs]
    rw [Nat.gcd_eq_right (Int.natAbs_dvd_natAbs.mpr h)]
    simp
  unfold fg gd
  rw [e]
theorem fT_lA (t b : Int) : fT t b = lA t t b := by unfold fT lA; rw [fg_gd]
theorem fB_lN (t b : Int) : fB t b = lN t t b := by unfold fB lN; rw [fg_gd]
theorem f_b {t b : Int} (h : b ≠ 0) : 1 ≤ fB t b := by rw [fB_lN]; exact l_n h
theorem f_t {t b : Int} : fT t b * b = t * fB t b := by rw [fT_lA, fB_lN]; exact l_a
theorem f_gcd {t b : Int} (h : b ≠ 0) : Int.gcd (fT t b) (fB t b) = 1 := by
  have := l_gcd (a := t) (b := t) (n := b) h
  rw [fT_lA, fB_lN]
  unfold g3 at this
  have e : lB t t b = lA t t b := rfl
  rw [e] at this
  have d : ((Int.gcd (lN t t b) (lA t t b) : Nat) : Int) ∣ lA t t b := Int.gcd_dvd_right ..
  rw [Int.gcd_eq_natAbs_gcd_natAbs, Nat.gcd_eq_left (Int.natAbs_dvd_natAbs.mpr d), Int.natAbs_natCast] at this
  rw [Int.gcd_comm]
  exact this
theorem g3_mul (c x y z : Int) : g3 (c * x) (c * y) (c * z) = c.natAbs * g3 x y z := by
  unfold g3
  rw [Int.gcd_mul_left]
  have e1 : ((c.natAbs * Int.gcd z x : Nat) : Int).gcd (c * y) = Int.gcd (c * (Int.gcd z x : Nat)) (c * y) := by
    rw [Int.gcd_eq_natAbs_gcd_natAbs, Int.gcd_eq_natAbs_gcd_natAbs]
    congr 1
    rw [Int.natAbs_mul, Int.natAbs_natCast, Int.natAbs_natCast]
  rw [e1, Int.gcd_mul_left]
theorem dvd_g3 {d x y z : Int} (hx : d ∣ x) (hy : d ∣ y) (hz : d ∣ z) : d ∣ (g3 x y z : Int) := Int.dvd_coe_gcd (Int.dvd_coe_gcd hz hx) hy
theorem low_dvd {x y z x' y' z' : Int} (hg : g3 x y z = 1) (hx : x * z' = x' * z) (hy : y * z' = y' * z) : z ∣ z' := by
  have h1 : z ∣ z' * x := ⟨x', by rw [Int.mul_comm z', hx, Int.mul_comm]⟩
  have h2 : z ∣ z' * y := ⟨y', by rw [Int.mul_comm z', hy, Int.mul_comm]⟩
  have h3 : z ∣ z' * z := ⟨z', by rw [Int.mul_comm]⟩
  have h := dvd_g3 h1 h2 h3
  rw [g3_mul, hg, Nat.mul_one] at h
  exact Int.dvd_natAbs.mp h
theorem low_eq {x y z x' y' z' : Int} (h1 : 1 ≤ z) (h2 : 1 ≤ z') (g1 : g3 x y z = 1) (g2 : g3 x' y' z' = 1) (hx : x * z' = x' * z) (hy : y * z' = y' * z) : x = x' ∧ y = y' ∧ z = z' := by
  have d1 : z ∣ z' := low_dvd g1 hx hy
  have d2 : z' ∣ z := low_dvd g2 hx.symm hy.symm
  have e : z = z' := by
    have a1 := Int.le_of_dvd (by omega) d1
    have a2 := Int.le_of_dvd (by omega) d2
    omega
  subst e
  exact ⟨Int.eq_of_mul_eq_mul_right (by omega) hx, Int.eq_of_mul_eq_mul_right (by omega) hy, rfl⟩
theorem low_unique {x y z a b n : Int} (h1 : 1 ≤ z) (g1 : g3 x y z = 1) (hn : n ≠ 0) (hx : x * n = a * z) (hy : y * n = b * z) : x = lA a b n ∧ y = lB a b n ∧ z = lN a b n := by
  refine low_eq h1 (l_n hn) g1 (l_gcd hn) ?_ ?_
  · have e := l_a (a := a) (b := b) (n := n)
    refine Int.eq_of_mul_eq_mul_right hn ?_
    calc x * lN a b n * n = x * n * lN a b n := by rw [Int.mul_assoc, Int.mul_comm (lN a b n), Int.mul_assoc]
      _ = a * z * lN a b n := by rw [hx]
      _ = a * lN a b n * z := by rw [Int.mul_assoc, Int.mul_comm z, Int.mul_assoc]
      _ = lA a b n * n * z := by rw [e]
      _ = lA a b n * z * n := by rw [Int.mul_assoc, Int.mul_comm n, Int.mul_assoc]
  · have e := l_b (a := a) (b := b) (n := n)
    refine Int.eq_of_mul_eq_mul_right hn ?_
    calc y * lN a b n * n = y * n * lN a b n := by rw [Int.mul_assoc, Int.mul_comm (lN a b n), Int.mul_assoc]
      _ = b * z * lN a b n := by rw [hy]
      _ = b * lN a b n * z := by rw [Int.mul_assoc, Int.mul_comm z, Int.mul_assoc]
      _ = lB a b n * n * z := by rw [e]
      _ = lB a b n * z * n := by rw [Int.mul_assoc, Int.mul_comm n, Int.mul_assoc]
theorem frac_eq {x z x' z' : Int} (h1 : 1 ≤ z) (h2 : 1 ≤ z') (g1 : Int.gcd x z = 1) (g2 : Int.gcd x' z' = 1) (hx : x * z' = x' * z) : x = x' ∧ z = z' := by
  have k : ∀ {a b : Int}, Int.gcd a b = 1 → g3 a a b = 1 := fun {a b} h => by
    unfold g3
    rw [Int.gcd_comm b a, h]
    simp
  have := low_eq h1 h2 (k g1) (k g2) hx hx
  exact ⟨this.1, this.2.2⟩
end Bg
namespace Bg
theorem Bd.pow {k : Nat} {x : Int} (h : Bd k x) : ∀ n : Nat, 0 < k → Bd (k * n + 1) (x ^ n)
  | 0, _ => by
    unfold Bd
    rw [Int.pow_zero, Nat.mul_zero]
    decide
  | n + 1, hk => by
    have ih := Bd.pow h n hk
    rw [Int.pow_succ]
    have e : k * (n + 1) + 1 = (k * n + 1) + k := by rw [Nat.mul_succ]; omega
    rw [e]
    exact ih.mul h
theorem bd_powx {k n : Nat} {x : Int} (h : Bd k x) : Bd ((k + 1) * n + 1) (x ^ n) := Bd.pow (h.mono (Nat.le_succ k)) n (Nat.succ_pos k)
theorem bd_ediv {k : Nat} {x y : Int} (h : Bd k x) : Bd k (x / y) := h.of_le (Int.natAbs_ediv_le_natAbs x y)
theorem bd_emod {k : Nat} {x y : Int} (h : Bd k y) (hy : 0 < y) : Bd k (x % y) := h.emod (by omega) x
theorem bd_range {k : Nat} {x B : Int} (h0 : 0 ≤ x) (h1 : x ≤ B) (hB : B.natAbs < 2 ^ k) : Bd k x := by
  unfold Bd
  omega
theorem bd_small {x : Int} (k : Nat) (h0 : -1000000 ≤ x) (h1 : x ≤ 1000000) (hk : 20 ≤ k) : Bd k x := by
  have h : Bd 20 x := by
    unfold Bd
    have : (2 : Nat) ^ 20 = 1048576 := by decide
    omega
  exact h.mono hk
theorem gcd_abs2 (a b : Int) : Int.gcd (if a < 0 then -a else a) (if b < 0 then -b else b) = Int.gcd a b := by
  have e : ∀ x : Int, (if x < 0 then -x else x) = (x.natAbs : Int) := fun x => by split <;> omega
  rw [e, e, Int.gcd_eq_natAbs_gcd_natAbs, Int.gcd_eq_natAbs_gcd_natAbs, Int.natAbs_natCast, Int.natAbs_natCast]
end Bg
namespace L2
open PySem PySem.Spec PyProof.Rows Bg
section
variable {σ : St} {H : Hp} {Q : VK} {D : Ends} {K : PySem.W.Frag}
theorem cpw_of {k : Nat} {i j : Int} (h : Bd k i) (h0 : 0 ≤ j) (h1 : (k : Int) * j ≤ 134217728) : CPw i j := by
  refine ⟨h0, ?_⟩
  have e : (2 : Int) ^ 27 = 134217728 := by decide
  rw [e]
  refine Int.le_trans (Int.mul_le_mul_of_nonneg_right ?_ h0) h1
  have := bits_of h
  omega
def tCut (t : TS) : TS := fun D σ H => ∃ T : St → Hp → Prop, (∀ σ' H', T σ' H' → D.nx σ' H') ∧ t { D with nx := T } σ H
theorem ps_cut {X : Cx} {st : Stmt} {t : TS} (h : PS X st t) : PS X st (tCut t) := by
  intro pins s σ H D I hw
  obtain ⟨T, hT, hw⟩ := hw
  refine thn (h pins s σ H _ I hw) fun f s' q => ?_
  cases f with
  | next => obtain ⟨σ', H', I', q⟩ := q; exact ⟨σ', H', I', hT _ _ q⟩
  | brk => exact q
  | cont => exact q
  | ret v => exact q
theorem i_cut {t : TS} {T : St → Hp → Prop} (h : t { D with nx := T } σ H) (hT : ∀ σ' H', T σ' H' → D.nx σ' H') : tCut t D σ H := ⟨T, hT, h⟩
theorem i_newT {xs : List V} (hl : xs.length ≤ 1000) (h : ∀ p H2, Same H H2 → H2 p = some (.tup xs) → Q (.ref p) H2) : NewT xs H Q :=
  ⟨small_le hl, fun p hp => h p _ (same_upd hp _) upd_same⟩
theorem i_newL {xs : List V} (hl : xs.length ≤ 1000) (h : ∀ p H2, Same H H2 → H2 p = some (.lst xs) → Q (.ref p) H2) : NewL xs H Q :=
  ⟨small_le hl, fun p hp => h p _ (same_upd hp _) upd_same⟩
theorem i_newLf {xs : List V} (hl : xs.length ≤ 1000) (h : ∀ p H2, H p = none → Same H H2 → H2 p = some (.lst xs) → Q (.ref p) H2) : NewL xs H Q :=
  ⟨small_le hl, fun p hp => h p _ hp (same_upd hp _) upd_same⟩
theorem i_cat {l b : Addr} {xs zs : List V} (h1 : H l = some (.lst xs)) (h2 : H b = some (.lst zs)) (hz : xs.length + zs.length ≤ 1000) (h : ∀ p H2, Same H H2 → H2 p = some (.lst (xs ++ zs)) → Q (.ref p) H2) : rCat (.ref l) (.ref b) H Q :=
  ⟨l, b, xs, zs, rfl, rfl, h1, h2, small_le hz, fun p hp => h p _ (same_upd hp _) upd_same⟩
theorem i_sl {r : V → Option Int → Option Int → Hp → VK → Prop} {te : TE} {tl th : TO} (h : te σ H fun x H1 => tl σ H1 fun l H2 => th σ H2 fun u H3 => r x l u H3 Q) : tSl r te tl th σ H Q := h
theorem i_noPart {R : Option Int → Hp → Prop} (h : R none H) : tNoPart σ H R := h
theorem i_part {t : TE} {R : Option Int → Hp → Prop} (h : t σ H fun x H1 => ∃ i, x = .int i ∧ R (some i) H1) : tPart t σ H R := h
theorem i_int {k : Int} {R : Int → Prop} (h : R k) : ∃ k', V.int k = .int k' ∧ R k' := ⟨k, rfl, h⟩
theorem i_forL {tl : TE} {g : TG} {tb : TS} (h : tl σ H fun x H1 => ∃ a, x = .ref a ∧ (∃ xs, SqL K H1 a xs) ∧ ∃ W : Nat → Nat → St → Hp → Prop, (∃ m, W 0 m σ H1) ∧ ∀ i m σ H, W i m σ H →
  ((Itl K a).stop i H ∧ D.nx σ H) ∨ ((Itl K a).go i H ∧ ∃ N : St → Hp → Prop, (∀ σ' H', N σ' H' → ∃ m', m' < m ∧ W (i + 1) m' σ' H') ∧ ∀ x H', (Itl K a).yld i H x H' → g x σ H' fun σ2 H2 => tb { D with nx := N, ct := N, bk := D.nx } σ2 H2)) :
  tFor (iList K tl) g tb D σ H := h
theorem Same.tup {H H' : Hp} {p : Addr} {xs : List V} (s : Same H H') (h : H p = some (.tup xs)) : H' p = some (.tup xs) := s _ _ h
end
end L2
namespace L2
open PySem PySem.Spec PyProof.Rows Bg
def EqV (X : Cx) (n : Nat) (H : Hp) (x y : V) (b : Bool) : Prop :=
  ∀ (pins : List (Addr × Obj)) (σ : St) (s : Shared) (v u : Value) (A : Around), Inv X pins σ H s → RelV x v → RelV y u → A.units + 4 * n < cLine → SeqAt.EqAt A s v u b
theorem EqV.int {X : Cx} {n : Nat} {H : Hp} (i j : Int) : EqV X n H (.int i) (.int j) (i == j) := fun _ _ s v u A _ rv ru _ => by
  obtain ⟨t, rfl⟩ := rv
  obtain ⟨t', rfl⟩ := ru
  exact SeqAt.EqAt.int_int i t j t'
inductive EqVs (X : Cx) (n : Nat) (H : Hp) : List V → List V → List Bool → Prop
  | nil : EqVs X n H [] [] []
  | cons {x y : V} {b : Bool} {xs ys : List V} {bs : List Bool} : EqV X n H x y b → EqVs X n H xs ys bs → EqVs X n H (x :: xs) (y :: ys) (b :: bs)
theorem EqVs.at {X : Cx} {n : Nat} {H : Hp} : ∀ {xs ys : List V} {bs : List Bool}, EqVs X n H xs ys bs → ∀ {j : Nat} {x y : V}, xs[j]? = some x → ys[j]? = some y → EqV X n H x y (bs.getD j false)
  | _, _, _, .nil, j, x, y, h, _ => by simp at h
  | _, _, _, .cons e _, 0, x, y, h1, h2 => by
    simp at h1 h2
    subst h1; subst h2
    exact e
  | _, _, _, .cons _ r, j + 1, x, y, h1, h2 => by
    have := EqVs.at r (j := j) (x := x) (y := y) (by simpa using h1) (by simpa using h2)
    simpa using this
theorem EqVs.len {X : Cx} {n : Nat} {H : Hp} : ∀ {xs ys : List V} {bs : List Bool}, EqVs X n H xs ys bs → xs.length = bs.length ∧ ys.length = bs.length
  | _, _, _, .nil => ⟨rfl, rfl⟩
  | _, _, _, .cons _ r => by
    have := r.len
    simp only [List.length_cons]
    omega
theorem all_getD (bs : List Bool) : ((List.range bs.length).all fun j => bs.getD j false) = bs.all id := by
  rw [Bool.eq_iff_iff]
  simp only [List.all_eq_true, List.mem_range, id]
  constructor
  · intro h b hb
    obtain ⟨j, hj, e⟩ := List.mem_iff_getElem.mp hb
    have := h j hj
    rw [List.getD_eq_getElem?_getD, List.getElem?_eq_getElem hj] at this
    rw [← e]
    exact this
  · intro h j hj
    rw [List.getD_eq_getElem?_getD, List.getElem?_eq_getElem hj]
    exact h _ (List.getElem_mem hj)
theorem rc_tup {X : Cx} {n : Nat} {H : Hp} {a b : Addr} {xs ys : List V} {bs : List Bool} {pins : List (Addr × Obj)} {σ : St} {s : Shared} {A : Around} (ha : SqT X.K H a xs) (hb : SqT X.K H b ys) (he : EqVs X n H xs ys bs) (I : Inv X pins σ H s) (hu : A.units + 4 * (n + 1) < cLine) :
    ∃ (is js : Array Value), s.heap.IsTuple a is ∧ s.heap.IsTuple b js ∧ (∀ j (h1 : j < is.size) (h2 : j < js.size), SeqAt.EqAt A.in1 s is[j] js[j] (bs.getD j false)) ∧ ((List.range (min is.size js.size)).all (fun j => bs.getD j false) && is.size == js.size) = bs.all id := by
  obtain ⟨is, r1, p1, _⟩ := I.tuple ha
  obtain ⟨js, r2, p2, _⟩ := I.tuple hb
  obtain ⟨l1, l2⟩ := he.len
  have q1 := r1.length
  have q2 := r2.length
  refine ⟨is.toArray, js.toArray, (show s.heap.IsTuple a is.toArray from p1), (show s.heap.IsTuple b js.toArray from p2), fun j h1 h2 => ?_, ?_⟩
  · have hj1 : j < xs.length := by rw [q1]; simpa using h1
    have hj2 : j < ys.length := by rw [q2]; simpa using h2
    obtain ⟨v, ev, rv⟩ := r1.get (List.getElem?_eq_getElem hj1)
    obtain ⟨u, eu, ru⟩ := r2.get (List.getElem?_eq_getElem hj2)
    have e1 : is.toArray[j] = v := by
      have : is[j]? = some v := ev
      rw [List.getElem?_eq_getElem (by simpa using h1)] at this
      simpa using Option.some.inj this
    have e2 : js.toArray[j] = u := by
      have : js[j]? = some u := eu
      rw [List.getElem?_eq_getElem (by simpa using h2)] at this
      simpa using Option.some.inj this
    rw [e1, e2]
    exact he.at (List.getElem?_eq_getElem hj1) (List.getElem?_eq_getElem hj2) pins σ s v u A.in1 I rv ru (by show A.units + 1 + 4 * n < cLine; omega)
  · have e1 : is.toArray.size = bs.length := by rw [List.size_toArray]; omega
    have e2 : js.toArray.size = bs.length := by rw [List.size_toArray]; omega
    rw [e1, e2, Nat.min_self, all_getD]
    simp
theorem EqV.tup {X : Cx} {n : Nat} {H : Hp} {a b : Addr} {xs ys : List V} {bs : List Bool} (ha : SqT X.K H a xs) (hb : SqT X.K H b ys) (he : EqVs X n H xs ys bs) (hs : a = b → bs.all id = true) : EqV X (n + 1) H (.ref a) (.ref b) (bs.all id) := fun pins σ s v u A I rv ru hu => by
  cases rv
  cases ru
  by_cases hab : a = b
  · subst hab
    rw [hs rfl]
    exact SeqAt.EqAt.same _
  · obtain ⟨is, js, p1, p2, hj, e⟩ := rc_tup ha hb he I hu
    have := SeqAt.RcAt.tuples (A := A) (e := fun j => bs.getD j false) p1 p2 (by omega) hj
    rw [e] at this
    exact SeqAt.EqAt.of_refs hab this
def rEqT (X : Cx) : R2 := fun x y H Q => ∃ a b xs ys bs n, x = .ref a ∧ y = .ref b ∧ n ≤ 9 ∧ SqT X.K H a xs ∧ SqT X.K H b ys ∧ EqVs X n H xs ys bs ∧ Q (.bl (bs.all id)) H
def rNeT (X : Cx) : R2 := fun x y H Q => ∃ a b xs ys bs n, x = .ref a ∧ y = .ref b ∧ n ≤ 9 ∧ SqT X.K H a xs ∧ SqT X.K H b ys ∧ EqVs X n H xs ys bs ∧ Q (.bl (!(bs.all id))) H
theorem op_eqT {X : Cx} (hu : X.A.units + 64 < cLine) : OpR X (compareOp .Eq) (rEqT X) := by
  intro pins s σ H x y v u Q I rx ry h
  obtain ⟨a, b, xs, ys, bs, n, rfl, rfl, hn, ha, hb, he, q⟩ := h
  cases rx
  cases ry
  obtain ⟨is, js, p1, p2, hj, e⟩ := rc_tup (A := X.A) ha hb he I (by omega)
  refine SeqAt.eq_tupleAt p1 p2 (by omega) hj ?_
  rw [e]
  exact ⟨.bl _, H, I, rfl, q⟩
theorem op_neT {X : Cx} (hu : X.A.units + 64 < cLine) : OpR X (compareOp .NotEq) (rNeT X) := by
  intro pins s σ H x y v u Q I rx ry h
  obtain ⟨a, b, xs, ys, bs, n, rfl, rfl, hn, ha, hb, he, q⟩ := h
  cases rx
  cases ry
  obtain ⟨is, js, p1, p2, hj, e⟩ := rc_tup (A := X.A) ha hb he I (by omega)
  refine SeqAt.RcNeAt.tuples p1 p2 (by omega) hj X.prog X.w X.xe _ ?_
  rw [e]
  exact ⟨.bl _, H, I, rfl, q⟩
theorem i_eq3 {X : Cx} {H : Hp} {Q : VK} {a b : Addr} {x y z x' y' z' : Int} (ha : H a = some (.tup [.int x, .int y, .int z])) (hb : H b = some (.tup [.int x', .int y', .int z'])) (q : Q (.bl (decide (x = x' ∧ y = y' ∧ z = z'))) H) : rEqT X (.ref a) (.ref b) H Q := by
  refine ⟨a, b, _, _, _, 0, rfl, rfl, Nat.zero_le _, SqT.of ha, SqT.of hb, .cons (.int x x') (.cons (.int y y') (.cons (.int z z') .nil)), ?_⟩
  have e : ([x == x', y == y', z == z'] : List Bool).all id = decide (x = x' ∧ y = y' ∧ z = z') := by
    rw [Bool.eq_iff_iff]
    simp
  rw [e]
  exact q
end L2
namespace L2
open PySem PySem.Spec PyProof.Rows Bg
def SameX (l : Addr) (H H' : Hp) : Prop := ∀ b o, H b = some o → b ≠ l → H' b = some o
theorem Same.sameX {H H' : Hp} (s : Same H H') (l : Addr) : SameX l H H' := fun b o e _ => s b o e
theorem SameX.trans {l : Addr} {H H1 H2 : Hp} (a : SameX l H H1) (b : SameX l H1 H2) : SameX l H H2 := fun c o e n => b c o (a c o e n) n
theorem SameX.tup {l p : Addr} {H H' : Hp} {xs ys : List V} (s : SameX l H H') (h : H p = some (.tup xs)) (hl : H l = some (.lst ys)) : H' p = some (.tup xs) := s _ _ h (ne_of h hl (fun z => nomatch z))
section
variable {σ : St} {H : Hp} {Q : VK} {D : Ends} {K : PySem.W.Frag}
theorem i_append {l : Addr} {xs : List V} {y : V} (h : H l = some (.lst xs)) (hz : xs.length < 1000) (q : ∀ H2, SameX l H H2 → H2 l = some (.lst (xs ++ [y])) → Q .non H2) : rAppend (.ref l) [y] H Q :=
  ⟨l, xs, y, rfl, rfl, h, Nat.lt_of_lt_of_le hz (small_le (Nat.le_refl _)), q _ (fun b o e n => by rw [upd_ne n]; exact e) upd_same⟩
theorem i_bm {T : String} {r : V → List V → Hp → VK → Prop} {to : TE} {t : TA} (h : to σ H fun x H1 => tyV K T x H1 ∧ t σ H1 fun xs H2 => r x xs H2 Q) : tBM K T r to t σ H Q := h
theorem i_tyL {l : Addr} {xs : List V} {R : Prop} (h : H l = some (.lst xs)) (q : R) : tyV K "list" (.ref l) H ∧ R := ⟨.inl ⟨rfl, _, SqL.of h⟩, q⟩
end
end L2
namespace Bg
structure Rt (d : Int) : Prop where
  lo : 2 ≤ d
  hi : d ≤ 99
  ns : ∀ k : Nat, ((k * k : Nat) : Int) ≠ d
theorem rt_of {d : Int} (h : 2 ≤ d ∧ d ≤ 99) (n : d ≠ 4 ∧ d ≠ 9 ∧ d ≠ 16 ∧ d ≠ 25 ∧ d ≠ 36 ∧ d ≠ 49 ∧ d ≠ 64 ∧ d ≠ 81) : Rt d := by
  refine ⟨h.1, h.2, fun k e => ?_⟩
  have hk : k < 10 := by
    refine Nat.lt_of_not_le fun z => ?_
    have : 10 * 10 ≤ k * k := Nat.mul_le_mul z z
    omega
  have : k = 0 ∨ k = 1 ∨ k = 2 ∨ k = 3 ∨ k = 4 ∨ k = 5 ∨ k = 6 ∨ k = 7 ∨ k = 8 ∨ k = 9 := by omega
  rcases this with q | q | q | q | q | q | q | q | q | q <;> subst q <;> omega
theorem irrN {D A B : Nat} (ns : ∀ k : Nat, k * k ≠ D) (e : A * A = D * B * B) : B = 0 := by
  rcases Nat.eq_zero_or_pos B with z | hB
  · exact z
  exfalso
  have hg : 0 < Nat.gcd A B := Nat.gcd_pos_of_pos_right A hB
  have hc := Nat.coprime_div_gcd_div_gcd hg
  obtain ⟨a, ha⟩ := Nat.gcd_dvd_left A B
  obtain ⟨b, hb⟩ := Nat.gcd_dvd_right A B
  have ea : A / Nat.gcd A B = a := by rw [Nat.div_eq_iff_eq_mul_right hg (Nat.gcd_dvd_left A B)]; exact ha
  have eb : B / Nat.gcd A B = b := by rw [Nat.div_eq_iff_eq_mul_right hg (Nat.gcd_dvd_right A B)]; exact hb
  rw [ea, eb] at hc
  generalize Nat.gcd A B = g at *
  have e2 : a * a = D * b * b := by
    have h1 : g * g * (a * a) = g * g * (D * b * b) := by
      rw [ha, hb] at e
      calc g * g * (a * a) = g * a * (g * a) := by simp only [Nat.mul_assoc, Nat.mul_left_comm]
        _ = D * (g * b) * (g * b) := e
        _ = g * g * (D * b * b) := by simp only [Nat.mul_assoc, Nat.mul_left_comm]
    exact Nat.eq_of_mul_eq_mul_left (Nat.mul_pos hg hg) h1
  have d1 : b ∣ a * a := ⟨D * b, by rw [e2, Nat.mul_comm b]⟩
  have d2 : b ∣ a := hc.symm.dvd_of_dvd_mul_left d1
  have d3 : b = 1 := by
    have : b ∣ Nat.gcd a b := Nat.dvd_gcd d2 (Nat.dvd_refl b)
    rw [show Nat.gcd a b = 1 from hc] at this
    exact Nat.dvd_one.mp this
  rw [d3, Nat.mul_one, Nat.mul_one] at e2
  exact ns a e2
theorem irr {d a b : Int} (h : Rt d) (e : a * a = d * b * b) : b = 0 := by
  have hd : (d.toNat : Int) = d := Int.toNat_of_nonneg (by have := h.lo; omega)
  have := irrN (D := d.toNat) (A := a.natAbs) (B := b.natAbs) (fun k q => h.ns k (by rw [q]; exact hd)) (by
    have h1 : ((a.natAbs * a.natAbs : Nat) : Int) = ((d.toNat * b.natAbs * b.natAbs : Nat) : Int) := by
      have ea : ((a.natAbs * a.natAbs : Nat) : Int) = a * a := Int.natAbs_mul_self
      have eb : ((b.natAbs * b.natAbs : Nat) : Int) = b * b := Int.natAbs_mul_self
      rw [ea, Nat.mul_assoc, Int.natCast_mul, eb, hd, ← Int.mul_assoc]
      exact e
    exact Int.ofNat.inj h1)
  omega
def sgn (d a b : Int) : Int := if 0 ≤ a ∧ 0 ≤ b then (if 0 < a + b then 1 else 0) else if a ≤ 0 ∧ b ≤ 0 then -1 else if 0 < a then (if d * b * b < a * a then 1 else -1) else (if a * a < d * b * b then 1 else -1)
theorem sq_pos {b : Int} (h : b ≠ 0) : 0 < b * b := by
  rcases Int.lt_or_gt_of_ne h with q | q
  · exact Int.mul_pos_of_neg_of_neg q q
  · exact Int.mul_pos q q
theorem dsq_pos {d b : Int} (h : 2 ≤ d) (hb : b ≠ 0) : 0 < d * b * b := by rw [Int.mul_assoc]; exact Int.mul_pos (by omega) (sq_pos hb)
def nrm (d a b : Int) : Int := a * a - d * b * b
theorem nrm_zero {d a b : Int} (h : Rt d) (e : nrm d a b = 0) : a = 0 ∧ b = 0 := by
  unfold nrm at e
  have hb := irr (a := a) (b := b) h (by omega)
  subst hb
  rw [Int.mul_zero] at e
  refine ⟨?_, rfl⟩
  rcases Int.lt_trichotomy a 0 with q | q | q
  · have := Int.mul_pos_of_neg_of_neg q q; omega
  · exact q
  · have := Int.mul_pos q q; omega
def sg (x : Int) : Int := if 0 < x then 1 else if x < 0 then -1 else 0
theorem sgn_pos {d a b : Int} (h : Rt d) (n : 0 < nrm d a b) : sgn d a b = sg a := by
  unfold nrm at n
  have ha : a ≠ 0 := fun z => by
    subst z
    by_cases hb : b = 0
    · subst hb; simp at n
    · have := dsq_pos h.lo hb
      omega
  unfold sgn sg
  repeat' split
  all_goals omega
theorem sgn_neg' {d a b : Int} (h : Rt d) (n : nrm d a b < 0) : sgn d a b = sg b := by
  unfold nrm at n
  have hb : b ≠ 0 := fun z => by
    subst z
    rw [Int.mul_zero] at n
    by_cases ha : a = 0
    · subst ha; simp at n
    · have := sq_pos ha
      omega
  unfold sgn sg
  repeat' split
  all_goals omega
theorem nrm_tri {d a b : Int} (h : Rt d) : (0 < nrm d a b) ∨ (nrm d a b < 0) ∨ (a = 0 ∧ b = 0) := by
  rcases Int.lt_trichotomy (nrm d a b) 0 with q | q | q
  · exact .inr (.inl q)
  · exact .inr (.inr (nrm_zero h q))
  · exact .inl q
theorem sg_neg (x : Int) : sg (-x) = - sg x := by unfold sg; repeat' split <;> omega
theorem nrm_neg (d a b : Int) : nrm d (-a) (-b) = nrm d a b := by unfold nrm; rw [Int.neg_mul_neg, Int.mul_assoc, Int.neg_mul_neg, ← Int.mul_assoc]
theorem sgn_neg {d : Int} (h : Rt d) (a b : Int) : sgn d (-a) (-b) = - sgn d a b := by
  rcases nrm_tri (a := a) (b := b) h with q | q | ⟨rfl, rfl⟩
  · rw [sgn_pos h q, sgn_pos h (by rw [nrm_neg]; exact q), sg_neg]
  · rw [sgn_neg' h q, sgn_neg' h (by rw [nrm_neg]; exact q), sg_neg]
  · rfl
theorem sg_cases (x : Int) : (0 < x ∧ sg x = 1) ∨ (x < 0 ∧ sg x = -1) ∨ (x = 0 ∧ sg x = 0) := by unfold sg; repeat' split <;> omega
theorem sq_nn (x : Int) : 0 ≤ x * x := by
  by_cases h : x = 0
  · subst h; simp
  · exact Int.le_of_lt (sq_pos h)
theorem dsq_nn {d : Int} (h : 2 ≤ d) (x : Int) : 0 ≤ d * x * x := by rw [Int.mul_assoc]; exact Int.mul_nonneg (by omega) (sq_nn x)
theorem sgn_tri {d : Int} (h : Rt d) (a b : Int) : sgn d a b = 1 ∨ sgn d a b = -1 ∨ (a = 0 ∧ b = 0) := by
  rcases nrm_tri (a := a) (b := b) h with q | q | q
  · have ha : a ≠ 0 := fun z => by
      subst z
      unfold nrm at q
      have := dsq_nn h.lo b
      omega
    rw [sgn_pos h q]
    rcases sg_cases a with ⟨_, e⟩ | ⟨_, e⟩ | ⟨e, _⟩
    · exact .inl e
    · exact .inr (.inl e)
    · exact absurd e ha
  · have hb : b ≠ 0 := fun z => by
      subst z
      unfold nrm at q
      rw [Int.mul_zero] at q
      have := sq_nn a
      omega
    rw [sgn_neg' h q]
    rcases sg_cases b with ⟨_, e⟩ | ⟨_, e⟩ | ⟨e, _⟩
    · exact .inl e
    · exact .inr (.inl e)
    · exact absurd e hb
  · exact .inr (.inr q)
def rpart (b r : Int) : Int := if b < 0 then -r - 1 else r
end Bg
namespace Bg
theorem sgn_nn {d a b : Int} (h : 0 ≤ a) (k : 0 ≤ b) : sgn d a b = if 0 < a + b then 1 else 0 := by unfold sgn; rw [if_pos ⟨h, k⟩]
theorem sgn_np {d a b : Int} (n : ¬ (0 ≤ a ∧ 0 ≤ b)) (h : a ≤ 0) (k : b ≤ 0) : sgn d a b = -1 := by unfold sgn; rw [if_neg n, if_pos ⟨h, k⟩]
theorem sgn_pa {d a b : Int} (h : 0 < a) (k : b < 0) : sgn d a b = if d * b * b < a * a then 1 else -1 := by unfold sgn; rw [if_neg (by omega), if_neg (by omega), if_pos h]
theorem sgn_pb {d a b : Int} (h : a < 0) (k : 0 < b) : sgn d a b = if a * a < d * b * b then 1 else -1 := by unfold sgn; rw [if_neg (by omega), if_neg (by omega), if_neg (by omega)]
end Bg
namespace L2
open PySem PySem.Spec PyProof.Rows Bg
theorem closure_aux (env : Env) : ∀ (names : List (Str × NameKind)) (acc : List (Str × Addr)), (∀ y ∈ names, y.2 = .free → ∃ c, env.cells.lookup y.1 = some c) → (∀ x c, acc.lookup x = some c → env.cells.lookup x = some c) →
    ∃ cl, (forIn names acc (fun (x : Str × NameKind) (r : List (Str × Addr)) => if (x.snd == NameKind.free) = true then do
                  let a ← cellOf env x.fst
                  pure (ForInStep.yield ((x.fst, a) :: r))
                else pure (ForInStep.yield r)) : Sem (List (Str × Addr))) = pure cl ∧ (∀ x c, cl.lookup x = some c → env.cells.lookup x = some c) ∧
      ∀ x, ((∃ c, acc.lookup x = some c) ∨ ∃ y ∈ names, y.1 = x ∧ y.2 = .free) → ∃ c, cl.lookup x = some c
  | [], acc, _, ha => ⟨acc, rfl, ha, fun x h => by
      rcases h with h | ⟨y, hy, _⟩
      · exact h
      · simp at hy⟩
  | y :: r, acc, hn, ha => by
    by_cases hf : y.2 = .free
    · obtain ⟨c, hc⟩ := hn y List.mem_cons_self hf
      obtain ⟨cl, e, h1, h2⟩ := closure_aux env r ((y.1, c) :: acc) (fun z hz => hn z (List.mem_cons_of_mem _ hz)) (fun x d hx => by
        rw [List.lookup_cons] at hx
        split at hx
        · rename_i q
          have q' : x = y.1 := by simpa using q
          rw [q', hc]; exact hx
        · exact ha x d hx)
      refine ⟨cl, ?_, h1, fun x h => h2 x ?_⟩
      · rw [List.forIn_cons, if_pos (by rw [hf]; rfl)]
        unfold cellOf
        rw [hc]
        exact e
      · by_cases q : x = y.1
        · exact .inl ⟨c, by rw [List.lookup_cons, q]; simp⟩
        · rcases h with ⟨d, hd⟩ | ⟨z, hz, e1, e2⟩
          · exact .inl ⟨d, by
              rw [List.lookup_cons]
              have : (x == y.1) = false := by simpa using q
              rw [this]; exact hd⟩
          · rcases List.mem_cons.mp hz with e3 | e3
            · subst e3; exact absurd e1.symm q
            · exact .inr ⟨z, e3, e1, e2⟩
    · obtain ⟨cl, e, h1, h2⟩ := closure_aux env r acc (fun z hz => hn z (List.mem_cons_of_mem _ hz)) ha
      refine ⟨cl, ?_, h1, fun x h => h2 x ?_⟩
      · rw [List.forIn_cons, if_neg (by simpa using hf)]
        exact e
      · rcases h with h | ⟨z, hz, e1, e2⟩
        · exact .inl h
        · rcases List.mem_cons.mp hz with e3 | e3
          · subst e3; exact absurd e2 hf
          · exact .inr ⟨z, e3, e1, e2⟩
theorem closure_of {scope : Scope} {env : Env} (h : ∀ y ∈ scope.names, y.2 = .free → ∃ c, env.cells.lookup y.1 = some c) :
    ∃ cl, closureFor scope env = pure cl ∧ (∀ x c, cl.lookup x = some c → env.cells.lookup x = some c) ∧ ∀ y ∈ scope.names, y.2 = .free → ∃ c, cl.lookup y.1 = some c := by
  obtain ⟨cl, e, h1, h2⟩ := closure_aux env scope.names [] h (fun x c q => by simp at q)
  refine ⟨cl, ?_, h1, fun y hy hf => h2 y.1 (.inr ⟨y, hy, rfl, hf⟩)⟩
  exact congrArg (fun z : Sem (List (Str × Addr)) => z >>= fun cs => pure cs) e
section
variable {prog : Program} {w : World} {A : Around} {R : Result → Shared → Prop} {s : Shared}
abbrev NoX : Value → Shared → Prop := fun _ _ => False
theorem codeAny_compLoop_go {elt target iter : Expr} {ifs : List Expr} {scope : Scope} {pos : Pos} {it acc : Value} {env : Env} (I : Nat → Shared → Prop)
    (turn : ∀ n s, I n s → wpAny (model prog w) A (pyNext it) (fun r s₁ => match r with
      | none => R (.ok .next) s₁
      | some v => wpAny (model prog w) A (letOwnedTupleGo target it v) (fun _ s₁' => wpAny (model prog w) A (assign target env v) (fun _ s₂ =>
          wpAny (model prog w) A (forIn ifs true fun c r => if r = true then do let ok ← isTrue c env (eval c env); pure (ForInStep.yield ok) else pure (ForInStep.yield r)) (fun ok s₃ =>
            if ok = true then wpAny (model prog w) A (eval elt env) (fun x s₄ =>
              wpAny (model prog w) A (call (.builtin "list.append") [acc, x]) (fun _ s₅ => ∃ m, m < n ∧ I m s₅) NoX s₄) NoX s₃
            else ∃ m, m < n ∧ I m s₃) NoX s₂) NoX s₁') NoX s₁) NoX s)
    (n : Nat) (h : I n s) :
    codeAny (model prog w) A (.compLoop (.ListComp elt [⟨target, iter, ifs, 0⟩] scope pos) 0 it acc env) R s := by
  refine codeAny_loop rfl I (fun n s hI => ?_) n h
  show wpAny _ A ((compTurn (.ListComp elt [⟨target, iter, ifs, 0⟩] scope pos) 0 it acc env).onRaise (fun x => do noteFrame x env; theTreesLotGoes x)) _ _ s
  refine wpAny_noted ?_
  rw [compTurn_list]
  refine wpAny_bind (wpAny_standAt (wpAny_bind (wpAny_mono (turn n s hI) (fun r s₁ h₁ => ?_) fun _ _ h' => h'.elim)))
  cases r with
  | none => exact wpAny_pure h₁
  | some v =>
    refine wpAny_bind (wpAny_mono h₁ (fun _ s₁' h₁' => ?_) fun _ _ h' => h'.elim)
    refine wpAny_bind (wpAny_mono h₁' (fun _ s₂ h₂ => wpAny_bind (wpAny_mono h₂ (fun ok s₃ h₃ => ?_) fun _ _ h' => h'.elim)) fun _ _ h' => h'.elim)
    cases ok with
    | false => exact wpAny_pure ⟨rfl, h₃⟩
    | true =>
      exact wpAny_bind (wpAny_bind (wpAny_mono h₃ (fun x s₄ h₄ => wpAny_bind (wpAny_mono h₄ (fun _ s₅ h₅ => wpAny_pure (wpAny_pure ⟨rfl, h₅⟩)) fun _ _ h' => h'.elim)) fun _ _ h' => h'.elim))
end
end L2
namespace L2
open PySem PySem.Spec PyProof.Rows Bg
theorem lookup_relabel_free {env : Env} (hk : env.scope.kind = .function) : ∀ {names : List (Str × NameKind)} {x : Str}, names.lookup x = some .free → env.kindOf x = some .cell →
    (names.map fun (n, k) => if (k == NameKind.free && env.scope.kind == .function && env.kindOf n == some .cell) then (n, NameKind.cell) else (n, k)).lookup x = some .cell
  | [], _, h, _ => by simp at h
  | (n, k) :: r, x, h, he => by
    have ih := @lookup_relabel_free env hk r x
    show List.lookup x ((if (k == NameKind.free && env.scope.kind == .function && env.kindOf n == some .cell) = true then (n, NameKind.cell) else (n, k)) :: _) = _
    cases hx : x == n with
    | true =>
      simp only [List.lookup_cons, hx] at h
      cases h
      have hxn : x = n := by simpa using hx
      subst hxn
      have hc : (NameKind.free == NameKind.free && env.scope.kind == .function && env.kindOf x == some .cell) = true := by rw [hk, he]; rfl
      rw [if_pos hc]
      simp [List.lookup_cons]
    | false =>
      simp only [List.lookup_cons, hx] at h
      by_cases hc : (k == NameKind.free && env.scope.kind == .function && env.kindOf n == some .cell) = true
      · rw [if_pos hc]; simp only [List.lookup_cons, hx]; exact ih h he
      · rw [if_neg hc]; simp only [List.lookup_cons, hx]; exact ih h he
theorem of_relabel {env : Env} : ∀ {names : List (Str × NameKind)} {x : Str} {k : NameKind}, (∀ y ∈ names, y.2 ≠ .cell) → (k = .cell ∨ k = .free) →
    (names.map fun (n, k) => if (k == NameKind.free && env.scope.kind == .function && env.kindOf n == some .cell) then (n, NameKind.cell) else (n, k)).lookup x = some k → ∃ y ∈ names, y.1 = x ∧ y.2 = .free
  | [], _, _, _, _, h => by simp at h
  | (n, k) :: r, x, k', hn, hk, h => by
    have h' : List.lookup x ((if (k == NameKind.free && env.scope.kind == .function && env.kindOf n == some .cell) = true then (n, NameKind.cell) else (n, k)) :: _) = some k' := h
    have ih := @of_relabel env r x k' (fun y hy => hn y (List.mem_cons_of_mem _ hy)) hk
    have kn : k ≠ .cell := hn (n, k) List.mem_cons_self
    by_cases hc : (k == NameKind.free && env.scope.kind == .function && env.kindOf n == some .cell) = true
    · rw [if_pos hc, List.lookup_cons] at h'
      have kf : k = .free := by
        rw [Bool.and_eq_true, Bool.and_eq_true] at hc
        simpa using hc.1.1
      cases hx : x == n with
      | true =>
        have hxn : x = n := by simpa using hx
        exact ⟨(n, k), List.mem_cons_self, hxn.symm, kf⟩
      | false =>
        rw [hx] at h'
        obtain ⟨y, hy, q⟩ := ih h'
        exact ⟨y, List.mem_cons_of_mem _ hy, q⟩
    · rw [if_neg hc, List.lookup_cons] at h'
      cases hx : x == n with
      | true =>
        have hxn : x = n := by simpa using hx
        rw [hx] at h'
        have e : k = k' := Option.some.inj h'
        refine ⟨(n, k), List.mem_cons_self, hxn.symm, ?_⟩
        rcases hk with q | q
        · exact absurd (e.trans q) kn
        · exact e.trans q
      | false =>
        rw [hx] at h'
        obtain ⟨y, hy, q⟩ := ih h'
        exact ⟨y, List.mem_cons_of_mem _ hy, q⟩
theorem sc_free {scope : Scope} {ns : List (Str × NameKind)} (h : (scope.names.all fun y => y.2 != .free || ns.lookup y.1 == some .cell) = true) : ∀ y ∈ scope.names, y.2 = .free → ns.lookup y.1 = some .cell := fun y hy hf => by
  have := List.all_eq_true.mp h y hy
  rw [hf] at this
  simpa using this
theorem sc_js {scope : Scope} {ns : List (Str × NameKind)} {N : List Str} {js : List Nat} (h : (js.all fun j => scope.names.lookup (N.getD j Str.empty) == some .free && ns.lookup (N.getD j Str.empty) == some .cell) = true) : ∀ j ∈ js, scope.names.lookup (N.getD j Str.empty) = some .free ∧ ns.lookup (N.getD j Str.empty) = some .cell := fun j hj => by
  have := List.all_eq_true.mp h j hj
  rw [Bool.and_eq_true] at this
  exact ⟨eq_of_beq this.1, eq_of_beq this.2⟩
theorem sc_cell {scope : Scope} (h : (scope.names.all fun y => y.2 != .cell) = true) : ∀ y ∈ scope.names, y.2 ≠ .cell := fun y hy => by
  have := List.all_eq_true.mp h y hy
  simpa using this
theorem sc_names {scope : Scope} (h : (scope.names.all fun y => y.2 != .local || scope.names.lookup y.1 == some .local) = true) : ∀ y ∈ scope.names, y.2 = .local → scope.names.lookup y.1 = some .local := fun y hy hf => by
  have := List.all_eq_true.mp h y hy
  rw [hf] at this
  simpa using this
def inner (n : Nat) (js : List Nat) (σ : St) : St := List.replicate n none ++ js.map fun j => (σ[j]?).join
def cxComp (X : Cx) (scope : Scope) (cl : List (Str × Addr)) (own : List Str) (js : List Nat) (fp : List Addr) (C : Addr) (s3 : Shared) (H3 : Hp) : Cx :=
  { X with N := own ++ js.map (fun j => X.N.getD j Str.empty), s₀ := s3, H₀ := H3, env := compEnvC scope cl C X.env, outer := X.stack, ex := fp, fn := fun _ => false, pn := [], xe := fun _ _ => False }
def PIfs (X : Cx) (ifs : List Expr) (t : TT) : Prop := ∀ (pins : List (Addr × Obj)) (s : Shared) (σ : St) (H : Hp) (Q : Bool → Hp → Prop), Inv X pins σ H s → t σ H Q →
  wpAny (model X.prog X.w) X.A (forIn ifs true fun c r => if r = true then do let ok ← isTrue c X.env (eval c X.env); pure (ForInStep.yield ok) else pure (ForInStep.yield r)) (TP X pins σ Q) X.xe s
def tAll : TT := fun _ H B => B true H
theorem pifs_nil {X : Cx} : PIfs X [] tAll := fun _ _ _ H _ I h => wpAny_tests_nil ⟨H, I, h⟩
theorem pifs_one {X : Cx} {c : Expr} {t : TT} (h : PT X c t) : PIfs X [c] t := fun pins s σ H Q I q => wpAny_tests_one (h pins s σ H Q I q)
def tComp (wi : TI) (g : TG) (tc : TT) (te : TE) (n : Nat) (js : List Nat) : TE := fun σ H Q => wi σ H fun J H1 => ∀ D, H1 D = none → ∃ W : Nat → Nat → St → Hp → Prop, (∃ m, W 0 m (inner n js σ) (upd H1 D (.lst []))) ∧
  ∀ i m σ' H', W i m σ' H' → (J.stop i H' ∧ Q (.ref D) H') ∨ (J.go i H' ∧ ∀ x H2, J.yld i H' x H2 → g x σ' H2 fun σ3 H3 => tc σ3 H3 fun b H4 =>
    if b = true then te σ3 H4 fun v H5 => rAppend (.ref D) [v] H5 fun _ H6 => ∃ m', m' < m ∧ W (i + 1) m' σ3 H6 else ∃ m', m' < m ∧ W (i + 1) m' σ3 H4)
section
variable {X : Cx} {pins : List (Addr × Obj)} {σ : St} {H : Hp} {s : Shared} {scope : Scope} {cl : List (Str × Addr)} {own : List Str} {js : List Nat} {fp : List Addr}
theorem cxComp_ok (I : Inv X pins σ H s) (hkind : scope.kind = .function) (hcell : ∀ y ∈ scope.names, y.2 ≠ .cell) (cl1 : ∀ x c, cl.lookup x = some c → X.env.cells.lookup x = some c) (cl2 : ∀ y ∈ scope.names, y.2 = .free → ∃ c, cl.lookup y.1 = some c)
    (hf : ∀ b ∈ fp, FpOk X pins H b) (hl : ∀ b ∈ fp, b < s.heap.objs.size) : (cxComp X scope cl own js fp s.heap.objs.size s H).Ok := by
  have hno : ∀ b o, X.base.get? b = some o → b ∉ fp := fun b o e hb => by
    rcases (hf b hb).2.2.2.1 with z | z
    · exact I.ok.noex b o e z
    · exact absurd (Nat.lt_of_lt_of_le (Heap.lt_size e) (Nat.le_trans I.ok.bsz z)) (Nat.lt_irrefl _)
  have hex : ∀ b ∈ fp, b ∉ frs X.stack := fun b hb z => by
    rcases List.mem_cons.mp (I.stkSub b z) with e | e
    · exact (hf b hb).2.1 e
    · exact (hf b hb).2.2.1 e
  exact ⟨I.ok.mod, hkind, I.ok.glob, I.ok.blt, Nat.le_refl _, fun x y c h1 h2 => I.ok.inj x y c (cl1 x c h1) (cl1 y c h2),
    fun x hx => by
      have hx' : (∃ k, (k = NameKind.cell ∨ k = .free) ∧ (relabel scope X.env).names.lookup x = some k) := by
        rcases hx with z | z
        · exact ⟨_, .inl rfl, z⟩
        · exact ⟨_, .inr rfl, z⟩
      obtain ⟨k, hk, z⟩ := hx'
      obtain ⟨y, hy, e1, e2⟩ := of_relabel hcell hk z
      obtain ⟨c, hc⟩ := cl2 y hy e2
      exact ⟨c, by rw [← e1]; exact hc⟩,
    fun x c h _ => absurd h (by show ¬ (false = true); decide), I.ok.hd, I.ok.frames, .inl rfl,
    fun b hb => ⟨Nat.ne_of_lt (hl b hb), fun x c e => (hf b hb).2.2.2.2.1 x c (cl1 x c e)⟩,
    I.bs, Nat.le_trans I.ok.bsz I.sz, hno, hex, I.stack, I.stkFree⟩
theorem inv_comp {h₁ : Heap} {m : Str → Option Value} {t' : Nat} (I : Inv X pins σ H s) (hkind : scope.kind = .function) (hcell : ∀ y ∈ scope.names, y.2 ≠ .cell) (cl1 : ∀ x c, cl.lookup x = some c → X.env.cells.lookup x = some c) (cl2 : ∀ y ∈ scope.names, y.2 = .free → ∃ c, cl.lookup y.1 = some c)
    (hjs : ∀ j ∈ js, scope.names.lookup (X.N.getD j Str.empty) = some .free ∧ X.env.scope.names.lookup (X.N.getD j Str.empty) = some .cell)
    (hf : ∀ b ∈ fp, FpOk X pins H b) (hl : ∀ b ∈ fp, b < s.heap.objs.size) (hn : h₁.Ns s.heap.objs.size m) (k : ∀ b o, s.heap.get? b = some o → h₁.get? b = some o) :
    Inv (cxComp X scope cl own js fp s.heap.objs.size s H) [] (inner own.length js σ) H { s with heap := h₁, toks := t' } := by
  refine ⟨cxComp_ok I hkind hcell cl1 cl2 hf hl, rfl, I.bare, Un.kept k, ⟨m, hn, fun i x v h1 h2 h3 => ?_⟩, fun x c e => ?_, I.hok.fresh (Nat.le_refl _), fun x c e => I.freeC x c (cl1 x c e), fun p hp => absurd (show p ∈ ([] : List (Addr × Obj)) from hp) (by simp), I.hok.kept k, ?_⟩
  · have hi : own.length ≤ i := by
      unfold inner at h2
      by_cases z : i < own.length
      · rw [List.getElem?_append_left (by simpa using z), List.getElem?_replicate, if_pos z] at h2
        cases h2
      · omega
    unfold inner at h2
    rw [List.getElem?_append_right (by simpa using hi), List.length_replicate, List.getElem?_map] at h2
    have h1' : (own ++ js.map (fun j => X.N.getD j Str.empty))[i]? = some x := h1
    rw [List.getElem?_append_right hi, List.getElem?_map] at h1'
    cases ej : js[i - own.length]? with
    | none => rw [ej] at h2; cases h2
    | some j =>
      rw [ej] at h2 h1'
      have ex : X.N.getD j Str.empty = x := Option.some.inj h1'
      have ev : (σ[j]?).join = some v := Option.some.inj h2
      have ev' : σ[j]? = some (some v) := by
        cases q : σ[j]? with
        | none => rw [q] at ev; cases ev
        | some z => rw [q] at ev; rw [show z = some v from ev]
      have hjl : j < X.N.length := by
        rw [← I.len]
        exact (List.getElem?_eq_some_iff.mp ev').1
      have eN : X.N[j]? = some x := by
        rw [← ex, List.getD_eq_getElem?_getD, List.getElem?_eq_getElem hjl]
        rfl
      obtain ⟨f1, f2⟩ := hjs j (List.mem_of_getElem? ej)
      rw [ex] at f1 f2
      obtain ⟨mm, hnn, hll⟩ := I.loc
      obtain ⟨u, r, lk⟩ := hll j x v eN ev' (.inr (.inl f2))
      refine ⟨u, r, ?_⟩
      rcases lk with ⟨q, _⟩ | ⟨_, c, e, ic⟩
      · rw [show X.env.kindOf x = some .cell from f2] at q; cases q
      · obtain ⟨y, hy, e1, e2⟩ : ∃ y ∈ scope.names, y.1 = x ∧ y.2 = .free := ⟨_, PySem.mem_of_lookup f1, rfl, rfl⟩
        obtain ⟨c', hc'⟩ := cl2 y hy e2
        rw [e1] at hc'
        have : c' = c := by
          have := cl1 x c' hc'
          rw [e] at this
          exact (Option.some.inj this).symm
        subst this
        obtain ⟨o, ho, hd⟩ := ic
        exact .inr ⟨.inl (lookup_relabel_free I.ok.kind f1 f2), c', hc', ⟨o, k _ _ ho, hd⟩⟩
  · obtain ⟨v, o, ho, hd⟩ := I.cell x c (cl1 x c e)
    exact ⟨v, o, k _ _ ho, hd⟩
  · show _ = (own ++ js.map _).length
    unfold inner
    simp
theorem comp_left {H' : Hp} {σ' : St} {s' : Shared} {h' : Heap} (I : Inv X pins σ H s) (hf : ∀ b ∈ fp, FpOk X pins H b) (I' : Inv (cxComp X scope cl own js fp s.heap.objs.size s H) [] σ' H' s') (sb : Heap.SameBut s.heap.objs.size s'.heap h') : Inv X pins σ H' { s' with heap := h' } := by
  have u := I'.base
  have ne : ∀ b o, s.heap.get? b = some o → b ≠ s.heap.objs.size := fun b o e => Nat.ne_of_lt (Heap.lt_size e)
  refine I.call' (ch := fp) I'.os ⟨fun b o e n hb hx => ?_, fun b o e n hb hx => ?_, u.free, fun b o e hx => ?_, u.tups, u.frzs, u.tbls⟩ (fun b o e => ?_) I'.bare fun b hb => ⟨(hf b hb).2.2.2.1, (hf b hb).2.1, (hf b hb).2.2.2.2.1, (hf b hb).2.2.2.2.2⟩
  · exact (sb.2 b (ne b o e)).trans (u.keep b o e n hb hx)
  · obtain ⟨sl, z⟩ := u.slot b o e n hb hx
    exact ⟨sl, (sb.2 b (ne b o e)).trans z⟩
  · obtain ⟨o', z⟩ := u.there b o e hx
    exact ⟨o', (sb.2 b (ne b o e)).trans z⟩
  · have hfr : H' s.heap.objs.size = none := I'.free
    refine (I'.hok b o e).stay (fun c v hc q => (sb.2 c ?_).trans q) (fun _ q => q) fun _ _ q => q
    rintro rfl
    rcases hc with rfl | hc
    · rw [hfr] at e; cases e
    · rw [hfr] at hc; cases hc
end
theorem comp_any {X : Cx} {use : Option (Value → Sem Unit)} {R : Value → Shared → Prop} {pins : List (Addr × Obj)} {σ : St} {H : Hp} {s : Shared} {Q : VK} {elt iter tgt : Expr} {ifs : List Expr} {scope : Scope} {pos : Pos} {wi : TI} {g : TG} {tc : TT} {te : TE} (own : List Str) (js : List Nat)
    (hc : X.calm = true) (hi : PI X tgt iter wi)
    (hg : ∀ cl fp C s3 H3, PG (cxComp X scope cl own js fp C s3 H3) tgt g) (ht : ∀ cl fp C s3 H3, PIfs (cxComp X scope cl own js fp C s3 H3) ifs tc) (he : ∀ cl fp C s3 H3, PE (cxComp X scope cl own js fp C s3 H3) elt te)
    (hfree : ∀ y ∈ scope.names, y.2 = .free → X.env.scope.names.lookup y.1 = some .cell)
    (hjs : ∀ j ∈ js, scope.names.lookup (X.N.getD j Str.empty) = some .free ∧ X.env.scope.names.lookup (X.N.getD j Str.empty) = some .cell)
    (hcell : ∀ y ∈ scope.names, y.2 ≠ .cell) (hnames : ∀ y ∈ scope.names, y.2 = .local → scope.names.lookup y.1 = some .local)
    (hkind : scope.kind = .function) (hs : ∀ x, foldedSetIterable iter X.env x = pure x)
    (I : Inv X pins σ H s) (h : tComp wi g tc te own.length js σ H Q)
    (hend : ∀ (D : Addr) (H3 H5 : Hp) (σ5 : St) (s3 s6 : Shared) (fp : List Addr) (cl : List (Str × Addr)), Inv X pins σ H3 s3 → (∀ b ∈ fp, FpOk X pins H3 b) → Inv (cxComp X scope cl own js fp s3.heap.objs.size s3 H3) [] σ5 H5 s6 → Q (.ref D) H5 →
      compPost (model X.prog X.w) X.A X.xe use R (.ref D) s3.heap.objs.size (.ok .next) s6) :
    wpAny (model X.prog X.w) X.A (comprehension (.ListComp elt [⟨tgt, iter, ifs, 0⟩] scope pos) scope X.env (firstIterPos [⟨tgt, iter, ifs, 0⟩] pos) (newList []) false (eval iter X.env) use) R X.xe s := by
  have hk := I.ok.kind
  obtain ⟨cl, hcl, cl1, cl2⟩ := closure_of (scope := scope) (env := X.env) fun y hy hf => I.ok.has y.1 (.inl (hfree y hy hf))
  refine wpAny_comprehension_free rfl hs hcl hkind hnames (thn (hi pins s σ H _ I h) fun v s1 h1 => thn h1 fun itv s2 h2 => ?_)
  obtain ⟨it, fp, tn, J, H2, e, I2, T, st2, f2, q2⟩ := h2
  subst e
  obtain ⟨W, ⟨m0, w0⟩, turn⟩ := q2 s2.heap.objs.size I2.fresh
  have I3 := I2.lnew (ys := []) (its := []) (t' := s2.toks) .nil (Nat.zero_le _)
  refine wpAny_newObj_type (wpAny_newFunctionEnv hcell (by intro y hy; simp at hy) (fun h₁ hns₁ hsb₁ => ?_) hkind)
  have hl3 : ∀ b ∈ fp, b < (s2.heap.push ({ cls := .type "list", data := .seq ([] : List Value).toArray } : Obj)).objs.size := fun b hb => by
    obtain ⟨o, e, _⟩ := T.obj _ _ st2 b hb
    rw [Heap.size_push]
    exact Nat.lt_succ_of_lt (Heap.lt_size e)
  have f3 : ∀ b ∈ fp, FpOk X pins (upd H2 s2.heap.objs.size (.lst [])) b := fun b hb => by
    obtain ⟨o, e, _⟩ := T.obj _ _ st2 b hb
    refine ⟨?_, (f2 b hb).2⟩
    rw [upd_ne (Nat.ne_of_lt (Heap.lt_size e))]
    exact (f2 b hb).1
  have I4 := inv_comp (own := own) (js := js) (h₁ := h₁) (t' := s2.toks + ([] : List (Str × Value)).length) I3 hkind hcell cl1 cl2 hjs f3 hl3 hns₁ (fun b o e => (hsb₁.2 b (Nat.ne_of_lt (Heap.lt_size e))).trans (Heap.get?_push_of_some _ e))
  have st4 : tn 0 h₁ := T.keep _ _ _ st2 fun b hb o e => (hsb₁.2 b (Nat.ne_of_lt (hl3 b hb))).trans (Heap.get?_push_of_some _ (Heap.get?_push_of_some _ e))
  have loop : codeAny (model X.prog X.w) X.A (.compLoop (.ListComp elt [⟨tgt, iter, ifs, 0⟩] scope pos) 0 (.ref it) (.ref s2.heap.objs.size) (compEnvC scope cl (s2.heap.push ({ cls := .type "list", data := .seq ([] : List Value).toArray } : Obj)).objs.size X.env))
      (compPost (model X.prog X.w) X.A X.xe use R (.ref s2.heap.objs.size) (s2.heap.push ({ cls := .type "list", data := .seq ([] : List Value).toArray } : Obj)).objs.size) { s2 with heap := h₁, toks := s2.toks + ([] : List (Str × Value)).length } := by
    refine codeAny_compLoop_go (fun n s' => ∃ i σ' H', Inv (cxComp X scope cl own js fp _ _ _) [] σ' H' s' ∧ tn i s'.heap ∧ (∀ b ∈ fp, H' b = none) ∧ W i n σ' H') ?_ m0 ⟨0, _, _, I4, st4, fun b hb => (f3 b hb).1, w0⟩
    rintro n s5 ⟨i, σ5, H5, I5, st5, fr5, w5⟩
    have stat : ∀ {H' : Hp}, (∀ b ∈ fp, H' b = none) → ∀ b ∈ fp, FpOk (cxComp X scope cl own js fp _ _ _) [] H' b := fun hn b hb =>
      ⟨hn b hb, (I4.ok.exf b hb).1, I4.ok.exfs b hb, .inl hb, (I4.ok.exf b hb).2, fun p hp => absurd (show p ∈ ([] : List (Addr × Obj)) from hp) (by simp)⟩
    rcases turn i n σ5 H5 w5 with ⟨stop, qn⟩ | ⟨go, step⟩
    · refine thn (T.done (cxComp X scope cl own js fp _ _ _) rfl rfl rfl hc i [] s5 σ5 H5 NoX I5 (stat fr5) st5 stop) fun r s6 ⟨hr, I6⟩ => ?_
      subst hr
      exact hend _ _ _ _ _ _ _ _ I3 f3 I6 qn
    · refine thn (T.item (cxComp X scope cl own js fp _ _ _) rfl rfl rfl hc i [] s5 σ5 H5 NoX I5 (stat fr5) st5 go) fun r s6 ⟨u, hr, h6⟩ => ?_
      subst hr
      refine thn h6 fun _ s7 ⟨x, H7, I7, r7, y7, st7, fr7⟩ => ?_
      have I7' := I7.pinned (stat fr7) (T.obj _ _ st7)
      refine thn (hg cl fp _ _ _ _ s7 σ5 H7 x u _ I7' r7 (step x H7 y7)) fun _ s8 ⟨σ8, H8, I8, q8⟩ => ?_
      have again : ∀ {C3 : Addr} {s3 : Shared} {H3 : Hp} {σ9 : St} {H9 : Hp} {s9 : Shared} {m' : Nat}, Inv (cxComp X scope cl own js fp C3 s3 H3) ([] ++ pinsAt fp s7.heap) σ9 H9 s9 → m' < n → W (i + 1) m' σ9 H9 → ∃ m, m < n ∧ ∃ i σ' H', Inv (cxComp X scope cl own js fp C3 s3 H3) [] σ' H' s9 ∧ tn i s9.heap ∧ (∀ b ∈ fp, H' b = none) ∧ W i m σ' H' := fun {C3 s3 H3 σ9 H9 s9 m'} I9 hm w9 => by
        refine ⟨m', hm, i + 1, σ9, H9, I9.unpinned, T.keep _ _ _ st7 fun b hb o e => (I9.pin (b, o) (List.mem_append_right _ (List.mem_append_right _ (mem_pinsAt hb e)))).1, fun b hb => ?_, w9⟩
        obtain ⟨o, e, d⟩ := T.obj _ _ st7 b hb
        exact (I9.pin (b, o) (List.mem_append_right _ (List.mem_append_right _ (mem_pinsAt hb e)))).2.1
      refine thn (ht cl fp _ _ _ _ s8 σ8 H8 _ I8 q8) fun b s9 ⟨H9, I9, q9⟩ => ?_
      cases b with
      | false =>
        rw [if_neg Bool.false_ne_true] at q9 ⊢
        obtain ⟨m', hm, w9⟩ := q9
        exact again I9 hm w9
      | true =>
        rw [if_pos rfl] at q9 ⊢
        refine thn (he cl fp _ _ _ _ s9 σ8 H9 _ I9 q9) fun y s10 ⟨v, H10, I10, r10, q10⟩ => ?_
        exact thn (mt_append (X := cxComp X scope cl own js fp _ _ _) _ s10 σ8 H10 (.ref s2.heap.objs.size) [v] (.ref s2.heap.objs.size) [y] _ I10 rfl (.cons r10 .nil) q10) fun _ s11 ⟨_, H11, I11, _, m', hm, w11⟩ => again I11 hm w11
  exact codeAny_compStart_list loop (T.self _ 0 _ _ _ st4 loop)
theorem pe_comp {X : Cx} {elt iter tgt : Expr} {ifs : List Expr} {scope : Scope} {pos : Pos} {wi : TI} {g : TG} {tc : TT} {te : TE} (own : List Str) (js : List Nat)
    (hc : X.calm = true) (hi : PI X tgt iter wi)
    (hg : ∀ cl fp C s3 H3, PG (cxComp X scope cl own js fp C s3 H3) tgt g) (ht : ∀ cl fp C s3 H3, PIfs (cxComp X scope cl own js fp C s3 H3) ifs tc) (he : ∀ cl fp C s3 H3, PE (cxComp X scope cl own js fp C s3 H3) elt te)
    (hfree' : (scope.names.all fun y => y.2 != .free || X.env.scope.names.lookup y.1 == some .cell) = true := by rfl)
    (hjs' : (js.all fun j => scope.names.lookup (X.N.getD j Str.empty) == some .free && X.env.scope.names.lookup (X.N.getD j Str.empty) == some .cell) = true := by rfl)
    (hcell' : (scope.names.all fun y => y.2 != .cell) = true := by rfl) (hnames' : (scope.names.all fun y => y.2 != .local || scope.names.lookup y.1 == some .local) = true := by rfl)
    (hkind : scope.kind = .function := by rfl) (hs : ∀ x, foldedSetIterable iter X.env x = pure x := by intro _; rfl) :
    PE X (.ListComp elt [⟨tgt, iter, ifs, 0⟩] scope pos) (tComp wi g tc te own.length js) := by
  have hfree : ∀ y ∈ scope.names, y.2 = .free → X.env.scope.names.lookup y.1 = some .cell := sc_free hfree'
  have hjs : ∀ j ∈ js, scope.names.lookup (X.N.getD j Str.empty) = some .free ∧ X.env.scope.names.lookup (X.N.getD j Str.empty) = some .cell := sc_js hjs'
  have hcell : ∀ y ∈ scope.names, y.2 ≠ .cell := sc_cell hcell'
  have hnames : ∀ y ∈ scope.names, y.2 = .local → scope.names.lookup y.1 = some .local := sc_names hnames'
  intro pins s σ H Q I h
  rw [eval_ListComp]
  refine comp_any own js hc hi hg ht he hfree hjs hcell hnames hkind hs I h fun D H3 H5 σ5 s3 s6 fp cl I3 f3 I6 qn => ?_
  obtain ⟨m, hm, _⟩ := id I6.loc
  exact ⟨m, hm, fun h' sb => ⟨.ref D, H5, comp_left I3 f3 I6 sb, rfl, qn⟩⟩
theorem ps_setC {X : Cx} {i : Nat} {x : Str} {spos px : Pos} {elt iter tgt : Expr} {ifs : List Expr} {scope : Scope} {pos : Pos} {wi : TI} {g : TG} {tc : TT} {te : TE} (hN : X.N.Nodup) (hiN : X.N[i]? = some x) (hx : X.env.scope.names.lookup x = some .local) (own : List Str) (js : List Nat)
    (hc : X.calm = true) (hi : PI X tgt iter wi)
    (hg : ∀ cl fp C s3 H3, PG (cxComp X scope cl own js fp C s3 H3) tgt g) (ht : ∀ cl fp C s3 H3, PIfs (cxComp X scope cl own js fp C s3 H3) ifs tc) (he : ∀ cl fp C s3 H3, PE (cxComp X scope cl own js fp C s3 H3) elt te)
    (hfree' : (scope.names.all fun y => y.2 != .free || X.env.scope.names.lookup y.1 == some .cell) = true := by rfl)
    (hjs' : (js.all fun j => scope.names.lookup (X.N.getD j Str.empty) == some .free && X.env.scope.names.lookup (X.N.getD j Str.empty) == some .cell) = true := by rfl)
    (hcell' : (scope.names.all fun y => y.2 != .cell) = true := by rfl) (hnames' : (scope.names.all fun y => y.2 != .local || scope.names.lookup y.1 == some .local) = true := by rfl)
    (hkind : scope.kind = .function := by rfl) (hs : ∀ x, foldedSetIterable iter X.env x = pure x := by intro _; rfl)
    (hsw : swapsWith (.ListComp elt [⟨tgt, iter, ifs, 0⟩] scope pos) (some (.Name x px)) spos.line X.env = pure true := by rfl) :
    PS X (.Assign [.Name x px] (.ListComp elt [⟨tgt, iter, ifs, 0⟩] scope pos) spos) (tAsg (tComp wi g tc te own.length js) (gName i)) := by
  have hfree : ∀ y ∈ scope.names, y.2 = .free → X.env.scope.names.lookup y.1 = some .cell := sc_free hfree'
  have hjs : ∀ j ∈ js, scope.names.lookup (X.N.getD j Str.empty) = some .free ∧ X.env.scope.names.lookup (X.N.getD j Str.empty) = some .cell := sc_js hjs'
  have hcell : ∀ y ∈ scope.names, y.2 ≠ .cell := sc_cell hcell'
  have hnames : ∀ y ∈ scope.names, y.2 = .local → scope.names.lookup y.1 = some .local := sc_names hnames'
  intro pins s σ H D I h
  rw [exec_Assign_Name_used _ _ _ _ hsw]
  refine wpAny_bind (wpAny_standAt (wpAny_bind ?_))
  show wpAny _ X.A (do let _ ← comprehension (.ListComp elt [⟨tgt, iter, ifs, 0⟩] scope pos) scope X.env _ (newList []) false (eval iter X.env) (some (assign (.Name x px) X.env))) _ _ s
  refine wpAny_bind (thn (comp_any (use := some (assign (.Name x px) X.env)) (R := fun _ s' => SP X pins D .next s') own js hc hi hg ht he hfree hjs hcell hnames hkind hs I h fun D' H3 H5 σ5 s3 s6 fp cl I3 f3 I6 qn => ?_) fun _ s' hq => wpAny_pure (wpAny_pure hq))
  have I7 : Inv X pins σ H5 s6 := comp_left I3 f3 I6 (Heap.SameBut.refl ..)
  have hlt : X.env.locals < s3.heap.objs.size := I3.lt
  have hcl : ∀ y c, X.env.cells.lookup y = some c → c ≠ s3.heap.objs.size := fun y c e z => by
    obtain ⟨v, q⟩ := I3.cell y c e
    exact absurd q.lt (by rw [z]; exact Nat.lt_irrefl _)
  refine wpAny_assign_Name (store_ok2 I7 hN hiN (.inl hx) (v := .ref D') (u := .ref D') rfl (fun s7 I8 hch => ?_) (.inr hx))
  obtain ⟨m, hm, _⟩ := id I6.loc
  have hne : s3.heap.objs.size ≠ X.env.locals := Nat.ne_of_gt hlt
  have hm7 : s7.heap.Ns s3.heap.objs.size m := by
    obtain ⟨a, sb, ha⟩ := hch
    refine Heap.Ns.sameBut hm sb ?_
    rcases ha with ha | ha
    · rw [ha]; exact hne
    · exact fun z => hcl x a ha z.symm
  refine ⟨m, hm7, fun h' sb => ?_⟩
  refine ⟨_, H5, I8.turned (t' := s7.toks) (it := s3.heap.objs.size) (fun b o hb e => (sb.2 b hb).trans e) I6.free hne (.inr I3.sz) hcl (fun p hp z => ?_), qn⟩
  exact absurd (Heap.lt_size (I3.pin p hp).1) (by rw [z]; exact Nat.lt_irrefl _)
end L2
namespace L2
open PySem PySem.Spec PyProof.Rows Bg
def CNext (n : Nat) (Pv : Nat → List V → St → Hp → Prop) (i : Nat) (σ : St) (H : Hp) : Prop := ∃ m', m' < n - i ∧ m' = n - (i + 1) ∧ i + 1 ≤ n ∧ ∃ xs, Pv (i + 1) xs σ H
theorem cnext {n : Nat} {Pv : Nat → List V → St → Hp → Prop} {i : Nat} {xs : List V} {σ : St} {H : Hp} (h : i < n) (p : Pv (i + 1) xs σ H) : CNext n Pv i σ H := ⟨n - (i + 1), by omega, rfl, h, xs, p⟩
section
variable {g : TG} {tc : TT} {te : TE} {D : Addr} {H1 : Hp} {σ0 : St} {Q : VK}
theorem comp_range {R : Hp → Prop} {lo : Int} {n : Nat} (Pv : Nat → List V → St → Hp → Prop) (h0 : Pv 0 [] σ0 (upd H1 D (.lst [])))
    (hs : ∀ i xs σ H, i < n → Pv i xs σ H → g (.int (lo + i)) σ H fun σ3 H3 => tc σ3 H3 fun b H4 => if b = true then te σ3 H4 fun v H5 => rAppend (.ref D) [v] H5 fun _ H6 => CNext n Pv i σ3 H6 else CNext n Pv i σ3 H4)
    (hd : ∀ xs σ H, Pv n xs σ H → R H) :
    ∃ W : Nat → Nat → St → Hp → Prop, (∃ m, W 0 m σ0 (upd H1 D (.lst []))) ∧ ∀ i m σ' H', W i m σ' H' → ((Itr lo n).stop i H' ∧ R H') ∨ ((Itr lo n).go i H' ∧ ∀ x H2, (Itr lo n).yld i H' x H2 → g x σ' H2 fun σ3 H3 => tc σ3 H3 fun b H4 =>
      if b = true then te σ3 H4 fun v H5 => rAppend (.ref D) [v] H5 fun _ H6 => ∃ m', m' < m ∧ W (i + 1) m' σ3 H6 else ∃ m', m' < m ∧ W (i + 1) m' σ3 H4) := by
  refine ⟨fun i m σ H => m = n - i ∧ i ≤ n ∧ ∃ xs, Pv i xs σ H, ⟨n, by simp, Nat.zero_le _, [], h0⟩, ?_⟩
  rintro i m σ H ⟨rfl, hi, xs, p⟩
  by_cases hlt : i < n
  · refine .inr ⟨hlt, fun x H' y => ?_⟩
    obtain ⟨e, y⟩ := y
    subst e y
    exact hs i xs σ _ hlt p
  · have e : i = n := by omega
    subst e
    exact .inl ⟨Nat.le_refl _, hd xs σ H p⟩
theorem comp_list {R : Hp → Prop} {K : PySem.W.Frag} {a : Addr} {ys : List V} (Pv : Nat → List V → St → Hp → Prop) (h0 : Pv 0 [] σ0 (upd H1 D (.lst [])))
    (hl : ∀ i xs σ H, i ≤ ys.length → Pv i xs σ H → SqL K H a ys)
    (hs : ∀ i x xs σ H, ys[i]? = some x → Pv i xs σ H → g x σ H fun σ3 H3 => tc σ3 H3 fun b H4 => if b = true then te σ3 H4 fun v H5 => rAppend (.ref D) [v] H5 fun _ H6 => CNext ys.length Pv i σ3 H6 else CNext ys.length Pv i σ3 H4)
    (hd : ∀ xs σ H, Pv ys.length xs σ H → R H) :
    ∃ W : Nat → Nat → St → Hp → Prop, (∃ m, W 0 m σ0 (upd H1 D (.lst []))) ∧ ∀ i m σ' H', W i m σ' H' → ((Itl K a).stop i H' ∧ R H') ∨ ((Itl K a).go i H' ∧ ∀ x H2, (Itl K a).yld i H' x H2 → g x σ' H2 fun σ3 H3 => tc σ3 H3 fun b H4 =>
      if b = true then te σ3 H4 fun v H5 => rAppend (.ref D) [v] H5 fun _ H6 => ∃ m', m' < m ∧ W (i + 1) m' σ3 H6 else ∃ m', m' < m ∧ W (i + 1) m' σ3 H4) := by
  refine ⟨fun i m σ H => m = ys.length - i ∧ i ≤ ys.length ∧ ∃ xs, Pv i xs σ H, ⟨ys.length, by simp, Nat.zero_le _, [], h0⟩, ?_⟩
  rintro i m σ H ⟨rfl, hi, xs, p⟩
  have q := hl i xs σ H hi p
  by_cases hlt : i < ys.length
  · refine .inr ⟨⟨ys, ys[i], q, by simp [hlt]⟩, fun x H' y => ?_⟩
    obtain ⟨e, y⟩ := y
    subst e
    exact hs i x xs σ _ (y ys q) p
  · have e : i = ys.length := by omega
    subst e
    exact .inl ⟨⟨ys, q, Nat.le_refl _⟩, hd xs σ H p⟩
theorem comp_tup {R : Hp → Prop} {K : PySem.W.Frag} {a : Addr} {ys : List V} (Pv : Nat → List V → St → Hp → Prop) (h0 : Pv 0 [] σ0 (upd H1 D (.lst [])))
    (hl : ∀ i xs σ H, i ≤ ys.length → Pv i xs σ H → SqT K H a ys)
    (hs : ∀ i x xs σ H, ys[i]? = some x → Pv i xs σ H → g x σ H fun σ3 H3 => tc σ3 H3 fun b H4 => if b = true then te σ3 H4 fun v H5 => rAppend (.ref D) [v] H5 fun _ H6 => CNext ys.length Pv i σ3 H6 else CNext ys.length Pv i σ3 H4)
    (hd : ∀ xs σ H, Pv ys.length xs σ H → R H) :
    ∃ W : Nat → Nat → St → Hp → Prop, (∃ m, W 0 m σ0 (upd H1 D (.lst []))) ∧ ∀ i m σ' H', W i m σ' H' → ((Itt K a).stop i H' ∧ R H') ∨ ((Itt K a).go i H' ∧ ∀ x H2, (Itt K a).yld i H' x H2 → g x σ' H2 fun σ3 H3 => tc σ3 H3 fun b H4 =>
      if b = true then te σ3 H4 fun v H5 => rAppend (.ref D) [v] H5 fun _ H6 => ∃ m', m' < m ∧ W (i + 1) m' σ3 H6 else ∃ m', m' < m ∧ W (i + 1) m' σ3 H4) := by
  refine ⟨fun i m σ H => m = ys.length - i ∧ i ≤ ys.length ∧ ∃ xs, Pv i xs σ H, ⟨ys.length, by simp, Nat.zero_le _, [], h0⟩, ?_⟩
  rintro i m σ H ⟨rfl, hi, xs, p⟩
  have q := hl i xs σ H hi p
  by_cases hlt : i < ys.length
  · refine .inr ⟨⟨ys, ys[i], q, by simp [hlt]⟩, fun x H' y => ?_⟩
    obtain ⟨e, y⟩ := y
    subst e
    exact hs i x xs σ _ (y ys q) p
  · have e : i = ys.length := by omega
    subst e
    exact .inl ⟨⟨ys, q, Nat.le_refl _⟩, hd xs σ H p⟩
theorem i_compR2 {ta : TA} {σ : St} {H : Hp} {n : Nat} {js : List Nat} (h : ta σ H fun vs H1 => ∃ i j : Int, vs = [.int i, .int j] ∧ (-(2 ^ 62) ≤ i ∧ i < 2 ^ 62 ∧ -(2 ^ 62) ≤ j ∧ j < 2 ^ 62) ∧ ∀ D, H1 D = none → ∃ W : Nat → Nat → St → Hp → Prop, (∃ m, W 0 m (inner n js σ) (upd H1 D (.lst []))) ∧
  ∀ i_1 m σ' H', W i_1 m σ' H' → ((Itr i (j - i).toNat).stop i_1 H' ∧ Q (.ref D) H') ∨ ((Itr i (j - i).toNat).go i_1 H' ∧ ∀ x H2, (Itr i (j - i).toNat).yld i_1 H' x H2 → g x σ' H2 fun σ3 H3 => tc σ3 H3 fun b H4 =>
    if b = true then te σ3 H4 fun v H5 => rAppend (.ref D) [v] H5 fun _ H6 => ∃ m', m' < m ∧ W (i_1 + 1) m' σ3 H6 else ∃ m', m' < m ∧ W (i_1 + 1) m' σ3 H4)) : tComp (iRng2 ta) g tc te n js σ H Q := h
theorem i_compR1 {ta : TA} {σ : St} {H : Hp} {n : Nat} {js : List Nat} (h : ta σ H fun vs H1 => ∃ j : Int, vs = [.int j] ∧ -(2 ^ 62) ≤ j ∧ j < 2 ^ 62 ∧ ∀ D, H1 D = none → ∃ W : Nat → Nat → St → Hp → Prop, (∃ m, W 0 m (inner n js σ) (upd H1 D (.lst []))) ∧
  ∀ i m σ' H', W i m σ' H' → ((Itr 0 j.toNat).stop i H' ∧ Q (.ref D) H') ∨ ((Itr 0 j.toNat).go i H' ∧ ∀ x H2, (Itr 0 j.toNat).yld i H' x H2 → g x σ' H2 fun σ3 H3 => tc σ3 H3 fun b H4 =>
    if b = true then te σ3 H4 fun v H5 => rAppend (.ref D) [v] H5 fun _ H6 => ∃ m', m' < m ∧ W (i + 1) m' σ3 H6 else ∃ m', m' < m ∧ W (i + 1) m' σ3 H4)) : tComp (iRng1 ta) g tc te n js σ H Q := h
theorem i_compL {K : PySem.W.Frag} {tl : TE} {σ : St} {H : Hp} {n : Nat} {js : List Nat} (h : tl σ H fun x H1 => ∃ a, x = .ref a ∧ (∃ xs, SqL K H1 a xs) ∧ ∀ D, H1 D = none → ∃ W : Nat → Nat → St → Hp → Prop, (∃ m, W 0 m (inner n js σ) (upd H1 D (.lst []))) ∧
  ∀ i m σ' H', W i m σ' H' → ((Itl K a).stop i H' ∧ Q (.ref D) H') ∨ ((Itl K a).go i H' ∧ ∀ x H2, (Itl K a).yld i H' x H2 → g x σ' H2 fun σ3 H3 => tc σ3 H3 fun b H4 =>
    if b = true then te σ3 H4 fun v H5 => rAppend (.ref D) [v] H5 fun _ H6 => ∃ m', m' < m ∧ W (i + 1) m' σ3 H6 else ∃ m', m' < m ∧ W (i + 1) m' σ3 H4)) : tComp (iList K tl) g tc te n js σ H Q := h
theorem i_compT {K : PySem.W.Frag} {tl : TE} {σ : St} {H : Hp} {n : Nat} {js : List Nat} (h : tl σ H fun x H1 => ∃ a, x = .ref a ∧ (∃ xs, SqT K H1 a xs) ∧ ∀ D, H1 D = none → ∃ W : Nat → Nat → St → Hp → Prop, (∃ m, W 0 m (inner n js σ) (upd H1 D (.lst []))) ∧
  ∀ i m σ' H', W i m σ' H' → ((Itt K a).stop i H' ∧ Q (.ref D) H') ∨ ((Itt K a).go i H' ∧ ∀ x H2, (Itt K a).yld i H' x H2 → g x σ' H2 fun σ3 H3 => tc σ3 H3 fun b H4 =>
    if b = true then te σ3 H4 fun v H5 => rAppend (.ref D) [v] H5 fun _ H6 => ∃ m', m' < m ∧ W (i + 1) m' σ3 H6 else ∃ m', m' < m ∧ W (i + 1) m' σ3 H4)) : tComp (iTup K tl) g tc te n js σ H Q := h
theorem i_all {B : Bool → Hp → Prop} {σ : St} {H : Hp} (h : B true H) : tAll σ H B := h
theorem i_notinL {K : PySem.W.Frag} {H : Hp} {p : Addr} {ys : List V} {x : V} (h : H p = some (.lst ys)) (fx : flatV x = true) (fs : ys.all flatV = true) (q : Q (.bl (!inV x ys)) H) : rIn K true x (.ref p) H Q := ⟨p, ys, rfl, .inl (SqL.of h), fx, fs, q⟩
theorem i_ixS {K : PySem.W.Frag} {H : Hp} {p : Addr} {xs : List V} {i : Int} {v : V} (h : SqT K H p xs) (e : atI xs i = some v) (q : Q v H) : rIxT K (.ref p) (.int i) H Q := ⟨p, xs, i, v, rfl, rfl, h, e, q⟩
theorem i_forT {K : PySem.W.Frag} {σ : St} {H : Hp} {E : Ends} {tl : TE} {tb : TS} (h : tl σ H fun x H1 => ∃ a, x = .ref a ∧ (∃ xs, SqT K H1 a xs) ∧ ∃ W : Nat → Nat → St → Hp → Prop, (∃ m, W 0 m σ H1) ∧ ∀ i m σ H, W i m σ H →
  ((Itt K a).stop i H ∧ E.nx σ H) ∨ ((Itt K a).go i H ∧ ∃ N : St → Hp → Prop, (∀ σ' H', N σ' H' → ∃ m', m' < m ∧ W (i + 1) m' σ' H') ∧ ∀ x H', (Itt K a).yld i H x H' → g x σ H' fun σ2 H2 => tb { E with nx := N, ct := N, bk := E.nx } σ2 H2)) :
  tFor (iTup K tl) g tb E σ H := h
end
section
variable {σ : St} {H : Hp} {K : PySem.W.Frag} {R : St → Hp → Prop}
theorem i_gtup {n : Nat} {t : TGs} {a : Addr} {xs : List V} (h : H a = some (.tup xs)) (hn : xs.length = n) (q : t xs σ H R) : gTup K n t (.ref a) σ H R := ⟨a, xs, rfl, SqT.of h, hn, q⟩
theorem i_gcons {t : TG} {u : TGs} {v : V} {r : List V} (q : t v σ H fun σ' H' => u r σ' H' R) : gCons t u (v :: r) σ H R := ⟨v, r, rfl, q⟩
theorem i_gnil (q : R σ H) : gNil [] σ H R := ⟨rfl, q⟩
end
def TopI (mg : Str → Option Value) (x : Str) (i : Int) : Prop := ∃ u, mg x = some u ∧ RelV (.int i) u
def TopT (K : PySem.W.Frag) (mg : Str → Option Value) (x : Str) (xs : List V) : Prop := ∃ a, mg x = some (.ref a) ∧ ∀ H : Hp, SqT K H a xs
theorem topT_mk {K : PySem.W.Frag} {h : Heap} {mg : Str → Option Value} {x : Str} {a : Addr} {o : Obj} {its : Array Value} {n : Nat} {xs : List V} (X : K.In h) (G : h.Ns mainGlobals mg) (e : PySem.W.nsIn K mainGlobals x = some (some (.ref a)))
    (l : K.lookup a = some o) (c : o.cls = .type "tuple") (d : o.data = .seq its n) (z : its.size ≤ sizeLine) (v : Vals xs its.toList) : TopT K mg x xs := ⟨a, PySem.W.mg_of X G e, fun _ => .inr ⟨o, its, n, l, c, d, z, v⟩⟩
theorem topI_mk {K : PySem.W.Frag} {h : Heap} {mg : Str → Option Value} {x : Str} {i : Int} {t : Tok} (X : K.In h) (G : h.Ns mainGlobals mg) (e : PySem.W.nsIn K mainGlobals x = some (some (.int i t))) : TopI mg x i := ⟨_, PySem.W.mg_of X G e, ⟨t, rfl⟩⟩
end L2
namespace L2
open PySem PySem.Spec PyProof.Rows Bg
def WGo (Pv : St → Hp → Prop) (μ : St → Hp → Nat) (tb : TS) (D : Ends) (σ0 : St) (H0 : Hp) (σ : St) (H : Hp) : Prop :=
  ∃ N : St → Hp → Prop, (∀ σ' H', N σ' H' → ∃ m', m' < μ σ0 H0 ∧ (m' = μ σ' H' ∧ Pv σ' H')) ∧ tb { D with nx := N, ct := N, bk := D.nx } σ H
theorem wgo {Pv : St → Hp → Prop} {μ : St → Hp → Nat} {tb : TS} {D : Ends} {σ0 : St} {H0 : Hp} {σ : St} {H : Hp}
    (h : tb { D with nx := fun σ' H' => Pv σ' H' ∧ μ σ' H' < μ σ0 H0, ct := fun σ' H' => Pv σ' H' ∧ μ σ' H' < μ σ0 H0, bk := D.nx } σ H) : WGo Pv μ tb D σ0 H0 σ H :=
  ⟨_, fun _ _ ⟨p, l⟩ => ⟨_, l, rfl, p⟩, h⟩
theorem while_d {c : TT} {tb : TS} {D : Ends} {σ : St} {H : Hp} (Pv : St → Hp → Prop) (μ : St → Hp → Nat) (h0 : Pv σ H)
    (hs : ∀ σ H, Pv σ H → c σ H fun b H1 => if b = true then WGo Pv μ tb D σ H σ H1 else D.nx σ H1) : tWhile c tb D σ H := by
  refine ⟨fun m σ H => m = μ σ H ∧ Pv σ H, ⟨_, rfl, h0⟩, ?_⟩
  rintro m σ H ⟨rfl, p⟩
  exact hs σ H p
theorem bl_q {Q : VK} {H : Hp} {x y : Bool} (e : x = y) (q : Q (.bl y) H) : Q (.bl x) H := by rw [e]; exact q
def rIsN : R2 := fun x y H Q => y = .non ∧ Q (.bl (decide (x = .non))) H
def rNotN : R2 := fun x y H Q => y = .non ∧ Q (.bl (!decide (x = .non))) H
theorem op_notNR {X : Cx} : OpR X (compareOp .IsNot) rNotN := op_notN
theorem i_isN {H : Hp} {Q : VK} {x : V} (q : Q (.bl (decide (x = .non))) H) : rIsN x .non H Q := ⟨rfl, q⟩
theorem i_notN {H : Hp} {Q : VK} {x : V} (q : Q (.bl (!decide (x = .non))) H) : rNotN x .non H Q := ⟨rfl, q⟩
def sqs : List Int := [4, 9, 16, 25, 36, 49, 64, 81]
def rootsTo (n : Nat) : List Int := ((List.range n).map fun (i : Nat) => (2 : Int) + i).filter fun d => !sqs.contains d
theorem rootsTo_succ (n : Nat) : rootsTo (n + 1) = rootsTo n ++ (if sqs.contains ((2 : Int) + n) then [] else [(2 : Int) + n]) := by
  unfold rootsTo
  rw [List.range_succ, List.map_append, List.filter_append]
  congr 1
  simp only [List.map_cons, List.map_nil, List.filter_cons, List.filter_nil]
  cases sqs.contains ((2 : Int) + n) <;> rfl
theorem rootsTo_rt {n : Nat} (hn : n ≤ 98) {d : Int} (h : d ∈ rootsTo n) : Rt d := by
  unfold rootsTo at h
  rw [List.mem_filter, List.mem_map] at h
  obtain ⟨⟨i, hi, rfl⟩, hc⟩ := h
  rw [List.mem_range] at hi
  refine rt_of ⟨by omega, by omega⟩ ?_
  simp only [sqs, List.contains_cons, List.contains_nil, Bool.or_false, Bool.not_eq_true', Bool.or_eq_false_iff, beq_eq_false_iff_ne, ne_eq] at hc
  exact hc
theorem roots_len : (rootsTo 98).length = 90 := by decide +kernel
theorem inV_sqs (d : Int) : inV (.int d) [.int 4, .int 9, .int 16, .int 25, .int 36, .int 49, .int 64, .int 81] = sqs.contains d := by
  simp only [inV, List.any_cons, List.any_nil, eqV, sqs, List.contains_cons, List.contains_nil, Bool.or_false]
  simp only [BEq.comm (b := d)]
theorem atI_in {xs : List Int} {i : Int} (h0 : 0 ≤ i) (h1 : i < xs.length) : ∃ d ∈ xs, atI (xs.map V.int) i = some (.int d) := by
  have hi : i.toNat < xs.length := by omega
  refine ⟨xs[i.toNat], List.getElem_mem hi, ?_⟩
  have e := atI_nat (xs := xs.map V.int) (j := i.toNat) (v := .int xs[i.toNat]) (by rw [List.getElem?_map, List.getElem?_eq_getElem hi]; rfl)
  rw [show ((i.toNat : Nat) : Int) = i by omega] at e
  exact e
end L2
namespace Bg
theorem low_self {x y z : Int} (h1 : 1 ≤ z) (g : g3 x y z = 1) : lA x y z = x ∧ lB x y z = y ∧ lN x y z = z := by
  have := low_unique (x := x) (y := y) (z := z) (a := x) (b := y) (n := z) h1 g (by omega) rfl rfl
  exact ⟨this.1.symm, this.2.1.symm, this.2.2.symm⟩
end Bg
namespace Bg
theorem frac_unique {x z t b : Int} (h1 : 1 ≤ z) (g : Int.gcd x z = 1) (hb : b ≠ 0) (e : x * b = t * z) : x = fT t b ∧ z = fB t b := by
  refine frac_eq h1 (f_b hb) g (f_gcd hb) ?_
  have f1 := f_t (t := t) (b := b)
  generalize fT t b = u at *
  generalize fB t b = v at *
  refine Int.eq_of_mul_eq_mul_right hb ?_
  grind
def plT (t b t' b' : Int) : Int := t * (b' / (Int.gcd b b' : Nat)) + t' * (b / (Int.gcd b b' : Nat))
theorem ft_bd {k : Nat} {t b : Int} (h : Bd k t) : Bd k (fT t b) := h.fdiv _
theorem fb_bd {k : Nat} {t b : Int} (h : Bd k b) : Bd k (fB t b) := h.fdiv _
end Bg
namespace Bg
theorem den_pos (q : Rat) : (1 : Int) ≤ (q.den : Int) := by have := q.den_pos; omega
theorem den_ne (q : Rat) : (q.den : Int) ≠ 0 := by have := q.den_pos; omega
theorem red (q : Rat) : Int.gcd q.num q.den = 1 := by
  have := q.reduced
  rw [Int.gcd_eq_natAbs_gcd_natAbs, Int.natAbs_natCast]
  exact this
theorem divInt_q (q : Rat) : Rat.divInt q.num q.den = q := Rat.num_divInt_den q
theorem rf {t b : Int} (hb : b ≠ 0) : fT t b = (Rat.divInt t b).num ∧ fB t b = ((Rat.divInt t b).den : Int) := by
  have e : (Rat.divInt t b).num * b = t * ((Rat.divInt t b).den : Int) := by
    have := divInt_q (Rat.divInt t b)
    exact (Rat.divInt_eq_divInt_iff (den_ne _) hb).mp this
  have := frac_unique (den_pos (Rat.divInt t b)) (red _) hb e
  exact ⟨this.1.symm, this.2.symm⟩
theorem r_add {t b t' b' : Int} (hb : b ≠ 0) (hb' : b' ≠ 0) : Rat.divInt (t * b' + t' * b) (b * b') = Rat.divInt t b + Rat.divInt t' b' := (Rat.divInt_add_divInt t t' hb hb').symm
theorem r_mul {t b t' b' : Int} : Rat.divInt (t * t') (b * b') = Rat.divInt t b * Rat.divInt t' b' := (Rat.divInt_mul_divInt t t').symm
theorem q_add (q q' : Rat) : Rat.divInt (q.num * q'.den + q'.num * q.den) (q.den * q'.den) = q + q' := by rw [r_add (den_ne q) (den_ne q'), divInt_q, divInt_q]
theorem q_mul (q q' : Rat) : Rat.divInt (q.num * q'.num) (q.den * q'.den) = q * q' := by rw [r_mul, divInt_q, divInt_q]
def Bq (k : Nat) (q : Rat) : Prop := Bd k q.num ∧ Bd k (q.den : Int)
theorem Bq.mono {j k : Nat} {q : Rat} (h : Bq j q) (l : j ≤ k) : Bq k q := ⟨h.1.mono l, h.2.mono l⟩
theorem Bq.neg {k : Nat} {q : Rat} (h : Bq k q) : Bq k (-q) := ⟨by rw [Rat.neg_num]; exact h.1.neg, by rw [Rat.neg_den]; exact h.2⟩
theorem bq_div {k : Nat} {t b : Int} (hb : b ≠ 0) (h1 : Bd k t) (h2 : Bd k b) : Bq k (Rat.divInt t b) := ⟨by rw [← (rf hb).1]; exact ft_bd h1, by rw [← (rf hb).2]; exact fb_bd h2⟩
theorem Bq.add {j k : Nat} {q q' : Rat} (h : Bq j q) (h' : Bq k q') : Bq (j + k + 1) (q + q') := by
  rw [← q_add]
  refine bq_div (Int.mul_ne_zero (den_ne _) (den_ne _)) ?_ ((h.2.mul h'.2).mono (by omega))
  refine Bd.add (h.1.mul h'.2) ?_
  have := h'.1.mul h.2
  rw [Nat.add_comm] at this
  exact this
theorem Bq.sub {j k : Nat} {q q' : Rat} (h : Bq j q) (h' : Bq k q') : Bq (j + k + 1) (q - q') := by
  rw [Rat.sub_eq_add_neg]
  exact h.add h'.neg
theorem Bq.mul {j k : Nat} {q q' : Rat} (h : Bq j q) (h' : Bq k q') : Bq (j + k) (q * q') := by
  rw [← q_mul]
  exact bq_div (Int.mul_ne_zero (den_ne _) (den_ne _)) (h.1.mul h'.1) (h.2.mul h'.2)
end Bg
namespace Bg
def Br (j k : Nat) (q : Rat) : Prop := Bd j q.num ∧ Bd k (q.den : Int)
theorem Br.mono {j k j' k' : Nat} {q : Rat} (h : Br j k q) (l : j ≤ j') (l' : k ≤ k') : Br j' k' q := ⟨h.1.mono l, h.2.mono l'⟩
theorem Br.bq {j k n : Nat} {q : Rat} (h : Br j k q) (l : j ≤ n) (l' : k ≤ n) : Bq n q := ⟨h.1.mono l, h.2.mono l'⟩
theorem br_div {j k : Nat} {t b : Int} (hb : b ≠ 0) (h1 : Bd j t) (h2 : Bd k b) : Br j k (Rat.divInt t b) := ⟨by rw [← (rf hb).1]; exact ft_bd h1, by rw [← (rf hb).2]; exact fb_bd h2⟩
theorem Br.neg {j k : Nat} {q : Rat} (h : Br j k q) : Br j k (-q) := ⟨by rw [Rat.neg_num]; exact h.1.neg, by rw [Rat.neg_den]; exact h.2⟩
theorem Br.add {j k j' k' n : Nat} {q q' : Rat} (h : Br j k q) (h' : Br j' k' q') (l : j + k' ≤ n) (l' : j' + k ≤ n) : Br (n + 1) (k + k') (q + q') := by
  rw [← q_add]
  exact br_div (Int.mul_ne_zero (den_ne _) (den_ne _)) (Bd.add ((h.1.mul h'.2).mono l) ((h'.1.mul h.2).mono l')) (h.2.mul h'.2)
theorem Br.sub {j k j' k' n : Nat} {q q' : Rat} (h : Br j k q) (h' : Br j' k' q') (l : j + k' ≤ n) (l' : j' + k ≤ n) : Br (n + 1) (k + k') (q - q') := by
  rw [Rat.sub_eq_add_neg]
  exact h.add h'.neg l l'
theorem Br.mul {j k j' k' : Nat} {q q' : Rat} (h : Br j k q) (h' : Br j' k' q') : Br (j + j') (k + k') (q * q') := by
  rw [← q_mul]
  exact br_div (Int.mul_ne_zero (den_ne _) (den_ne _)) (h.1.mul h'.1) (h.2.mul h'.2)
structure Tb where
  a : Rat
  b : Rat
  c : Rat
  e : Rat
theorem Tb.ext {s t : Tb} (h1 : s.a = t.a) (h2 : s.b = t.b) (h3 : s.c = t.c) (h4 : s.e = t.e) : s = t := by
  cases s
  cases t
  simp_all
def Tb.zero : Tb := ⟨0, 0, 0, 0⟩
def Tb.add (s t : Tb) : Tb := ⟨s.a + t.a, s.b + t.b, s.c + t.c, s.e + t.e⟩
def Tb.sub (s t : Tb) : Tb := ⟨s.a - t.a, s.b - t.b, s.c - t.c, s.e - t.e⟩
def Tb.tr (s : Tb) : Tb := ⟨s.a, s.c, s.b, s.e⟩
structure Tb.Bt (j k : Nat) (t : Tb) : Prop where
  a : Br j k t.a
  b : Br j k t.b
  c : Br j k t.c
  e : Br j k t.e
theorem Tb.Bt.mono {j k j' k' : Nat} {t : Tb} (h : t.Bt j k) (l : j ≤ j') (l' : k ≤ k') : t.Bt j' k' := ⟨h.a.mono l l', h.b.mono l l', h.c.mono l l', h.e.mono l l'⟩
theorem Tb.Bt.add {j k j' k' n : Nat} {s t : Tb} (h : s.Bt j k) (h' : t.Bt j' k') (l : j + k' ≤ n) (l' : j' + k ≤ n) : (s.add t).Bt (n + 1) (k + k') := ⟨h.a.add h'.a l l', h.b.add h'.b l l', h.c.add h'.c l l', h.e.add h'.e l l'⟩
theorem Tb.Bt.sub {j k j' k' n : Nat} {s t : Tb} (h : s.Bt j k) (h' : t.Bt j' k') (l : j + k' ≤ n) (l' : j' + k ≤ n) : (s.sub t).Bt (n + 1) (k + k') := ⟨h.a.sub h'.a l l', h.b.sub h'.b l l', h.c.sub h'.c l l', h.e.sub h'.e l l'⟩
theorem Tb.Bt.tr {j k : Nat} {t : Tb} (h : t.Bt j k) : t.tr.Bt j k := ⟨h.a, h.c, h.b, h.e⟩
theorem Tb.add_comm (s t : Tb) : s.add t = t.add s := Tb.ext (Rat.add_comm ..) (Rat.add_comm ..) (Rat.add_comm ..) (Rat.add_comm ..)
structure Sd where
  x : Int
  y : Int
  z : Int
structure Sd.Ok (d : Int) (s : Sd) : Prop where
  z1 : 1 ≤ s.z
  g : g3 s.x s.y s.z = 1
  bx : Bd 120 s.x
  bY : Bd 120 s.y
  bz : Bd 30 s.z
  up : sgn d s.x s.y = 1
def Sd.p (s : Sd) : Rat := Rat.divInt s.x s.z
def Sd.q (s : Sd) : Rat := Rat.divInt s.y s.z
theorem Sd.Ok.ne {d : Int} {s : Sd} (h : s.Ok d) : s.z ≠ 0 := by have := h.z1; omega
theorem Sd.Ok.bp {d : Int} {s : Sd} (h : s.Ok d) : Br 120 30 s.p := br_div h.ne h.bx h.bz
theorem Sd.Ok.bq {d : Int} {s : Sd} (h : s.Ok d) : Br 120 30 s.q := br_div h.ne h.bY h.bz
structure Bo where
  w : Sd
  h : Sd
def Bo.Ok (d : Int) (b : Bo) : Prop := b.w.Ok d ∧ b.h.Ok d
def Bo.tb (b : Bo) : Tb := ⟨b.w.p * b.h.p, b.w.p * b.h.q, b.w.q * b.h.p, b.w.q * b.h.q⟩
theorem Bo.Ok.bt {d : Int} {b : Bo} (h : b.Ok d) : b.tb.Bt 240 60 := ⟨h.1.bp.mul h.2.bp, h.1.bp.mul h.2.bq, h.1.bq.mul h.2.bp, h.1.bq.mul h.2.bq⟩
def tbs : List Bo → Tb
  | [] => Tb.zero
  | b :: l => b.tb.add (tbs l)
theorem tbs_bt {d : Int} {l : List Bo} (h : ∀ b ∈ l, b.Ok d) : (tbs l).Bt (240 + 62 * l.length) (1 + 60 * l.length) := by
  induction l with
  | nil =>
    have z : Br 240 1 0 := ⟨by decide +kernel, by decide +kernel⟩
    exact ⟨z, z, z, z⟩
  | cons b l ih =>
    have h1 := (h b List.mem_cons_self).bt
    have h2 := ih fun c hc => h c (List.mem_cons_of_mem _ hc)
    have := h1.add h2 (n := 240 + 62 * l.length + 60) (by omega) (by omega)
    rw [List.length_cons]
    exact this.mono (by omega) (by omega)
end Bg
namespace Bg
structure Ms where
  f : Rat
  g : Rat
def Ms.Ok (m : Ms) : Prop := Br 90 10 m.f ∧ Br 90 10 m.g
def Ms.dot (m n : Ms) : Rat := m.f * n.f + m.g * n.g
def Sd.ms (s : Sd) : Ms := ⟨s.p, s.q⟩
def Tb.worth (m n : Ms) (t : Tb) : Rat := m.dot ⟨n.dot ⟨t.a, t.b⟩, n.dot ⟨t.c, t.e⟩⟩
end Bg
namespace Bg
def Tb.A (d : Int) (t : Tb) : Rat := t.a + (d : Rat) * t.e
def Tb.B (t : Tb) : Rat := t.b + t.c
end Bg
namespace Bg
end Bg
namespace Bg
def digs (n : Nat) : List Nat := (Nat.toDigits 10 n).map Char.toNat
def lastf : Nat → Nat → List Nat
  | 0, _ => []
  | k + 1, m => lastf k (m / 10) ++ [48 + m % 10]
end Bg
namespace Bg
def aS (z z' : Int) : Int := (Int.gcd z z' : Nat)
def aA (x z x' z' : Int) : Int := x * z'.fdiv (aS z z') + x' * z.fdiv (aS z z')
def aL (x y z x' y' z' : Int) : Int := (Int.gcd (Int.gcd (aS z z') (aA x z x' z') : Nat) (aA y z y' z') : Nat)
end Bg
namespace Bg
structure B4 where
  a : Int
  b : Int
  c : Int
  e : Int
def B4.nx (d : Int) (s : B4) : B4 := if 0 < sgn d (s.a - s.c) (s.b - s.e) then ⟨s.a - s.c, s.b - s.e, s.c, s.e⟩ else ⟨s.a, s.b, s.c - s.a, s.e - s.b⟩
def b4 : B4 := ⟨0, 1, 1, 0⟩
structure GB (d : Int) (k : Nat) (s : B4) : Prop where
  det : s.a * s.e - s.b * s.c = 1 ∨ s.a * s.e - s.b * s.c = -1
  p1 : sgn d s.a s.b = 1
  q1 : sgn d s.c s.e = 1
  ba : Bd k s.a
  bb : Bd k s.b
  bc : Bd k s.c
  be : Bd k s.e
theorem GB.mono {d : Int} {j k : Nat} {s : B4} (g : GB d j s) (l : j ≤ k) : GB d k s := ⟨g.det, g.p1, g.q1, g.ba.mono l, g.bb.mono l, g.bc.mono l, g.be.mono l⟩
theorem GB.next {d : Int} {k : Nat} {s : B4} (hR : Rt d) (g : GB d k s) : GB d (k + 1) (s.nx d) := by
  obtain ⟨a, b, c, e⟩ := s
  obtain ⟨det, p1, q1, ba, bb, bc, be⟩ := g
  simp only at *
  have key : sgn d (a - c) (b - e) = 1 ∨ sgn d (a - c) (b - e) = -1 := by
    rcases sgn_tri hR (a - c) (b - e) with h | h | ⟨h1, h2⟩
    · exact .inl h
    · exact .inr h
    · have e1 : a = c := by omega
      have e2 : b = e := by omega
      subst e1; subst e2
      have : a * b - b * a = 0 := by rw [Int.mul_comm]; omega
      omega
  unfold B4.nx
  simp only
  by_cases z : 0 < sgn d (a - c) (b - e)
  · rw [if_pos z]
    refine ⟨?_, by show sgn d (a - c) (b - e) = 1; omega, q1, ba.sub bc, bb.sub be, bc.mono (by omega), be.mono (by omega)⟩
    show (a - c) * e - (b - e) * c = 1 ∨ (a - c) * e - (b - e) * c = -1
    have : (a - c) * e - (b - e) * c = a * e - b * c := by rw [Int.sub_mul, Int.sub_mul, Int.mul_comm e c]; omega
    omega
  · rw [if_neg z]
    refine ⟨?_, p1, ?_, ba.mono (by omega), bb.mono (by omega), bc.sub ba, be.sub bb⟩
    · show a * (e - b) - b * (c - a) = 1 ∨ a * (e - b) - b * (c - a) = -1
      have : a * (e - b) - b * (c - a) = a * e - b * c := by rw [Int.mul_sub, Int.mul_sub, Int.mul_comm b a]; omega
      omega
    · show sgn d (c - a) (e - b) = 1
      have := sgn_neg hR (a - c) (b - e)
      rw [show -(a - c) = c - a by omega, show -(b - e) = e - b by omega] at this
      omega
def B4.det (s : B4) : Int := s.a * s.e - s.b * s.c
def B4.i (s : B4) (x y : Int) : Int := s.det * (x * s.e - y * s.c)
def B4.j (s : B4) (x y : Int) : Int := s.det * (s.a * y - s.b * x)
theorem nx_det (d : Int) (s : B4) : (s.nx d).det = s.det := by
  unfold B4.nx
  split <;> unfold B4.det <;> dsimp only <;> grind
theorem nx_cnt (d : Int) (s : B4) (x y : Int) : (0 < sgn d (s.a - s.c) (s.b - s.e) → (s.nx d).i x y = s.i x y ∧ (s.nx d).j x y = s.i x y + s.j x y) ∧ (¬ 0 < sgn d (s.a - s.c) (s.b - s.e) → (s.nx d).i x y = s.i x y + s.j x y ∧ (s.nx d).j x y = s.j x y) := by
  have h := nx_det d s
  constructor
  · intro z
    unfold B4.i B4.j
    rw [h]
    generalize s.det = D
    unfold B4.nx
    rw [if_pos z]
    dsimp only
    clear h z
    grind
  · intro z
    unfold B4.i B4.j
    rw [h]
    generalize s.det = D
    unfold B4.nx
    rw [if_neg z]
    dsimp only
    clear h z
    grind
end Bg
namespace Bg
structure Sg (s : B4) : Prop where
  a : s.a ≤ 0
  b : 0 ≤ s.b
  c : 0 ≤ s.c
  e : s.e ≤ 0
theorem Sg.nx {s : B4} (d : Int) (h : Sg s) : Sg (s.nx d) := by
  obtain ⟨h1, h2, h3, h4⟩ := h
  unfold B4.nx
  split
  · exact ⟨by dsimp only; omega, by dsimp only; omega, h3, h4⟩
  · exact ⟨h1, h2, by dsimp only; omega, by dsimp only; omega⟩
def B4.srv (s : B4) (x y : Int) : Prop := 0 ≤ s.i x y ∧ 0 ≤ s.j x y
instance {s : B4} {x y : Int} : Decidable (s.srv x y) := inferInstanceAs (Decidable (0 ≤ s.i x y ∧ 0 ≤ s.j x y))
theorem srv_nx {s : B4} {x y : Int} (d : Int) (h : s.srv x y) : (s.nx d).srv x y := by
  obtain ⟨h1, h2⟩ := h
  obtain ⟨n1, n2⟩ := nx_cnt d s x y
  unfold B4.srv
  by_cases c : 0 < sgn d (s.a - s.c) (s.b - s.e)
  · rw [(n1 c).1, (n1 c).2]; exact ⟨h1, by omega⟩
  · rw [(n2 c).1, (n2 c).2]; exact ⟨by omega, h2⟩
def st (d : Int) : Nat → B4
  | 0 => b4
  | k + 1 => (st d k).nx d
theorem srv_le {d : Int} {x y : Int} {k m : Nat} (h : (st d k).srv x y) (l : k ≤ m) : (st d m).srv x y := by
  induction m with
  | zero => have : k = 0 := by omega
            subst this; exact h
  | succ m ih =>
    by_cases c : k = m + 1
    · subst c; exact h
    · exact srv_nx d (ih (by omega))
def Fst (d : Int) (L : List (Int × Int)) (K : Nat) : Prop := (∀ u ∈ L, (st d K).srv u.1 u.2) ∧ ∀ k, k < K → ∃ u ∈ L, ¬ (st d k).srv u.1 u.2
end Bg
namespace Bg
def lcmI (f z : Int) : Int := f.fdiv (Int.gcd f z : Nat) * z
def cbs (zs : List Int) : Int := zs.foldl lcmI 1
theorem Fst.max {d : Int} {L : List (Int × Int)} {f : Int × Int → Nat} {M : Nat} (h : ∀ u ∈ L, Fst d [u] (f u)) (hm : ∃ u ∈ L, f u = M) (hl : ∀ u ∈ L, f u ≤ M) : Fst d L M := by
  refine ⟨fun u hu => srv_le ((h u hu).1 u (by simp)) (hl u hu), fun k hk => ?_⟩
  obtain ⟨u, hu, e⟩ := hm
  obtain ⟨v, hv, n⟩ := (h u hu).2 k (by omega)
  have : v = u := by simpa using hv
  subst this
  exact ⟨v, hu, n⟩
theorem Fst.more {d : Int} {L : List (Int × Int)} {K : Nat} {v : Int × Int} (h : Fst d L K) (hv : ∀ k, (∀ u ∈ L, (st d k).srv u.1 u.2) → (st d k).srv v.1 v.2) : Fst d (L ++ [v]) K := by
  refine ⟨fun u hu => ?_, fun k hk => ?_⟩
  · rcases List.mem_append.mp hu with e | e
    · exact h.1 u e
    · have : u = v := by simpa using e
      subst this
      exact hv K h.1
  · obtain ⟨u, hu, n⟩ := h.2 k hk
    exact ⟨u, List.mem_append_left _ hu, n⟩
def BsE (s s' : B4) (N : Int) : Prop := (lA s.a s.b N = lA s'.a s'.b N ∧ lB s.a s.b N = lB s'.a s'.b N ∧ lN s.a s.b N = lN s'.a s'.b N) ∧ (lA s.c s.e N = lA s'.c s'.e N ∧ lB s.c s.e N = lB s'.c s'.e N ∧ lN s.c s.e N = lN s'.c s'.e N)
instance {s s' : B4} {N : Int} : Decidable (BsE s s' N) := inferInstanceAs (Decidable (_ ∧ _))
theorem BsE.refl (s : B4) (N : Int) : BsE s s N := ⟨⟨rfl, rfl, rfl⟩, rfl, rfl, rfl⟩
def far399 : Bool := (List.range 98).all fun k => let d : Int := 2 + k; (d == 4 || d == 9 || d == 16 || d == 25 || d == 36 || d == 49 || d == 64 || d == 81) || decide (100000000 < (st d 399).a.natAbs)
end Bg
namespace Bg
end Bg
namespace Bg
end Bg
namespace Bg
def tmS (m : Int) (s : Sd) : Sd := ⟨lA (m * s.x) (m * s.y) s.z, lB (m * s.x) (m * s.y) s.z, lN (m * s.x) (m * s.y) s.z⟩
def adS (s t : Sd) : Sd := ⟨lA (s.x * t.z + t.x * s.z) (s.y * t.z + t.y * s.z) (s.z * t.z), lB (s.x * t.z + t.x * s.z) (s.y * t.z + t.y * s.z) (s.z * t.z), lN (s.x * t.z + t.x * s.z) (s.y * t.z + t.y * s.z) (s.z * t.z)⟩
structure SK (k j : Nat) (s : Sd) : Prop where
  z1 : 1 ≤ s.z
  g : g3 s.x s.y s.z = 1
  bx : Bd k s.x
  by' : Bd k s.y
  bz : Bd j s.z
theorem SK.mono {k j k' j' : Nat} {s : Sd} (h : SK k j s) (l : k ≤ k') (l' : j ≤ j') : SK k' j' s := ⟨h.z1, h.g, h.bx.mono l, h.by'.mono l, h.bz.mono l'⟩
theorem SK.ne {k j : Nat} {s : Sd} (h : SK k j s) : s.z ≠ 0 := by have := h.z1; omega
def nul : Sd := ⟨0, 0, 1⟩
def mny (s : B4) (N : Int) (pl : Nat) (w : Sd) : Int := if pl = 0 then s.i (N / w.z * w.x) (N / w.z * w.y) else s.j (N / w.z * w.x) (N / w.z * w.y)
def hg (s : B4) (N : Int) (pl : Nat) : List Bo → Sd := fun L => L.foldl (fun a b => adS a (tmS (mny s N pl b.w) b.h)) nul
structure B5 (d N : Int) (b : Bo) : Prop where
  w : SK 20 12 b.w
  h : SK 20 12 b.h
  wu : sgn d b.w.x b.w.y = 1
  hu : sgn d b.h.x b.h.y = 1
  dv : b.w.z ∣ N
def bw1 (s : B4) (N : Int) : Sd := ⟨lA s.a s.b N, lB s.a s.b N, lN s.a s.b N⟩
def bw2 (s : B4) (N : Int) : Sd := ⟨lA s.c s.e N, lB s.c s.e N, lN s.c s.e N⟩
end Bg
namespace L2
open PySem PySem.Spec PyProof.Rows Bg
def rSum (K : PySem.W.Frag) : List V → Hp → VK → Prop := fun xs H Q => ∃ (a : Addr) (ns : List Int), xs = [.ref a] ∧ SqL K H a (ns.map V.int) ∧ Q (.int ns.sum) H
def rAllB (K : PySem.W.Frag) : List V → Hp → VK → Prop := fun xs H Q => ∃ (a : Addr) (bs : List Bool), xs = [.ref a] ∧ SqL K H a (bs.map V.bl) ∧ Q (.bl (bs.all id)) H
theorem ints_items : ∀ {ns : List Int} {us : List Value}, Vals (ns.map V.int) us → ∃ xs : Array (Int × Tok), us.toArray = intItems xs ∧ xs.toList.map (·.1) = ns
  | [], us, h => by
    rw [Vals.zero h]
    exact ⟨#[], by simp [intItems], rfl⟩
  | n :: ns, u :: us, .cons r t => by
      obtain ⟨tk, rfl⟩ := r
      obtain ⟨xs, e1, e2⟩ := ints_items t
      refine ⟨#[(n, tk)] ++ xs, ?_, by simp [e2]⟩
      have e3 : (Value.int n tk :: us).toArray = #[Value.int n tk] ++ us.toArray := by simp
      rw [e3, e1]
      simp [intItems]
theorem preSum_ints {xs : Array (Int × Tok)} : preSum (numAt xs) xs.size = (xs.toList.map (·.1)).sum := by
  rw [preSum_eq, List.take_of_length_le (by simp)]
section
variable {X : Cx}
theorem call_sumL (hc : X.calm = true) : CallR X (.builtin "sum") (rSum X.K) := by
  intro pins s σ H xs us Q I r h
  obtain ⟨a, ns, rfl, hq, q⟩ := h
  obtain ⟨u, rfl, ru⟩ := Vals.one r
  cases ru
  obtain ⟨its, rv, p, hz⟩ := I.list hq
  obtain ⟨ys, e1, e2⟩ := ints_items rv
  have hl : s.heap.IsList a (intItems ys) := by rw [← e1]; exact p.isList
  refine sum_intListG (I.ok.hd hc) hl fun h' tk t' hk => ?_
  rw [preSum_ints, e2]
  exact ⟨.int ns.sum, H, I.kept (t' := tk) hk, ⟨t', rfl⟩, q⟩
theorem call_allL (hc : X.calm = true) : CallR X (.builtin "all") (rAllB X.K) := by
  intro pins s σ H xs us Q I r h
  obtain ⟨a, bs, rfl, hq, q⟩ := h
  obtain ⟨u, rfl, ru⟩ := Vals.one r
  cases ru
  obtain ⟨its, rv, p, hz⟩ := I.list hq
  have hlt : a < s.heap.objs.size := by
    obtain ⟨o, _, e, _⟩ := p
    exact Heap.lt_size e
  refine call_all_walk (wpAny_pyIter_list p.isList ?_)
  refine ⟨_, _, _, _, _, _, (fun i => bs.getD i false), rfl, Walks.list (A := X.A.in1) (show X.A.in1.handled = none from I.ok.hd hc) _ a (Nat.ne_of_lt hlt) its.toArray, ⟨⟨_, Heap.get?_push_size _ rfl, rfl, rfl⟩, p.isList.push _⟩, ?_, fun h' tk hk => ?_⟩
  · intro i v s' Q' E' hP hQ
    have hP' : its[i]? = some v := by simpa using hP
    have hi : i < bs.length := by
      have := rv.length
      rw [List.length_map] at this
      have := (List.getElem?_eq_some_iff.mp hP').1
      omega
    obtain ⟨u, hu, ru⟩ := rv.get (i := i) (x := .bl bs[i]) (by rw [List.getElem?_map, List.getElem?_eq_getElem hi]; rfl)
    rw [hP'] at hu
    cases hu
    cases ru
    have e : bs.getD i false = bs[i] := by rw [List.getD_eq_getElem?_getD, List.getElem?_eq_getElem hi]; rfl
    have hQ' : Q' (bs.getD i false) s' := hQ
    rw [e] at hQ'
    exact wpAny_truthy_bool hQ'
  · have e : (List.range its.toArray.size).all (fun i => bs.getD i false) = bs.all id := by
      have := rv.length
      rw [List.length_map] at this
      rw [List.size_toArray, ← this, all_getD]
    rw [e]
    refine ⟨.bl _, H, I.kept (t' := tk) fun b o e' => hk b o ?_ (Heap.get?_push_of_some _ e'), rfl, q⟩
    intro hb
    have e2 : b = s.heap.objs.size := by simpa using hb
    exact absurd (Heap.lt_size e') (by rw [e2]; exact Nat.lt_irrefl _)
end
end L2
namespace L2
open PySem PySem.Spec PyProof.Rows Bg
def kitTy (t c : String) : Option Bool := if (Value.type t == Value.type c) = true then some true else if PySem.W.kitMeta c = true then (fastBuiltinMro t).map (·.contains (Value.type c)) else none
theorem kit_ty {K : PySem.W.Frag} {t c : String} {b : Bool} (h : kitTy t c = some b) : PySem.W.kitOne K (.type t) (.type c) = some b := h
inductive Kd (H : Hp) : V → String → Prop where
  | non : Kd H .non "NoneType"
  | bl (x : Bool) : Kd H (.bl x) "bool"
  | int (i : Int) : Kd H (.int i) "int"
  | str (x : Str) : Kd H (.str x) "str"
  | lst {a : Addr} {xs : List V} (e : H a = some (.lst xs)) : Kd H (.ref a) "list"
  | tup {a : Addr} {xs : List V} (e : H a = some (.tup xs)) : Kd H (.ref a) "tuple"
  | dK {a : Addr} {xs : List (Key × V)} (e : H a = some (.dK xs)) : Kd H (.ref a) "dict"
theorem Kd.ty {K : PySem.W.Frag} {H : Hp} {x : V} {t : String} (k : Kd H x t) : TyOf K H x (.type t) := by
  cases k with
  | non => exact .non
  | bl b => exact .bl b
  | int i => exact .int i
  | str s => exact .str s
  | lst e => exact .lst e
  | tup e => exact .tup e
  | dK e => exact .dK e
theorem Kd.same {H H' : Hp} {x : V} {t : String} (k : Kd H x t) (s : Same H H') : Kd H' x t := by
  cases k with
  | non => exact .non
  | bl b => exact .bl b
  | int i => exact .int i
  | str s => exact .str s
  | lst e => exact .lst (s _ _ e)
  | tup e => exact .tup (s _ _ e)
  | dK e => exact .dK (s _ _ e)
theorem i_isK {K : PySem.W.Frag} {H : Hp} {Q : VK} {x : V} {t T : String} {b : Bool} (k : Kd H x t) (e : kitTy t T = some b) (q : Q (.bl b) H) : rIs K [x, .ty T] H Q := ⟨_, _, _, _, rfl, k.ty, kit_ty e, q⟩
theorem i_sum {K : PySem.W.Frag} {H : Hp} {Q : VK} {a : Addr} {ns : List Int} (h : SqL K H a (ns.map V.int)) (q : Q (.int ns.sum) H) : rSum K [.ref a] H Q := ⟨a, ns, rfl, h, q⟩
theorem i_allB {K : PySem.W.Frag} {H : Hp} {Q : VK} {a : Addr} {bs : List Bool} (h : SqL K H a (bs.map V.bl)) (q : Q (.bl (bs.all id)) H) : rAllB K [.ref a] H Q := ⟨a, bs, rfl, h, q⟩
def isI : V → Bool
  | .int _ => true
  | _ => false
theorem Kd.flat {H : Hp} {x : V} (h : flatV x = true) : ∃ t, Kd H x t := by
  cases x with
  | non => exact ⟨_, .non⟩
  | bl b => exact ⟨_, .bl b⟩
  | int i => exact ⟨_, .int i⟩
  | str s => exact ⟨_, .str s⟩
  | _ => exact absurd (show false = true from h) Bool.false_ne_true
theorem Kd.isI {H : Hp} {x : V} {t : String} (k : Kd H x t) : isI x = (t == "int") := by cases k <;> rfl
inductive T0 where
  | flat (x : V)
  | tup (xs : List V)
  | lst (xs : List V)
def ThAt (H : Hp) (v : V) : T0 → Prop
  | .flat x => v = x ∧ flatV x = true
  | .tup xs => (∃ a, v = .ref a ∧ H a = some (.tup xs)) ∧ xs.all flatV = true
  | .lst xs => ∃ a, v = .ref a ∧ H a = some (.lst xs)
theorem ThAt.same {H H' : Hp} {v : V} {t : T0} (h : ThAt H v t) (s : Same H H') : ThAt H' v t := by
  cases t with
  | flat x => exact h
  | tup xs => obtain ⟨⟨a, e, h1⟩, h2⟩ := h; exact ⟨⟨a, e, s _ _ h1⟩, h2⟩
  | lst xs => obtain ⟨a, e, h⟩ := h; exact ⟨a, e, s _ _ h⟩
def bdV (k : Nat) : V → Prop
  | .int i => Bd k i
  | _ => True
def bdT (k : Nat) : T0 → Prop
  | .tup xs => ∀ x ∈ xs, bdV k x
  | _ => True
def isLen : T0 → Bool
  | .tup [.int a, .int b, .int n] => decide (1 ≤ n ∧ g3 a b n = 1)
  | _ => false
theorem ThAt.kd {H : Hp} {v : V} {t : T0} (h : ThAt H v t) : ∃ k, Kd H v k ∧ (k = "tuple" → ∃ xs a, t = .tup xs ∧ v = .ref a ∧ H a = some (.tup xs) ∧ xs.all flatV = true) ∧ (k ≠ "tuple" → isLen t = false) := by
  cases t with
  | flat x =>
    obtain ⟨rfl, f⟩ := h
    cases v with
    | non => exact ⟨_, .non, fun e => absurd e (by decide), fun _ => rfl⟩
    | bl b => exact ⟨_, .bl b, fun e => absurd e (by decide), fun _ => rfl⟩
    | int i => exact ⟨_, .int i, fun e => absurd e (by decide), fun _ => rfl⟩
    | str z => exact ⟨_, .str z, fun e => absurd e (by decide), fun _ => rfl⟩
    | _ => exact absurd (show false = true from f) Bool.false_ne_true
  | tup xs =>
    obtain ⟨⟨a, rfl, h1⟩, h2⟩ := h
    exact ⟨_, .tup h1, fun _ => ⟨xs, a, rfl, rfl, h1, h2⟩, fun n => absurd rfl n⟩
  | lst xs =>
    obtain ⟨a, rfl, h⟩ := h
    exact ⟨_, .lst h, fun e => absurd e (by decide), fun _ => rfl⟩
theorem low_iff {a b n : Int} (h : 1 ≤ n) : decide (lA a b n = a ∧ lB a b n = b ∧ lN a b n = n) = decide (1 ≤ n ∧ g3 a b n = 1) := by
  refine decide_eq_decide.mpr ⟨fun e => ⟨h, ?_⟩, fun e => low_self h e.2⟩
  have := l_gcd (a := a) (b := b) (n := n) (by omega)
  rw [e.1, e.2.1, e.2.2] at this
  exact this
end L2
namespace L2
open PySem PySem.Spec PyProof.Rows Bg
def Has (H : Hp) (ls : List (Addr × HO)) : Prop := ∀ q ∈ ls, H q.1 = some q.2
theorem Has.nil {H : Hp} : Has H [] := fun q h => absurd h (by simp)
theorem Has.same {H H' : Hp} {ls : List (Addr × HO)} (h : Has H ls) (s : Same H H') : Has H' ls := fun q hq => s _ _ (h q hq)
theorem Has.cons {H : Hp} {ls : List (Addr × HO)} {a : Addr} {o : HO} (h : Has H ls) (e : H a = some o) : Has H ((a, o) :: ls) := fun q hq => by
  rcases List.mem_cons.mp hq with rfl | hq
  · exact e
  · exact h q hq
section
variable {H0 H : Hp} {Q : VK} {ls : List (Addr × HO)}
end
def AskT (k : Nat) (H : Hp) (v : V) : Prop := ∃ t, ThAt H v t ∧ bdT k t
theorem AskT.same {k : Nat} {H H' : Hp} {v : V} (h : AskT k H v) (s : Same H H') : AskT k H' v := let ⟨t, a, b⟩ := h; ⟨t, a.same s, b⟩
end L2
namespace L2
open PySem PySem.Spec PyProof.Rows
section
variable {X : Cx} {tg : Expr}
def Its (lo c : Int) (n : Nat) : It := ⟨fun i _ => i < n, fun i H x H' => H' = H ∧ x = .int (lo + (i : Nat) * c), fun i _ => n ≤ i⟩
def half (lo hi : Int) : Nat := ((hi - lo + 1) / 2).toNat
def iRng3 (ta : TA) : TI := fun σ H R => ta σ H fun vs H1 => ∃ i j : Int, vs = [.int i, .int j, .int 2] ∧ (-(2 ^ 62) ≤ i ∧ i < 2 ^ 62 ∧ -(2 ^ 62) ≤ j ∧ j < 2 ^ 62) ∧ R (Its i 2 (half i j)) H1
end
end L2
namespace L2
open PySem PySem.Spec PyProof.Rows Bg
abbrev Fq (H : Hp) (p : Addr) (x : Rat) : Prop := H p = some (.tup [.int x.num, .int (x.den : Int)])
abbrev Fs (K : PySem.W.Frag) (H : Hp) (p : Addr) (x : Rat) : Prop := SqT K H p [.int x.num, .int (x.den : Int)]
end L2
namespace L2
open PySem PySem.Spec PyProof.Rows Bg
theorem Same.sqT {K : PySem.W.Frag} {H H' : Hp} {a : Addr} {xs : List V} (e : Same H H') (h : SqT K H a xs) : SqT K H' a xs := by
  rcases h with h | h
  · rcases h with h | ⟨o, h⟩
    · exact .inl (.inl (e _ _ h))
    · exact .inl (.inr ⟨o, e _ _ h⟩)
  · exact .inr h
abbrev SdAt (H : Hp) (p : Addr) (s : Sd) : Prop := H p = some (.tup [.int s.x, .int s.y, .int s.z])
structure Cell where
  p : Addr
  pw : Addr
  ph : Addr
  b : Bo
def Cell.v (c : Cell) : V := .ref c.p
structure Cell.At (H : Hp) (c : Cell) : Prop where
  t : H c.p = some (.tup [.ref c.pw, .ref c.ph])
  w : SdAt H c.pw c.b.w
  h : SdAt H c.ph c.b.h
theorem Cell.At.same {H H' : Hp} {c : Cell} (h : c.At H) (s : Same H H') : c.At H' := ⟨s _ _ h.t, s _ _ h.w, s _ _ h.h⟩
theorem Cell.At.sameX {H H' : Hp} {c : Cell} {D : Addr} {xs : List V} (h : c.At H) (s : SameX D H H') (e : H D = some (.lst xs)) : c.At H' := ⟨s.tup h.t e, s.tup h.w e, s.tup h.h e⟩
structure HpAt (d : Int) (n : Nat) (H : Hp) (p : Addr) (L : List Cell) : Prop where
  l : H p = some (.lst (L.map Cell.v))
  at' : ∀ c ∈ L, c.At H
  ok : ∀ c ∈ L, c.b.Ok d
  ne : L ≠ []
  len : L.length ≤ n
theorem HpAt.same {d : Int} {n : Nat} {H H' : Hp} {p : Addr} {L : List Cell} (h : HpAt d n H p L) (s : Same H H') : HpAt d n H' p L := ⟨s _ _ h.l, fun c hc => (h.at' c hc).same s, h.ok, h.ne, h.len⟩
theorem HpAt.mono {d : Int} {n m : Nat} {H : Hp} {p : Addr} {L : List Cell} (h : HpAt d n H p L) (s : n ≤ m) : HpAt d m H p L := ⟨h.l, h.at', h.ok, h.ne, Nat.le_trans h.len s⟩
theorem HpAt.bt {d : Int} {n : Nat} {H : Hp} {p : Addr} {L : List Cell} (h : HpAt d n H p L) : (tbs (L.map Cell.b)).Bt (240 + 62 * n) (1 + 60 * n) := by
  have hl := h.len
  have := tbs_bt (d := d) (l := L.map Cell.b) (fun b hb => by
    obtain ⟨c, hc, rfl⟩ := List.mem_map.mp hb
    exact h.ok c hc)
  rw [List.length_map] at this
  exact this.mono (by omega) (by omega)
structure TbS (K : PySem.W.Frag) (H : Hp) (p r0 r1 f0 f1 f2 f3 : Addr) (t : Tb) : Prop where
  p : SqT K H p [.ref r0, .ref r1]
  r0 : SqT K H r0 [.ref f0, .ref f1]
  r1 : SqT K H r1 [.ref f2, .ref f3]
  f0 : Fs K H f0 t.a
  f1 : Fs K H f1 t.b
  f2 : Fs K H f2 t.c
  f3 : Fs K H f3 t.e
theorem TbS.same {K : PySem.W.Frag} {H H' : Hp} {p r0 r1 f0 f1 f2 f3 : Addr} {t : Tb} (h : TbS K H p r0 r1 f0 f1 f2 f3 t) (s : Same H H') : TbS K H' p r0 r1 f0 f1 f2 f3 t := ⟨s.sqT h.p, s.sqT h.r0, s.sqT h.r1, s.sqT h.f0, s.sqT h.f1, s.sqT h.f2, s.sqT h.f3⟩
structure TbH (H : Hp) (p r0 r1 f0 f1 f2 f3 : Addr) (t : Tb) : Prop where
  p : H p = some (.tup [.ref r0, .ref r1])
  r0 : H r0 = some (.tup [.ref f0, .ref f1])
  r1 : H r1 = some (.tup [.ref f2, .ref f3])
  f0 : Fq H f0 t.a
  f1 : Fq H f1 t.b
  f2 : Fq H f2 t.c
  f3 : Fq H f3 t.e
theorem TbH.same {H H' : Hp} {p r0 r1 f0 f1 f2 f3 : Addr} {t : Tb} (h : TbH H p r0 r1 f0 f1 f2 f3 t) (s : Same H H') : TbH H' p r0 r1 f0 f1 f2 f3 t := ⟨s _ _ h.p, s _ _ h.r0, s _ _ h.r1, s _ _ h.f0, s _ _ h.f1, s _ _ h.f2, s _ _ h.f3⟩
theorem TbH.s {K : PySem.W.Frag} {H : Hp} {p r0 r1 f0 f1 f2 f3 : Addr} {t : Tb} (h : TbH H p r0 r1 f0 f1 f2 f3 t) : TbS K H p r0 r1 f0 f1 f2 f3 t := ⟨.of h.p, .of h.r0, .of h.r1, .of h.f0, .of h.f1, .of h.f2, .of h.f3⟩
def TbAt (H : Hp) (p : Addr) (t : Tb) : Prop := ∃ r0 r1 f0 f1 f2 f3 : Addr, TbH H p r0 r1 f0 f1 f2 f3 t
theorem TbAt.same {H H' : Hp} {p : Addr} {t : Tb} (h : TbAt H p t) (s : Same H H') : TbAt H' p t := by
  obtain ⟨r0, r1, f0, f1, f2, f3, h⟩ := h
  exact ⟨r0, r1, f0, f1, f2, f3, h.same s⟩
theorem TbAt.eq {H : Hp} {p : Addr} {t u : Tb} (h : TbAt H p t) (e : t = u) : TbAt H p u := e ▸ h
def MsAt (H : Hp) (p : Addr) (m : Ms) : Prop := ∃ a b : Addr, H p = some (.tup [.ref a, .ref b]) ∧ Fq H a m.f ∧ Fq H b m.g
theorem MsAt.same {H H' : Hp} {p : Addr} {m : Ms} (h : MsAt H p m) (s : Same H H') : MsAt H' p m := by
  obtain ⟨a, b, h1, h2, h3⟩ := h
  exact ⟨a, b, s _ _ h1, s _ _ h2, s _ _ h3⟩
end L2
namespace L2
open PySem PySem.Spec PyProof.Rows Bg
section
variable {K : PySem.W.Frag} {H : Hp} {Q : VK} {σ : St} {D : Ends}
theorem i_slTo {a : Addr} {ns : List Int} {k : Int} (hk : 0 ≤ k) (hS : SqL K H a (ns.map V.int)) (h : ∀ (p : Addr) (H2 : Hp), Same H H2 → H2 p = some (.lst ((ns.take k.toNat).map V.int)) → Q (.ref p) H2) : rSlL K (.ref a) none (some k) H Q := by
  refine ⟨a, _, rfl, hS, fun p hp => ?_⟩
  refine h p _ (same_upd hp _) ?_
  rw [upd_same]
  unfold cutV
  rw [HT.sIx_none, List.drop_zero, Nat.sub_zero]
  have e : HT.sIx (ns.map V.int).length (ns.map V.int).length (some k) = min k.toNat (ns.map V.int).length := by
    have := HT.sIx_nat (ns.map V.int).length (ns.map V.int).length k.toNat
    rw [Int.toNat_of_nonneg hk] at this
    exact this
  rw [e, ← List.map_take]
  congr 3
  rw [List.length_map]
  rcases Nat.le_total k.toNat ns.length with z | z
  · rw [Nat.min_eq_left z]
  · rw [Nat.min_eq_right z, List.take_length, List.take_of_length_le z]
theorem i_gsub {to ti : TE} {t : TSet} {v : V} {R : St → Hp → Prop} (h : to σ H fun o H1 => ti σ H1 fun i H2 => t o i v H2 fun H3 => R σ H3) : gSub to ti t v σ H R := h
theorem i_setL {p : Addr} {xs : List V} {k : Int} {v : V} {R : Hp → Prop} (h : H p = some (.lst xs)) (k0 : 0 ≤ k) (k1 : k < xs.length) (q : ∀ H2, SameX p H H2 → H2 p = some (.lst (xs.set k.toNat v)) → R H2) : rSetL (.ref p) (.int k) v H R := by
  refine ⟨p, xs, k, k.toNat, rfl, rfl, h, ?_, q _ (fun b o e n => by rw [upd_ne n]; exact e) upd_same⟩
  unfold ixN
  rw [if_pos k0, if_pos k1]
end
end L2
namespace L2
open PySem PySem.Spec PyProof.Rows Bg
def TopE (K : PySem.W.Frag) (mg : Str → Option Value) (x : Str) : Prop := ∃ a, mg x = some (.ref a) ∧ ∀ H : Hp, ∃ r0 r1 f0 f1 f2 f3 : Addr, TbS K H a r0 r1 f0 f1 f2 f3 Tb.zero
structure TupIn (K : PySem.W.Frag) (a : Addr) (xs : List V) : Prop where
  h : ∃ (o : Obj) (its : Array Value) (n : Nat), K.lookup a = some o ∧ o.cls = .type "tuple" ∧ o.data = .seq its n ∧ its.size ≤ sizeLine ∧ Vals xs its.toList
def rTup (K : PySem.W.Frag) : List V → Hp → VK → Prop := fun xs H Q => ∃ p ys, xs = [.ref p] ∧ ((SqL K H p ys ∧ ∀ l, H l = none → Q (.ref l) (upd H l (.tup ys))) ∨ (SqT K H p ys ∧ Q (.ref p) H))
theorem call_tupR {X : Cx} : CallR X (.type "tuple") (rTup X.K) := call_tuple_of
def rLst (K : PySem.W.Frag) : List V → Hp → VK → Prop := fun xs H Q => ∃ p ys, xs = [.ref p] ∧ (SqL K H p ys ∨ SqT K H p ys) ∧ ∀ l, H l = none → Q (.ref l) (upd H l (.lst ys))
theorem call_lstR {X : Cx} : CallR X (.type "list") (rLst X.K) := call_list_of
theorem i_tupL {K : PySem.W.Frag} {H : Hp} {Q : VK} {p : Addr} {ys : List V} (h : H p = some (.lst ys)) (q : ∀ l H2, Same H H2 → H2 l = some (.tup ys) → Q (.ref l) H2) : rTup K [.ref p] H Q := ⟨p, ys, rfl, .inl ⟨SqL.of h, fun l hl => q l _ (same_upd hl _) upd_same⟩⟩
end L2
namespace L2
open PySem PySem.Spec PyProof.Rows Bg
abbrev ArAt (H : Hp) (r : Addr) (A B : Rat) : Prop := H r = some (.tup [.int (lA (A.num * B.den) (B.num * A.den) (A.den * B.den)), .int (lB (A.num * B.den) (B.num * A.den) (A.den * B.den)), .int (lN (A.num * B.den) (B.num * A.den) (A.den * B.den))])
end L2
namespace L2
open PySem PySem.Spec PyProof.Rows Bg
section
variable {prog : Program} {w : World} {A : Around} {E : Value → Shared → Prop}
end
def gLst (K : PySem.W.Frag) (n : Nat) (t : TGs) : TG := fun v σ H Q => ∃ a xs, v = .ref a ∧ SqL K H a xs ∧ xs.length = n ∧ t xs σ H Q
end L2
namespace L2
open PySem PySem.Spec PyProof.Rows Bg
section
variable {X : Cx}
def rZfill : V → List V → Hp → VK → Prop := fun x vs H Q => ∃ z i, x = .str z ∧ vs = [.int i] ∧ 0 ≤ i ∧ i ≤ 1000 ∧ Q (.str (Txt.zfill z i)) H
def rJoin (K : PySem.W.Frag) : V → List V → Hp → VK → Prop := fun x vs H Q => ∃ z p ys, x = .str z ∧ vs = [.ref p] ∧ SqL K H p (ys.map V.str) ∧ (ys.map (·.length)).sum + ys.length * z.length ≤ 16777216 ∧ Q (.str (Txt.join z ys)) H
abbrev TF := St → Hp → Str → VK → Prop
def PF (X : Cx) (es : List Expr) (t : TF) : Prop := ∀ (pins : List (Addr × Obj)) (s : Shared) (σ : St) (H : Hp) (out : Str) (Q : VK), Inv X pins σ H s → t σ H out Q → wpAny (model X.prog X.w) X.A (joinParts out (evalEach es X.env)) (EP X pins σ Q) X.xe s
def fNil : TF := fun _ H out Q => out.length ≤ sizeLine ∧ Q (.str out) H
def fVal (te : TE) (t : TF) : TF := fun σ H out Q => te σ H fun x H1 => ∃ y, x = .str y ∧ y.length ≤ sizeLine ∧ (out ++ y).length ≤ sizeLine ∧ t σ H1 (out ++ y) Q
def fInt (te : TE) (t : TF) : TF := fun σ H out Q => te σ H fun x H1 => ∃ i : Int, x = .int i ∧ i.natAbs.log2 < 1920 ∧ (out ++ (toString i : Str)).length ≤ sizeLine ∧ t σ H1 (out ++ (toString i : Str)) Q
def fStr (z : Str) (t : TF) : TF := fun σ H out Q => (out ++ z).length ≤ sizeLine ∧ t σ H (out ++ z) Q
def tF (t : TF) : TE := fun σ H Q => t σ H Str.empty Q
end
end L2
namespace L2
open PySem PySem.Spec PyProof.Rows Bg
def dtx (n : Nat) : Str := ⟨(digs n).toArray⟩
def txt (n : Int) : Str := ⟨((if n < 0 then [45] else []) ++ digs n.natAbs).toArray⟩
theorem str_num {n : Int} (h : 0 ≤ n) : (toString n : Str) = dtx n.natAbs := by
  obtain ⟨m, rfl⟩ := Int.eq_ofNat_of_zero_le h
  exact text_ofNat m
end L2
namespace L2
open PySem PySem.Spec PyProof.Rows Bg
def txl (n : Int) : List Nat := (if n < 0 then [45] else []) ++ digs n.natAbs
def ftl (t b : Int) : List Nat := if b = 1 then txl t else txl t ++ [47] ++ txl b
abbrev sOf (l : List Nat) : Str := ⟨l.toArray⟩
theorem txl_nn {n : Int} (h : 0 ≤ n) : txl n = digs n.natAbs := by
  unfold txl
  rw [if_neg (by omega)]
  rfl
theorem txl_neg {n : Int} (h : n < 0) : txl n = 45 :: digs n.natAbs := by
  unfold txl
  rw [if_pos h]
  rfl
section
variable {X : Cx}
def rStrI : List V → Hp → VK → Prop := fun xs H Q => ∃ i : Int, xs = [.int i] ∧ i.natAbs.log2 < 1920 ∧ Q (.str (toString i)) H
def rMin : List V → Hp → VK → Prop := fun xs H Q => ∃ i j : Int, xs = [.int i, .int j] ∧ Q (.int (if j < i then j else i)) H
def rAddS : R2 := fun x y H Q => ∃ i j, x = .str i ∧ y = .str j ∧ i.length + j.length ≤ sizeLine ∧ Q (.str (i ++ j)) H
end
section
variable {K : PySem.W.Frag} {σ : St} {H : Hp} {Q : VK}
theorem line_le {n : Nat} (h : n ≤ 1000) : n ≤ sizeLine := small_le h
theorem i_min {i j : Int} (q : Q (.int (if j < i then j else i)) H) : rMin [.int i, .int j] H Q := ⟨i, j, rfl, q⟩
theorem i_tyS {z : Str} {R : Prop} (q : R) : tyV K "str" (.str z) H ∧ R := ⟨rfl, q⟩
theorem i_bm0 {T : String} {r : V → List V → Hp → VK → Prop} {to : TE} (h : to σ H fun x H1 => tyV K T x H1 ∧ r x [] H1 Q) : tBM0 K T r to σ H Q := h
theorem i_eqS {i j : Str} (h : Q (.bl (decide (i = j))) H) : rEq (.str i) (.str j) H Q := ⟨rfl, by
  have e : decide (V.str i = V.str j) = decide (i = j) := by rw [Bool.eq_iff_iff]; simp
  rw [e]; exact h⟩
theorem i_neS {i j : Str} (h : Q (.bl (!decide (i = j))) H) : rNe (.str i) (.str j) H Q := ⟨rfl, by
  have e : decide (V.str i = V.str j) = decide (i = j) := by rw [Bool.eq_iff_iff]; simp
  rw [e]; exact h⟩
theorem i_is_str {z : Str} (h : Q (.bl true) H) : rIs K [.str z, .ty "str"] H Q := ⟨_, _, _, _, rfl, .str z, kit_same K _, h⟩
theorem i_fF {t : TF} (h : t σ H Str.empty Q) : tF t σ H Q := h
theorem i_fVal0 {te : TE} {t : TF} {out : Str} (h : te σ H fun x H1 => ∃ y, x = .str y ∧ y.length ≤ sizeLine ∧ (out ++ y).length ≤ sizeLine ∧ t σ H1 (out ++ y) Q) : fVal te t σ H out Q := h
theorem i_fInt0 {te : TE} {t : TF} {out : Str} (h : te σ H fun x H1 => ∃ i : Int, x = .int i ∧ i.natAbs.log2 < 1920 ∧ (out ++ (toString i : Str)).length ≤ sizeLine ∧ t σ H1 (out ++ (toString i : Str)) Q) : fInt te t σ H out Q := h
end
end L2
namespace L2
open PySem PySem.Spec PyProof.Rows Bg
section
variable {prog : Program} {w : World} {A : Around} {E : Value → Shared → Prop} {s : Shared} {R : Result → Shared → Prop}
variable {I : Addr} {fp wr : List Addr} {G : Array GenState → Array GenState → Prop} {n : Nat} {P : Nat → Value → Prop} {St : Nat → Shared → Prop}
end
end L2
namespace L2
open PySem PySem.Spec PyProof.Rows Bg
section
variable {X : Cx} {e : Expr} {te : TE} {p1 p2 pos pos2 : Pos}
def tLR (K : PySem.W.Frag) (te : TE) : TE := fun σ H Q => te σ H fun x H1 => ∃ a xs, x = .ref a ∧ SqL K H1 a xs ∧ ∀ l, H1 l = none → Q (.ref l) (upd H1 l (.lst xs.reverse))
end
end L2
namespace L2
open PySem PySem.Spec PyProof.Rows Bg
def rNeS (K : PySem.W.Frag) : R2 := fun x y H Q => ∃ a b xs, x = .ref a ∧ y = .ref b ∧ SqL K H a xs ∧ SqL K H b xs ∧ (∀ v ∈ xs, ∃ p, v = .ref p) ∧ Q (.bl false) H
def SqA (H : Hp) (p : Addr) (xs : List V) : Prop := H p = some (.lst xs) ∨ H p = some (.tup xs)
theorem SqA.same {H H' : Hp} {p : Addr} {xs : List V} (h : SqA H p xs) (s : Same H H') : SqA H' p xs := h.elim (fun z => .inl (s _ _ z)) (fun z => .inr (s _ _ z))
structure TbA (H : Hp) (p r0 r1 f0 f1 f2 f3 : Addr) (t : Tb) : Prop where
  p : SqA H p [.ref r0, .ref r1]
  r0 : SqA H r0 [.ref f0, .ref f1]
  r1 : SqA H r1 [.ref f2, .ref f3]
  f0 : Fq H f0 t.a
  f1 : Fq H f1 t.b
  f2 : Fq H f2 t.c
  f3 : Fq H f3 t.e
theorem TbA.same {H H' : Hp} {p r0 r1 f0 f1 f2 f3 : Addr} {t : Tb} (h : TbA H p r0 r1 f0 f1 f2 f3 t) (s : Same H H') : TbA H' p r0 r1 f0 f1 f2 f3 t := ⟨h.p.same s, h.r0.same s, h.r1.same s, s _ _ h.f0, s _ _ h.f1, s _ _ h.f2, s _ _ h.f3⟩
def DueAt (H : Hp) (p : Addr) (t : Tb) : Prop := ∃ r0 r1 f0 f1 f2 f3 : Addr, TbA H p r0 r1 f0 f1 f2 f3 t
theorem DueAt.same {H H' : Hp} {p : Addr} {t : Tb} (h : DueAt H p t) (s : Same H H') : DueAt H' p t := by
  obtain ⟨r0, r1, f0, f1, f2, f3, h⟩ := h
  exact ⟨r0, r1, f0, f1, f2, f3, h.same s⟩
end L2
namespace Bg
def Tb.upto (t d : Tb) (k : Nat) : Tb := ⟨if 0 < k then t.a + d.a else t.a, if 1 < k then t.b + d.b else t.b, if 2 < k then t.c + d.c else t.c, if 3 < k then t.e + d.e else t.e⟩
end Bg
namespace Bg
end Bg
namespace L2
open PySem PySem.Spec PyProof.Rows Bg
theorem HpAt.sameX {d : Int} {n : Nat} {H H' : Hp} {p D : Addr} {L : List Cell} {xs : List V} (h : HpAt d n H p L) (s : SameX D H H') (e : H D = some (.lst xs)) (ne : p ≠ D) : HpAt d n H' p L := ⟨s _ _ h.l ne, fun c hc => (h.at' c hc).sameX s e, h.ok, h.ne, h.len⟩
theorem TbAt.sameX {H H' : Hp} {p D : Addr} {t : Tb} {xs : List V} (h : TbAt H p t) (s : SameX D H H') (e : H D = some (.lst xs)) : TbAt H' p t := by
  obtain ⟨r0, r1, f0, f1, f2, f3, h⟩ := h
  exact ⟨r0, r1, f0, f1, f2, f3, s.tup h.p e, s.tup h.r0 e, s.tup h.r1 e, s.tup h.f0 e, s.tup h.f1 e, s.tup h.f2 e, s.tup h.f3 e⟩
structure LsH (H : Hp) (l l0 l1 q0 q1 q2 q3 : Addr) (t : Tb) : Prop where
  l : H l = some (.lst [.ref l0, .ref l1])
  l0 : H l0 = some (.lst [.ref q0, .ref q1])
  l1 : H l1 = some (.lst [.ref q2, .ref q3])
  q0 : Fq H q0 t.a
  q1 : Fq H q1 t.b
  q2 : Fq H q2 t.c
  q3 : Fq H q3 t.e
theorem LsH.same {H H' : Hp} {l l0 l1 q0 q1 q2 q3 : Addr} {t : Tb} (h : LsH H l l0 l1 q0 q1 q2 q3 t) (s : Same H H') : LsH H' l l0 l1 q0 q1 q2 q3 t := ⟨s _ _ h.l, s _ _ h.l0, s _ _ h.l1, s _ _ h.q0, s _ _ h.q1, s _ _ h.q2, s _ _ h.q3⟩
end L2
namespace L2
open PySem PySem.Spec PyProof.Rows Bg
structure BsAt (H : Hp) (p r1 r2 : Addr) (s : B4) (N : Int) : Prop where
  t : H p = some (.tup [.ref r1, .ref r2])
  f : H r1 = some (.tup [.int (lA s.a s.b N), .int (lB s.a s.b N), .int (lN s.a s.b N)])
  g : H r2 = some (.tup [.int (lA s.c s.e N), .int (lB s.c s.e N), .int (lN s.c s.e N)])
theorem BsAt.same {H H' : Hp} {p r1 r2 : Addr} {s : B4} {N : Int} (h : BsAt H p r1 r2 s N) (z : Same H H') : BsAt H' p r1 r2 s N := ⟨z _ _ h.t, z _ _ h.f, z _ _ h.g⟩
def WGn (Pv : Nat → St → Hp → Prop) (m : Nat) (tb : TS) (D : Ends) (σ : St) (H : Hp) : Prop :=
  ∃ N : St → Hp → Prop, (∀ σ' H', N σ' H' → ∃ m', m' < m ∧ Pv m' σ' H') ∧ tb { D with nx := N, ct := N, bk := D.nx } σ H
end L2
namespace L2
open PySem PySem.Spec PyProof.Rows Bg
def rMinS (K : PySem.W.Frag) : List V → Hp → VK → Prop := fun xs H Q => ∃ (a : Addr) (ns : List Int), xs = [.ref a] ∧ (SqL K H a (ns.map V.int) ∨ SqT K H a (ns.map V.int)) ∧ ns ≠ [] ∧ ∀ m ∈ ns, (∀ x ∈ ns, m ≤ x) → Q (.int m) H
def rMaxS (K : PySem.W.Frag) : List V → Hp → VK → Prop := fun xs H Q => ∃ (a : Addr) (ns : List Int), xs = [.ref a] ∧ SqL K H a (ns.map V.int) ∧ ns ≠ [] ∧ ∀ m ∈ ns, (∀ x ∈ ns, x ≤ m) → Q (.int m) H
section
variable {X : Cx}
end
section
variable {K : PySem.W.Frag} {H : Hp} {Q : VK} {σ : St} {D : Ends}
end
structure Ln where
  p : Addr
  s : Sd
def Ln.v (c : Ln) : V := .ref c.p
def Ln.u (c : Ln) : Int × Int := (c.s.x, c.s.y)
structure LOk (d : Int) (k : Nat) (s : Sd) : Prop where
  z1 : 1 ≤ s.z
  g : g3 s.x s.y s.z = 1
  up : sgn d s.x s.y = 1
  bx : Bd k s.x
  by' : Bd k s.y
  bz : Bd 200 s.z
structure LsAt (d : Int) (k : Nat) (H : Hp) (p : Addr) (L : List Ln) : Prop where
  l : H p = some (.lst (L.map Ln.v))
  at' : ∀ c ∈ L, SdAt H c.p c.s
  ok : ∀ c ∈ L, LOk d k c.s
theorem LsAt.same {d : Int} {k : Nat} {H H' : Hp} {p : Addr} {L : List Ln} (h : LsAt d k H p L) (s : Same H H') : LsAt d k H' p L := ⟨s _ _ h.l, fun c hc => s _ _ (h.at' c hc), h.ok⟩
end L2
namespace L2
open PySem PySem.Spec PyProof.Rows Bg
section
variable {X : Cx} {tg : Expr}
def third (lo hi : Int) : Nat := ((hi - lo + 2) / 3).toNat
def iRng3T (ta : TA) : TI := fun σ H R => ta σ H fun vs H1 => ∃ i j : Int, vs = [.int i, .int j, .int 3] ∧ (-(2 ^ 62) ≤ i ∧ i < 2 ^ 62 ∧ -(2 ^ 62) ≤ j ∧ j < 2 ^ 62) ∧ R (Its i 3 (third i j)) H1
end
section
variable {K : PySem.W.Frag} {H : Hp} {Q : VK}
end
theorem LOk.mono {d : Int} {j k : Nat} {s : Sd} (h : LOk d j s) (l : j ≤ k) : LOk d k s := ⟨h.z1, h.g, h.up, h.bx.mono l, h.by'.mono l, h.bz⟩
theorem LsAt.mono {d : Int} {j k : Nat} {H : Hp} {p : Addr} {L : List Ln} (h : LsAt d j H p L) (l : j ≤ k) : LsAt d k H p L := ⟨h.l, h.at', fun c hc => (h.ok c hc).mono l⟩
noncomputable def fk (d : Int) (u : Int × Int) : Nat := open Classical in if h : ∃ K, Fst d [u] K then Classical.choose h else 0
end L2
namespace L2
open PySem PySem.Spec PyProof.Rows Bg
def Itz (K : PySem.W.Frag) (a b : Addr) : It :=
  ⟨fun i H => ∃ xs ys x y, SqL K H a xs ∧ SqL K H b ys ∧ xs[i]? = some x ∧ ys[i]? = some y,
   fun i H v H' => ∃ T, H T = none ∧ v = .ref T ∧ ∀ xs ys, SqL K H a xs → SqL K H b ys → ∃ x y, xs[i]? = some x ∧ ys[i]? = some y ∧ H' = upd H T (.tup [x, y]),
   fun i H => ∃ xs ys, SqL K H a xs ∧ SqL K H b ys ∧ (xs.length ≤ i ∨ ys.length ≤ i)⟩
section
variable {X : Cx}
def iZip (K : PySem.W.Frag) (ta : TA) : TI := fun σ H R => ta σ H fun vs H1 => ∃ a b xs ys, vs = [.ref a, .ref b] ∧ SqL K H1 a xs ∧ SqL K H1 b ys ∧ R (Itz K a b) H1
end
end L2
namespace L2
open PySem PySem.Spec PyProof.Rows Bg
section
variable {X : Cx}
def tRev (K : PySem.W.Frag) (te ts : TE) : TE := fun σ H Q => te σ H fun x H1 => ts σ H1 fun c H2 => c = .int (-1) ∧ ∃ a xs, x = .ref a ∧ SqL K H2 a xs ∧ ∀ p, H2 p = none → Q (.ref p) (upd H2 p (.lst xs.reverse))
end
end L2
namespace L2
open PySem PySem.Spec PyProof.Rows Bg
section
variable {X : Cx}
def rBits : V → List V → Hp → VK → Prop := fun x vs H Q => ∃ i : Int, x = .int i ∧ vs = [] ∧ Q (.int ((Builtin.Int.intBits i : Nat) : Int)) H
theorem mt_bits : MtR X "int.bit_length" rBits := by
  intro pins s σ H x xs v us Q I rx rv h
  obtain ⟨i, rfl, rfl, q⟩ := h
  obtain ⟨t, rfl⟩ := rx
  have hus := rv.zero
  subst hus
  exact call_int_bit_length ⟨.int _, H, I.tok _, ⟨_, rfl⟩, q⟩
theorem i_bits {i : Int} {H : Hp} {Q : VK} (q : Q (.int ((Builtin.Int.intBits i : Nat) : Int)) H) : rBits (.int i) [] H Q := ⟨i, rfl, rfl, q⟩
theorem i_tyI {K : PySem.W.Frag} {H : Hp} {z : Int} {R : Prop} (q : R) : tyV K "int" (.int z) H ∧ R := ⟨rfl, q⟩
end
theorem bits_le {k : Nat} {i : Int} (h : Bd k i) : ¬ ((k : Int) < ((Builtin.Int.intBits i : Nat) : Int)) := by
  unfold Builtin.Int.intBits
  by_cases c : i = 0
  · subst c
    rw [if_pos (by decide)]
    omega
  · rw [if_neg (by simpa using c)]
    have h1 : i.natAbs.log2 < k := (Nat.log2_lt (by omega)).mpr h
    omega
end L2
namespace L2
open PySem PySem.Spec PySem.W PySem.Calls PyProof.Rows Bg PySem.Builtin PySem.Builtin.ObjectAttr PySem.Builtin.Getset_descriptor
section
variable {prog : Program} {w : World} {A : Around} {E : Value → Shared → Prop} {K : Frag} {x C : Addr} {h : Heap} {g : Array GenState} {d : Drawn} {t : Nat} {os : OsState}
theorem exc_class_get {R : Result → Shared → Prop} {tp : Value} (L0 : Looks (model prog w) h (typeOf (.ref x)) (.ref C)) (L5 : Looks (model prog w) h (isSubtype (.ref C) (.type "object")) true)
    (hR : R (.ok (.ret (.ref C))) ⟨h, g, d, t, os⟩) : codeAny (model prog w) A (.call (.builtin "getset_descriptor.__get__") ⟨[.builtin "object.__class__", .ref x, tp], []⟩) R ⟨h, g, d, t, os⟩ := by
  refine codeAny_call_builtin KF.slot_gs.plain KF.entry_gs (KF.slot_gs.check _ _ _ _ _ _ _ _ KF.type_class (KF.args_gs _ _ _) ?_)
  unfold Builtin.«getset_descriptor.__get__» descrGet
  rw [dga_obj]
  refine wpAny_bind (wpAny_pure ?_)
  unfold descrGetter descrCheckInstance descrNameAndClass isInstance
  simp only [KF.owner_class]
  repeat lk
  refine ⟨Code.quiet_builtin _ (by decide +kernel), codeAny_builtin KF.entry_class ?_⟩
  unfold Builtin.«object.__class__» shownTypeOf
  repeat lk
  exact hR
theorem exc_class_entry {tk : Tok} {Q : Fin → Shared → Prop} (L0 : Looks (model prog w) h (typeOf (.ref x)) (.ref C)) (L4 : Looks (model prog w) h (typeLookup (.ref C) "__class__") (some (.builtin "object.__class__"))) (L5 : Looks (model prog w) h (isSubtype (.ref C) (.type "object")) true)
    (hq : Q (.done (.ret (.ref C))) ⟨h, g, d, t, os⟩) : wpAny (model prog w) A (Builtin.«object.__getattribute__» ⟨[.ref x, .str "__class__" tk], []⟩) Q E ⟨h, g, d, t, os⟩ := by
  have f6 := F.slot_gs_get.lookup
  have f7 := F.slot_gs_set.lookup
  have f5 : typeOf (.builtin "object.__class__") = pure (.type "getset_descriptor") := by kernel_rfl
  repeat (any_goals (first | assumption | (with_reducible refine Looks.at (by assumption) ?_) | wp_step))
  refine exc_class_get L0 L5 ?_
  repeat (any_goals (first | assumption | wp_step))
theorem exc_check {nameV : Value} {M : Model} {Q : Unit → Shared → Prop} (L0 : Looks M h (typeOf (.ref x)) (.ref C)) (L3 : Looks M h (isSubtype (.ref C) (.type "BaseException")) true)
    (hq : Q () ⟨h, g, d, t, os⟩) : wpAny M A (checkBuiltinCall "BaseException.__getattribute__" ⟨[.ref x, nameV], []⟩) Q E ⟨h, g, d, t, os⟩ := by
  have hk : builtinKind "BaseException.__getattribute__" = some .slot := by decide +kernel
  have hsplit : splitId "BaseException.__getattribute__" = some ("BaseException", "__getattribute__") := by decide +kernel
  have ha := F.args_bexc_ga (.ref x) nameV
  simp only [checkBuiltinCall, hk, hsplit]
  refine wpAny_bind ?_
  unfold isInstance
  repeat (any_goals (first | assumption | (with_reducible refine Looks.at (by assumption) ?_) | wp_step))
theorem exc_class {Q : Option Value → Shared → Prop} (L0 : Looks (model prog w) h (typeOf (.ref x)) (.ref C)) (L1 : Looks (model prog w) h (typeLookup (.ref C) "__getattribute__") (some (.builtin "BaseException.__getattribute__")))
    (L2 : Looks (model prog w) h (typeLookup (.ref C) "__getattr__") none) (L3 : Looks (model prog w) h (isSubtype (.ref C) (.type "BaseException")) true)
    (L4 : Looks (model prog w) h (typeLookup (.ref C) "__class__") (some (.builtin "object.__class__"))) (L5 : Looks (model prog w) h (isSubtype (.ref C) (.type "object")) true)
    (hq : Q (some (.ref C)) ⟨h, g, d, t + 1, os⟩) : wpAny (model prog w) A (getAttr? (.ref x) "__class__") Q E ⟨h, g, d, t, os⟩ := by
  have f3 := PySem.F.attrBase_ValueError.ga.bind (.ref x)
  have hx2 : (Value.builtin "BaseException.__getattribute__" == Value.builtin "object.__getattribute__") = false := by decide +kernel
  have hx1 : (onTheHeap (Value.ref C) && Value.builtin "BaseException.__getattribute__" == Value.builtin "object.__getattribute__") = false := by rw [hx2]; rfl
  unfold getAttr? getAttrBy?
  repeat (any_goals (first | assumption | (with_reducible refine Looks.at (by assumption) ?_) | wp_step))
  refine codeAny_call_builtin PySem.F.attrBase_ValueError.ga.plain F.entry_bexc_ga (exc_check L0 L3 (exc_class_entry L0 L4 L5 ?_))
  exact wpAny_pure (wpAny_pure hq)
end
structure XOk (K : Frag) (C : Addr) : Prop where
  ex : excIn K C [.type "ValueError", .type "Exception", .type "BaseException", .type "object"] "ValueError.__new__" = true
  cl : (clsIn K C).isSome = true
  ga : findIn K (.ref C) "__getattribute__" = some (some (.builtin "BaseException.__getattribute__"))
  gr : findIn K (.ref C) "__getattr__" = some none
  be : mroIn K C (.type "BaseException") = some true
  ca : findIn K (.ref C) "__class__" = some (some (.builtin "object.__class__"))
  ob : mroIn K C (.type "object") = some true
def IsExc (x C : Addr) (h : Heap) : Prop := ∃ o, h.get? x = some o ∧ o.cls = .ref C
theorem kitx_exc {K : Frag} {x C : Addr} (k : XOk K C) : KitX K (.ref x) (.ref C) (IsExc x C) where
  ty := fun M h _ p => by
    obtain ⟨o, ho, hc⟩ := p
    exact hc ▸ (Looks.ld ho).andThen .now
  it := fun _ _ X _ => by
    obtain ⟨cdD, hcD⟩ := Option.isSome_iff_exists.mp k.cl
    unfold clsIn at hcD
    split at hcD
    · rename_i c' d' cd' sl' ho
      intro A' Q' E' s' kk q
      unfold isType loadHead
      exact wpAny_bind (wpAny_loadPart (kk _ _ (X _ _ ho)) (wpAny_pure q))
    · cases hcD
  ne := fun h tp dd its n sl X htp => by
    obtain ⟨cdD, hcD⟩ := Option.isSome_iff_exists.mp k.cl
    refine Bool.eq_false_iff.mpr fun q => ?_
    have e : C = tp := Value.ref.inj (beq_iff_eq.mp q)
    subst e
    unfold clsIn at hcD
    split at hcD
    · rename_i c' d' cd' sl' ho
      have z := (X _ _ ho).symm.trans htp
      cases z
    · cases hcD
  ca := fun {prog w A E Q s} X p q => by
    obtain ⟨h, g, d, t, os⟩ := s
    obtain ⟨o, ho, hc⟩ := p
    exact exc_class (hc ▸ (Looks.ld ho).andThen .now) (looks_findIn X k.ga) (looks_findIn X k.gr) (looks_mroIn X k.be) (looks_findIn X k.ca) (looks_mroIn X k.ob) q
end L2
namespace L2
open PySem PySem.Spec PyProof.Rows Bg
structure CXo (P : Program) (w : World) (outer : List Env) (H : Hp) (s : Shared) (a C t : Addr) (H' : Hp) (B : Heap) (s' : Shared) : Prop where
  os : s'.os = s.os
  bare : AllBare s'.gens
  un : Un (frs outer) [] H H' s.heap s'.heap
  keep : ∀ b o, s.heap.get? b = some o → H b = none → b ∉ frs outer → B.get? b = some o
  there : ∀ b o, s.heap.get? b = some o → b ∉ frs outer → ∃ o', B.get? b = some o'
  hok : HOk P w H' B
  fly : Heap.FlyingW B outer a (.ref C) (.ref t) s'.heap
def CXe (P : Program) (w : World) : CXT := fun outer H s E e s' => ∃ (a C t : Addr) (H' : Hp) (B : Heap), e = .ref a ∧ CXo P w outer H s a C t H' B s' ∧ E (.ref C) none H'
theorem hok_hide {X : Cx} {pins : List (Addr × Obj)} {σ : St} {H : Hp} {s : Shared} (I : Inv X pins σ H s) : HOk X.prog X.w H (PySem.W.hideAll s.heap (frs X.stack)) := fun b u e =>
  (I.hok b u e).stay (fun c v hc q => PySem.W.hideAll_get _ q fun hm => by
    have hn := I.stkFree c hm
    rcases hc with z | z
    · rw [z, e] at hn; cases hn
    · rw [z] at hn; cases hn) (fun _ q => q) fun _ _ q => q
section
variable {X : Cx} {pins : List (Addr × Obj)} {σ : St} {H : Hp} {s : Shared}
theorem Inv.old (I : Inv X pins σ H s) {b : Addr} {o : Obj} (e : X.s₀.heap.get? b = some o) : b ≠ X.env.locals := Nat.ne_of_lt (Nat.lt_of_lt_of_le (Heap.lt_size e) I.ok.above)
theorem Inv.nostk (I : Inv X pins σ H s) {b : Addr} {o : Obj} (e : X.s₀.heap.get? b = some o) (hb : b ∉ X.fs) : b ∉ frs X.stack := fun z => by
  rcases List.mem_cons.mp (I.stkSub b z) with q | q
  · exact I.old e q
  · exact hb q
theorem Inv.raised (I : Inv X pins σ H s) (hst : X.stack = X.env :: X.outer) (hf : X.env.frame = some X.env.locals) (hex : X.ex = []) {e C : Addr} {args : List Value} {h1 : Heap} (hm : Heap.MadeExcOf s.heap h1 e (.ref C) args)
    {M : Model} {E : Value → Shared → Prop} {Q : Unit → Shared → Prop} (hQ : ∀ h' t B, CXo X.prog X.w X.outer X.H₀ X.s₀ e C t H B { s with heap := h' } → Q () { s with heap := h' }) : wpAny M X.A (leaving X.env (.ref e)) Q E { s with heap := h1 } := by
  have hfr : X.A.frames = some (X.env :: X.outer) := by rw [← hst]; exact I.ok.frames
  have hff : s.heap.FunFrames (PySem.W.hideAll s.heap (frs X.stack)) (X.env :: X.outer) := by
    have z := I.stack
    rw [hst] at z
    exact PySem.W.funFrames_hide z fun env he a ha => by rw [hst]; exact List.mem_filterMap.mpr ⟨env, he, ha⟩
  have nx : ∀ b, b ∉ X.ex := fun b => by rw [hex]; simp
  refine wpAny_leaves_madeW (s := { s with heap := h1 }) (base := PySem.W.hideAll s.heap (frs X.stack)) (h := s.heap) hfr hf (fun b o q => PySem.W.of_hideAll _ q) hff hm fun h' t x1 x2 x3 x4 => hQ h' t (PySem.W.hideAll s.heap (frs X.stack)) ?_
  have inB : ∀ b o, X.s₀.heap.get? b = some o → X.H₀ b = none → b ∉ frs X.outer → (PySem.W.hideAll s.heap (frs X.stack)).get? b = some o := fun b o q n hb => PySem.W.hideAll_get _ (I.base.keep b o q n hb (nx b)) (I.nostk q hb)
  have thB : ∀ b o, X.s₀.heap.get? b = some o → b ∉ frs X.outer → ∃ o', (PySem.W.hideAll s.heap (frs X.stack)).get? b = some o' := fun b o q hb => by
    obtain ⟨o', k⟩ := I.base.there b o q (nx b)
    exact ⟨o', PySem.W.hideAll_get _ k (I.nostk q hb)⟩
  have sl : ∀ b o, s.heap.get? b = some o → b ∈ frs X.outer → ∃ sl, h'.get? b = some { o with slots := sl } := fun b o q hb => by
    obtain ⟨_, o', e', nd⟩ := I.funs.mem hb
    rw [q] at e'
    cases e'
    exact x4 b o (hm.keeps b o q) nd
  refine ⟨I.os, I.bare, ⟨fun b o q n hb _ => x1.1 b o (inB b o q n hb), fun b o q n hb _ => ?_, fun b o q n _ => I.base.free b o q n (nx b), fun b o q _ => ?_, I.base.tups, I.base.frzs, I.base.tbls⟩, inB, thB, hok_hide I, x1⟩
  · obtain ⟨s1, k⟩ := I.base.slot b o q n hb (nx b)
    obtain ⟨s2, k2⟩ := sl b _ k hb
    exact ⟨s2, k2⟩
  · by_cases hb : b ∈ frs X.outer
    · obtain ⟨o', k⟩ := I.base.there b o q (nx b)
      obtain ⟨s2, k2⟩ := sl b _ k hb
      exact ⟨_, k2⟩
    · obtain ⟨o', k⟩ := thB b o q hb
      exact ⟨o', x1.1 b o' k⟩
end
def Raises (X : Cx) (E : XK) : Prop := ∀ (pins : List (Addr × Obj)) (σ : St) (H : Hp) (s : Shared) (e C : Addr) (args : List Value) (h1 : Heap), Inv X pins σ H s → Heap.MadeExcOf s.heap h1 e (.ref C) args → E (.ref C) none H → X.xe (.ref e) { s with heap := h1 }
section
variable {P : Program} {w : World} {K : PySem.W.Frag} {mg : Str → Option Value} {base : Heap} {N : List Str} {qual : Str} {scope : Scope} {f : Addr} {cd : Value} {A : Around} {outer : List Env} {s0 : Shared} {H0 : Hp} {E : XK}
theorem raises_of : Raises (cxOf (CXe P w) P w K mg base N qual scope f cd A outer s0 H0 E) E := fun pins σ H s e C args h1 I hm hE =>
  I.raised rfl rfl rfl hm fun h' t B c => ⟨e, C, t, H, B, rfl, c, hE⟩
end
def tRaise (C : Addr) (E : XK) : TS := fun _ _ H => E (.ref C) none H
theorem exc_obj {K : PySem.W.Frag} {C : Addr} (k : XOk K C) {h : Heap} (X : K.In h) : ∃ bm N nm q bs hdct sn sub ab col dd k0 k1 k2 k3 k5 mN, h.get? C = some (excClassObj nm q C N bs bm hdct sn sub ab col dd k0 k1 k2 k3 k5 "ValueError.__new__") ∧ h.Ns N mN ∧ mN "__init__" = none ∧ OwnTail h [.type "ValueError", .type "Exception", .type "BaseException", .type "object"] bm := by
  have q := k.ex
  unfold PySem.W.excIn at q
  split at q
  · rename_i dd cd sl ho
    split at q
    · rename_i C' bm k0 k1 k2 k3 n k5 hm hs
      simp only [Bool.and_eq_true, beq_iff_eq, Bool.not_eq_true'] at q
      obtain ⟨⟨⟨⟨⟨rfl, rfl⟩, hdel⟩, ht⟩, hok⟩, hni⟩ := q
      obtain ⟨nm, bs, mro, ns, qn, hd, sn, sub, ab, col, del⟩ := cd
      dsimp only at hm hdel hok hni
      subst hm hdel
      have hsl : sl = #[k0, k1, k2, k3, some (.builtin "ValueError.__new__"), k5] := by
        obtain ⟨l⟩ := sl
        simp only at hs
        rw [hs]
      subst hsl
      exact ⟨bm, ns, nm, qn, bs, hd, sn, sub, ab, col, dd, k0, k1, k2, k3, k5, _, X _ _ ho, .of_isNs (PySem.W.isNs_of_in X hok), PySem.W.nsMap_none_of_in X hok hni, PySem.W.tail_of_in X ht⟩
    · cases q
  · cases q
theorem ps_raise {X : Cx} {E : XK} {x z : Str} {C : Addr} {j : Nat} {np p1 cpos pos : Pos} (hx : Raises X E) (k : XOk X.K C) (hm : X.mg x = some (.ref C)) (hg : Gl X x) (hc : X.calm = true) (hd : (x == ("__debug__" : Str)) = false := by decide) :
    PS X (.Raise (some (.Call (.Name x np) [.Constant (.str z) j p1] [] cpos)) none pos) (tRaise C E) := by
  intro pins s σ H D I h
  obtain ⟨bm, N, nm, q, bs, hdct, sn, sub, ab, col, dd, k0, k1, k2, k3, k5, mN, hC, hN, hni, T⟩ := exc_obj k I.kIn
  have FB := PySem.F.excBase_ValueError
  refine wpAny_Raise_call_subT (C := C) (nm := nm) (q := q) (N := N) (bs := bs) (bm := bm) (hdct := hdct) (sn := sn) (sub := sub) (ab := ab) (col := col) (dd := dd) (k0 := k0) (k1 := k1) (k2 := k2) (k3 := k3) (k5 := k5)
    FB (mN := mN) (T.hasType FB.hasBase) (I.ok.hd hc) rfl hni (ld_glob I hg hm ⟨rfl, ?_⟩ hd)
  refine Calls.evalArgs_plain (PyProof.Rows.spliced_more (Calls.Constant_str (PyProof.Rows.spliced_none ?_)))
  have I1 := I.tok (s.toks + 1)
  exact ⟨rfl, show 1 ≤ sizeLine by decide, hC, hN, T, fun h' e hm' => hx pins σ H _ e C _ h' I1 hm' h⟩
end L2
namespace L2
open PySem PySem.Spec PyProof.Rows Bg
def ExcO (a C : Addr) : HO := .ext (IsExc a C)
theorem HOk.add {P : Program} {w : World} {H : Hp} {h : Heap} {a : Addr} {o : HO} (x : HOk P w H h) (hn : H a = none) (new : ObjOk P w (upd H a o) h a o) : HOk P w (upd H a o) h := fun b u e => by
  by_cases hb : b = a
  · subst hb; rw [upd_same] at e; cases e; exact new
  · rw [upd_ne hb] at e
    exact (x b u e).stay (fun c v _ q => q) (fun c q => by rw [upd_ne (ne_of_none q hn)]; exact q) fun c xs q => by rw [upd_ne (ne_of_none q hn)]; exact q
theorem ObjOk.there {P : Program} {w : World} {H : Hp} {h : Heap} {a : Addr} {o : HO} (x : ObjOk P w H h a o) : ∃ u, h.get? a = some u := by
  cases o with
  | lst xs => obtain ⟨_, _, _, _, e⟩ := x; exact ⟨_, e⟩
  | tup xs => obtain ⟨_, _, _, u, e, _⟩ := x; exact ⟨_, e⟩
  | dK kvs => obtain ⟨_, _, _, _, o, _, _, e, _⟩ := x; exact ⟨_, e⟩
  | dT kvs => obtain ⟨_, _, _, _, o, _, _, e, _⟩ := x; exact ⟨_, e⟩
  | set S n => obtain ⟨o, _, _, _, e, _⟩ := x; exact ⟨_, e⟩
  | ins C dx fs => obtain ⟨_, _, _, e, _⟩ := x; exact ⟨_, e⟩
  | own y => exact x
  | xd fs => obtain ⟨_, ⟨_, _, _, e, _⟩, _⟩ := x; exact ⟨_, e⟩
  | rng lo hi => obtain ⟨_, _, _, e⟩ := x; exact ⟨_, e⟩
  | frz ob u => obtain ⟨e, _⟩ := x; exact ⟨_, e⟩
  | tbl ps => exact ⟨_, (show h.get? a = some _ from x)⟩
  | met f y => exact ⟨_, (show h.get? a = some _ from x)⟩
  | ext φ => obtain ⟨_, e, _⟩ := x; exact e
theorem CXo.free {P : Program} {w : World} {outer : List Env} {H : Hp} {s : Shared} {a C t : Addr} {H' : Hp} {B : Heap} {s' : Shared} (c : CXo P w outer H s a C t H' B s') : H' a = none := by
  cases q : H' a with
  | none => rfl
  | some u =>
    obtain ⟨o, e⟩ := (c.hok a u q).there
    have := c.fly.2.1
    rw [e] at this
    cases this
def Cx.tryc (X : Cx) (pl : List (Addr × Obj)) (EE : St → XK) : Cx := { X with pn := X.pn ++ pl, xe := fun e s' => ∃ σ H s, Inv X pl σ H s ∧ CXe X.prog X.w X.stack H s (EE σ) e s' }
def Cx.inx (X : Cx) (a : Addr) : Cx := { X with A := X.A.mark (some (.ref a)), calm := false, xe := fun _ _ => False }
section
variable {X : Cx} {pl pins : List (Addr × Obj)} {σ : St} {H : Hp} {s : Shared} {EE : St → XK} {a : Addr}
theorem Cx.Ok.tryc (ok : X.Ok) : (X.tryc pl EE).Ok :=
  ⟨ok.mod, ok.kind, ok.glob, ok.blt, ok.above, ok.inj, ok.has, ok.cab, ok.hd, ok.frames, ok.stk, ok.exf, ok.bs, ok.bsz, ok.noex, ok.exfs, ok.funs, ok.frf⟩
theorem Cx.Ok.untry (ok : (X.tryc pl EE).Ok) : X.Ok :=
  ⟨ok.mod, ok.kind, ok.glob, ok.blt, ok.above, ok.inj, ok.has, ok.cab, ok.hd, ok.frames, ok.stk, ok.exf, ok.bs, ok.bsz, ok.noex, ok.exfs, ok.funs, ok.frf⟩
theorem Inv.tryc (I : Inv X pl σ H s) : Inv (X.tryc pl EE) [] σ H s := ⟨I.ok.tryc, I.os, I.bare, I.base, I.loc, I.cell, I.free, I.freeC, fun p hp => I.pin p (by
  have hp' : p ∈ (X.pn ++ pl) ++ [] := hp
  simpa using hp'), I.hok, I.len⟩
theorem Inv.untry (I : Inv (X.tryc pl EE) pins σ H s) : Inv X pl σ H s := ⟨I.ok.untry, I.os, I.bare, I.base, I.loc, I.cell, I.free, I.freeC, fun p hp => I.pin p (List.mem_append_left _ hp), I.hok, I.len⟩
theorem Cx.Ok.inx (ok : X.Ok) : (X.inx a).Ok :=
  ⟨ok.mod, ok.kind, ok.glob, ok.blt, ok.above, ok.inj, ok.has, ok.cab, fun z => absurd (show false = true from z) Bool.false_ne_true, ok.frames, ok.stk, ok.exf, ok.bs, ok.bsz, ok.noex, ok.exfs, ok.funs, ok.frf⟩
theorem Inv.inx (I : Inv X pins σ H s) : Inv (X.inx a) pins σ H s := ⟨I.ok.inx, I.os, I.bare, I.base, I.loc, I.cell, I.free, I.freeC, I.pin, I.hok, I.len⟩
theorem Inv.uninx (ok : X.Ok) (I : Inv (X.inx a) pins σ H s) : Inv X pins σ H s := ⟨ok, I.os, I.bare, I.base, I.loc, I.cell, I.free, I.freeC, I.pin, I.hok, I.len⟩
theorem Inv.landed (I : Inv X pl σ H s) {C t : Addr} {H' : Hp} {B h5 : Heap} {s' : Shared} (c : CXo X.prog X.w X.stack H s a C t H' B s') (hfl : Heap.FlyingW B X.stack a (.ref C) (.ref t) h5) (hsm : s'.heap.UpToSlots h5) :
    Inv X pl σ H' { s' with heap := h5 } ∧ Inv X pl σ (upd H' a (ExcO a C)) { s' with heap := h5 } := by
  have hn := c.free
  have sl : ∀ b o, s.heap.get? b = some o → H b = none → b ∈ frs X.stack → ∃ sl, h5.get? b = some { o with slots := sl } := fun b o q n hb => by
    obtain ⟨s1, k1⟩ := c.un.slot b o q n hb (by simp)
    obtain ⟨_, o', e', nd⟩ := c.fly.2.2.1.mem hb
    rw [k1] at e'
    cases e'
    obtain ⟨s2, k2⟩ := hsm b _ k1 nd
    exact ⟨s2, k2⟩
  have th : ∀ b o, s.heap.get? b = some o → ∃ o', h5.get? b = some o' := fun b o q => by
    by_cases hb : b ∈ frs X.stack
    · obtain ⟨s1, k1⟩ := sl b o q (I.stkFree b hb) hb
      exact ⟨_, k1⟩
    · obtain ⟨o', k⟩ := c.there b o q hb
      exact ⟨o', hfl.1 b o' k⟩
  have ne : ∀ b o, s.heap.get? b = some o → H b = none → b ≠ a := fun b o q n z => by
    by_cases hb : b ∈ frs X.stack
    · obtain ⟨_, o', e', nd⟩ := hfl.2.2.1.mem hb
      obtain ⟨_, _, _, oe, vs, T, oT, ts, he, hcl, hd, _⟩ := hfl
      rw [z, he] at e'
      cases e'
      exact nd vs hd
    · have k := c.keep b o q n hb
      rw [z, c.fly.2.1] at k
      cases k
  have ho5 : HOk X.prog X.w H' h5 := c.hok.kept hfl.1
  constructor
  · exact I.call' (s' := { s' with heap := h5 }) (ch := []) c.os ⟨fun b o q n hb _ => hfl.1 b o (c.keep b o q n hb), fun b o q n hb _ => sl b o q n hb, c.un.free, fun b o q _ => th b o q, c.un.tups, c.un.frzs, c.un.tbls⟩ ho5 c.bare (fun b z => absurd z (by simp))
  · refine I.call' (s' := { s' with heap := h5 }) (ch := []) c.os ⟨fun b o q n hb _ => hfl.1 b o (c.keep b o q n hb), fun b o q n hb _ => sl b o q n hb, fun b o q n _ => ?_, fun b o q _ => th b o q, fun b xs q => ?_, fun b o u q => ?_, fun b ps q => ?_⟩ (ho5.add hn ?_) c.bare (fun b z => absurd z (by simp))
    · rw [upd_ne (ne b o q n)]
      exact c.un.free b o q n (by simp)
    · have k := c.un.tups b xs q
      rw [upd_ne (ne_of_none k hn)]
      exact k
    · have k := c.un.frzs b o u q
      rw [upd_ne (ne_of_none k hn)]
      exact k
    · obtain ⟨m, k⟩ := c.un.tbls b ps q
      exact ⟨m, by rw [upd_ne (ne_of_none k hn)]; exact k⟩
    · obtain ⟨ob, ho, hc⟩ := hfl.there
      refine ⟨⟨ob, ho, hc⟩, ⟨ob, ho⟩, fun h1 h2 p k => ?_⟩
      obtain ⟨o, e1, e2⟩ := p
      exact ⟨o, k o e1, e2⟩
theorem Inv.gone (I : Inv X pins σ H s) (hN : X.N.Nodup) {j : Nat} {n : Str} (hj : X.N[j]? = some n) (hn : X.env.scope.names.lookup n = some .local) {M : Model} {A : Around} {E : Value → Shared → Prop} {pos : Pos} {Q : Unit → Shared → Prop}
    (h : ∀ s', Inv X pins (σ.set j none) H s' → Q () s') : wpAny M A (do bindName X.env n .none; unbindBehindTheSuite X.env n pos) Q E s := by
  obtain ⟨m, hm, hl⟩ := id I.loc
  have hcls : (X.env.scope.kind == .class || (X.env.scope.kind == .module && X.env.locals != X.env.globals)) = false := by rw [I.ok.kind]; rfl
  refine wpAny_nameGoes_keeps hn hm hcls fun h' v hn' hs => ?_
  have cne := I.cne
  have hjσ : j < σ.length := by rw [I.len]; exact (List.getElem?_eq_some_iff.mp hj).1
  have old : ∀ b o, X.s₀.heap.get? b = some o → b ≠ X.env.locals := fun b o e => Nat.ne_of_lt (Nat.lt_of_lt_of_le (Heap.lt_size e) I.ok.above)
  refine h _ ⟨I.ok, I.os, I.bare, ⟨fun b o e n hb hx => ?_, fun b o e n hb hx => ?_, I.base.free, fun b o e hx => ?_, I.base.tups, I.base.frzs, I.base.tbls⟩, ⟨_, hn', fun k y v' e1 e2 e3 => ?_⟩, fun y c e => ?_, I.free, I.freeC, fun p hp => ?_, fun b ob e => ?_, by simpa using I.len⟩
  · exact (hs.2 b (old b o e)).trans (I.base.keep b o e n hb hx)
  · obtain ⟨sl, e1⟩ := I.base.slot b o e n hb hx
    exact ⟨sl, (hs.2 b (old b o e)).trans e1⟩
  · obtain ⟨o', e1⟩ := I.base.there b o e hx
    exact ⟨o', (hs.2 b (old b o e)).trans e1⟩
  · by_cases hk : k = j
    · subst hk
      rw [List.getElem?_set_self hjσ] at e2
      cases e2
    · rw [List.getElem?_set_ne (Ne.symm hk)] at e2
      obtain ⟨u', r', q⟩ := hl k y v' e1 e2 e3
      refine ⟨u', r', ?_⟩
      rcases q with ⟨kk, e⟩ | ⟨kk, c, e, z⟩
      · refine .inl ⟨kk, ?_⟩
        have : y ≠ n := fun e => hk (nodup_ix hN e1 (e ▸ hj))
        simp [this, e]
      · exact .inr ⟨kk, c, e, z.sameBut hs (cne y c e)⟩
  · obtain ⟨w', z⟩ := I.cell y c e
    exact ⟨w', z.sameBut hs (cne y c e)⟩
  · obtain ⟨e, n, ne, nf, d⟩ := I.pin p hp
    exact ⟨(hs.2 p.1 ne).trans e, n, ne, nf, d⟩
  · refine (I.hok b ob e).stay (fun c w' hc q => (hs.2 c ?_).trans q) (fun _ q => q) fun _ _ q => q
    rintro rfl
    rcases hc with rfl | hc
    · rw [I.free] at e; cases e
    · rw [I.free] at hc; cases hc
end
end L2
namespace L2
open PySem PySem.Spec PyProof.Rows Bg
theorem exc_matches {M : Model} {A : Around} {E : Value → Shared → Prop} {h : Heap} {g : Array GenState} {d : Drawn} {t : Nat} {os : OsState} {K : PySem.W.Frag} {a C D : Addr} {o : Obj} {b : Bool} {Q : Bool → Shared → Prop} (X : K.In h) (ho : h.get? a = some o) (hc : o.cls = .ref C) (kD : XOk K D)
    (hm : PySem.W.mroIn K C (.ref D) = some b) (hq : Q b ⟨h, g, d, t, os⟩) : wpAny M A (excMatches (.ref a) (.ref D)) Q E ⟨h, g, d, t, os⟩ := by
  have L0 : PySem.W.Looks M h (typeOf (.ref a)) (.ref C) := hc ▸ (PySem.W.Looks.ld ho).andThen .now
  have L1 := PySem.W.looks_mroIn (M := M) X hm
  have L2 := PySem.W.looks_mroIn (M := M) X kD.be
  obtain ⟨bm, N, nm, q, bs, hdct, sn, sub, ab, col, dd, k0, k1, k2, k3, k5, mN, hD, hN, hni, T⟩ := exc_obj kD X
  have f := tc_notTuple
  unfold excMatches
  repeat (any_goals (first | assumption | (with_reducible refine PySem.W.Looks.at (by assumption) ?_) | with_reducible refine wpAny_loadPart_at hD ?_ | wp_step))
  cases b <;> (repeat (any_goals (first | assumption | wp_step)))
def tryD (j : Nat) (D : Ends) : Ends := { nx := fun σ2 H2 => D.nx (σ2.set j none) H2, rt := D.rt, bk := fun σ2 H2 => D.bk (σ2.set j none) H2, ct := fun σ2 H2 => D.ct (σ2.set j none) H2 }
def tryE (K : PySem.W.Frag) (Cy : Addr) (j : Nat) (ts : TS) (D : Ends) : St → XK := fun σ' cls _ H' => ∃ C, cls = .ref C ∧ PySem.W.mroIn K C (.ref Cy) = some true ∧ ∀ a, H' a = none → ts (tryD j D) (σ'.set j (some (.ref a))) (upd H' a (ExcO a C))
def tTry (K : PySem.W.Frag) (Cy : Addr) (j : Nat) (tb : (St → XK) → TS) (ts : TS) : TS := fun D σ H => tb (tryE K Cy j ts D) D σ H
theorem i_try {K : PySem.W.Frag} {Cy : Addr} {j : Nat} {tb : (St → XK) → TS} {ts : TS} {D : Ends} {σ : St} {H : Hp} (h : tb (tryE K Cy j ts D) D σ H) : tTry K Cy j tb ts D σ H := h
theorem i_tryE {K : PySem.W.Frag} {Cy C : Addr} {j : Nat} {ts : TS} {D : Ends} {σ : St} {H : Hp} {d : Option Addr} (hs : PySem.W.mroIn K C (.ref Cy) = some true) (h : ∀ a, H a = none → ts (tryD j D) (σ.set j (some (.ref a))) (upd H a (ExcO a C))) : tryE K Cy j ts D σ (.ref C) d H := ⟨C, rfl, hs, h⟩
theorem ps_try {X : Cx} {body suite : List Stmt} {b₀ : Stmt} {x n : Str} {np hpos pos : Pos} {j : Nat} {Cy : Addr} {tb : (St → XK) → TS} {ts : TS} (hst : X.stack = X.env :: X.outer) (hf : X.env.frame = some X.env.locals) (hN : X.N.Nodup) (hj : X.N[j]? = some n) (hn : X.env.scope.names.lookup n = some .local)
    (ky : XOk X.K Cy) (hm : X.mg x = some (.ref Cy)) (hg : Gl X x) (hb : ∀ pl EE, PSs (X.tryc pl EE) body (tb EE)) (hs : ∀ a, PSs (X.inx a) (b₀ :: suite) ts) (hd : (x == ("__debug__" : Str)) = false := by decide) :
    PS X (.Try body [.ExceptHandler (some (.Name x np)) (some n) (b₀ :: suite) hpos] [] [] pos) (tTry X.K Cy j tb ts) := by
  intro pins s σ H D I h
  refine wpAny_Try_except (wpAny_mono (hb pins _ [] s σ H D I.tryc h) (fun f s1 q => ?_) (fun e s1 hx => ?_))
  · cases f with
    | next =>
      obtain ⟨σ', H', I', q⟩ := q
      exact wpAny_execs_nil ⟨σ', H', I'.untry, q⟩
    | brk => obtain ⟨σ', H', I', q⟩ := q; exact ⟨σ', H', I'.untry, q⟩
    | cont => obtain ⟨σ', H', I', q⟩ := q; exact ⟨σ', H', I'.untry, q⟩
    | ret u => obtain ⟨v, σ', H', I', r, q⟩ := q; exact ⟨v, σ', H', I'.untry, r, q⟩
  · obtain ⟨σ1, H1, s0, I0, a, C, t, H', B, rfl, c, C', hC', hsub, hh⟩ := hx
    have hCC : C' = C := (Value.ref.inj hC').symm
    subst hCC
    have hfr : X.A.frames = some (X.env :: X.outer) := by rw [← hst]; exact I0.ok.frames
    have fl := c.fly
    rw [hst] at fl
    refine wpAny_looks_onW hfr hf fl fun h4 held4 sm4 => ?_
    refine wpAny_landsW (s := { s1 with heap := h4 }) held4 fun h5 fl5 sm5 => ?_
    have fl5' : Heap.FlyingW B X.stack a (.ref C') (.ref t) h5 := by rw [hst]; exact fl5
    obtain ⟨I5, _⟩ := I0.landed c fl5' (sm4.trans sm5)
    have I5x : Inv (X.inx a) pins σ1 H' { s1 with heap := h5 } := I5.inx
    refine wpAny_handleBy_cons (codeAny_handlers_test (ld_glob (X := X.inx a) I5x hg hm ?_ hd)) (by intro q; cases q)
    obtain ⟨ob, ho, hc⟩ := fl5.there
    refine exc_matches (g := s1.gens) (d := s1.drawn) (t := s1.toks) (os := s1.os) I5.kIn ho hc ky hsub ?_
    refine codeAny_handlers_suite_as (lands_againW (s := { s1 with heap := h5 }) fl5 fun h6 fl6 sm6 => ?_)
    have fl6' : Heap.FlyingW B X.stack a (.ref C') (.ref t) h6 := by rw [hst]; exact fl6
    obtain ⟨_, I6⟩ := I0.landed c fl6' ((sm4.trans sm5).trans sm6)
    refine store_ok I6 hN hj (.inl hn) (v := .ref a) (u := .ref a) rfl (fun s7 I7 => ?_) (.inr hn)
    refine wpAny_mono (hs a pins s7 _ _ _ I7.inx (hh a c.free)) (fun f s8 q => ?_) fun _ _ z => False.elim z
    cases f with
    | next =>
      obtain ⟨σ', H8, I8, q⟩ := q
      exact (I8.uninx I7.ok).gone hN hj hn fun s9 I9 => ⟨_, H8, I9, q⟩
    | brk =>
      obtain ⟨σ', H8, I8, q⟩ := q
      exact (I8.uninx I7.ok).gone hN hj hn fun s9 I9 => ⟨_, H8, I9, q⟩
    | cont =>
      obtain ⟨σ', H8, I8, q⟩ := q
      exact (I8.uninx I7.ok).gone hN hj hn fun s9 I9 => ⟨_, H8, I9, q⟩
    | ret u =>
      obtain ⟨v, σ', H8, I8, r, q⟩ := q
      exact (I8.uninx I7.ok).gone hN hj hn fun s9 I9 => ⟨v, _, H8, I9, r, q⟩
def OwnX (P : Program) (w : World) (K : PySem.W.Frag) (mg : Str → Option Value) (base : Heap) (k : Nat) (x : Str) (ps : List Str) (dvs : List V) (sp : Sp) : Prop :=
  ∃ (f : Addr) (fd : FuncData) (ds : List Value), FnOk P w K mg base (CXe P w) k f fd ps sp ∧ mg x = some (.ref f) ∧ PySem.W.keepIn K (.ref f) = true ∧ Binds K fd ps ds ∧ Vals dvs ds
def tCallX (sp : Sp) (dvs : List V) (EE : St → XK) (t : TA) : TE := fun σ H Q => t σ H fun vs H1 => sp (vs ++ dvs) H1 Q (EE σ)
theorem i_callX {sp : Sp} {dvs : List V} {EE : St → XK} {t : TA} {σ : St} {H : Hp} {Q : VK} (h : t σ H fun vs H1 => sp (vs ++ dvs) H1 Q (EE σ)) : tCallX sp dvs EE t σ H Q := h
section
variable {X : Cx} {k j : Nat} {x : Str} {ps : List Str} {dvs : List V} {sp : Sp} {p pos : Pos} {e : Expr} {es : List Expr} {t : TA} {E : XK}
theorem pe_ownT {pl : List (Addr × Obj)} {EE : St → XK} (O : OwnX X.prog X.w X.K X.mg X.base k x ps dvs sp) (hr : Room j X.A) (hg : Gl (X.tryc pl EE) x)
    (ha : PA (X.tryc pl EE) (e :: es) t) (hk : k ≤ j := by decide) (hdb : (x == ("__debug__" : Str)) = false := by decide) (he : starEach (e :: es) X.env = (false, eval e X.env) :: starEach es X.env := by rfl) (hpl : (backTo pos (starEach es X.env)).any (·.1) = false := by rfl) :
    PE (X.tryc pl EE) (.Call (.Name x p) (e :: es) [] pos) (tCallX sp dvs EE t) := by
  obtain ⟨f, fd, ds, F, hm, kp, hb, hd⟩ := O
  intro pins s σ H Q I h
  refine wpAny_Call_Name_kw (ld_glob I hg hm ?_ hdb)
  refine PySem.W.callWith_K (h₀ := X.base) I.ok.mod.kin kp (thn (ha pos pins s σ H _ I h) fun us s1 ⟨vs, H1, I1, r, q⟩ => ⟨I1.kIn, ?_⟩) he hpl
  have r2 : Vals (vs ++ dvs) (us ++ ds) := r.append hd
  have hl : (us ++ ds).length = ps.length := by rw [← r2.length]; exact F.len _ _ _ _ q
  refine wpAny_call (codeAny_mono (F.run X.A X.stack s1 H1 ⟨us, []⟩ (us ++ ds) (vs ++ dvs) Q (EE σ) (hr.mono hk) I1.env0 (hb s1 us I1.kIn hl) r2 q) fun r' s' hq => ?_)
  cases r' with
  | error e' => exact ⟨σ, H1, s1, I1.untry, hq⟩
  | ok fl =>
    cases fl with
    | ret u => exact I1.after hq
    | next => exact False.elim hq
    | brk => exact False.elim hq
    | cont => exact False.elim hq
end
def rIsX (K : PySem.W.Frag) : List V → Hp → VK → Prop := fun xs H Q => ∃ (a C : Addr) (c : V) (c' : Value) (b : Bool), xs = [.ref a, c] ∧ RelV c c' ∧ H a = some (ExcO a C) ∧ XOk K C ∧ PySem.W.kitOne K (.ref C) c' = some b ∧ Q (.bl b) H
theorem call_isinstX {X : Cx} : CallR X (.builtin "isinstance") (rIsX X.K) := by
  intro pins s σ H xs us Q I r h
  obtain ⟨a, C, c, c', b, rfl, rc, ea, k, e, q⟩ := h
  obtain ⟨u, v, rfl, ru, rv⟩ := Vals.two r
  cases ru
  have hv : v = c' := by
    cases c with
    | non => exact (show v = _ from rv).trans (show c' = _ from rc).symm
    | bl z => exact (show v = _ from rv).trans (show c' = _ from rc).symm
    | ref z => exact (show v = _ from rv).trans (show c' = _ from rc).symm
    | ty z => exact (show v = _ from rv).trans (show c' = _ from rc).symm
    | int z => obtain ⟨tk, rfl⟩ := rc; unfold PySem.W.kitOne PySem.W.kitCls at e; rw [if_neg (by intro z; cases beq_iff_eq.mp z)] at e; cases e
    | str z => obtain ⟨tk, rfl⟩ := rc; unfold PySem.W.kitOne PySem.W.kitCls at e; rw [if_neg (by intro z; cases beq_iff_eq.mp z)] at e; cases e
    | byt z => obtain ⟨tk, rfl⟩ := rc; unfold PySem.W.kitOne PySem.W.kitCls at e; rw [if_neg (by intro z; cases beq_iff_eq.mp z)] at e; cases e
    | flt z => obtain ⟨tk, rfl⟩ := rc; unfold PySem.W.kitOne PySem.W.kitCls at e; rw [if_neg (by intro z; cases beq_iff_eq.mp z)] at e; cases e
  subst hv
  obtain ⟨p, _, _⟩ := (show ObjOk X.prog X.w H s.heap a (ExcO a C) from I.hok a _ ea)
  exact PySem.W.kia_one (kitx_exc k) I.kIn p e (fun z => nomatch z) fun tk => ⟨.bl b, H, I.tok tk, rfl, q⟩
theorem i_isX {K : PySem.W.Frag} {H : Hp} {Q : VK} {a C : Addr} {c : V} {c' : Value} {b : Bool} (ea : H a = some (ExcO a C)) (k : XOk K C) (rc : RelV c c') (e : PySem.W.kitOne K (.ref C) c' = some b) (q : Q (.bl b) H) : rIsX K [.ref a, c] H Q := ⟨a, C, c, c', b, rfl, rc, ea, k, e, q⟩
section
variable {P : Program} {w : World} {K : PySem.W.Frag} {mg : Str → Option Value} {base : Heap}
theorem Fun.okX {x qual : Str} {st : Stmt} {f : Addr} {fd : FuncData} {N ps : List Str} {k : Nat} {sp : Sp} (F : Fun K x qual st f fd) (S : FnScope N ps (defScope st)) (len : ∀ vs H Q E, sp vs H Q E → vs.length = ps.length)
    (hbody : ∀ (cdv : Value) (A : Around) (outer : List Env) (s : Shared) (H : Hp) (vs : List V) (Q : VK) (E : XK), Room k (A.deeper (envOfC qual (defScope st) s.heap.objs.size f cdv)) → sp vs H Q E →
      ∃ t, PSs (cxOf (CXe P w) P w K mg base N qual (defScope st) f cdv A outer s H E) (defBody st) t ∧ t { nx := fun _ H' => Q .non H', rt := Q } (start N vs) H) : FnOk P w K mg base (CXe P w) (k + 1) f fd ps sp := by
  obtain ⟨oc, od, kV, doc, pm, an, cdv, ct, osl, rfl, lk, hcd⟩ := F.ex
  exact fn_of lk hcd S len fun A outer s H vs Q E hr hsp => hbody cdv A outer s H vs Q E hr hsp
theorem FunD.okX {x qual : Str} {st : Stmt} {f : Addr} {fd : FuncData} {its : List Value} {N ps : List Str} {k : Nat} {sp : Sp} (F : FunD K x qual st f fd its) (S : FnScope N ps (defScope st)) (len : ∀ vs H Q E, sp vs H Q E → vs.length = ps.length)
    (hbody : ∀ (cdv : Value) (A : Around) (outer : List Env) (s : Shared) (H : Hp) (vs : List V) (Q : VK) (E : XK), Room k (A.deeper (envOfC qual (defScope st) s.heap.objs.size f cdv)) → sp vs H Q E →
      ∃ t, PSs (cxOf (CXe P w) P w K mg base N qual (defScope st) f cdv A outer s H E) (defBody st) t ∧ t { nx := fun _ H' => Q .non H', rt := Q } (start N vs) H) : FnOk P w K mg base (CXe P w) (k + 1) f fd ps sp := by
  obtain ⟨oc, od, T, kV, doc, pm, an, cdv, ct, osl, to, n, rfl, lk, hcd, _⟩ := F.ex
  exact fn_of lk hcd S len fun A outer s H vs Q E hr hsp => hbody cdv A outer s H vs Q E hr hsp
theorem Top.ownX {k : Nat} {x : Str} {st : Stmt} {ps : List Str} {sp : Sp} (T : Top K mg x st)
    (hb : ∀ (kV doc pm : Value) (an : Option Addr) (cdv ct : Value) (us : List Value), us.length = ps.length → bindArgs (PySem.W.fnOf x x (defArgs st) (defBody st) (defScope st) .none kV doc pm an cdv ct) ⟨us, []⟩ = pure (ps.zip us))
    (h : ∀ f fd, Fun K x x st f fd → FnOk P w K mg base (CXe P w) k f fd ps sp) : OwnX P w K mg base k x ps [] sp := by
  obtain ⟨f, fd, F, m⟩ := T
  exact ⟨f, fd, [], h f fd F, m, F.kp, F.binds hb, .nil⟩
theorem TopD.ownX {k : Nat} {x : Str} {st : Stmt} {ps : List Str} {its ds : List Value} {dvs : List V} {sp : Sp} (T : TopD K mg x st its)
    (hb : ∀ (T : Addr) (kV doc pm : Value) (an : Option Addr) (cdv ct : Value) (us : List Value), (us ++ ds).length = ps.length → ∃ k : Option (Array Value) → Sem (List (Str × Value)),
      bindArgs (PySem.W.fnOf x x (defArgs st) (defBody st) (defScope st) (.ref T) kV doc pm an cdv ct) ⟨us, []⟩ = seqItems? (.ref T) >>= k ∧ k (some its.toArray) = pure (ps.zip (us ++ ds)))
    (hd : Vals dvs ds) (h : ∀ f fd, FunD K x x st f fd its → FnOk P w K mg base (CXe P w) k f fd ps sp) : OwnX P w K mg base k x ps dvs sp := by
  obtain ⟨f, fd, F, m⟩ := T
  exact ⟨f, fd, ds, h f fd F, m, F.kp, F.binds hb, hd⟩
end
end L2
namespace L2
open PySem PySem.Spec PyProof.Rows Bg
section
variable {X : Cx} {pins : List (Addr × Obj)} {σ : St} {H : Hp} {s : Shared} {pos : Pos}
def tDict0 : TE := fun _ H Q => ∀ p H', H p = none → Same H H' → H' p = some (.dK []) → Q (.ref p) H'
def tDict1 (i j : Int) : TE := fun _ H Q => ∀ p H', H p = none → Same H H' → H' p = some (.dK [(Sum.inl i, .int j)]) → Q (.ref p) H'
end
end L2
namespace L2
open PySem PySem.Spec PyProof.Rows Bg
section
variable {X : Cx}
structure WE (X : Cx) (e : Expr) (t : TE) : Prop where
  w : PE X e t
structure WA (X : Cx) (es : List Expr) (t : TA) : Prop where
  w : PA X es t
structure WS (X : Cx) (st : Stmt) (t : TS) : Prop where
  w : PS X st t
structure WSs (X : Cx) (st : List Stmt) (t : TS) : Prop where
  w : PSs X st t
def isStar : Expr → Bool
  | .Starred _ _ => true
  | _ => false
theorem star_no {e : Expr} {es : List Expr} {env : Env} (h : isStar e = false) : starEach (e :: es) env = (false, eval e env) :: starEach es env := by
  cases e <;> first | rfl | exact absurd (show true = false from h) (by decide)
theorem we_of {e : Expr} {t : TE} (h : PE X e t) : WE X e t := ⟨h⟩
theorem wa_nil : WA X [] tNil := ⟨pa_nil⟩
theorem wa_cons {e : Expr} {es : List Expr} {te : TE} {t : TA} (ha : WE X e te) (hr : WA X es t) (h : isStar e = false := by rfl) : WA X (e :: es) (tCons te t) := ⟨pa_cons ha.w hr.w (star_no h)⟩
theorem we_tup {es : List Expr} {t : TA} {x1 : Nat} {pos : Pos} (h : WA X es t) : WE X (.Tuple es x1 pos) (tTup t) := ⟨pe_tup h.w⟩
theorem we_lst {es : List Expr} {t : TA} {pos : Pos} (h : WA X es t) : WE X (.List es pos) (tLst t) := ⟨pe_lst h.w⟩
end
end L2
namespace L2
open PySem PySem.Spec PyProof.Rows Bg
end L2
namespace L2
open PySem PySem.Spec PyProof.Rows Bg
structure WG (X : Cx) (e : Expr) (t : TG) : Prop where
  w : PG X e t
end L2
namespace L2
open PySem PySem.Spec PyProof.Rows Bg
end L2
namespace L2
open PySem PySem.Spec PyProof.Rows Bg
end L2
namespace L2
open PySem PySem.Spec PyProof.Rows Bg
section
variable {X : Cx}
def PE1 (X : Cx) (e : Expr) (t : TE) : Prop :=
  ∀ (pins : List (Addr × Obj)) (s : Shared) (σ : St) (H : Hp) (Q : VK), 0 < s.toks → Inv X pins σ H s → t σ H Q → wpAny (model X.prog X.w) X.A (eval e X.env) (EP X pins σ Q) X.xe s
def PSs1 (X : Cx) (st : List Stmt) (t : TS) : Prop :=
  ∀ (pins : List (Addr × Obj)) (s : Shared) (σ : St) (H : Hp) (D : Ends), 0 < s.toks → Inv X pins σ H s → t D σ H → wpAny (model X.prog X.w) X.A (execs st X.env) (SP X pins D) X.xe s
def tIfEq (n : Int) (ta : TE) (t u : TS) : TS := fun D σ H => ta σ H fun x H1 => ∃ i : Int, x = .int i ∧ if decide (i = n) = true then t D σ H1 else u D σ H1
def tRepl (y z : Str) (i : Nat) : TE := fun σ H Q => ∃ x, σ[i]? = some (some (.str x)) ∧ x.length ≤ 1000 ∧ Q (.str (Txt.replace x y z)) H
end
theorem str_neg {n : Int} (h : n < 0) : (toString n : Str) = sOf (txl n) := by
  obtain ⟨m, hm⟩ : ∃ m : Nat, 0 - n = (m : Int) := ⟨n.natAbs, by omega⟩
  have em : n.natAbs = m := by omega
  have e : Str.ofString (toString (m : Int)) = ⟨(digs m).toArray⟩ := text_ofNat m
  show Str.ofString (toString n) = _
  rw [toString_neg h, hm, txl_neg h, em]
  rw [Str.ofString_eq_toList] at e
  have e' : (toString (m : Int)).toList.map Char.toNat = digs m := by
    have := congrArg (fun (z : Str) => z.cps.toList) e
    simpa using this
  rw [Str.ofString_eq_toList, String.toList_append, List.map_append, e']
  rfl
theorem str_int (n : Int) : (toString n : Str) = sOf (txl n) := by
  by_cases h : n < 0
  · exact str_neg h
  · rw [str_num (by omega), txl_nn (by omega)]
    rfl
end L2
namespace L2
open PySem PySem.Spec PyProof.Rows Bg
theorem rc_lst {X : Cx} {n : Nat} {H : Hp} {a b : Addr} {xs ys : List V} {bs : List Bool} {pins : List (Addr × Obj)} {σ : St} {s : Shared} {A : Around} (ha : SqL X.K H a xs) (hb : SqL X.K H b ys) (he : EqVs X n H xs ys bs) (I : Inv X pins σ H s) (hu : A.units + 4 * (n + 1) < cLine) :
    ∃ (is js : Array Value), s.heap.IsList a is ∧ s.heap.IsList b js ∧ is.size = js.size ∧ (∀ j (h1 : j < is.size) (h2 : j < js.size), SeqAt.EqAt A.in1 s is[j] js[j] (bs.getD j false)) ∧ ((List.range is.size).all (fun j => bs.getD j false)) = bs.all id := by
  obtain ⟨is, r1, p1, _⟩ := I.list ha
  obtain ⟨js, r2, p2, _⟩ := I.list hb
  obtain ⟨l1, l2⟩ := he.len
  have q1 := r1.length
  have q2 := r2.length
  refine ⟨is.toArray, js.toArray, p1.isList, p2.isList, by rw [List.size_toArray, List.size_toArray]; omega, fun j h1 h2 => ?_, ?_⟩
  · have hj1 : j < xs.length := by rw [q1]; simpa using h1
    have hj2 : j < ys.length := by rw [q2]; simpa using h2
    obtain ⟨v, ev, rv⟩ := r1.get (List.getElem?_eq_getElem hj1)
    obtain ⟨u, eu, ru⟩ := r2.get (List.getElem?_eq_getElem hj2)
    have e1 : is.toArray[j] = v := by
      have : is[j]? = some v := ev
      rw [List.getElem?_eq_getElem (by simpa using h1)] at this
      simpa using Option.some.inj this
    have e2 : js.toArray[j] = u := by
      have : js[j]? = some u := eu
      rw [List.getElem?_eq_getElem (by simpa using h2)] at this
      simpa using Option.some.inj this
    rw [e1, e2]
    exact he.at (List.getElem?_eq_getElem hj1) (List.getElem?_eq_getElem hj2) pins σ s v u A.in1 I rv ru (by show A.units + 1 + 4 * n < cLine; omega)
  · have e1 : is.toArray.size = bs.length := by rw [List.size_toArray]; omega
    rw [e1, all_getD]
def rEqL (X : Cx) : R2 := fun x y H Q => ∃ a b xs ys bs n, x = .ref a ∧ y = .ref b ∧ n ≤ 9 ∧ SqL X.K H a xs ∧ SqL X.K H b ys ∧ EqVs X n H xs ys bs ∧ Q (.bl (bs.all id)) H
structure H5 (d N : Int) (H : Hp) (p : Addr) (C : List Cell) : Prop where
  l : H p = some (.lst (C.map Cell.v))
  at' : ∀ c ∈ C, c.At H
  ok : ∀ c ∈ C, B5 d N c.b
theorem H5.same {d N : Int} {H H' : Hp} {p : Addr} {C : List Cell} (h : H5 d N H p C) (s : Same H H') : H5 d N H' p C := ⟨s _ _ h.l, fun c hc => (h.at' c hc).same s, h.ok⟩
end L2
open PySem PySem.Spec PyProof.Rows L2 Bg
local macro_rules | `(tactic| walk_at "bd") => `(tactic| first | assumption | ((with_reducible show Bd _ (-_)); exact Bd.neg (by walk_at "bd")) | ((with_reducible show Bd _ (_ * _)); exact Bd.mul (by walk_at "bd") (by walk_at "bd")) | ((with_reducible show Bd _ (_ + _)); exact bd_addx (by walk_at "bd") (by walk_at "bd")) | ((with_reducible show Bd _ (_ - _)); exact bd_subx (by walk_at "bd") (by walk_at "bd")) | ((with_reducible show Bd _ (_ ^ _)); exact bd_powx (by walk_at "bd")) | ((with_reducible show Bd _ (_ / _)); exact bd_ediv (by walk_at "bd")) | ((with_reducible show Bd _ (_ % _)); exact bd_emod (by walk_at "bd") (by decide +kernel)) | ((with_reducible show Bd _ (Int.fdiv _ _)); exact Bd.fdiv (by walk_at "bd") _) | exact Bd.abs (by walk_at "bd") | exact bd_self _)
local macro_rules | `(tactic| walk_at "cd") => `(tactic| first | assumption | decide | omega | exact ⟨by decide, by decide +kernel⟩ | exact Bd.ok (by walk_at "bd") (by walk_at "bd") (by decide +kernel) | exact cpw_of (by walk_at "bd") (by decide) (by decide +kernel) | decide +kernel)
local macro_rules | `(tactic| walk_at "rd") => `(tactic| first | with_reducible refine i_seq ?_ | with_reducible refine i_asg ?_ | ((with_reducible refine i_gname ?_); try dsimp only [List.set_cons_zero, List.set_cons_succ]) | with_reducible refine i_ret ?_ | with_reducible refine i_drop ?_ | with_reducible refine i_ifS ?_ | with_reducible refine i_next ?_ | ((with_reducible show tVar _ _ _ _); refine ⟨_, rfl, ?_⟩) | with_reducible refine i_c ?_ | with_reducible refine i_op ?_ | with_reducible refine i_un ?_ | with_reducible refine i_I0 ?_ | ((with_reducible show rI _ _ (V.int _) (V.int _) _ _); first | refine i_I ?_ (by walk_at "cd") | refine i_I ?_ ?c) | with_reducible refine i_U ?_ | with_reducible refine i_eqI ?_ | with_reducible refine i_neI ?_ | with_reducible refine i_eqB ?_ | with_reducible refine i_neB ?_ | with_reducible refine i_test ?_ | with_reducible refine i_tB ?_ | with_reducible refine i_bl ?_ | with_reducible refine i_and ?_ | with_reducible refine i_or ?_ | with_reducible refine i_not ?_ | with_reducible refine i_andV ?_ | with_reducible refine i_orV ?_ | with_reducible refine i_notV ?_ | with_reducible refine i_ifE ?_ | with_reducible refine i_nil ?_ | with_reducible refine i_cons ?_ | with_reducible refine i_call ?_ | with_reducible refine i_callK ?_ | with_reducible refine i_cb ?_ | with_reducible refine i_tup ?_ | with_reducible refine i_lst ?_ | with_reducible refine if_t ?_ | with_reducible refine if_f ?_ | with_reducible refine if_nt ?_ | with_reducible refine if_nf ?_ | with_reducible refine i_par ?_ | with_reducible refine i_par2 ?_ | with_reducible refine i_abs ?_ | with_reducible refine i_intB ?_ | with_reducible refine i_is_int ?_ | with_reducible refine i_is_intb ?_ | with_reducible refine i_is_bool ?_ | with_reducible refine i_is_tup (by assumption) ?_ | with_reducible refine i_lenT (by assumption) ?_ | with_reducible refine i_lenL (by assumption) ?_ | ((with_reducible show rIxT _ (V.ref _) (V.int _) _ _); first | refine i_ixT (by assumption) (by rfl) ?_ | refine i_ixS (by assumption) (by rfl) ?_) | ((with_reducible show rIxL _ (V.ref _) (V.int _) _ _); refine i_ixL (by assumption) (by rfl) ?_) | with_reducible refine i_bm ?_ | with_reducible refine i_tyL (by assumption) ?_ | with_reducible refine i_sl ?_ | with_reducible refine i_noPart ?_ | with_reducible refine i_part ?_ | with_reducible refine i_int ?_ | with_reducible refine i_isN ?_ | with_reducible refine i_notN ?_ | ((with_reducible show gTup _ _ _ (V.ref _) _ _ _); refine i_gtup (by assumption) (by rfl) ?_) | with_reducible refine i_gcons ?_ | with_reducible refine i_gnil ?_ | with_reducible refine i_all ?_)
local macro_rules | `(tactic| walk_at "mm") => `(tactic| repeat first | exact List.mem_cons_self | refine List.mem_cons_of_mem _ ?_)
local macro_rules | `(tactic| walk_at "rd") => `(tactic| first | with_reducible refine i_min ?_ | with_reducible refine i_eqS ?_ | with_reducible refine i_neS ?_ | with_reducible refine i_is_str ?_ | with_reducible refine i_bm0 ?_ | with_reducible refine i_fF ?_ | with_reducible refine i_fVal0 ?_ | with_reducible refine i_fInt0 ?_ | with_reducible refine i_tyS ?_ | with_reducible refine i_tyI ?_ | with_reducible refine i_bits ?_)
local macro_rules | `(tactic| walk_at "b8") => `(tactic| first | assumption | decide +kernel | exact Bd.mono (by walk_at "bd") (by decide +kernel))
namespace L2
open PySem PySem.Spec PyProof.Rows Bg
inductive Tr where
  | fl (x : V)
  | tu (l : List Tr)
  | li (l : List Tr)
mutual
inductive Rep (Z H : Hp) : V → Tr → Prop
  | fl {x : V} (h : flatV x = true) : Rep Z H x (.fl x)
  | tu {a : Addr} {xs : List V} {l : List Tr} (e : H a = some (.tup xs)) (r : Reps Z H xs l) : Rep Z H (.ref a) (.tu l)
  | li {a : Addr} {xs : List V} {l : List Tr} (z : Z a = none) (e : H a = some (.lst xs)) (r : Reps Z H xs l) : Rep Z H (.ref a) (.li l)
inductive Reps (Z H : Hp) : List V → List Tr → Prop
  | nil : Reps Z H [] []
  | cons {x : V} {t : Tr} {xs : List V} {l : List Tr} : Rep Z H x t → Reps Z H xs l → Reps Z H (x :: xs) (t :: l)
end
mutual
theorem Rep.same {Z H H' : Hp} (s : Same H H') : {v : V} → {t : Tr} → Rep Z H v t → Rep Z H' v t
  | _, _, .fl h => .fl h
  | _, _, .tu e r => .tu (s _ _ e) (r.same s)
  | _, _, .li z e r => .li z (s _ _ e) (r.same s)
theorem Reps.same {Z H H' : Hp} (s : Same H H') : {xs : List V} → {l : List Tr} → Reps Z H xs l → Reps Z H' xs l
  | _, _, .nil => .nil
  | _, _, .cons r q => .cons (r.same s) (q.same s)
end
mutual
theorem Rep.less {Z Z' H : Hp} (s : ∀ a, Z a = none → Z' a = none) : {v : V} → {t : Tr} → Rep Z H v t → Rep Z' H v t
  | _, _, .fl h => .fl h
  | _, _, .tu e r => .tu e (r.less s)
  | _, _, .li z e r => .li (s _ z) e (r.less s)
theorem Reps.less {Z Z' H : Hp} (s : ∀ a, Z a = none → Z' a = none) : {xs : List V} → {l : List Tr} → Reps Z H xs l → Reps Z' H xs l
  | _, _, .nil => .nil
  | _, _, .cons r q => .cons (r.less s) (q.less s)
end
theorem none_of {Z Z' : Hp} (s : Same Z' Z) : ∀ a, Z a = none → Z' a = none := fun a h => by
  cases e : Z' a with
  | none => rfl
  | some o => rw [s _ _ e] at h; cases h
mutual
theorem Rep.sameX {Z H H' : Hp} {D : Addr} {ys : List V} {o : HO} (s : SameX D H H') (e0 : H D = some (.lst ys)) (z0 : Z D = some o) : {v : V} → {t : Tr} → Rep Z H v t → Rep Z H' v t
  | _, _, .fl h => .fl h
  | _, _, .tu e r => .tu (s.tup e e0) (r.sameX s e0 z0)
  | _, _, .li z e r => .li z (s _ _ e (fun q => by rw [q, z0] at z; cases z)) (r.sameX s e0 z0)
theorem Reps.sameX {Z H H' : Hp} {D : Addr} {ys : List V} {o : HO} (s : SameX D H H') (e0 : H D = some (.lst ys)) (z0 : Z D = some o) : {xs : List V} → {l : List Tr} → Reps Z H xs l → Reps Z H' xs l
  | _, _, .nil => .nil
  | _, _, .cons r q => .cons (r.sameX s e0 z0) (q.sameX s e0 z0)
end
mutual
def dp : Tr → Nat
  | .fl _ => 0
  | .tu l => dps l + 1
  | .li l => dps l + 1
def dps : List Tr → Nat
  | [] => 0
  | t :: l => max (dp t) (dps l)
end
theorem Reps.len {Z H : Hp} : {xs : List V} → {l : List Tr} → Reps Z H xs l → xs.length = l.length
  | _, _, .nil => rfl
  | _, _, .cons _ q => by rw [List.length_cons, List.length_cons, q.len]
theorem Reps.get {Z H : Hp} : {xs : List V} → {l : List Tr} → Reps Z H xs l → ∀ {i : Nat} {x : V}, xs[i]? = some x → ∃ t, l[i]? = some t ∧ Rep Z H x t
  | _, _, .nil, i, x, h => by simp at h
  | _, _, .cons r _, 0, x, h => by
    rw [List.getElem?_cons_zero] at h
    cases h
    exact ⟨_, rfl, r⟩
  | _, _, .cons _ q, i + 1, x, h => q.get (i := i) (by simpa using h)
theorem Reps.snoc {Z H : Hp} : {xs : List V} → {l : List Tr} → Reps Z H xs l → ∀ {x : V} {t : Tr}, Rep Z H x t → Reps Z H (xs ++ [x]) (l ++ [t])
  | _, _, .nil, _, _, r => .cons r .nil
  | _, _, .cons a q, _, _, r => .cons a (q.snoc r)
theorem Reps.set {Z H : Hp} : {xs : List V} → {l : List Tr} → Reps Z H xs l → ∀ {x : V} {t : Tr} (i : Nat), Rep Z H x t → Reps Z H (xs.set i x) (l.set i t)
  | _, _, .nil, _, _, _, _ => .nil
  | _, _, .cons a q, _, _, 0, r => .cons r q
  | _, _, .cons a q, _, _, i + 1, r => .cons a (q.set i r)
theorem EqV.flat {X : Cx} {n : Nat} {H : Hp} {x : V} (h : flatV x = true) : EqV X n H x x true := fun _ _ s v u A _ rv ru _ => by
  have e := eqAt_V (A := A) (s := s) rv ru h h
  have q : eqV x x = true := by
    cases x <;> first | rfl | exact beq_self_eq_true _ | exact absurd (show false = true from h) Bool.false_ne_true
  rw [q] at e
  exact e
theorem EqV.lst {X : Cx} {n : Nat} {H : Hp} {a b : Addr} {xs ys : List V} {bs : List Bool} (ha : SqL X.K H a xs) (hb : SqL X.K H b ys) (he : EqVs X n H xs ys bs) (hs : bs.all id = true) : EqV X (n + 1) H (.ref a) (.ref b) true := fun pins σ s v u A I rv ru hu => by
  cases rv
  cases ru
  by_cases hab : a = b
  · subst hab
    exact SeqAt.EqAt.same _
  · obtain ⟨is, js, p1, p2, hz, hj, e⟩ := rc_lst ha hb he I hu
    have := SeqAt.RcAt.lists (A := A) (e := fun j => bs.getD j false) p1 p2 hz (by omega) hj
    rw [e, hs] at this
    exact SeqAt.EqAt.of_refs hab this
theorem all_t {α : Type} (l : List α) : (l.map fun _ => true).all id = true := by simp
mutual
theorem eqv_tr {X : Cx} {Z Z' H : Hp} : (t : Tr) → (n : Nat) → dp t ≤ n → ∀ {v u : V}, Rep Z H v t → Rep Z' H u t → EqV X n H v u true
  | .fl x, n, _, _, _, .fl h, .fl _ => EqV.flat h
  | .tu l, n, hn, _, _, .tu e r, .tu e' r' => by
    obtain ⟨m, rfl⟩ : ∃ m, n = m + 1 := ⟨n - 1, by have : dps l + 1 ≤ n := by simpa [dp] using hn
                                                   omega⟩
    have := EqV.tup (X := X) (SqT.of e) (SqT.of e') (eqvs_tr l m (by have : dps l + 1 ≤ m + 1 := by simpa [dp] using hn
                                                                     omega) r r') (fun _ => all_t l)
    rw [all_t] at this
    exact this
  | .li l, n, hn, _, _, .li _ e r, .li _ e' r' => by
    obtain ⟨m, rfl⟩ : ∃ m, n = m + 1 := ⟨n - 1, by have : dps l + 1 ≤ n := by simpa [dp] using hn
                                                   omega⟩
    exact EqV.lst (X := X) (SqL.of e) (SqL.of e') (eqvs_tr l m (by have : dps l + 1 ≤ m + 1 := by simpa [dp] using hn
                                                                   omega) r r') (all_t l)
theorem eqvs_tr {X : Cx} {Z Z' H : Hp} : (l : List Tr) → (n : Nat) → dps l ≤ n → ∀ {xs ys : List V}, Reps Z H xs l → Reps Z' H ys l → EqVs X n H xs ys (l.map fun _ => true)
  | [], n, _, _, _, .nil, .nil => .nil
  | t :: l, n, hn, _, _, .cons r q, .cons r' q' => by
    have h2 : max (dp t) (dps l) ≤ n := by simpa [dps] using hn
    exact .cons (eqv_tr t n (by omega) r r') (eqvs_tr l n (by omega) q q')
end
def rNeG (X : Cx) : R2 := fun x y H Q => ∃ (t : Tr) (Z Z' : Hp), Rep Z H x t ∧ Rep Z' H y t ∧ dp t ≤ 9 ∧ Q (.bl false) H
theorem scal_flat {x : V} (h : flatV x = true) : scal x x = true := by
  cases x <;> first | rfl | exact absurd (show false = true from h) Bool.false_ne_true
theorem op_neG {X : Cx} (hu : X.A.units + 64 < cLine) : OpR X (compareOp .NotEq) (rNeG X) := by
  intro pins s σ H x y v u Q I rx ry h
  obtain ⟨t, Z, Z', r, r', hd, q⟩ := h
  cases r with
  | fl hf =>
    cases r' with
    | fl _ =>
      refine op_ne pins s σ H x x v u Q I rx ry ⟨scal_flat hf, ?_⟩
      rw [decide_eq_true rfl]
      exact q
  | tu e r =>
    cases r' with
    | tu e' r' =>
      simp only [dp] at hd
      refine op_neT hu pins s σ H _ _ v u Q I rx ry ⟨_, _, _, _, _, 9, rfl, rfl, by decide, SqT.of e, SqT.of e', eqvs_tr _ 9 (by omega) r r', ?_⟩
      rw [all_t]
      exact q
  | li _ e r =>
    cases r' with
    | li _ e' r' =>
      simp only [dp] at hd
      cases rx
      cases ry
      obtain ⟨is, js, p1, p2, hz, hj, ea⟩ := rc_lst (A := X.A) (SqL.of e) (SqL.of e') (eqvs_tr (X := X) _ 9 (by omega) r r') I (by omega)
      refine SeqAt.RcNeAt.lists p1 p2 hz (by omega) hj X.prog X.w X.xe _ ?_
      rw [ea, all_t]
      exact ⟨.bl _, H, I, rfl, q⟩
def kdT : Tr → String
  | .fl .non => "NoneType"
  | .fl (.bl _) => "bool"
  | .fl (.int _) => "int"
  | .fl _ => "str"
  | .tu _ => "tuple"
  | .li _ => "list"
theorem Rep.kd {Z H : Hp} {v : V} {t : Tr} (r : Rep Z H v t) : Kd H v (kdT t) := by
  cases r with
  | fl h =>
    cases v with
    | non => exact .non
    | bl b => exact .bl b
    | int i => exact .int i
    | str s => exact .str s
    | _ => exact absurd (show false = true from h) Bool.false_ne_true
  | tu e r => exact .tup e
  | li _ e r => exact .lst e
def lenT : Tr → Bool
  | .tu [.fl (.int a), .fl (.int b), .fl (.int n)] => decide (1 ≤ n ∧ g3 a b n = 1)
  | _ => false
def sideT (d : Int) : Tr → Bool
  | .tu [.fl (.int a), .fl (.int b), .fl (.int n)] => decide (1 ≤ n ∧ g3 a b n = 1) && decide (0 < sgn d a b)
  | _ => false
def boardT (d : Int) : Tr → Bool
  | .tu [x, y] => sideT d x && sideT d y
  | _ => false
def heapT (d : Int) : Tr → Bool
  | .li (x :: xs) => (x :: xs).all (boardT d)
  | _ => false
def bd3 (k : Nat) : Tr → Prop
  | .tu [.fl (.int a), .fl (.int b), .fl (.int n)] => Bd k a ∧ Bd k b ∧ Bd k n
  | _ => True
def isIT : Tr → Bool
  | .fl (.int _) => true
  | _ => false
theorem Rep.isI {Z H : Hp} {v : V} {t : Tr} (r : Rep Z H v t) : L2.isI v = isIT t := by
  cases r with
  | fl h => cases v <;> rfl
  | tu e r => rfl
  | li _ e r => rfl
theorem reps3 {Z H : Hp} {xs : List V} {l : List Tr} (r : Reps Z H xs l) (h3 : l.length = 3) (hi : l.all isIT = true) : ∃ a b n : Int, l = [.fl (.int a), .fl (.int b), .fl (.int n)] ∧ xs = [.int a, .int b, .int n] := by
  match l, h3, r with
  | [t1, t2, t3], _, .cons r1 (.cons r2 (.cons r3 .nil)) =>
    simp only [List.all_cons, List.all_nil, Bool.and_true, Bool.and_eq_true] at hi
    obtain ⟨h1, h2, h3⟩ := hi
    have one : ∀ {t : Tr} {v : V}, isIT t = true → Rep Z H v t → ∃ a : Int, t = .fl (.int a) ∧ v = .int a := fun {t v} h r => by
      cases r with
      | fl hf =>
        cases v with
        | int i => exact ⟨i, rfl, rfl⟩
        | _ => exact absurd (show false = true from h) Bool.false_ne_true
      | tu e r => exact absurd (show false = true from h) Bool.false_ne_true
      | li _ e r => exact absurd (show false = true from h) Bool.false_ne_true
    obtain ⟨a, rfl, rfl⟩ := one h1 r1
    obtain ⟨b, rfl, rfl⟩ := one h2 r2
    obtain ⟨n, rfl, rfl⟩ := one h3 r3
    exact ⟨a, b, n, rfl, rfl⟩
theorem lenT_no {l : List Tr} (h : ¬ (l.length = 3 ∧ l.all isIT = true)) : lenT (.tu l) = false := by
  unfold lenT
  split
  · rename_i e
    cases e
    exact absurd ⟨rfl, rfl⟩ h
  · rfl
theorem vals_bools : ∀ {bs : List Bool} {us : List Value}, Vals (bs.map V.bl) us → us = bs.map Value.bool
  | [], us, h => Vals.zero h
  | b :: bs, u :: us, .cons r t => by
    cases r
    rw [vals_bools t]
    rfl
def isT : Value → Bool
  | .bool b => b
  | _ => false
theorem eqAt_b {A : Around} {s : Shared} {bs : List Bool} : ∀ y, y ∈ (bs.map Value.bool).toArray → SeqAt.EqAt A s y (.bool true) (isT y) := fun y hy => by
  have hy' : y ∈ bs.map Value.bool := by simpa using hy
  obtain ⟨b, _, rfl⟩ := List.mem_map.mp hy'
  have e := eqAt_V (A := A) (s := s) (y := .bl b) (x := .bl true) (u := .bool b) (v := .bool true) rfl rfl rfl rfl
  have q : eqV (.bl b) (.bl true) = isT (.bool b) := by cases b <;> rfl
  rw [q] at e
  exact e
section
variable {X : Cx}
def rCountB (K : PySem.W.Frag) : V → List V → Hp → VK → Prop := fun x vs H Q => ∃ (a : Addr) (bs : List Bool), x = .ref a ∧ vs = [.bl true] ∧ SqL K H a (bs.map V.bl) ∧ Q (.int ((bs.countP id : Nat) : Int)) H
theorem mt_countB : MtR X "list.count" (rCountB X.K) := by
  intro pins s σ H x vs v us Q I rx rv h
  obtain ⟨a, bs, rfl, rfl, hS, q⟩ := h
  cases rx
  obtain ⟨u, rfl, ru⟩ := rv.one
  cases ru
  obtain ⟨its, r, pl, hz⟩ := I.list hS
  have e := vals_bools r
  subst e
  obtain ⟨o, n, ha, hc, hdd, hdt⟩ := id pl
  cases o
  dsimp only at hc hdd hdt
  subst hc hdd hdt
  refine call_meets F.slot_list_count pl.isList.typeIs F.entry_list_count (F.args_list_count_2 _ _) (SeqAt.list_countAt a _ n none _ (.bool true) isT) ⟨ha, eqAt_b, ?_⟩
  have ec : ((bs.map Value.bool).toArray.toList.countP isT) = bs.countP id := by
    rw [List.countP_map]
    rfl
  rw [ec]
  exact ⟨.int _, H, I.tok _, ⟨_, rfl⟩, q⟩
def rIndexB (K : PySem.W.Frag) : V → List V → Hp → VK → Prop := fun x vs H Q => ∃ (a : Addr) (bs : List Bool) (j : Nat), x = .ref a ∧ vs = [.bl true] ∧ SqL K H a (bs.map V.bl) ∧ bs[j]? = some true ∧ (∀ m, m < j → bs[m]? = some false) ∧ j ≤ 1000 ∧ Q (.int ((j : Nat) : Int)) H
theorem mt_indexB : MtR X "list.index" (rIndexB X.K) := by
  intro pins s σ H x vs v us Q I rx rv h
  obtain ⟨a, bs, j, rfl, rfl, hS, hj, hm, hj2, q⟩ := h
  cases rx
  obtain ⟨u, rfl, ru⟩ := rv.one
  cases ru
  obtain ⟨its, r, pl, hz⟩ := I.list hS
  have e := vals_bools r
  subst e
  obtain ⟨o, n, ha, hc, hdd, hdt⟩ := id pl
  cases o
  dsimp only at hc hdd hdt
  subst hc hdd hdt
  have hjl := (List.getElem?_eq_some_iff.mp hj).1
  have at_ : ∀ m b, bs[m]? = some b → ∀ (h : m < (bs.map Value.bool).toArray.size), (bs.map Value.bool).toArray[m] = Value.bool b := fun m b hb h => by
    have hl := (List.getElem?_eq_some_iff.mp hb).1
    have he := (List.getElem?_eq_some_iff.mp hb).2
    simp [he]
  have hjs : j < (bs.map Value.bool).toArray.size := by simpa using hjl
  refine call_meets F.slot_list_index pl.isList.typeIs F.entry_list_index (F.args_list_index_2 _ _) (SeqAt.list_indexAt a _ n none _ (.bool true) isT j hjs (by omega) (by rw [at_ j true hj hjs]; rfl) (fun m h1 h2 => by rw [at_ m false (hm m h2) h1]; rfl)) ⟨ha, eqAt_b, ?_⟩
  exact ⟨.int _, H, I.tok _, ⟨_, rfl⟩, q⟩
end
end L2
open PySem PySem.Spec PyProof.Rows L2 Bg
namespace Bk
open PySem PySem.Spec PyProof.Rows L2 Bg
def top (i : Nat) : Stmt := PySem.Challenge.pw_boardglue_k12_boards_and_heaps.main.body.getD i (.Pass ⟨0, 0, 0, 0⟩)
abbrev s_is_whole : Stmt := top 16
abbrev s_common_divisor : Stmt := top 17
abbrev s_with_sign_of : Stmt := top 20
abbrev s_length : Stmt := top 21
abbrev s_is_above_nought : Stmt := top 22
abbrev s_under : Stmt := top 23
abbrev s_is_length : Stmt := top 25
abbrev s_is_side : Stmt := top 26
abbrev s_is_board : Stmt := top 27
abbrev s_board : Stmt := top 28
abbrev s_is_heap : Stmt := top 29
abbrev s__law_mix : Stmt := top 31
abbrev s__law_whole : Stmt := top 32
abbrev s__law_low : Stmt := top 33
abbrev s__law_sign : Stmt := top 34
abbrev s__law_root : Stmt := top 35
abbrev s__law_side : Stmt := top 36
abbrev s__law_kinds : Stmt := top 37
abbrev s__law_below : Stmt := top 38
abbrev s__law_thing : Stmt := top 39
abbrev s__law_is_side : Stmt := top 40
abbrev s__law_board : Stmt := top 41
abbrev s__law_heap : Stmt := top 42
abbrev s__law_is_heap : Stmt := top 43
abbrev s_law : Stmt := top 44
structure Bl (mg : Str → Option Value) : Prop where
  ValueError : mg "ValueError" = none
  abs : mg "abs" = none
  all : mg "all" = none
  bool : mg "bool" = none
  int : mg "int" = none
  isinstance : mg "isinstance" = none
  len : mg "len" = none
  list : mg "list" = none
  range : mg "range" = none
  sum : mg "sum" = none
  tuple : mg "tuple" = none
theorem bt_ValueError : bootBuiltins "ValueError" = some (.type "ValueError") := by decide +kernel
theorem bt_abs : bootBuiltins "abs" = some (.builtin "abs") := by decide +kernel
theorem bt_all : bootBuiltins "all" = some (.builtin "all") := by decide +kernel
theorem bt_bool : bootBuiltins "bool" = some (.type "bool") := by decide +kernel
theorem bt_int : bootBuiltins "int" = some (.type "int") := by decide +kernel
theorem bt_isinstance : bootBuiltins "isinstance" = some (.builtin "isinstance") := by decide +kernel
theorem bt_len : bootBuiltins "len" = some (.builtin "len") := by decide +kernel
theorem bt_list : bootBuiltins "list" = some (.type "list") := by decide +kernel
theorem bt_range : bootBuiltins "range" = some (.type "range") := by decide +kernel
theorem bt_sum : bootBuiltins "sum" = some (.builtin "sum") := by decide +kernel
theorem bt_tuple : bootBuiltins "tuple" = some (.type "tuple") := by decide +kernel
theorem is_s {α : Type} {o : Option α} {v : α} (e : o = some v) : o.isSome = true := by rw [e]; rfl
structure Cs where
  YardError : Addr
  NoLength : Addr
  NoBoard : Addr
  NoText : Addr
  NoDeed : Addr
  NoName : Addr
  Grain : Addr
  Unfit : Addr
  TooMany : Addr
  NoRow : Addr
  Apart : Addr
structure Xs (K : PySem.W.Frag) (mg : Str → Option Value) (cs : Cs) : Prop where
  m_YardError : mg "YardError" = some (.ref cs.YardError)
  m_NoLength : mg "NoLength" = some (.ref cs.NoLength)
  m_NoBoard : mg "NoBoard" = some (.ref cs.NoBoard)
  m_NoText : mg "NoText" = some (.ref cs.NoText)
  m_NoDeed : mg "NoDeed" = some (.ref cs.NoDeed)
  m_NoName : mg "NoName" = some (.ref cs.NoName)
  m_Grain : mg "Grain" = some (.ref cs.Grain)
  m_Unfit : mg "Unfit" = some (.ref cs.Unfit)
  m_TooMany : mg "TooMany" = some (.ref cs.TooMany)
  m_NoRow : mg "NoRow" = some (.ref cs.NoRow)
  m_Apart : mg "Apart" = some (.ref cs.Apart)
  o_YardError : XOk K cs.YardError
  o_NoBoard : XOk K cs.NoBoard
  s_NoBoard : PySem.W.mroIn K cs.NoBoard (.ref cs.YardError) = some true
  k_NoBoard_YardError : PySem.W.kitOne K (.ref cs.NoBoard) (.ref cs.YardError) = some true
  k_NoBoard_NoLength : PySem.W.kitOne K (.ref cs.NoBoard) (.ref cs.NoLength) = some false
  k_NoBoard_NoBoard : PySem.W.kitOne K (.ref cs.NoBoard) (.ref cs.NoBoard) = some true
  k_NoBoard_NoText : PySem.W.kitOne K (.ref cs.NoBoard) (.ref cs.NoText) = some false
  k_NoBoard_NoDeed : PySem.W.kitOne K (.ref cs.NoBoard) (.ref cs.NoDeed) = some false
  k_NoBoard_NoName : PySem.W.kitOne K (.ref cs.NoBoard) (.ref cs.NoName) = some false
  k_NoBoard_Grain : PySem.W.kitOne K (.ref cs.NoBoard) (.ref cs.Grain) = some false
  k_NoBoard_Unfit : PySem.W.kitOne K (.ref cs.NoBoard) (.ref cs.Unfit) = some false
  k_NoBoard_TooMany : PySem.W.kitOne K (.ref cs.NoBoard) (.ref cs.TooMany) = some false
  k_NoBoard_NoRow : PySem.W.kitOne K (.ref cs.NoBoard) (.ref cs.NoRow) = some false
  k_NoBoard_Apart : PySem.W.kitOne K (.ref cs.NoBoard) (.ref cs.Apart) = some false
  k_NoBoard_ValueError : PySem.W.kitOne K (.ref cs.NoBoard) (.type "ValueError") = some true
theorem xs_mk {K : PySem.W.Frag} {mg : Str → Option Value} {xYardError xNoLength xNoBoard xNoText xNoDeed xNoName xGrain xUnfit xTooMany xNoRow xApart : Addr}
    (m_YardError : mg "YardError" = some (.ref xYardError))
    (m_NoLength : mg "NoLength" = some (.ref xNoLength))
    (m_NoBoard : mg "NoBoard" = some (.ref xNoBoard))
    (m_NoText : mg "NoText" = some (.ref xNoText))
    (m_NoDeed : mg "NoDeed" = some (.ref xNoDeed))
    (m_NoName : mg "NoName" = some (.ref xNoName))
    (m_Grain : mg "Grain" = some (.ref xGrain))
    (m_Unfit : mg "Unfit" = some (.ref xUnfit))
    (m_TooMany : mg "TooMany" = some (.ref xTooMany))
    (m_NoRow : mg "NoRow" = some (.ref xNoRow))
    (m_Apart : mg "Apart" = some (.ref xApart))
    (o_YardError : XOk K xYardError)
    (o_NoBoard : XOk K xNoBoard)
    (s_NoBoard : PySem.W.mroIn K xNoBoard (.ref xYardError) = some true)
    (k_NoBoard_YardError : PySem.W.kitOne K (.ref xNoBoard) (.ref xYardError) = some true)
    (k_NoBoard_NoLength : PySem.W.kitOne K (.ref xNoBoard) (.ref xNoLength) = some false)
    (k_NoBoard_NoBoard : PySem.W.kitOne K (.ref xNoBoard) (.ref xNoBoard) = some true)
    (k_NoBoard_NoText : PySem.W.kitOne K (.ref xNoBoard) (.ref xNoText) = some false)
    (k_NoBoard_NoDeed : PySem.W.kitOne K (.ref xNoBoard) (.ref xNoDeed) = some false)
    (k_NoBoard_NoName : PySem.W.kitOne K (.ref xNoBoard) (.ref xNoName) = some false)
    (k_NoBoard_Grain : PySem.W.kitOne K (.ref xNoBoard) (.ref xGrain) = some false)
    (k_NoBoard_Unfit : PySem.W.kitOne K (.ref xNoBoard) (.ref xUnfit) = some false)
    (k_NoBoard_TooMany : PySem.W.kitOne K (.ref xNoBoard) (.ref xTooMany) = some false)
    (k_NoBoard_NoRow : PySem.W.kitOne K (.ref xNoBoard) (.ref xNoRow) = some false)
    (k_NoBoard_Apart : PySem.W.kitOne K (.ref xNoBoard) (.ref xApart) = some false)
    (k_NoBoard_ValueError : PySem.W.kitOne K (.ref xNoBoard) (.type "ValueError") = some true) : Xs K mg ⟨xYardError, xNoLength, xNoBoard, xNoText, xNoDeed, xNoName, xGrain, xUnfit, xTooMany, xNoRow, xApart⟩ := ⟨m_YardError, m_NoLength, m_NoBoard, m_NoText, m_NoDeed, m_NoName, m_Grain, m_Unfit, m_TooMany, m_NoRow, m_Apart, o_YardError, o_NoBoard, s_NoBoard, k_NoBoard_YardError, k_NoBoard_NoLength, k_NoBoard_NoBoard, k_NoBoard_NoText, k_NoBoard_NoDeed, k_NoBoard_NoName, k_NoBoard_Grain, k_NoBoard_Unfit, k_NoBoard_TooMany, k_NoBoard_NoRow, k_NoBoard_Apart, k_NoBoard_ValueError⟩
theorem pickS {k : Bool} : atI [V.int (-1), V.int 1] (if k = true then 1 else 0) = some (.int (if k = true then 1 else -1)) := by cases k <;> rfl
def mixF (c k : Int) : Int := ((c % 2147483647 + 48271 * k + 1) * 69621 % 2147483629) * ((c % 2147483647 + 48271 * k + 1) * 69621 % 2147483629) % 2147483587
def IsUp (m a : Int) : Prop := 1 ≤ a ∧ m ≤ a * a ∧ ∀ x, 1 ≤ x → m ≤ x * x → a ≤ x
noncomputable def upF (m : Int) : Int := open Classical in if h : ∃ a, IsUp m a then Classical.choose h else 0
theorem upF_eq {m a : Int} (h : IsUp m a) : upF m = a := by
  unfold upF
  have hx : ∃ a, IsUp m a := ⟨a, h⟩
  rw [dif_pos hx]
  have q := Classical.choose_spec hx
  have h1 := h.2.2 _ q.1 q.2.1
  have h2 := q.2.2 _ h.1 h.2.1
  omega
theorem isUp_of {m a : Int} (h1 : 1 ≤ a) (h2 : m ≤ a * a) (h3 : a = 1 ∨ (a - 1) * (a - 1) < m) : IsUp m a := by
  refine ⟨h1, h2, fun x hx hm => ?_⟩
  rcases h3 with h3 | h3
  · omega
  · refine Int.not_lt.mp fun z => ?_
    have : x * x ≤ (a - 1) * (a - 1) := Int.mul_le_mul (by omega) (by omega) (by omega) (by omega)
    omega
def IsLow (m a : Int) : Prop := 0 ≤ a ∧ (a = 0 ∨ a * a < m) ∧ m ≤ (a + 1) * (a + 1)
theorem isLow_one {m a b : Int} (h : IsLow m a) (h' : IsLow m b) : a = b := by
  have key : ∀ {a b : Int}, IsLow m a → IsLow m b → ¬ a < b := fun {a b} h h' z => by
    obtain ⟨a0, _, a2⟩ := h
    obtain ⟨b0, b1, _⟩ := h'
    have : (a + 1) * (a + 1) ≤ b * b := Int.mul_le_mul (by omega) (by omega) (by omega) (by omega)
    rcases b1 with b1 | b1 <;> omega
  have h1 := key h h'
  have h2 := key h' h
  omega
noncomputable def lowF (m : Int) : Int := open Classical in if h : ∃ a, IsLow m a then Classical.choose h else 0
theorem lowF_eq {m a : Int} (h : IsLow m a) : lowF m = a := by
  unfold lowF
  have hx : ∃ a, IsLow m a := ⟨a, h⟩
  rw [dif_pos hx]
  exact isLow_one (Classical.choose_spec hx) h
def sB (c k : Int) : Int := if mixF c (k + 2) % 6 = 1 then (mixF c (k + 1) % 19 - 9) * mixF c (k + 3) * mixF c (k + 4) else if mixF c (k + 2) % 6 = 0 then 0 else mixF c (k + 1) % 19 - 9
def sN (c k : Int) : Int := if mixF c (k + 2) % 6 = 1 then 1 + mixF c (k + 5) % 1000000000 else 1 + mixF c k % 12
noncomputable def sA (c k d : Int) : Int :=
  let b := sB c k
  let w := mixF c (k + 2) % 6
  let a1 := if b < 0 then mixF c (k + 6) % 10 + 10 * (if b < 0 then -b else b) else mixF c (k + 6) % 10
  let a2 := if w = 2 ∧ b < 0 then upF (d * b * b) else a1
  let a3 := if w = 3 ∧ 0 < b then 0 - b else a2
  if a3 = 0 ∧ b ≤ 0 then 1 else a3
noncomputable def sidT (c k d : Int) : Tr := .tu [.fl (.int (lA (sA c k d) (sB c k) (sN c k))), .fl (.int (lB (sA c k d) (sB c k) (sN c k))), .fl (.int (lN (sA c k d) (sB c k) (sN c k)))]
def wB (c k : Int) : Int := 1 + mixF c k % 9
noncomputable def wA (c k d : Int) : Int := lowF (d * wB c k * wB c k)
def wN (c k : Int) : Int := 1 + mixF c (k + 1) % 12
theorem sideT_no {d : Int} {l : List Tr} (h : ¬ (l.length = 3 ∧ l.all isIT = true)) : sideT d (.tu l) = false := by
  unfold sideT
  split
  · rename_i e
    cases e
    exact absurd ⟨rfl, rfl⟩ h
  · rfl
theorem flat_kd {H : Hp} {x : V} (h : flatV x = true) : ∃ k, Kd H x k ∧ kitTy k "tuple" = some false ∧ kitTy k "list" = some false := by
  cases x with
  | non => exact ⟨_, .non, by decide +kernel, by decide +kernel⟩
  | bl b => exact ⟨_, .bl b, by decide +kernel, by decide +kernel⟩
  | int i => exact ⟨_, .int i, by decide +kernel, by decide +kernel⟩
  | str s => exact ⟨_, .str s, by decide +kernel, by decide +kernel⟩
  | _ => exact absurd (show false = true from h) Bool.false_ne_true
noncomputable def lowT (a b n : Int) : Tr := .tu [.fl (.int (lA a b n)), .fl (.int (lB a b n)), .fl (.int (lN a b n))]
def tri (a b n : Int) : Tr := .tu [.fl (.int a), .fl (.int b), .fl (.int n)]
noncomputable def odd (a b n x y z : Int) : List Tr := [tri 0 0 1, lowT (0 - a) (0 - b) n, tri (2 * a) (2 * b) (2 * n), .li [.fl (.int a), .fl (.int b), .fl (.int n)], .fl .non, .fl (.int a), .tu [.fl (.int a), .fl (.int b)], tri a b (0 - n)] ++ [.tu [.fl (.int a), .fl (.bl true), .fl (.int (3 * n))], .fl (.str (Str.ofString "1")), tri 0 (-1) 1, tri 0 1 1, tri 1 (-1) 1, tri (-1) 1 1, tri x y z]
noncomputable def thT (c k d : Int) : Tr :=
  if 0 < mixF c (k + 9) % 6 then sidT c k d else
  (odd (lA (sA c k d) (sB c k) (sN c k)) (lB (sA c k d) (sB c k) (sN c k)) (lN (sA c k d) (sB c k) (sN c k)) (lA (wA c (k + 11) d) (0 - wB c (k + 11)) (wN c (k + 11))) (lB (wA c (k + 11) d) (0 - wB c (k + 11)) (wN c (k + 11))) (lN (wA c (k + 11) d) (0 - wB c (k + 11)) (wN c (k + 11)))).getD (mixF c (k + 10) % 15).toNat (.fl .non)
theorem rep3 {Z H : Hp} {p : Addr} {a b n : Int} (e : H p = some (.tup [.int a, .int b, .int n])) : Rep Z H (.ref p) (tri a b n) := .tu e (.cons (.fl rfl) (.cons (.fl rfl) (.cons (.fl rfl) .nil)))
theorem dp_thing {c k d : Int} : dp (thT c k d) ≤ 1 := by
  have key : ∀ {a b n x y z : Int}, ∀ t ∈ odd a b n x y z, dp t ≤ 1 := by
    intro a b n x y z t ht
    simp only [odd, List.cons_append, List.nil_append, List.mem_cons, List.not_mem_nil, or_false] at ht
    rcases ht with rfl | rfl | rfl | rfl | rfl | rfl | rfl | rfl | rfl | rfl | rfl | rfl | rfl | rfl | rfl <;> simp [dp, dps, tri, lowT]
  unfold thT
  split
  · simp [sidT, dp, dps]
  · rw [List.getD_eq_getElem?_getD]
    cases h : (odd _ _ _ _ _ _)[(mixF c (k + 10) % 15).toNat]? with
    | none => simp [dp]
    | some t => exact key t (List.mem_of_getElem? h)
theorem rt_in {d : Int} (h : Rt d) : 2 ≤ d ∧ d ≤ 99 := by
  have := h.lo
  have := h.hi
  omega
noncomputable def prT (c d : Int) (k : Nat) : Tr := .tu [thT c (30 * (k : Int)) d, thT c (30 * (k : Int) + 15) d]
def chT : Tr → List Tr
  | .tu [x, y] => [.li [x, y], .tu [x], .tu [x, y, x], .fl .non, x, .fl (.str (Str.ofString "1x1")), .tu [], .tu [.tu [x, y], .tu [x, y]]]
  | _ => []
noncomputable def hl0 (c d : Int) : List Tr := (List.range (1 + mixF c 7 % 4).toNat).map (prT c d)
noncomputable def hl1 (c d : Int) : List Tr := if mixF c 8 % 27 < 8 then (hl0 c d).set (mixF c 9 % ((hl0 c d).length : Int)).toNat ((chT ((hl0 c d).getD (mixF c 9 % ((hl0 c d).length : Int)).toNat (.fl .non))).getD (mixF c 8 % 27).toNat (.fl .non)) else hl0 c d
noncomputable def hpT (c d : Int) : Tr := if 8 ≤ mixF c 8 % 27 ∧ mixF c 8 % 27 < 13 then ([.tu (hl1 c d), .fl (.str (Str.ofString "boards")), .li [], .fl .non, (hl1 c d).getD 0 (.fl .non)] : List Tr).getD (mixF c 8 % 27 - 8).toNat (.fl .non) else .li (hl1 c d)
theorem i_slT1 {K : PySem.W.Frag} {H : Hp} {Q : VK} {a : Addr} {x y : V} (h : H a = some (.tup [x, y])) (q : ∀ (p : Addr) (H2 : Hp), Same H H2 → H2 p = some (.tup [x]) → Q (.ref p) H2) : rSlT K (.ref a) none (some 1) H Q :=
  ⟨a, _, rfl, SqT.of h, show ¬ (HT.sIx 2 0 none = 0 ∧ HT.sIx 2 2 (some 1) = 2) by decide, fun p hp => q p _ (same_upd hp _) upd_same⟩
theorem i_catT {K : PySem.W.Frag} {H : Hp} {Q : VK} {a b : Addr} {xs ys : List V} (h : H a = some (.tup xs)) (h' : H b = some (.tup ys)) (n : xs ≠ []) (n' : ys ≠ []) (z : xs.length + ys.length ≤ 1000) (q : ∀ (p : Addr) (H2 : Hp), Same H H2 → H2 p = some (.tup (xs ++ ys)) → Q (.ref p) H2) : rCatT K (.ref a) (.ref b) H Q :=
  ⟨a, b, _, _, rfl, rfl, SqT.of h, SqT.of h', n, line_le z, fun e => absurd e n', fun _ p hp => q p _ (same_upd hp _) upd_same⟩
theorem i_chain {r r' : R2} {ta tb tc : TE} {σ : L2.St} {H : Hp} {Q : VK} (h : ta σ H fun x H1 => tb σ H1 fun y H2 => r x y H2 fun z H3 => ∃ k, z = .bl k ∧ (if k = true then tc σ H3 fun w' H4 => r' y w' H4 Q else Q (.bl false) H3)) : tChain r r' ta tb tc σ H Q := h
theorem bd3_two {k : Nat} {x y : Tr} : bd3 k (.tu [x, y]) := by
  unfold bd3
  split
  · rename_i e; cases e
  · trivial
theorem bd3_flat {k : Nat} {t : Tr} (h : dp t = 0) : bd3 k t := by
  cases t with
  | fl x => trivial
  | tu l => simp [dp] at h
  | li l => trivial
theorem two_flat {t x y : Tr} (h : dp t ≤ 1) (e : t = .tu [x, y]) : bd3 300 x ∧ bd3 300 y := by
  subst e
  simp only [dp, dps] at h
  exact ⟨bd3_flat (by omega), bd3_flat (by omega)⟩
theorem dp_pr {c d : Int} {k : Nat} : dp (prT c d k) ≤ 2 := by
  have h1 := dp_thing (c := c) (k := 30 * (k : Int)) (d := d)
  have h2 := dp_thing (c := c) (k := 30 * (k : Int) + 15) (d := d)
  simp only [prT, dp, dps]
  omega
theorem dps_le {l : List Tr} {n : Nat} (h : ∀ t ∈ l, dp t ≤ n) : dps l ≤ n := by
  induction l with
  | nil => simp [dps]
  | cons t l ih =>
    have h1 := h t List.mem_cons_self
    have h2 := ih fun u hu => h u (List.mem_cons_of_mem _ hu)
    simp only [dps]
    omega
def HB (c d : Int) : Prop := ∀ t ∈ hl0 c d, ∀ x y : Tr, t = .tu [x, y] → bd3 300 x ∧ bd3 300 y
theorem hl0_mem {c d : Int} {t : Tr} (h : t ∈ hl0 c d) : ∃ k : Nat, t = prT c d k ∧ k < 4 := by
  obtain ⟨k, hk, e⟩ := List.mem_map.mp h
  have := List.mem_range.mp hk
  exact ⟨k, e.symm, by omega⟩
theorem ch_mem {c d : Int} {k : Nat} {t : Tr} (h : t ∈ chT (prT c d k)) : dp t ≤ 3 ∧ (HB c d → ∀ x y : Tr, t = .tu [x, y] → bd3 300 x ∧ bd3 300 y) := by
  have h1 := dp_thing (c := c) (k := 30 * (k : Int)) (d := d)
  have h2 := dp_thing (c := c) (k := 30 * (k : Int) + 15) (d := d)
  simp only [chT, prT, List.mem_cons, List.not_mem_nil, or_false] at h
  rcases h with rfl | rfl | rfl | rfl | rfl | rfl | rfl | rfl
  · exact ⟨by simp only [dp, dps]; omega, fun _ x y e => by cases e⟩
  · exact ⟨by simp only [dp, dps]; omega, fun _ x y e => by cases e⟩
  · exact ⟨by simp only [dp, dps]; omega, fun _ x y e => by cases e⟩
  · exact ⟨by simp only [dp]; omega, fun _ x y e => by cases e⟩
  · exact ⟨by omega, fun _ x y e => two_flat h1 e⟩
  · exact ⟨by simp only [dp]; omega, fun _ x y e => by cases e⟩
  · exact ⟨by simp only [dp, dps]; omega, fun _ x y e => by cases e⟩
  · exact ⟨by simp only [dp, dps]; omega, fun _ x y e => by cases e; exact ⟨bd3_two, bd3_two⟩⟩
theorem hl1_mem {c d : Int} {t : Tr} (h : t ∈ hl1 c d) : dp t ≤ 3 ∧ (HB c d → ∀ x y : Tr, t = .tu [x, y] → bd3 300 x ∧ bd3 300 y) := by
  have base : ∀ {t : Tr}, t ∈ hl0 c d → dp t ≤ 3 ∧ (HB c d → ∀ x y : Tr, t = .tu [x, y] → bd3 300 x ∧ bd3 300 y) := fun {t} h => by
    refine ⟨?_, fun hb x y e => hb t h x y e⟩
    obtain ⟨k, rfl, _⟩ := hl0_mem h
    exact Nat.le_trans dp_pr (by decide)
  unfold hl1 at h
  split at h
  · rcases List.mem_or_eq_of_mem_set h with h | h
    · exact base h
    · subst h
      rw [List.getD_eq_getElem?_getD, List.getD_eq_getElem?_getD]
      cases h1 : (hl0 c d)[(mixF c 9 % ((hl0 c d).length : Int)).toNat]? with
      | none => exact ⟨by simp [chT, dp], fun _ x y e => by simp [chT] at e⟩
      | some u =>
        obtain ⟨k, rfl, _⟩ := hl0_mem (List.mem_of_getElem? h1)
        simp only [Option.getD_some]
        cases h2 : (chT (prT c d k))[(mixF c 8 % 27).toNat]? with
        | none => exact ⟨by simp [dp], fun _ x y e => by cases e⟩
        | some w => exact ch_mem (List.mem_of_getElem? h2)
  · exact base h
theorem hl0_len {c d : Int} : (hl0 c d).length ≤ 4 := by
  unfold hl0
  rw [List.length_map, List.length_range]
  omega
theorem hl1_len {c d : Int} : (hl1 c d).length ≤ 4 := by
  have := hl0_len (c := c) (d := d)
  unfold hl1
  split
  · rw [List.length_set]; exact this
  · exact this
theorem hp_dp {c d : Int} : dp (hpT c d) ≤ 9 := by
  have h1 : dps (hl1 c d) ≤ 3 := dps_le fun t ht => (hl1_mem ht).1
  unfold hpT
  split
  · rw [List.getD_eq_getElem?_getD]
    cases h2 : ([.tu (hl1 c d), .fl (.str (Str.ofString "boards")), .li [], .fl .non, (hl1 c d).getD 0 (.fl .non)] : List Tr)[(mixF c 8 % 27 - 8).toNat]? with
    | none => simp [dp]
    | some t =>
      have := List.mem_of_getElem? h2
      simp only [List.mem_cons, List.not_mem_nil, or_false] at this
      rcases this with rfl | rfl | rfl | rfl | rfl
      · simp only [Option.getD_some, dp]; omega
      · simp [dp]
      · simp [dp, dps]
      · simp [dp]
      · rw [Option.getD_some, List.getD_eq_getElem?_getD]
        cases h3 : (hl1 c d)[0]? with
        | none => simp [dp]
        | some u =>
          have := (hl1_mem (List.mem_of_getElem? h3)).1
          rw [Option.getD_some]
          omega
  · simp only [dp]; omega
theorem hp_li {c d : Int} {l : List Tr} (e : hpT c d = .li l) : l = hl1 c d ∨ l = [] := by
  unfold hpT at e
  split at e
  · rename_i hw
    have e0 : hl1 c d = hl0 c d := by unfold hl1; rw [if_neg (by omega)]
    rw [List.getD_eq_getElem?_getD] at e
    cases h2 : ([.tu (hl1 c d), .fl (.str (Str.ofString "boards")), .li [], .fl .non, (hl1 c d).getD 0 (.fl .non)] : List Tr)[(mixF c 8 % 27 - 8).toNat]? with
    | none => rw [h2] at e; cases e
    | some t =>
      rw [h2, Option.getD_some] at e
      have := List.mem_of_getElem? h2
      simp only [List.mem_cons, List.not_mem_nil, or_false] at this
      rcases this with rfl | rfl | rfl | rfl | rfl
      · cases e
      · cases e
      · cases e; exact .inr rfl
      · cases e
      · rw [e0, List.getD_eq_getElem?_getD] at e
        cases h3 : (hl0 c d)[0]? with
        | none => rw [h3] at e; cases e
        | some u =>
          rw [h3, Option.getD_some] at e
          obtain ⟨k, rfl, _⟩ := hl0_mem (List.mem_of_getElem? h3)
          cases e
  · cases e; exact .inl rfl
theorem hp_bd {c d : Int} (hb : HB c d) : ∀ l : List Tr, hpT c d = .li l → ∀ u ∈ l, ∀ x y : Tr, u = .tu [x, y] → bd3 300 x ∧ bd3 300 y := fun l e u hu x y eu => by
  rcases hp_li e with rfl | rfl
  · exact (hl1_mem hu).2 hb x y eu
  · exact absurd hu (by simp)
theorem hp_len {c d : Int} : ∀ l : List Tr, hpT c d = .li l → l.length ≤ 500 := fun l e => by
  rcases hp_li e with rfl | rfl
  · exact Nat.le_trans hl1_len (by decide)
  · simp
theorem boardT_no {d : Int} {l : List Tr} (h : l.length ≠ 2) : boardT d (.tu l) = false := by
  unfold boardT
  split
  · rename_i e
    cases e
    exact absurd rfl h
  · rfl
def sp_is_whole : Sp := fun vs H Q _ => ∃ (x : V) (t : String), vs = [x] ∧ Kd H x t ∧ Q (.bl (t == "int")) H
theorem c_is_whole {i : Int} {H : Hp} {Q : VK} {E : XK} (q : Q (.bl true) H) : sp_is_whole ([.int i] ++ []) H Q E := ⟨.int i, _, rfl, .int i, q⟩
theorem ck_is_whole {x : V} {t : String} {H : Hp} {Q : VK} {E : XK} (k : Kd H x t) (q : Q (.bl (isI x)) H) : sp_is_whole ([x] ++ []) H Q E := ⟨x, t, rfl, k, by rw [k.isI] at q; exact q⟩
local macro_rules | `(tactic| walk_at "rd") => `(tactic| with_reducible refine c_is_whole ?_)
def sp_common_divisor : Sp := fun vs H Q _ => ∃ a b : Int, vs = [.int a, .int b] ∧ Bd 8192 b ∧ Q (.int (Int.gcd a b : Nat)) H
theorem c_common_divisor {a b : Int} {H : Hp} {Q : VK} {E : XK} (hb : Bd 8192 b) (q : Q (.int (Int.gcd a b : Nat)) H) : sp_common_divisor ([.int a, .int b] ++ []) H Q E := ⟨a, b, rfl, hb, q⟩
local macro_rules | `(tactic| walk_at "rd") => `(tactic| ((with_reducible refine c_common_divisor ?_ ?_); focus (walk_at "b8")))
def sp_with_sign_of : Sp := fun vs H Q _ => ∃ g n : Int, vs = [.int g, .int n] ∧ Q (.int (if n < 0 then -g else g)) H
theorem c_with_sign_of {g n : Int} {H : Hp} {Q : VK} {E : XK} (q : Q (.int (if n < 0 then -g else g)) H) : sp_with_sign_of ([.int g, .int n] ++ []) H Q E := ⟨g, n, rfl, q⟩
local macro_rules | `(tactic| walk_at "rd") => `(tactic| with_reducible refine c_with_sign_of ?_)
def sp_is_above_nought : Sp := fun vs H Q _ => ∃ d a b : Int, vs = [.int d, .int a, .int b] ∧ Bd 64 d ∧ Bd 8000 a ∧ Bd 8000 b ∧ Q (.bl (decide (0 < sgn d a b))) H
theorem c_is_above_nought {d a b : Int} {H : Hp} {Q : VK} {E : XK} (hd : Bd 64 d) (ha : Bd 8000 a) (hb : Bd 8000 b) (q : Q (.bl (decide (0 < sgn d a b))) H) : sp_is_above_nought ([.int d, .int a, .int b] ++ []) H Q E := ⟨d, a, b, rfl, hd, ha, hb, q⟩
def sp__law_mix : Sp := fun vs H Q _ => ∃ c k : Int, vs = [.int c, .int k] ∧ 0 ≤ k ∧ k ≤ 1000 ∧ ∀ r : Int, 0 ≤ r → r < 2147483587 → r = mixF c k → Q (.int r) H
theorem c__law_mix {c k : Int} {H : Hp} {Q : VK} {E : XK} (k0 : 0 ≤ k) (k1 : k ≤ 1000) (q : ∀ r : Int, 0 ≤ r → r < 2147483587 → r = mixF c k → Q (.int r) H) : sp__law_mix ([.int c, .int k] ++ []) H Q E := ⟨c, k, rfl, k0, k1, q⟩
def sp__law_whole : Sp := fun vs H Q _ => ∃ (x : V) (t : String), vs = [x] ∧ Kd H x t ∧ Q (.bl (t == "int")) H
theorem c__law_whole {i : Int} {H : Hp} {Q : VK} {E : XK} (q : Q (.bl true) H) : sp__law_whole ([.int i] ++ []) H Q E := ⟨.int i, _, rfl, .int i, q⟩
theorem ck__law_whole {x : V} {t : String} {H : Hp} {Q : VK} {E : XK} (k : Kd H x t) (q : Q (.bl (isI x)) H) : sp__law_whole ([x] ++ []) H Q E := ⟨x, t, rfl, k, by rw [k.isI] at q; exact q⟩
local macro_rules | `(tactic| walk_at "rd") => `(tactic| with_reducible refine c__law_whole ?_)
def sp__law_low : Sp := fun vs H Q _ => ∃ a b n : Int, vs = [.int a, .int b, .int n] ∧ n ≠ 0 ∧ Bd 8000 n ∧ ∀ (r : Addr) (H' : Hp), Same H H' → H' r = some (.tup [.int (lA a b n), .int (lB a b n), .int (lN a b n)]) → Q (.ref r) H'
theorem c__law_low {a b n : Int} {H : Hp} {Q : VK} {E : XK} (hn : n ≠ 0) (hb : Bd 8000 n) (q : ∀ (r : Addr) (H' : Hp), Same H H' → H' r = some (.tup [.int (lA a b n), .int (lB a b n), .int (lN a b n)]) → Q (.ref r) H') : sp__law_low ([.int a, .int b, .int n] ++ []) H Q E := ⟨a, b, n, rfl, hn, hb, q⟩
def sp__law_sign : Sp := fun vs H Q _ => ∃ d a b : Int, vs = [.int d, .int a, .int b] ∧ Rt d ∧ Bd 300 a ∧ Bd 300 b ∧ ∀ (z : Int) (H' : Hp), Same H H' → decide (0 < z) = decide (0 < sgn d a b) → Q (.int z) H'
theorem c__law_sign {d a b : Int} {H : Hp} {Q : VK} {E : XK} (hR : Rt d) (ba : Bd 300 a) (bb : Bd 300 b) (q : ∀ (z : Int) (H' : Hp), Same H H' → decide (0 < z) = decide (0 < sgn d a b) → Q (.int z) H') : sp__law_sign ([.int d, .int a, .int b] ++ []) H Q E := ⟨d, a, b, rfl, hR, ba, bb, q⟩
def sp__law_root : Sp := fun vs H Q _ => ∃ c : Int, vs = [.int c] ∧ ∀ (d : Int) (H' : Hp), Rt d → Same H H' → Q (.int d) H'
theorem c__law_root {c : Int} {H : Hp} {Q : VK} {E : XK} (q : ∀ (d : Int) (H' : Hp), Rt d → Same H H' → Q (.int d) H') : sp__law_root ([.int c] ++ []) H Q E := ⟨c, rfl, q⟩
def sp__law_kinds (cs : Cs) : Sp := fun vs H Q _ => ∃ a : Addr, vs = [.ref a] ∧ H a = some (ExcO a cs.NoBoard) ∧ ∀ H', Same H H' → Q (.int 1) H'
theorem c__law_kinds {cs : Cs} {a : Addr} {H : Hp} {Q : VK} {E : XK} (ea : H a = some (ExcO a cs.NoBoard)) (q : ∀ H', Same H H' → Q (.int 1) H') : sp__law_kinds cs ([.ref a] ++ []) H Q E := ⟨a, rfl, ea, q⟩
def sp_length : Sp := fun vs H Q _ => ∃ a b n : Int, vs = [.int a, .int b, .int n] ∧ n ≠ 0 ∧ Bd 8000 n ∧ (Bd 8192 a ∧ Bd 8192 b) ∧ ∀ p H', Same H H' → H' p = some (.tup [.int (lA a b n), .int (lB a b n), .int (lN a b n)]) → Q (.ref p) H'
theorem c_length {a b n : Int} {vs : List V} {H : Hp} {Q : VK} {E : XK} (e : vs = [.int a, .int b, .int n]) (hn : n ≠ 0) (hb : Bd 8000 n) (q : ∀ p H', Same H H' → H' p = some (.tup [.int (lA a b n), .int (lB a b n), .int (lN a b n)]) → Q (.ref p) H') (ha8 : Bd 8192 a := by walk_at "b8") (hb8 : Bd 8192 b := by walk_at "b8") : sp_length vs H Q E := ⟨a, b, n, e, hn, hb, ⟨ha8, hb8⟩, q⟩
def sp_under (K : PySem.W.Frag) : Sp := fun vs H Q _ => ∃ (d : Int) (p p' : Addr) (x y z x' y' z' : Int), vs = [.int d, .ref p, .ref p'] ∧ SqT K H p [.int x, .int y, .int z] ∧ H p' = some (.tup [.int x', .int y', .int z']) ∧ Bd 64 d ∧ (Bd 1990 x ∧ Bd 1990 y ∧ Bd 1990 z ∧ Bd 1990 x' ∧ Bd 1990 y' ∧ Bd 1990 z') ∧ Q (.bl (decide (0 < sgn d (x' * z - x * z') (y' * z - y * z')))) H
theorem c_under {K : PySem.W.Frag} {d : Int} {p p' : Addr} {x y z x' y' z' : Int} {H : Hp} {Q : VK} {E : XK} (h1 : SqT K H p [.int x, .int y, .int z]) (h2 : H p' = some (.tup [.int x', .int y', .int z'])) (hd : Bd 64 d) (b1 : Bd 1990 x) (b2 : Bd 1990 y) (b3 : Bd 1990 z) (b4 : Bd 1990 x') (b5 : Bd 1990 y') (b6 : Bd 1990 z') (q : Q (.bl (decide (0 < sgn d (x' * z - x * z') (y' * z - y * z')))) H) : sp_under K ([.int d, .ref p, .ref p'] ++ []) H Q E := ⟨d, p, p', x, y, z, x', y', z', rfl, h1, h2, hd, ⟨b1, b2, b3, b4, b5, b6⟩, q⟩
def sp__law_side : Sp := fun vs H Q _ => ∃ c k d : Int, vs = [.int c, .int k, .int d] ∧ (0 ≤ k ∧ k ≤ 900) ∧ (2 ≤ d ∧ d ≤ 99) ∧ ∀ (p : Addr) (H' : Hp) (x y z : Int), Same H H' → H' p = some (.tup [.int x, .int y, .int z]) → (Bd 200 x ∧ Bd 200 y ∧ Bd 200 z ∧ 1 ≤ z ∧ g3 x y z = 1) → (x = lA (sA c k d) (sB c k) (sN c k) ∧ y = lB (sA c k d) (sB c k) (sN c k) ∧ z = lN (sA c k d) (sB c k) (sN c k)) → Q (.ref p) H'
theorem c__law_side {c k d : Int} {H : Hp} {Q : VK} {E : XK} (hk : 0 ≤ k ∧ k ≤ 900) (hd : 2 ≤ d ∧ d ≤ 99) (q : ∀ (p : Addr) (H' : Hp) (x y z : Int), Same H H' → H' p = some (.tup [.int x, .int y, .int z]) → (Bd 200 x ∧ Bd 200 y ∧ Bd 200 z ∧ 1 ≤ z ∧ g3 x y z = 1) → (x = lA (sA c k d) (sB c k) (sN c k) ∧ y = lB (sA c k d) (sB c k) (sN c k) ∧ z = lN (sA c k d) (sB c k) (sN c k)) → Q (.ref p) H') : sp__law_side ([.int c, .int k, .int d] ++ []) H Q E := ⟨c, k, d, rfl, hk, hd, q⟩
def sp__law_below : Sp := fun vs H Q _ => ∃ c k d : Int, vs = [.int c, .int k, .int d] ∧ (0 ≤ k ∧ k ≤ 900) ∧ (2 ≤ d ∧ d ≤ 99) ∧ ∀ (p : Addr) (H' : Hp) (x y z : Int), Same H H' → H' p = some (.tup [.int x, .int y, .int z]) → (Bd 200 x ∧ Bd 200 y ∧ Bd 200 z) → (x = lA (wA c k d) (0 - wB c k) (wN c k) ∧ y = lB (wA c k d) (0 - wB c k) (wN c k) ∧ z = lN (wA c k d) (0 - wB c k) (wN c k)) → Q (.ref p) H'
theorem c__law_below {c k d : Int} {H : Hp} {Q : VK} {E : XK} (hk : 0 ≤ k ∧ k ≤ 900) (hd : 2 ≤ d ∧ d ≤ 99) (q : ∀ (p : Addr) (H' : Hp) (x y z : Int), Same H H' → H' p = some (.tup [.int x, .int y, .int z]) → (Bd 200 x ∧ Bd 200 y ∧ Bd 200 z) → (x = lA (wA c k d) (0 - wB c k) (wN c k) ∧ y = lB (wA c k d) (0 - wB c k) (wN c k) ∧ z = lN (wA c k d) (0 - wB c k) (wN c k)) → Q (.ref p) H') : sp__law_below ([.int c, .int k, .int d] ++ []) H Q E := ⟨c, k, d, rfl, hk, hd, q⟩
def sp__law_is_side : Sp := fun vs H Q _ => ∃ (v : V) (t : Tr) (d : Int) (Z : Hp), vs = [v, .int d] ∧ Rep Z H v t ∧ bd3 300 t ∧ Rt d ∧ ∀ H', Same H H' → Q (.bl (sideT d t)) H'
theorem c__law_is_side {v : V} {t : Tr} {d : Int} {Z H : Hp} {Q : VK} {E : XK} (r : Rep Z H v t) (hb : bd3 300 t) (hR : Rt d) (q : ∀ H', Same H H' → Q (.bl (sideT d t)) H') : sp__law_is_side ([v, .int d] ++ []) H Q E := ⟨v, t, d, Z, rfl, r, hb, hR, q⟩
def sp_is_length : Sp := fun vs H Q _ => ∃ (v : V) (t : Tr) (Z : Hp), vs = [v] ∧ Rep Z H v t ∧ bd3 300 t ∧ ∀ H', Same H H' → Q (.bl (lenT t)) H'
theorem c_is_length {v : V} {t : Tr} {Z H : Hp} {Q : VK} {E : XK} (r : Rep Z H v t) (hb : bd3 300 t) (q : ∀ H', Same H H' → Q (.bl (lenT t)) H') : sp_is_length ([v] ++ []) H Q E := ⟨v, t, Z, rfl, r, hb, q⟩
def sp__law_thing : Sp := fun vs H Q _ => ∃ c k d : Int, vs = [.int c, .int k, .int d] ∧ (0 ≤ k ∧ k ≤ 800) ∧ (2 ≤ d ∧ d ≤ 99) ∧ ∀ (v : V) (H' : Hp), Same H H' → Rep H H' v (thT c k d) → bd3 300 (thT c k d) → Q v H'
theorem c__law_thing {c k d : Int} {H : Hp} {Q : VK} {E : XK} (hk : 0 ≤ k ∧ k ≤ 800) (hd : 2 ≤ d ∧ d ≤ 99) (q : ∀ (v : V) (H' : Hp), Same H H' → Rep H H' v (thT c k d) → bd3 300 (thT c k d) → Q v H') : sp__law_thing ([.int c, .int k, .int d] ++ []) H Q E := ⟨c, k, d, rfl, hk, hd, q⟩
def sp__law_is_heap : Sp := fun vs H Q _ => ∃ (v : V) (t : Tr) (d : Int) (Z : Hp), vs = [v, .int d] ∧ Rep Z H v t ∧ (∀ l : List Tr, t = .li l → ∀ u ∈ l, ∀ x y : Tr, u = .tu [x, y] → bd3 300 x ∧ bd3 300 y) ∧ Rt d ∧ ∀ H', Same H H' → Q (.bl (heapT d t)) H'
theorem c__law_is_heap {v : V} {t : Tr} {d : Int} {Z H : Hp} {Q : VK} {E : XK} (r : Rep Z H v t) (hb : (∀ l : List Tr, t = .li l → ∀ u ∈ l, ∀ x y : Tr, u = .tu [x, y] → bd3 300 x ∧ bd3 300 y)) (hR : Rt d) (q : ∀ H', Same H H' → Q (.bl (heapT d t)) H') : sp__law_is_heap ([v, .int d] ++ []) H Q E := ⟨v, t, d, Z, rfl, r, hb, hR, q⟩
def sp_is_side : Sp := fun vs H Q _ => ∃ (d : Int) (v : V) (t : Tr) (Z : Hp), vs = [.int d, v] ∧ Rep Z H v t ∧ bd3 300 t ∧ Bd 64 d ∧ ∀ H', Same H H' → Q (.bl (sideT d t)) H'
theorem c_is_side {d : Int} {v : V} {t : Tr} {Z H : Hp} {Q : VK} {E : XK} (r : Rep Z H v t) (hb : bd3 300 t) (hd : Bd 64 d) (q : ∀ H', Same H H' → Q (.bl (sideT d t)) H') : sp_is_side ([.int d, v] ++ []) H Q E := ⟨d, v, t, Z, rfl, r, hb, hd, q⟩
def sp__law_heap : Sp := fun vs H Q _ => ∃ c d : Int, vs = [.int c, .int d] ∧ (2 ≤ d ∧ d ≤ 99) ∧ ∀ (v : V) (H' : Hp), Same H H' → Rep H H' v (hpT c d) → HB c d → Q v H'
theorem c__law_heap {c d : Int} {H : Hp} {Q : VK} {E : XK} (hd : 2 ≤ d ∧ d ≤ 99) (q : ∀ (v : V) (H' : Hp), Same H H' → Rep H H' v (hpT c d) → HB c d → Q v H') : sp__law_heap ([.int c, .int d] ++ []) H Q E := ⟨c, d, rfl, hd, q⟩
def sp_is_board : Sp := fun vs H Q _ => ∃ (d : Int) (v : V) (t : Tr) (Z : Hp), vs = [.int d, v] ∧ Rep Z H v t ∧ (∀ x y : Tr, t = .tu [x, y] → bd3 300 x ∧ bd3 300 y) ∧ Bd 64 d ∧ ∀ H', Same H H' → Q (.bl (boardT d t)) H'
theorem c_is_board {d : Int} {v : V} {t : Tr} {Z H : Hp} {Q : VK} {E : XK} (r : Rep Z H v t) (hb : (∀ x y : Tr, t = .tu [x, y] → bd3 300 x ∧ bd3 300 y)) (hd : Bd 64 d) (q : ∀ H', Same H H' → Q (.bl (boardT d t)) H') : sp_is_board ([.int d, v] ++ []) H Q E := ⟨d, v, t, Z, rfl, r, hb, hd, q⟩
def sp_board (cs : Cs) : Sp := fun vs H Q E => ∃ (d : Int) (w h : V) (tw th : Tr) (Z : Hp), vs = [.int d, w, h] ∧ Rep Z H w tw ∧ Rep Z H h th ∧ (bd3 300 tw ∧ bd3 300 th) ∧ Bd 64 d ∧ ((sideT d tw && sideT d th) = true → ∀ p H', Same H H' → H' p = some (.tup [w, h]) → Q (.ref p) H') ∧ ((sideT d tw && sideT d th) = false → ∀ H', Same H H' → E (.ref cs.NoBoard) none H')
theorem c_board {cs : Cs} {d : Int} {w h : V} {tw th : Tr} {Z H : Hp} {Q : VK} {E : XK} (rw' : Rep Z H w tw) (rh : Rep Z H h th) (hb : bd3 300 tw ∧ bd3 300 th) (hd : Bd 64 d) (q : (sideT d tw && sideT d th) = true → ∀ p H', Same H H' → H' p = some (.tup [w, h]) → Q (.ref p) H') (qe : (sideT d tw && sideT d th) = false → ∀ H', Same H H' → E (.ref cs.NoBoard) none H') : sp_board cs ([.int d, w, h] ++ []) H Q E := ⟨d, w, h, tw, th, Z, rfl, rw', rh, hb, hd, q, qe⟩
def sp_is_heap : Sp := fun vs H Q _ => ∃ (d : Int) (v : V) (t : Tr) (Z : Hp), vs = [.int d, v] ∧ Rep Z H v t ∧ (∀ l : List Tr, t = .li l → ∀ u ∈ l, ∀ x y : Tr, u = .tu [x, y] → bd3 300 x ∧ bd3 300 y) ∧ (∀ l : List Tr, t = .li l → l.length ≤ 500) ∧ Bd 64 d ∧ ∀ H', Same H H' → Q (.bl (heapT d t)) H'
theorem c_is_heap {d : Int} {v : V} {t : Tr} {Z H : Hp} {Q : VK} {E : XK} (r : Rep Z H v t) (hb : (∀ l : List Tr, t = .li l → ∀ u ∈ l, ∀ x y : Tr, u = .tu [x, y] → bd3 300 x ∧ bd3 300 y)) (hlen : ∀ l : List Tr, t = .li l → l.length ≤ 500) (hd : Bd 64 d) (q : ∀ H', Same H H' → Q (.bl (heapT d t)) H') : sp_is_heap ([.int d, v] ++ []) H Q E := ⟨d, v, t, Z, rfl, r, hb, hlen, hd, q⟩
def sp__law_board : Sp := fun vs H Q _ => ∃ (d : Int) (w h : V) (tw th : Tr) (Z : Hp), vs = [.int d, w, h] ∧ Rep Z H w tw ∧ Rep Z H h th ∧ (bd3 300 tw ∧ bd3 300 th) ∧ Bd 64 d ∧ ((sideT d tw && sideT d th) = true → ∀ p H', Same H H' → H' p = some (.tup [w, h]) → Q (.ref p) H') ∧ ((sideT d tw && sideT d th) = false → ∀ H', Same H H' → Q (.int 1) H')
theorem c__law_board {d : Int} {w h : V} {tw th : Tr} {Z H : Hp} {Q : VK} {E : XK} (rw' : Rep Z H w tw) (rh : Rep Z H h th) (hb : bd3 300 tw ∧ bd3 300 th) (hd : Bd 64 d) (q : (sideT d tw && sideT d th) = true → ∀ p H', Same H H' → H' p = some (.tup [w, h]) → Q (.ref p) H') (qe : (sideT d tw && sideT d th) = false → ∀ H', Same H H' → Q (.int 1) H') : sp__law_board ([.int d, w, h] ++ []) H Q E := ⟨d, w, h, tw, th, Z, rfl, rw', rh, hb, hd, q, qe⟩
theorem sc_is_whole : FnScope ["thing"] ["thing"] (defScope s_is_whole) := ⟨rfl, rfl, rfl, by decide +kernel, rfl, by decide +kernel, by decide +kernel⟩
theorem sc_common_divisor : FnScope ["one", "other", "pair", "rest"] ["one", "other"] (defScope s_common_divisor) := ⟨rfl, rfl, rfl, by decide +kernel, rfl, by decide +kernel, by decide +kernel⟩
theorem sc_with_sign_of : FnScope ["divisor", "bottom"] ["divisor", "bottom"] (defScope s_with_sign_of) := ⟨rfl, rfl, rfl, by decide +kernel, rfl, by decide +kernel, by decide +kernel⟩
theorem sc_is_above_nought : FnScope ["d", "a", "b"] ["d", "a", "b"] (defScope s_is_above_nought) := ⟨rfl, rfl, rfl, by decide +kernel, rfl, by decide +kernel, by decide +kernel⟩
theorem sc__law_mix : FnScope ["_law_cell", "_law_k", "_law_number"] ["_law_cell", "_law_k"] (defScope s__law_mix) := ⟨rfl, rfl, rfl, by decide +kernel, rfl, by decide +kernel, by decide +kernel⟩
theorem sc__law_whole : FnScope ["_law_found"] ["_law_found"] (defScope s__law_whole) := ⟨rfl, rfl, rfl, by decide +kernel, rfl, by decide +kernel, by decide +kernel⟩
theorem sc__law_low : FnScope ["_law_a", "_law_b", "_law_n", "_law_one", "_law_other"] ["_law_a", "_law_b", "_law_n"] (defScope s__law_low) := ⟨rfl, rfl, rfl, by decide +kernel, rfl, by decide +kernel, by decide +kernel⟩
theorem sc__law_sign : FnScope ["_law_d", "_law_a", "_law_b"] ["_law_d", "_law_a", "_law_b"] (defScope s__law_sign) := ⟨rfl, rfl, rfl, by decide +kernel, rfl, by decide +kernel, by decide +kernel⟩
theorem sc__law_root : FnScope ["_law_cell", "_law_some"] ["_law_cell"] (defScope s__law_root) := ⟨rfl, rfl, rfl, by decide +kernel, rfl, by decide +kernel, by decide +kernel⟩
theorem sc__law_kinds : FnScope ["_law_e", "_law_kinds_here"] ["_law_e"] (defScope s__law_kinds) := ⟨rfl, rfl, rfl, by decide +kernel, rfl, by decide +kernel, by decide +kernel⟩
theorem sc_length : FnScope ["a", "b", "n", "divisor"] ["a", "b", "n"] (defScope s_length) := ⟨rfl, rfl, rfl, by decide +kernel, rfl, by decide +kernel, by decide +kernel⟩
theorem sc_under : FnScope ["d", "one", "other"] ["d", "one", "other"] (defScope s_under) := ⟨rfl, rfl, rfl, by decide +kernel, rfl, by decide +kernel, by decide +kernel⟩
theorem sc__law_side : FnScope ["_law_cell", "_law_k", "_law_d", "_law_n", "_law_b", "_law_way", "_law_a"] ["_law_cell", "_law_k", "_law_d"] (defScope s__law_side) := ⟨rfl, rfl, rfl, by decide +kernel, rfl, by decide +kernel, by decide +kernel⟩
theorem sc__law_below : FnScope ["_law_cell", "_law_k", "_law_d", "_law_b", "_law_a"] ["_law_cell", "_law_k", "_law_d"] (defScope s__law_below) := ⟨rfl, rfl, rfl, by decide +kernel, rfl, by decide +kernel, by decide +kernel⟩
theorem sc__law_is_side : FnScope ["_law_thing_here", "_law_d", "_law_number"] ["_law_thing_here", "_law_d"] (defScope s__law_is_side) := ⟨rfl, rfl, rfl, by decide +kernel, rfl, by decide +kernel, by decide +kernel⟩
theorem sc_is_length : FnScope ["thing"] ["thing"] (defScope s_is_length) := ⟨rfl, rfl, rfl, by decide +kernel, rfl, by decide +kernel, by decide +kernel⟩
theorem sc__law_thing : FnScope ["_law_cell", "_law_k", "_law_d", "_law_one", "_law_a", "_law_b", "_law_n", "_law_some"] ["_law_cell", "_law_k", "_law_d"] (defScope s__law_thing) := ⟨rfl, rfl, rfl, by decide +kernel, rfl, by decide +kernel, by decide +kernel⟩
theorem sc__law_is_heap : FnScope ["_law_thing_here", "_law_d", "_law_one"] ["_law_thing_here", "_law_d"] (defScope s__law_is_heap) := ⟨rfl, rfl, rfl, by decide +kernel, rfl, by decide +kernel, by decide +kernel⟩
theorem sc_is_side : FnScope ["d", "thing"] ["d", "thing"] (defScope s_is_side) := ⟨rfl, rfl, rfl, by decide +kernel, rfl, by decide +kernel, by decide +kernel⟩
theorem sc__law_heap : FnScope ["_law_cell", "_law_d", "_law_some", "_law_way", "_law_at", "_law_one"] ["_law_cell", "_law_d"] (defScope s__law_heap) := ⟨rfl, rfl, rfl, by decide +kernel, rfl, by decide +kernel, by decide +kernel⟩
theorem sc_is_board : FnScope ["d", "thing"] ["d", "thing"] (defScope s_is_board) := ⟨rfl, rfl, rfl, by decide +kernel, rfl, by decide +kernel, by decide +kernel⟩
theorem sc_board : FnScope ["d", "width", "height", "made"] ["d", "width", "height"] (defScope s_board) := ⟨rfl, rfl, rfl, by decide +kernel, rfl, by decide +kernel, by decide +kernel⟩
theorem sc_is_heap : FnScope ["d", "thing"] ["d", "thing"] (defScope s_is_heap) := ⟨rfl, rfl, rfl, by decide +kernel, rfl, by decide +kernel, by decide +kernel⟩
theorem sc__law_board : FnScope ["_law_d", "_law_width", "_law_height", "_law_found", "_law_error", "_law_e"] ["_law_d", "_law_width", "_law_height"] (defScope s__law_board) := ⟨rfl, rfl, rfl, by decide +kernel, rfl, by decide +kernel, by decide +kernel⟩
theorem sc_law : FnScope ["_law_script", "_law_d", "_law_cell", "_law_width", "_law_height", "_law_due", "_law_found", "_law_some", "_law_told"] ["_law_script"] (defScope s_law) := ⟨rfl, rfl, rfl, by decide +kernel, rfl, by decide +kernel, by decide +kernel⟩
section
variable {P : Program} {w : World} {K : PySem.W.Frag} {mg : Str → Option Value} {base : Heap} {cs : Cs}
set_option maxHeartbeats 4000000 in
theorem ok_is_whole {f : Addr} {fd : FuncData} (F : Fun K "is_whole" "is_whole" s_is_whole f fd) (B : Bl mg)   : FnOk P w K mg base CX0 1 f fd ["thing"] sp_is_whole := by
  refine F.ok (k := 0) sc_is_whole (fun vs H Q E h => ?_) (fun cdv A outer s H vs Q E hr h => ?_)
  · obtain ⟨x, t, rfl, k, q⟩ := h
    rfl
  obtain ⟨x, t, rfl, k, q⟩ := h
  refine ⟨_, (pss_one (ps_ret (pe_and (pe_callB call_isinst rfl B.isinstance bt_isinstance (pa_cons (pv 0) (pa_cons (pe_bltn (v := .ty "int") rfl B.int bt_int rfl) pa_nil))) (pe_one (pe_not (pe_callB call_isinst rfl B.isinstance bt_isinstance (pa_cons (pv 0) (pa_cons (pe_bltn (v := .ty "bool") rfl B.bool bt_bool rfl) pa_nil)))))))), ?_⟩
  rw [show start ["thing"] [x] = [some (x)] from rfl]
  cases k with
  | non => (repeat walk_at "rd"); refine i_isK .non (b := false) (by decide +kernel) ?_; (repeat walk_at "rd"); exact q
  | bl b => (repeat walk_at "rd"); refine i_isK (.bl b) (b := true) (by decide +kernel) ?_; (repeat walk_at "rd"); exact q
  | int i => (repeat walk_at "rd"); exact q
  | str z => (repeat walk_at "rd"); refine i_isK (.str z) (b := false) (by decide +kernel) ?_; (repeat walk_at "rd"); exact q
  | lst e => (repeat walk_at "rd"); refine i_isK (.lst e) (b := false) (by decide +kernel) ?_; (repeat walk_at "rd"); exact q
  | tup e => (repeat walk_at "rd"); refine i_isK (.tup e) (b := false) (by decide +kernel) ?_; (repeat walk_at "rd"); exact q
  | dK e => (repeat walk_at "rd"); refine i_isK (.dK e) (b := false) (by decide +kernel) ?_; (repeat walk_at "rd"); exact q
set_option maxHeartbeats 4000000 in
theorem ok_common_divisor {f : Addr} {fd : FuncData} (F : Fun K "common_divisor" "common_divisor" s_common_divisor f fd) (B : Bl mg) (g_GREAT_BITS : TopI mg "GREAT_BITS" (8192))  : FnOk P w K mg base CX0 1 f fd ["one", "other"] sp_common_divisor := by
  obtain ⟨u_GREAT_BITS, m_GREAT_BITS, r_GREAT_BITS⟩ := g_GREAT_BITS
  refine F.ok (k := 0) sc_common_divisor (fun vs H Q E h => ?_) (fun cdv A outer s H vs Q E hr h => ?_)
  · obtain ⟨a, b, rfl, hb, q⟩ := h
    rfl
  obtain ⟨a, b, rfl, hb, q⟩ := h
  refine ⟨_, (pss_cons (ps_if (pt_cmpR op_gt (pe_bm0 PySem.F.plainAttrs_int PySem.F.slot_int_bit_length PySem.F.type_int_bit_length mt_bits (pv 1)) (pe_glob (v := .int (8192)) rfl m_GREAT_BITS r_GREAT_BITS) (nomark _)) pss_never pss_nil) (pss_cons (ps_while PassesOwn.never (pt_cmpR op_ne (pv 1) pe_int (nomark _)) (pss_cons (ps_set (i := 3) sc_common_divisor.nd rfl (Or.inl rfl) (pe_op op_modN (pv 0) (pv 1))) (pss_cons (ps_set (i := 0) sc_common_divisor.nd rfl (Or.inl rfl) (pv 1)) (pss_one (ps_set (i := 1) sc_common_divisor.nd rfl (Or.inl rfl) (pv 3)))))) (pss_one (ps_ret (pe_callB call_absR rfl B.abs bt_abs (pa_cons (pv 0) pa_nil)))))), ?_⟩
  rw [show start ["one", "other", "pair", "rest"] [.int a, .int b] = [some (.int a), some (.int b), none, none] from rfl]
  repeat walk_at "rd"
  refine if_d (fun c => absurd c (bits_le hb)) (fun _ => ?_)
  repeat walk_at "rd"
  refine while_by (fun σ' H' => ∃ (x y : Int) (r : Option V), σ' = [some (.int x), some (.int y), none, r] ∧ H' = H ∧ Int.gcd x y = Int.gcd a b) (fun σ' _ => match σ' with | [_, some (.int y), _, _] => y.natAbs | _ => 0) ⟨a, b, none, rfl, rfl, rfl⟩ ?_ ?_
  · rintro σ' H' ⟨x, y, r, rfl, rfl, hg⟩
    repeat walk_at "rd"
    refine if_nd (fun c => ?_) (fun c => ?_)
    · repeat walk_at "rd"
      exact ⟨⟨y, x.fmod y, _, rfl, rfl, (gcd_fmod x y).trans hg⟩, fmod_lt c⟩
    · repeat walk_at "rd"
      have e : (if x < 0 then -x else x) = ((Int.gcd a b : Nat) : Int) := by
        rw [← hg, c, Int.gcd_zero_right]
        split <;> omega
      rw [e]
      exact q
  · intro σ H Q Q' hq h
    obtain ⟨v, e, hs, k, e2, z⟩ := h
    exact ⟨v, e, hs, k, e2, hq _ _ z⟩
set_option maxHeartbeats 4000000 in
theorem ok_with_sign_of {f : Addr} {fd : FuncData} (F : Fun K "with_sign_of" "with_sign_of" s_with_sign_of f fd) (B : Bl mg)   : FnOk P w K mg base CX0 1 f fd ["divisor", "bottom"] sp_with_sign_of := by
  refine F.ok (k := 0) sc_with_sign_of (fun vs H Q E h => ?_) (fun cdv A outer s H vs Q E hr h => ?_)
  · obtain ⟨g, n, rfl, q⟩ := h
    rfl
  obtain ⟨g, n, rfl, q⟩ := h
  refine ⟨_, (pss_one (ps_ret (pe_ifExp (pt_cmpR op_lt (pv 1) pe_int (nomark _)) (pe_un un_neg (pv 0)) (pv 0)))), ?_⟩
  rw [show start ["divisor", "bottom"] [.int g, .int n] = [some (.int g), some (.int n)] from rfl]
  repeat walk_at "rd"
  refine if_d (fun c => ?_) (fun c => ?_)
  · repeat walk_at "rd"
    rw [if_pos c] at q
    exact q
  · repeat walk_at "rd"
    rw [if_neg c] at q
    exact q
set_option maxHeartbeats 4000000 in
theorem ok_is_above_nought {f : Addr} {fd : FuncData} (F : Fun K "is_above_nought" "is_above_nought" s_is_above_nought f fd) (B : Bl mg)   : FnOk P w K mg base CX0 1 f fd ["d", "a", "b"] sp_is_above_nought := by
  refine F.ok (k := 0) sc_is_above_nought (fun vs H Q E h => ?_) (fun cdv A outer s H vs Q E hr h => ?_)
  · obtain ⟨d, a, b, rfl, hd, ha, hb, q⟩ := h
    rfl
  obtain ⟨d, a, b, rfl, hd, ha, hb, q⟩ := h
  refine ⟨_, (pss_cons (ps_if (PW.pt (pw_and (pt_cmpR op_ge (pv 1) pe_int (nomark _)) (pw_and1 (pt_cmpR op_ge (pv 2) pe_int (nomark _))))) (pss_one (ps_ret (pe_or (pe_cmpR op_gt (pv 1) pe_int (nomark _)) (pe_one (pe_cmpR op_gt (pv 2) pe_int (nomark _)))))) pss_nil) (pss_cons (ps_if (PW.pt (pw_and (pt_cmpR op_le (pv 1) pe_int (nomark _)) (pw_and1 (pt_cmpR op_le (pv 2) pe_int (nomark _))))) (pss_one (ps_ret pe_bl)) pss_nil) (pss_cons (ps_if (pt_cmpR op_gt (pv 1) pe_int (nomark _)) (pss_one (ps_ret (pe_cmpR op_gt (pe_op op_mulB (pv 1) (pv 1)) (pe_op op_mulB (pe_op op_mulB (pv 0) (pv 2)) (pv 2)) (nomark _)))) pss_nil) (pss_one (ps_ret (pe_cmpR op_gt (pe_op op_mulB (pe_op op_mulB (pv 0) (pv 2)) (pv 2)) (pe_op op_mulB (pv 1) (pv 1)) (nomark _))))))), ?_⟩
  rw [show start ["d", "a", "b"] [.int d, .int a, .int b] = [some (.int d), some (.int a), some (.int b)] from rfl]
  repeat walk_at "rd"
  refine if_d (fun c1 => ?_) (fun c1 => ?_)
  · repeat walk_at "rd"
    refine if_d (fun c2 => ?_) (fun c2 => ?_)
    · repeat walk_at "rd"
      refine if_d (fun c3 => ?_) (fun c3 => ?_)
      · exact bl_q (Eq.symm (decide_eq_true (by unfold sgn; rw [if_pos ⟨c1, c2⟩, if_pos (by omega)]; decide))) q
      · repeat walk_at "rd"
        exact bl_q (decide_eq_decide.mpr (by unfold sgn; rw [if_pos ⟨c1, c2⟩]; split <;> omega)) q
    · repeat walk_at "rd"
      refine if_d (fun c3 => ?_) (fun c3 => ?_)
      · repeat walk_at "rd"
        refine if_d (fun c4 => ?_) (fun c4 => ?_)
        · repeat walk_at "rd"
          exact bl_q (Eq.symm (decide_eq_false (by unfold sgn; rw [if_neg (by omega), if_pos ⟨c3, c4⟩]; decide))) q
        · omega
      · repeat walk_at "rd"
        refine if_d (fun c4 => ?_) (fun c4 => ?_)
        · repeat walk_at "rd"
          exact bl_q (decide_eq_decide.mpr (by unfold sgn; rw [if_neg (by omega), if_neg (by omega), if_pos c4]; split <;> omega)) q
        · omega
  · repeat walk_at "rd"
    refine if_d (fun c3 => ?_) (fun c3 => ?_)
    · repeat walk_at "rd"
      refine if_d (fun c4 => ?_) (fun c4 => ?_)
      · repeat walk_at "rd"
        exact bl_q (Eq.symm (decide_eq_false (by unfold sgn; rw [if_neg (by omega), if_pos ⟨c3, c4⟩]; decide))) q
      · repeat walk_at "rd"
        refine if_d (fun c5 => ?_) (fun c5 => ?_)
        · omega
        · repeat walk_at "rd"
          exact bl_q (decide_eq_decide.mpr (by unfold sgn; rw [if_neg (by omega), if_neg (by omega), if_neg c5]; split <;> omega)) q
    · omega
set_option maxHeartbeats 4000000 in
theorem ok__law_mix {f : Addr} {fd : FuncData} (F : Fun K "_law_mix" "_law_mix" s__law_mix f fd) (B : Bl mg)   : FnOk P w K mg base CX0 1 f fd ["_law_cell", "_law_k"] sp__law_mix := by
  refine F.ok (k := 0) sc__law_mix (fun vs H Q E h => ?_) (fun cdv A outer s H vs Q E hr h => ?_)
  · obtain ⟨c, k, rfl, k0, k1, q⟩ := h
    rfl
  obtain ⟨c, k, rfl, k0, k1, q⟩ := h
  refine ⟨_, (pss_cons (ps_set (i := 2) sc__law_mix.nd rfl (Or.inl rfl) (pe_op op_mod (pe_op op_mulB (pe_op op_add (pe_op op_add (pe_op op_mod (pv 0) pe_int) (pe_op op_mulB pe_int (pv 1))) pe_int) pe_int) pe_int)) (pss_one (ps_ret (pe_op op_mod (pe_op op_mulB (pv 2) (pv 2)) pe_int)))), ?_⟩
  rw [show start ["_law_cell", "_law_k", "_law_number"] [.int c, .int k] = [some (.int c), some (.int k), none] from rfl]
  have kb : Bd 20 k := bd_small 20 (by omega) (by omega) (by decide)
  have cb : Bd 40 (c % 2147483647) := bd_range (B := 2147483647) (by omega) (by omega) (by decide +kernel)
  repeat walk_at "rd"
  obtain ⟨n, hn, n0, n1⟩ : ∃ n : Int, (c % 2147483647 + 48271 * k + 1) * 69621 % 2147483629 = n ∧ 0 ≤ n ∧ n < 2147483629 := ⟨_, rfl, by omega, by omega⟩
  rw [hn]
  have nb : Bd 40 n := bd_range (B := 2147483629) n0 (by omega) (by decide +kernel)
  repeat walk_at "rd"
  exact q _ (Int.emod_nonneg _ (by decide)) (Int.emod_lt_of_pos _ (by decide)) (by unfold mixF; rw [hn])
set_option maxHeartbeats 4000000 in
theorem ok__law_whole {f : Addr} {fd : FuncData} (F : Fun K "_law_whole" "_law_whole" s__law_whole f fd) (B : Bl mg)   : FnOk P w K mg base CX0 1 f fd ["_law_found"] sp__law_whole := by
  refine F.ok (k := 0) sc__law_whole (fun vs H Q E h => ?_) (fun cdv A outer s H vs Q E hr h => ?_)
  · obtain ⟨x, t, rfl, k, q⟩ := h
    rfl
  obtain ⟨x, t, rfl, k, q⟩ := h
  refine ⟨_, (pss_one (ps_ret (pe_and (pe_callB call_isinst rfl B.isinstance bt_isinstance (pa_cons (pv 0) (pa_cons (pe_bltn (v := .ty "int") rfl B.int bt_int rfl) pa_nil))) (pe_one (pe_not (pe_callB call_isinst rfl B.isinstance bt_isinstance (pa_cons (pv 0) (pa_cons (pe_bltn (v := .ty "bool") rfl B.bool bt_bool rfl) pa_nil)))))))), ?_⟩
  rw [show start ["_law_found"] [x] = [some (x)] from rfl]
  cases k with
  | non => (repeat walk_at "rd"); refine i_isK .non (b := false) (by decide +kernel) ?_; (repeat walk_at "rd"); exact q
  | bl b => (repeat walk_at "rd"); refine i_isK (.bl b) (b := true) (by decide +kernel) ?_; (repeat walk_at "rd"); exact q
  | int i => (repeat walk_at "rd"); exact q
  | str z => (repeat walk_at "rd"); refine i_isK (.str z) (b := false) (by decide +kernel) ?_; (repeat walk_at "rd"); exact q
  | lst e => (repeat walk_at "rd"); refine i_isK (.lst e) (b := false) (by decide +kernel) ?_; (repeat walk_at "rd"); exact q
  | tup e => (repeat walk_at "rd"); refine i_isK (.tup e) (b := false) (by decide +kernel) ?_; (repeat walk_at "rd"); exact q
  | dK e => (repeat walk_at "rd"); refine i_isK (.dK e) (b := false) (by decide +kernel) ?_; (repeat walk_at "rd"); exact q
theorem gcd_pos3 (a b n : Int) : (Int.gcd (Int.gcd n a) b : Int) = ((g3 a b n : Nat) : Int) := rfl
theorem abs_nat (x : Int) : (if x < 0 then -x else x) = ((x.natAbs : Nat) : Int) := by split <;> omega
set_option maxHeartbeats 4000000 in
theorem ok__law_low {f : Addr} {fd : FuncData} (F : Fun K "_law_low" "_law_low" s__law_low f fd) (B : Bl mg)   : FnOk P w K mg base CX0 1 f fd ["_law_a", "_law_b", "_law_n"] sp__law_low := by
  refine F.ok (k := 0) sc__law_low (fun vs H Q E h => ?_) (fun cdv A outer s H vs Q E hr h => ?_)
  · obtain ⟨a, b, n, rfl, hn, hb, q⟩ := h
    rfl
  obtain ⟨a, b, n, rfl, hn, hb, q⟩ := h
  refine ⟨_, (pss_cons (ps_set (i := 3) sc__law_low.nd rfl (Or.inl rfl) (pe_callB call_absR rfl B.abs bt_abs (pa_cons (pv 2) pa_nil))) (pss_cons (ps_for PassesOwn.never rfl (pi_list (pe_lst (pa_cons (pe_callB call_absR rfl B.abs bt_abs (pa_cons (pv 0) pa_nil)) (pa_cons (pe_callB call_absR rfl B.abs bt_abs (pa_cons (pv 1) pa_nil)) pa_nil)))) (pg_name (i := 4) sc__law_low.nd rfl (Or.inl rfl)) (pss_one (ps_while PassesOwn.never (pt_cmpR op_ne (pv 4) pe_int (nomark _)) (pss_one (ps_par (i := 3) (j := 4) rfl sc__law_low.nd rfl rfl (by decide) rfl rfl (pa_cons (pv 4) (pa_cons (pe_op op_mod (pv 3) (pv 4)) pa_nil)) rfl))))) (pss_cons (ps_cut (ps_if (pt_cmpR op_lt (pv 2) pe_int (nomark _)) (pss_one (ps_set (i := 3) sc__law_low.nd rfl (Or.inl rfl) (pe_op op_sub pe_int (pv 3)))) pss_nil)) (pss_one (ps_ret (pe_tup (pa_cons (pe_op op_fdivB (pv 0) (pv 3)) (pa_cons (pe_op op_fdivB (pv 1) (pv 3)) (pa_cons (pe_op op_fdivB (pv 2) (pv 3)) pa_nil))))))))), ?_⟩
  rw [show start ["_law_a", "_law_b", "_law_n", "_law_one", "_law_other"] [.int a, .int b, .int n] = [some (.int a), some (.int b), some (.int n), none, none] from rfl]
  have hc : ∀ x, CFd x (gd a b n) := fun x => ⟨gd_ne hn, Nat.lt_of_le_of_lt (gd_bd hn hb).log (by decide)⟩
  repeat walk_at "rd"
  refine i_forL ?_
  repeat walk_at "rd"
  refine i_newL (by simp) fun l H1 s1 e1 => ?_
  refine ⟨l, rfl, ⟨_, SqL.of e1⟩, for_list (K := K) (a := l) (xs := [.int (if a < 0 then -a else a), .int (if b < 0 then -b else b)]) (fun i σ H' => ∃ (v : Option V), σ = [some (.int a), some (.int b), some (.int n), some (.int (if i = 0 then (if n < 0 then -n else n) else if i = 1 then ((Int.gcd n a : Nat) : Int) else ((g3 a b n : Nat) : Int))), v] ∧ H' = H1) ⟨none, rfl, rfl⟩ (fun i σ H' _ ⟨_, _, e⟩ => by rw [e]; exact SqL.of e1) ?_ ?_⟩
  · rintro i t σ H' hi ⟨v, rfl, rfl⟩
    have hi2 : i < 2 := (List.getElem?_eq_some_iff.mp hi).1
    obtain ⟨x0, y0, G, rfl, hone, hG, hx0, hy0⟩ : ∃ (x0 y0 : Int) (G : Nat), t = .int y0 ∧ (if i = 0 then (if n < 0 then -n else n) else if i = 1 then ((Int.gcd n a : Nat) : Int) else ((g3 a b n : Nat) : Int)) = x0 ∧ (Int.gcd x0 y0 = G ∧ (if i + 1 = 0 then (if n < 0 then -n else n) else if i + 1 = 1 then ((Int.gcd n a : Nat) : Int) else ((g3 a b n : Nat) : Int)) = (G : Int)) ∧ 0 ≤ x0 ∧ 0 ≤ y0 := by
      have : i = 0 ∨ i = 1 := by omega
      rcases this with rfl | rfl
      · refine ⟨_, _, _, (Option.some.inj hi).symm, rfl, ⟨gcd_abs2 n a, rfl⟩, ?_, ?_⟩
        · show (0 : Int) ≤ if n < 0 then -n else n
          split <;> omega
        · split <;> omega
      · refine ⟨_, _, _, (Option.some.inj hi).symm, rfl, ⟨?_, rfl⟩, ?_, ?_⟩
        · show Int.gcd ((Int.gcd n a : Nat) : Int) (if b < 0 then -b else b) = g3 a b n
          rw [abs_nat, Int.gcd_eq_natAbs_gcd_natAbs, Int.natAbs_natCast]
          unfold g3
          rw [Int.gcd_eq_natAbs_gcd_natAbs (Int.gcd n a : Int)]
          simp
        · show (0 : Int) ≤ ((Int.gcd n a : Nat) : Int)
          omega
        · split <;> omega
    rw [hone]
    repeat walk_at "rd"
    refine while_d (fun σ' H2 => ∃ x y : Int, σ' = [some (.int a), some (.int b), some (.int n), some (.int x), some (.int y)] ∧ H2 = H' ∧ 0 ≤ x ∧ 0 ≤ y ∧ Int.gcd x y = G) (fun σ' _ => match σ' with | [_, _, _, _, some (.int y)] => y.natAbs | _ => 0) ⟨x0, y0, rfl, rfl, hx0, hy0, hG.1⟩ ?_
    rintro σ' H2 ⟨x, y, rfl, rfl, hx, hy, hg⟩
    repeat walk_at "rd"
    refine if_nd (fun c => ?_) (fun c => ?_)
    · have y0' : 0 < y := by omega
      refine wgo ?_
      repeat walk_at "rd"
      refine ⟨⟨y, x % y, rfl, rfl, hy, Int.emod_nonneg _ (by omega), (gcd_emod x y).trans hg⟩, ?_⟩
      have h1 := Int.emod_nonneg x (show y ≠ 0 by omega)
      have h2 := Int.emod_lt_of_pos x y0'
      show (x % y).natAbs < y.natAbs
      omega
    · repeat walk_at "rd"
      have e : x = (G : Int) := by
        rw [← hg, c, Int.gcd_zero_right]
        omega
      exact ⟨_, by rw [hG.2, e], rfl⟩
  · rintro σ H' ⟨v, rfl, rfl⟩
    repeat walk_at "rd"
    refine i_cut (T := fun σ' H2 => ∃ v, σ' = [some (.int a), some (.int b), some (.int n), some (.int (gd a b n)), v] ∧ H2 = H') ?_ ?_
    · repeat walk_at "rd"
      refine if_d (fun c => ?_) (fun c => ?_)
      · repeat walk_at "rd"
        refine ⟨v, ?_, rfl⟩
        have e : (0 : Int) - ((g3 a b n : Nat) : Int) = gd a b n := by
          unfold gd
          rw [if_pos c]
          omega
        rw [← e]
        rfl
      · repeat walk_at "rd"
        refine ⟨v, ?_, rfl⟩
        have e : ((g3 a b n : Nat) : Int) = gd a b n := by
          unfold gd
          rw [if_neg c]
        rw [← e]
        rfl
    rintro σ' H2 ⟨v, rfl, rfl⟩
    repeat walk_at "rd"
    · exact i_newT (by simp) fun p H' s e => q p H' (s1.trans s) e
    all_goals exact hc _
theorem above_last {d a b : Int} (hR : Rt d) (n1 : ¬ (0 ≤ a ∧ 0 ≤ b)) (n2 : ¬ (a ≤ 0 ∧ b ≤ 0)) : decide (decide (0 < a) = decide (d * b * b < a * a)) = decide (0 < sgn d a b) := by
  by_cases ha0 : 0 < a
  · rw [sgn_pa ha0 (by omega), decide_eq_true ha0]
    by_cases z : d * b * b < a * a
    · rw [decide_eq_true z, if_pos z]; rfl
    · rw [decide_eq_false z, if_neg z]; rfl
  · rw [sgn_pb (by omega) (by omega), decide_eq_false ha0]
    have ne : a * a ≠ d * b * b := fun e => by
      have := irr hR e
      omega
    by_cases z : d * b * b < a * a
    · rw [decide_eq_true z, if_neg (show ¬ a * a < d * b * b by omega)]; rfl
    · rw [decide_eq_false z, if_pos (show a * a < d * b * b by omega)]; rfl
set_option maxHeartbeats 4000000 in
theorem ok__law_sign {f : Addr} {fd : FuncData} (F : Fun K "_law_sign" "_law_sign" s__law_sign f fd) (B : Bl mg)   : FnOk P w K mg base CX0 1 f fd ["_law_d", "_law_a", "_law_b"] sp__law_sign := by
  refine F.ok (k := 0) sc__law_sign (fun vs H Q E h => ?_) (fun cdv A outer s H vs Q E hr h => ?_)
  · obtain ⟨d, a, b, rfl, hR, ba, bb, q⟩ := h
    rfl
  obtain ⟨d, a, b, rfl, hR, ba, bb, q⟩ := h
  refine ⟨_, (pss_cons (ps_if (PW.pt (pw_and (pt_cmpR op_ge (pv 1) pe_int (nomark _)) (pw_and1 (pt_cmpR op_ge (pv 2) pe_int (nomark _))))) (pss_one (ps_ret (pe_callTy call_intR rfl B.int bt_int (pa_cons (pe_or (pe_cmpR op_gt (pv 1) pe_int (nomark _)) (pe_one (pe_cmpR op_gt (pv 2) pe_int (nomark _)))) pa_nil)))) pss_nil) (pss_cons (ps_if (PW.pt (pw_and (pt_cmpR op_le (pv 1) pe_int (nomark _)) (pw_and1 (pt_cmpR op_le (pv 2) pe_int (nomark _))))) (pss_one (ps_ret (pe_un un_neg pe_int))) pss_nil) (pss_one (ps_ret (pe_ix ix_list (pe_lst (pa_cons (pe_un un_neg pe_int) (pa_cons pe_int pa_nil))) (pe_callTy call_intR rfl B.int bt_int (pa_cons (pe_cmpR op_eq (pe_cmpR op_gt (pe_op op_mulB (pv 1) (pv 1)) (pe_op op_mulB (pe_op op_mulB (pv 0) (pv 2)) (pv 2)) (nomark _)) (pe_cmpR op_gt (pv 1) pe_int (nomark _)) (nomark _)) pa_nil)) (fun _ _ => rfl)))))), ?_⟩
  rw [show start ["_law_d", "_law_a", "_law_b"] [.int d, .int a, .int b] = [some (.int d), some (.int a), some (.int b)] from rfl]
  have dlo := hR.lo
  have dhi := hR.hi
  have hd : Bd 64 d := bd_range (B := 99) (by omega) hR.hi (by decide +kernel)
  have last : ∀ (n1 : ¬ (0 ≤ a ∧ 0 ≤ b)) (n2 : ¬ (a ≤ 0 ∧ b ≤ 0)) (z : Int), z = (if decide (decide (d * b * b < a * a) = decide (0 < a)) = true then 1 else -1) → decide (0 < z) = decide (0 < sgn d a b) := fun n1 n2 z hz => by
    rw [← above_last hR n1 n2, hz]
    cases decide (d * b * b < a * a) <;> cases decide (0 < a) <;> decide
  repeat walk_at "rd"
  refine if_d (fun c1 => ?_) (fun c1 => ?_)
  · repeat walk_at "rd"
    refine if_d (fun c2 => ?_) (fun c2 => ?_)
    · repeat walk_at "rd"
      refine if_d (fun c3 => ?_) (fun c3 => ?_)
      · repeat walk_at "rd"
        exact q _ H (Same.refl H) (by rw [sgn_nn c1 c2, if_pos (show 0 < a + b by omega)]; rfl)
      · repeat walk_at "rd"
        refine q _ H (Same.refl H) (decide_eq_decide.mpr ?_)
        rw [sgn_nn c1 c2]
        by_cases hb : 0 < b
        · rw [if_pos (decide_eq_true hb), if_pos (show 0 < a + b by omega)]
        · rw [if_neg (by rw [decide_eq_false hb]; decide), if_neg (show ¬ 0 < a + b by omega)]
    · repeat walk_at "rd"
      refine if_d (fun c3 => ?_) (fun c3 => ?_)
      · repeat walk_at "rd"
        refine if_d (fun c4 => ?_) (fun c4 => ?_)
        · repeat walk_at "rd"
          exact q _ H (Same.refl H) (by rw [sgn_np (by omega) c3 c4])
        · omega
      · repeat walk_at "rd"
        refine i_newL (by simp) fun l H1 s1 e1 => ?_
        repeat walk_at "rd"
        exact i_ixL e1 pickS (q _ H1 s1 (last (by omega) (by omega) _ rfl))
  · repeat walk_at "rd"
    refine if_d (fun c3 => ?_) (fun c3 => ?_)
    · repeat walk_at "rd"
      refine if_d (fun c4 => ?_) (fun c4 => ?_)
      · repeat walk_at "rd"
        exact q _ H (Same.refl H) (by rw [sgn_np (by omega) c3 c4])
      · repeat walk_at "rd"
        refine i_newL (by simp) fun l H1 s1 e1 => ?_
        repeat walk_at "rd"
        exact i_ixL e1 pickS (q _ H1 s1 (last (by omega) (by omega) _ rfl))
    · omega
set_option maxHeartbeats 4000000 in
theorem ok__law_root {f : Addr} {fd : FuncData} (F : Fun K "_law_root" "_law_root" s__law_root f fd) (B : Bl mg)   : FnOk P w K mg base CX0 1 f fd ["_law_cell"] sp__law_root := by
  refine F.ok (k := 0) sc__law_root (fun vs H Q E h => ?_) (fun cdv A outer s H vs Q E hr h => ?_)
  · obtain ⟨c, rfl, q⟩ := h
    rfl
  obtain ⟨c, rfl, q⟩ := h
  refine ⟨_, (pss_cons (ps_setC (i := 1) sc__law_root.nd rfl rfl ["_law_d"] [] rfl (pi_range2 rfl B.range (pa_cons pe_int (pa_cons pe_int pa_nil))) (fun _ _ _ _ _ => (pg_name (i := 0) (show List.Nodup (α := Str) ["_law_d"] by decide +kernel) rfl (Or.inl rfl))) (fun _ _ _ _ _ => (pifs_one (pt_cmpR (r := rIn K true) op_notIn_seq (pv 0) (pe_lst (pa_cons pe_int (pa_cons pe_int (pa_cons pe_int (pa_cons pe_int (pa_cons pe_int (pa_cons pe_int (pa_cons pe_int (pa_cons pe_int pa_nil))))))))) (by with_unfolding_all rfl)))) (fun _ _ _ _ _ => (pv 0))) (pss_one (ps_ret (pe_ix ix_list (pv 1) (pe_op op_mod (pv 0) pe_int) (fun _ _ => rfl))))), ?_⟩
  rw [show start ["_law_cell", "_law_some"] [.int c] = [some (.int c), none] from rfl]
  repeat walk_at "rd"
  refine i_compR2 ?_
  repeat walk_at "rd"
  refine ⟨2, 100, rfl, by decide, fun D hD => comp_range (fun i xs σ' H' => (∃ v, σ' = [v]) ∧ xs = (rootsTo i).map V.int ∧ H' D = some (.lst xs) ∧ SameX D H H') ⟨⟨none, rfl⟩, rfl, upd_same, fun b o e n => by rw [upd_ne n]; exact e⟩ ?_ ?_⟩
  · rintro i xs σ' H' hi ⟨⟨v, rfl⟩, rfl, eD, sx⟩
    have hi : i < 98 := hi
    repeat walk_at "rd"
    refine i_newL (by simp) fun p H2 s2 e2 => ?_
    refine i_notinL e2 rfl rfl ?_
    rw [inV_sqs]
    repeat walk_at "rd"
    have hlen : (rootsTo i).length ≤ i := Nat.le_trans (List.length_filter_le ..) (by simp)
    by_cases hs : sqs.contains ((2 : Int) + (i : Int)) = true
    · rw [hs]
      repeat walk_at "rd"
      refine cnext hi ⟨⟨_, rfl⟩, rfl, ?_, sx.trans (s2.sameX D)⟩
      rw [rootsTo_succ, if_pos hs, List.append_nil]
      exact s2 _ _ eD
    · rw [Bool.not_eq_true _ |>.mp hs]
      repeat walk_at "rd"
      refine i_append (s2 _ _ eD) (by rw [List.length_map]; omega) fun H3 sx3 e3 => ?_
      refine cnext hi ⟨⟨_, rfl⟩, rfl, ?_, (sx.trans (s2.sameX D)).trans sx3⟩
      rw [rootsTo_succ, if_neg hs, List.map_append]
      exact e3
  · rintro xs σ' H' ⟨_, rfl, eD, sx⟩
    have eD : H' D = some (.lst ((rootsTo 98).map V.int)) := eD
    have s' : Same H H' := fun b o e => sx b o e (ne_of_none e hD)
    repeat walk_at "rd"
    obtain ⟨d, hd, e⟩ := atI_in (xs := rootsTo 98) (i := c % 90) (by omega) (by rw [roots_len]; omega)
    exact i_ixL eD e (q d H' (rootsTo_rt (Nat.le_refl _) hd) s')
set_option maxHeartbeats 4000000 in
theorem ok__law_kinds {f : Addr} {fd : FuncData} (F : Fun K "_law_kinds" "_law_kinds" s__law_kinds f fd) (B : Bl mg) (X : Xs K mg cs)  : FnOk P w K mg base CX0 1 f fd ["_law_e"] (sp__law_kinds cs) := by
  refine F.ok (k := 0) sc__law_kinds (fun vs H Q E h => ?_) (fun cdv A outer s H vs Q E hr h => ?_)
  · obtain ⟨a, rfl, ea, q⟩ := h
    rfl
  obtain ⟨a, rfl, ea, q⟩ := h
  refine ⟨_, (pss_cons (ps_set (i := 1) sc__law_kinds.nd rfl (Or.inl rfl) (pe_lst (pa_cons (pe_callB call_isinstX rfl B.isinstance bt_isinstance (pa_cons (pv 0) (pa_cons (pe_glob (v := .ref cs.NoLength) rfl X.m_NoLength rfl) pa_nil))) (pa_cons (pe_callB call_isinstX rfl B.isinstance bt_isinstance (pa_cons (pv 0) (pa_cons (pe_glob (v := .ref cs.NoBoard) rfl X.m_NoBoard rfl) pa_nil))) (pa_cons (pe_callB call_isinstX rfl B.isinstance bt_isinstance (pa_cons (pv 0) (pa_cons (pe_glob (v := .ref cs.NoText) rfl X.m_NoText rfl) pa_nil))) (pa_cons (pe_callB call_isinstX rfl B.isinstance bt_isinstance (pa_cons (pv 0) (pa_cons (pe_glob (v := .ref cs.NoDeed) rfl X.m_NoDeed rfl) pa_nil))) pa_nil)))))) (pss_cons (ps_set (i := 1) sc__law_kinds.nd rfl (Or.inl rfl) (pe_op op_cat (pv 1) (pe_lst (pa_cons (pe_callB call_isinstX rfl B.isinstance bt_isinstance (pa_cons (pv 0) (pa_cons (pe_glob (v := .ref cs.NoName) rfl X.m_NoName rfl) pa_nil))) (pa_cons (pe_callB call_isinstX rfl B.isinstance bt_isinstance (pa_cons (pv 0) (pa_cons (pe_glob (v := .ref cs.Grain) rfl X.m_Grain rfl) pa_nil))) (pa_cons (pe_callB call_isinstX rfl B.isinstance bt_isinstance (pa_cons (pv 0) (pa_cons (pe_glob (v := .ref cs.Unfit) rfl X.m_Unfit rfl) pa_nil))) (pa_cons (pe_callB call_isinstX rfl B.isinstance bt_isinstance (pa_cons (pv 0) (pa_cons (pe_glob (v := .ref cs.TooMany) rfl X.m_TooMany rfl) pa_nil))) pa_nil))))))) (pss_cons (ps_set (i := 1) sc__law_kinds.nd rfl (Or.inl rfl) (pe_op op_cat (pv 1) (pe_lst (pa_cons (pe_callB call_isinstX rfl B.isinstance bt_isinstance (pa_cons (pv 0) (pa_cons (pe_glob (v := .ref cs.NoRow) rfl X.m_NoRow rfl) pa_nil))) (pa_cons (pe_callB call_isinstX rfl B.isinstance bt_isinstance (pa_cons (pv 0) (pa_cons (pe_glob (v := .ref cs.Apart) rfl X.m_Apart rfl) pa_nil))) pa_nil))))) (pss_cons (ps_if (PW.pt (pw_or (pt_not (pt_val (pe_callB call_isinstX rfl B.isinstance bt_isinstance (pa_cons (pv 0) (pa_cons (pe_bltn (v := .ty "ValueError") rfl B.ValueError bt_ValueError rfl) pa_nil))))) (pw_or1 (pt_cmpR op_ne (pe_bm PySem.F.plainAttrs_list PySem.F.slot_list_count PySem.F.type_list_count mt_countB (pv 1) (pa_cons pe_bl pa_nil)) pe_int (nomark _))))) (pss_one (ps_ret (pe_un un_neg pe_int))) pss_nil) (pss_one (ps_ret (pe_bm PySem.F.plainAttrs_list PySem.F.slot_list_index PySem.F.type_list_index mt_indexB (pv 1) (pa_cons pe_bl pa_nil)))))))), ?_⟩
  rw [show start ["_law_e", "_law_kinds_here"] [.ref a] = [some (.ref a), none] from rfl]
  repeat walk_at "rd"
  refine i_isX ea X.o_NoBoard rfl X.k_NoBoard_NoLength ?_
  repeat walk_at "rd"
  refine i_isX ea X.o_NoBoard rfl X.k_NoBoard_NoBoard ?_
  repeat walk_at "rd"
  refine i_isX ea X.o_NoBoard rfl X.k_NoBoard_NoText ?_
  repeat walk_at "rd"
  refine i_isX ea X.o_NoBoard rfl X.k_NoBoard_NoDeed ?_
  repeat walk_at "rd"
  refine i_newL (by simp) fun l1 H1 s1 e1 => ?_
  have ea := s1 _ _ ea
  repeat walk_at "rd"
  refine i_isX ea X.o_NoBoard rfl X.k_NoBoard_NoName ?_
  repeat walk_at "rd"
  refine i_isX ea X.o_NoBoard rfl X.k_NoBoard_Grain ?_
  repeat walk_at "rd"
  refine i_isX ea X.o_NoBoard rfl X.k_NoBoard_Unfit ?_
  repeat walk_at "rd"
  refine i_isX ea X.o_NoBoard rfl X.k_NoBoard_TooMany ?_
  repeat walk_at "rd"
  refine i_newL (by simp) fun l2 H2 s2 e2 => ?_
  have ea := s2 _ _ ea
  refine i_cat (s2 _ _ e1) e2 (by simp) fun l3 H3 s3 e3 => ?_
  have ea := s3 _ _ ea
  repeat walk_at "rd"
  refine i_isX ea X.o_NoBoard rfl X.k_NoBoard_NoRow ?_
  repeat walk_at "rd"
  refine i_isX ea X.o_NoBoard rfl X.k_NoBoard_Apart ?_
  repeat walk_at "rd"
  refine i_newL (by simp) fun l4 H4 s4 e4 => ?_
  have ea := s4 _ _ ea
  refine i_cat (s4 _ _ e3) e4 (by simp) fun l5 H5 s5 e5 => ?_
  have ea := s5 _ _ ea
  repeat walk_at "rd"
  refine i_isX ea X.o_NoBoard rfl X.k_NoBoard_ValueError ?_
  have e5 : H5 l5 = some (.lst (([false, true, false, false, false, false, false, false, false, false] : List Bool).map V.bl)) := e5
  repeat walk_at "rd"
  refine ⟨l5, _, rfl, rfl, SqL.of e5, ?_⟩
  repeat walk_at "rd"
  refine if_ne (by rfl) ?_
  repeat walk_at "rd"
  refine ⟨l5, _, 1, rfl, rfl, SqL.of e5, rfl, fun m hm => ?_, by decide, ?_⟩
  · have : m = 0 := by omega
    subst this
    rfl
  exact q H5 ((((s1.trans s2).trans s3).trans s4).trans s5)
set_option maxHeartbeats 4000000 in
theorem ok_length {f : Addr} {fd : FuncData} {its : List Value} (F : FunD K "length" "length" s_length f fd its) (B : Bl mg)  (o_with_sign_of : Own P w K mg base 1 "with_sign_of" ["divisor", "bottom"] [] sp_with_sign_of) (o_common_divisor : Own P w K mg base 1 "common_divisor" ["one", "other"] [] sp_common_divisor) (o_is_whole : Own P w K mg base 1 "is_whole" ["thing"] [] sp_is_whole) : FnOk P w K mg base CX0 2 f fd ["a", "b", "n"] sp_length := by
  refine F.ok (k := 1) sc_length (fun vs H Q E h => ?_) (fun cdv A outer s H vs Q E hr h => ?_)
  · obtain ⟨a, b, n, rfl, hn, hb, ⟨ha8, hb8⟩, q⟩ := h
    rfl
  obtain ⟨a, b, n, rfl, hn, hb, ⟨ha8, hb8⟩, q⟩ := h
  refine ⟨_, (pss_cons (ps_if (pt_not (PW.pt (pw_and (pt_val (pe_own o_is_whole hr rfl (pa_cons (pv 0) pa_nil))) (pw_and (pt_val (pe_own o_is_whole hr rfl (pa_cons (pv 1) pa_nil))) (pw_and1 (pt_val (pe_own o_is_whole hr rfl (pa_cons (pv 2) pa_nil)))))))) (pss_one ps_never) pss_nil) (pss_cons (ps_if (pt_cmpR op_eq (pv 2) pe_int (nomark _)) (pss_one ps_never) pss_nil) (pss_cons (ps_set (i := 3) sc_length.nd rfl (Or.inl rfl) (pe_own o_with_sign_of hr rfl (pa_cons (pe_own o_common_divisor hr rfl (pa_cons (pe_own o_common_divisor hr rfl (pa_cons (pv 2) (pa_cons (pv 0) pa_nil))) (pa_cons (pv 1) pa_nil))) (pa_cons (pv 2) pa_nil)))) (pss_one (ps_ret (pe_tup (pa_cons (pe_op op_fdivB (pv 0) (pv 3)) (pa_cons (pe_op op_fdivB (pv 1) (pv 3)) (pa_cons (pe_op op_fdivB (pv 2) (pv 3)) pa_nil))))))))), ?_⟩
  rw [show start ["a", "b", "n", "divisor"] [.int a, .int b, .int n] = [some (.int a), some (.int b), some (.int n), none] from rfl]
  have hc : ∀ x, CFd x (gd a b n) := fun x => ⟨gd_ne hn, Nat.lt_of_le_of_lt (gd_bd hn hb).log (by decide)⟩
  repeat walk_at "rd"
  refine if_d (fun c => absurd c hn) (fun _ => ?_)
  repeat walk_at "rd"
  · exact i_newT (by simp) fun p H' s e => q p H' s e
  all_goals exact hc _
set_option maxHeartbeats 4000000 in
theorem ok_under {f : Addr} {fd : FuncData} (F : Fun K "under" "under" s_under f fd) (B : Bl mg)  (o_is_above_nought : Own P w K mg base 1 "is_above_nought" ["d", "a", "b"] [] sp_is_above_nought) : FnOk P w K mg base CX0 2 f fd ["d", "one", "other"] (sp_under K) := by
  refine F.ok (k := 1) sc_under (fun vs H Q E h => ?_) (fun cdv A outer s H vs Q E hr h => ?_)
  · obtain ⟨d, p, p', x, y, z, x', y', z', rfl, h1, h2, hd, ⟨b1, b2, b3, b4, b5, b6⟩, q⟩ := h
    rfl
  obtain ⟨d, p, p', x, y, z, x', y', z', rfl, h1, h2, hd, ⟨b1, b2, b3, b4, b5, b6⟩, q⟩ := h
  refine ⟨_, (pss_one (ps_ret (pe_own o_is_above_nought hr rfl (pa_cons (pv 0) (pa_cons (pe_op op_sub (pe_op op_mulB (pe_ix ix_tup (pv 2) pe_int (fun _ _ => rfl)) (pe_ix ix_tup (pv 1) pe_int (fun _ _ => rfl))) (pe_op op_mulB (pe_ix ix_tup (pv 1) pe_int (fun _ _ => rfl)) (pe_ix ix_tup (pv 2) pe_int (fun _ _ => rfl)))) (pa_cons (pe_op op_sub (pe_op op_mulB (pe_ix ix_tup (pv 2) pe_int (fun _ _ => rfl)) (pe_ix ix_tup (pv 1) pe_int (fun _ _ => rfl))) (pe_op op_mulB (pe_ix ix_tup (pv 1) pe_int (fun _ _ => rfl)) (pe_ix ix_tup (pv 2) pe_int (fun _ _ => rfl)))) pa_nil)))))), ?_⟩
  rw [show start ["d", "one", "other"] [.int d, .ref p, .ref p'] = [some (.int d), some (.ref p), some (.ref p')] from rfl]
  repeat walk_at "rd"
  exact c_is_above_nought hd (Bd.mono (by walk_at "bd") (by decide +kernel)) (Bd.mono (by walk_at "bd") (by decide +kernel)) q
set_option maxHeartbeats 4000000 in
theorem ok__law_side {f : Addr} {fd : FuncData} (F : Fun K "_law_side" "_law_side" s__law_side f fd) (B : Bl mg)  (o__law_low : Own P w K mg base 1 "_law_low" ["_law_a", "_law_b", "_law_n"] [] sp__law_low) (o__law_mix : Own P w K mg base 1 "_law_mix" ["_law_cell", "_law_k"] [] sp__law_mix) : FnOk P w K mg base CX0 2 f fd ["_law_cell", "_law_k", "_law_d"] sp__law_side := by
  refine F.ok (k := 1) sc__law_side (fun vs H Q E h => ?_) (fun cdv A outer s H vs Q E hr h => ?_)
  · obtain ⟨c, k, d, rfl, ⟨k0, k1⟩, ⟨d0, d1⟩, q⟩ := h
    rfl
  obtain ⟨c, k, d, rfl, ⟨k0, k1⟩, ⟨d0, d1⟩, q⟩ := h
  refine ⟨_, (pss_cons (ps_set (i := 3) sc__law_side.nd rfl (Or.inl rfl) (pe_op op_add pe_int (pe_op op_mod (pe_own o__law_mix hr rfl (pa_cons (pv 0) (pa_cons (pv 1) pa_nil))) pe_int))) (pss_cons (ps_set (i := 4) sc__law_side.nd rfl (Or.inl rfl) (pe_op op_sub (pe_op op_mod (pe_own o__law_mix hr rfl (pa_cons (pv 0) (pa_cons (pe_op op_add (pv 1) pe_int) pa_nil))) pe_int) pe_int)) (pss_cons (ps_set (i := 5) sc__law_side.nd rfl (Or.inl rfl) (pe_op op_mod (pe_own o__law_mix hr rfl (pa_cons (pv 0) (pa_cons (pe_op op_add (pv 1) pe_int) pa_nil))) pe_int)) (pss_cons (ps_cut (ps_if (pt_cmpR op_eq (pv 5) pe_int (nomark _)) (pss_one (ps_set (i := 4) sc__law_side.nd rfl (Or.inl rfl) pe_int)) pss_nil)) (pss_cons (ps_cut (ps_if (pt_cmpR op_eq (pv 5) pe_int (nomark _)) (pss_cons (ps_set (i := 4) sc__law_side.nd rfl (Or.inl rfl) (pe_op op_mulB (pe_op op_mulB (pv 4) (pe_own o__law_mix hr rfl (pa_cons (pv 0) (pa_cons (pe_op op_add (pv 1) pe_int) pa_nil)))) (pe_own o__law_mix hr rfl (pa_cons (pv 0) (pa_cons (pe_op op_add (pv 1) pe_int) pa_nil))))) (pss_one (ps_set (i := 3) sc__law_side.nd rfl (Or.inl rfl) (pe_op op_add pe_int (pe_op op_mod (pe_own o__law_mix hr rfl (pa_cons (pv 0) (pa_cons (pe_op op_add (pv 1) pe_int) pa_nil))) (pe_op op_powB pe_int pe_int)))))) pss_nil)) (pss_cons (ps_set (i := 6) sc__law_side.nd rfl (Or.inl rfl) (pe_op op_mod (pe_own o__law_mix hr rfl (pa_cons (pv 0) (pa_cons (pe_op op_add (pv 1) pe_int) pa_nil))) pe_int)) (pss_cons (ps_cut (ps_if (pt_cmpR op_lt (pv 4) pe_int (nomark _)) (pss_one (ps_set (i := 6) sc__law_side.nd rfl (Or.inl rfl) (pe_op op_add (pv 6) (pe_op op_mulB pe_int (pe_callB call_absR rfl B.abs bt_abs (pa_cons (pv 4) pa_nil)))))) pss_nil)) (pss_cons (ps_cut (ps_if (PW.pt (pw_and (pt_cmpR op_eq (pv 5) pe_int (nomark _)) (pw_and1 (pt_cmpR op_lt (pv 4) pe_int (nomark _))))) (pss_cons (ps_set (i := 6) sc__law_side.nd rfl (Or.inl rfl) pe_int) (pss_one (ps_while PassesOwn.never (pt_cmpR op_lt (pe_op op_mulB (pv 6) (pv 6)) (pe_op op_mulB (pe_op op_mulB (pv 2) (pv 4)) (pv 4)) (nomark _)) (pss_one (ps_set (i := 6) sc__law_side.nd rfl (Or.inl rfl) (pe_op op_add (pv 6) pe_int)))))) pss_nil)) (pss_cons (ps_cut (ps_if (PW.pt (pw_and (pt_cmpR op_eq (pv 5) pe_int (nomark _)) (pw_and1 (pt_cmpR op_gt (pv 4) pe_int (nomark _))))) (pss_one (ps_set (i := 6) sc__law_side.nd rfl (Or.inl rfl) (pe_op op_sub pe_int (pv 4)))) pss_nil)) (pss_cons (ps_cut (ps_if (PW.pt (pw_and (pt_cmpR op_eq (pv 6) pe_int (nomark _)) (pw_and1 (pt_cmpR op_le (pv 4) pe_int (nomark _))))) (pss_one (ps_set (i := 6) sc__law_side.nd rfl (Or.inl rfl) pe_int)) pss_nil)) (pss_one (ps_ret (pe_own o__law_low hr rfl (pa_cons (pv 6) (pa_cons (pv 4) (pa_cons (pv 3) pa_nil)))))))))))))))), ?_⟩
  rw [show start ["_law_cell", "_law_k", "_law_d", "_law_n", "_law_b", "_law_way", "_law_a"] [.int c, .int k, .int d] = [some (.int c), some (.int k), some (.int d), none, none, none, none] from rfl]
  have e9 : (10 : Int) ^ (9 : Int).toNat = 1000000000 := by decide +kernel
  have hd : Bd 7 d := bd_range (by omega) d1 (by decide)
  repeat walk_at "rd"
  refine c__law_mix (by omega) (by omega) fun m0 m00 m01 em0 => ?_
  repeat walk_at "rd"
  refine c__law_mix (by omega) (by omega) fun m1 m10 m11 em1 => ?_
  repeat walk_at "rd"
  refine c__law_mix (by omega) (by omega) fun m2 m20 m21 em2 => ?_
  repeat walk_at "rd"
  refine i_cut (T := fun σ' H' => ∃ (n b : Int) (v : Option V), σ' = [some (.int c), some (.int k), some (.int d), some (.int n), some (.int b), some (.int (m2 % 6)), v] ∧ H' = H ∧ 1 ≤ n ∧ n ≤ 12 ∧ -9 ≤ b ∧ b ≤ 9 ∧ n = 1 + m0 % 12 ∧ b = (if m2 % 6 = 0 then 0 else m1 % 19 - 9)) ?_ ?_
  · repeat walk_at "rd"
    refine if_d (fun c => ?_) (fun c => ?_)
    · repeat walk_at "rd"
      exact ⟨_, _, _, rfl, rfl, by omega, by omega, by omega, by omega, rfl, (if_pos c).symm⟩
    · repeat walk_at "rd"
      exact ⟨_, _, _, rfl, rfl, by omega, by omega, by omega, by omega, rfl, (if_neg c).symm⟩
  rintro σ' H' ⟨n, b, v, rfl, rfl, n0, n1, b0, b1, en, eb⟩
  have bb : Bd 20 b := bd_small 20 (by omega) (by omega) (by decide)
  repeat walk_at "rd"
  refine i_cut (T := fun σ' H2 => ∃ (n b : Int) (v : Option V), σ' = [some (.int c), some (.int k), some (.int d), some (.int n), some (.int b), some (.int (m2 % 6)), v] ∧ H2 = H' ∧ 1 ≤ n ∧ n ≤ 1000000000 ∧ Bd 84 b ∧ (m2 % 6 ≠ 1 → -9 ≤ b ∧ b ≤ 9) ∧ n = sN c k ∧ b = sB c k) ?_ ?_
  · repeat walk_at "rd"
    refine if_d (fun c1 => ?_) (fun c1 => ?_)
    · repeat walk_at "rd"
      refine c__law_mix (by omega) (by omega) fun m3 m30 m31 em3 => ?_
      have x3 : Bd 32 m3 := bd_range (B := 2147483587) m30 (by omega) (by decide +kernel)
      repeat walk_at "rd"
      refine c__law_mix (by omega) (by omega) fun m4 m40 m41 em4 => ?_
      have x4 : Bd 32 m4 := bd_range (B := 2147483587) m40 (by omega) (by decide +kernel)
      repeat walk_at "rd"
      refine c__law_mix (by omega) (by omega) fun m5 m50 m51 em5 => ?_
      repeat walk_at "rd"
      rw [e9]
      refine ⟨_, _, _, rfl, rfl, by omega, by omega, (bb.mul x3).mul x4, fun z => absurd c1 z, ?_, ?_⟩
      · unfold sN; rw [← em2, if_pos c1, em5]
      · unfold sB; rw [← em2, if_pos c1, eb, if_neg (by omega), ← em1, ← em3, ← em4]
    · repeat walk_at "rd"
      refine ⟨_, _, _, rfl, rfl, by omega, by omega, bb.mono (by decide), fun _ => ⟨b0, b1⟩, ?_, ?_⟩
      · unfold sN; rw [← em2, if_neg c1, en, em0]
      · unfold sB; rw [← em2, if_neg c1, eb, em1]
  rintro σ' H2 ⟨n, b, v, rfl, rfl, n0, n1, bb, bs, en, eb⟩
  repeat walk_at "rd"
  refine c__law_mix (by omega) (by omega) fun m6 m60 m61 em6 => ?_
  repeat walk_at "rd"
  have x6 : Bd 20 (m6 % 10) := bd_small 20 (by omega) (by omega) (by decide)
  refine i_cut (T := fun σ' H3 => ∃ (a : Int), σ' = [some (.int c), some (.int k), some (.int d), some (.int n), some (.int b), some (.int (m2 % 6)), some (.int a)] ∧ H3 = H2 ∧ Bd 120 a ∧ a = (if b < 0 then mixF c (k + 6) % 10 + 10 * (if b < 0 then -b else b) else mixF c (k + 6) % 10)) ?_ ?_
  · repeat walk_at "rd"
    refine if_d (fun c1 => ?_) (fun c1 => ?_)
    · repeat walk_at "rd"
      exact ⟨_, rfl, rfl, Bd.mono (bd_addx x6 ((bd_self 10).mul bb.abs)) (by decide +kernel), by rw [← em6, if_pos c1, if_pos c1]⟩
    · repeat walk_at "rd"
      exact ⟨_, rfl, rfl, x6.mono (by decide), by rw [if_neg c1, ← em6]⟩
  rintro σ' H3 ⟨a, rfl, rfl, ba, ea1⟩
  repeat walk_at "rd"
  refine i_cut (T := fun σ' H4 => ∃ (a : Int), σ' = [some (.int c), some (.int k), some (.int d), some (.int n), some (.int b), some (.int (m2 % 6)), some (.int a)] ∧ H4 = H3 ∧ Bd 120 a ∧ a = (if m2 % 6 = 2 ∧ b < 0 then upF (d * b * b) else (if b < 0 then mixF c (k + 6) % 10 + 10 * (if b < 0 then -b else b) else mixF c (k + 6) % 10))) ?_ ?_
  · repeat walk_at "rd"
    refine if_d (fun c1 => ?_) (fun c1 => ?_)
    · repeat walk_at "rd"
      refine if_d (fun c2 => ?_) (fun c2 => ?_)
      · have hbs := bs (by omega)
        have hdb : d * b * b ≤ 99 * 81 := by
          have h1 : b * b ≤ 81 := by
            have : (-b) * (-b) ≤ 9 * 9 := Int.mul_le_mul (by omega) (by omega) (by omega) (by omega)
            rw [Int.neg_mul_neg] at this
            omega
          have h2 : d * (b * b) ≤ 99 * 81 := Int.mul_le_mul d1 h1 (sq_nn b) (by omega)
          rw [Int.mul_assoc]
          exact h2
        repeat walk_at "rd"
        refine while_d (fun σ' H5 => ∃ a : Int, σ' = [some (.int c), some (.int k), some (.int d), some (.int n), some (.int b), some (.int (m2 % 6)), some (.int a)] ∧ H5 = H3 ∧ 1 ≤ a ∧ a ≤ 9000 ∧ (a = 1 ∨ (a - 1) * (a - 1) < d * b * b)) (fun σ' _ => match σ' with | [_, _, _, _, _, _, some (.int a)] => (10000 - a).toNat | _ => 0) ⟨1, rfl, rfl, by omega, by omega, .inl rfl⟩ ?_
        rintro σ' H5 ⟨a, rfl, rfl, a0, a1, a2⟩
        have ba : Bd 20 a := bd_small 20 (by omega) (by omega) (by decide)
        have haa : a ≤ a * a := by
          have := Int.mul_le_mul_of_nonneg_left a0 (show 0 ≤ a by omega)
          omega
        repeat walk_at "rd"
        refine if_d (fun c3 => ?_) (fun c3 => ?_)
        · refine wgo ?_
          repeat walk_at "rd"
          refine ⟨⟨a + 1, rfl, rfl, by omega, by omega, .inr (by rw [Int.add_sub_cancel]; exact c3)⟩, ?_⟩
          show (10000 - (a + 1)).toNat < (10000 - a).toNat
          omega
        · repeat walk_at "rd"
          exact ⟨a, rfl, rfl, ba.mono (by decide), by rw [if_pos ⟨c1, c2⟩, upF_eq (isUp_of a0 (by omega) a2)]⟩
      · repeat walk_at "rd"
        exact ⟨a, rfl, rfl, ba, by rw [if_neg (fun z => c2 z.2)]; exact ea1⟩
    · repeat walk_at "rd"
      exact ⟨a, rfl, rfl, ba, by rw [if_neg (fun z => c1 z.1)]; exact ea1⟩
  rintro σ' H4 ⟨a, rfl, rfl, ba, ea2⟩
  repeat walk_at "rd"
  refine i_cut (T := fun σ' H5 => ∃ (a : Int), σ' = [some (.int c), some (.int k), some (.int d), some (.int n), some (.int b), some (.int (m2 % 6)), some (.int a)] ∧ H5 = H4 ∧ Bd 120 a ∧ a = (if m2 % 6 = 3 ∧ 0 < b then 0 - b else (if m2 % 6 = 2 ∧ b < 0 then upF (d * b * b) else (if b < 0 then mixF c (k + 6) % 10 + 10 * (if b < 0 then -b else b) else mixF c (k + 6) % 10)))) ?_ ?_
  · repeat walk_at "rd"
    refine if_d (fun c1 => ?_) (fun c1 => ?_)
    · repeat walk_at "rd"
      refine if_d (fun c2 => ?_) (fun c2 => ?_)
      · repeat walk_at "rd"
        exact ⟨_, rfl, rfl, Bd.mono (bd_subx (bd_self 0) bb) (by decide +kernel), by rw [if_pos ⟨c1, c2⟩]⟩
      · repeat walk_at "rd"
        exact ⟨a, rfl, rfl, ba, by rw [if_neg (fun z => c2 z.2)]; exact ea2⟩
    · repeat walk_at "rd"
      exact ⟨a, rfl, rfl, ba, by rw [if_neg (fun z => c1 z.1)]; exact ea2⟩
  rintro σ' H5 ⟨a, rfl, rfl, ba, ea3⟩
  repeat walk_at "rd"
  refine i_cut (T := fun σ' H6 => ∃ (a : Int), σ' = [some (.int c), some (.int k), some (.int d), some (.int n), some (.int b), some (.int (m2 % 6)), some (.int a)] ∧ H6 = H5 ∧ Bd 120 a ∧ a = (if (if m2 % 6 = 3 ∧ 0 < b then 0 - b else (if m2 % 6 = 2 ∧ b < 0 then upF (d * b * b) else (if b < 0 then mixF c (k + 6) % 10 + 10 * (if b < 0 then -b else b) else mixF c (k + 6) % 10))) = 0 ∧ b ≤ 0 then 1 else (if m2 % 6 = 3 ∧ 0 < b then 0 - b else (if m2 % 6 = 2 ∧ b < 0 then upF (d * b * b) else (if b < 0 then mixF c (k + 6) % 10 + 10 * (if b < 0 then -b else b) else mixF c (k + 6) % 10))))) ?_ ?_
  · repeat walk_at "rd"
    refine if_d (fun c1 => ?_) (fun c1 => ?_)
    · repeat walk_at "rd"
      refine if_d (fun c2 => ?_) (fun c2 => ?_)
      · repeat walk_at "rd"
        exact ⟨_, rfl, rfl, by decide +kernel, by rw [← ea3, if_pos ⟨c1, c2⟩]⟩
      · repeat walk_at "rd"
        exact ⟨a, rfl, rfl, ba, by rw [← ea3, if_neg (fun z => c2 z.2)]⟩
    · repeat walk_at "rd"
      exact ⟨a, rfl, rfl, ba, by rw [← ea3, if_neg (fun z => c1 z.1)]⟩
  rintro σ' H6 ⟨a, rfl, rfl, ba, ea4⟩
  have ea : a = sA c k d := by
    unfold sA
    rw [← eb, ← em2]
    exact ea4
  have bn : Bd 60 n := bd_range (B := 1000000000) (by omega) n1 (by decide +kernel)
  repeat walk_at "rd"
  refine c__law_low (by omega) (bn.mono (by decide)) fun r H7 s7 e7 => ?_
  exact q r H7 _ _ _ s7 e7 ⟨(ba.mono (by decide)).fdiv _, (bb.mono (by decide)).fdiv _, (bn.mono (by decide)).fdiv _, l_n (by omega), l_gcd (by omega)⟩ (by rw [ea, eb, en]; exact ⟨rfl, rfl, rfl⟩)
set_option maxHeartbeats 4000000 in
theorem ok__law_below {f : Addr} {fd : FuncData} (F : Fun K "_law_below" "_law_below" s__law_below f fd) (B : Bl mg)  (o__law_low : Own P w K mg base 1 "_law_low" ["_law_a", "_law_b", "_law_n"] [] sp__law_low) (o__law_mix : Own P w K mg base 1 "_law_mix" ["_law_cell", "_law_k"] [] sp__law_mix) : FnOk P w K mg base CX0 2 f fd ["_law_cell", "_law_k", "_law_d"] sp__law_below := by
  refine F.ok (k := 1) sc__law_below (fun vs H Q E h => ?_) (fun cdv A outer s H vs Q E hr h => ?_)
  · obtain ⟨c, k, d, rfl, ⟨k0, k1⟩, ⟨d0, d1⟩, q⟩ := h
    rfl
  obtain ⟨c, k, d, rfl, ⟨k0, k1⟩, ⟨d0, d1⟩, q⟩ := h
  refine ⟨_, (pss_cons (ps_set (i := 3) sc__law_below.nd rfl (Or.inl rfl) (pe_op op_add pe_int (pe_op op_mod (pe_own o__law_mix hr rfl (pa_cons (pv 0) (pa_cons (pv 1) pa_nil))) pe_int))) (pss_cons (ps_set (i := 4) sc__law_below.nd rfl (Or.inl rfl) pe_int) (pss_cons (ps_while PassesOwn.never (pt_cmpR op_lt (pe_op op_mulB (pe_op op_add (pv 4) pe_int) (pe_op op_add (pv 4) pe_int)) (pe_op op_mulB (pe_op op_mulB (pv 2) (pv 3)) (pv 3)) (nomark _)) (pss_one (ps_set (i := 4) sc__law_below.nd rfl (Or.inl rfl) (pe_op op_add (pv 4) pe_int)))) (pss_one (ps_ret (pe_own o__law_low hr rfl (pa_cons (pv 4) (pa_cons (pe_op op_sub pe_int (pv 3)) (pa_cons (pe_op op_add pe_int (pe_op op_mod (pe_own o__law_mix hr rfl (pa_cons (pv 0) (pa_cons (pe_op op_add (pv 1) pe_int) pa_nil))) pe_int)) pa_nil))))))))), ?_⟩
  rw [show start ["_law_cell", "_law_k", "_law_d", "_law_b", "_law_a"] [.int c, .int k, .int d] = [some (.int c), some (.int k), some (.int d), none, none] from rfl]
  have hd : Bd 7 d := bd_range (by omega) d1 (by decide)
  repeat walk_at "rd"
  refine c__law_mix (by omega) (by omega) fun m0 m00 m01 em0 => ?_
  repeat walk_at "rd"
  obtain ⟨b, eb, b0, b1⟩ : ∃ b : Int, 1 + m0 % 9 = b ∧ 1 ≤ b ∧ b ≤ 9 := ⟨_, rfl, by omega, by omega⟩
  rw [eb]
  have bb : Bd 20 b := bd_small 20 (by omega) (by omega) (by decide)
  have hdb : d * b * b ≤ 99 * 81 := by
    have h1 : b * b ≤ 81 := by
      have : b * b ≤ 9 * 9 := Int.mul_le_mul (by omega) (by omega) (by omega) (by omega)
      omega
    have h2 : d * (b * b) ≤ 99 * 81 := Int.mul_le_mul d1 h1 (sq_nn b) (by omega)
    rw [Int.mul_assoc]
    exact h2
  repeat walk_at "rd"
  refine while_d (fun σ' H5 => ∃ a : Int, σ' = [some (.int c), some (.int k), some (.int d), some (.int b), some (.int a)] ∧ H5 = H ∧ 0 ≤ a ∧ a ≤ 9000 ∧ (a = 0 ∨ a * a < d * b * b)) (fun σ' _ => match σ' with | [_, _, _, _, some (.int a)] => (10000 - a).toNat | _ => 0) ⟨0, rfl, rfl, by omega, by omega, .inl rfl⟩ ?_
  rintro σ' H5 ⟨a, rfl, rfl, a0, a1, a2⟩
  have ba : Bd 20 a := bd_small 20 (by omega) (by omega) (by decide)
  have haa : a + 1 ≤ (a + 1) * (a + 1) := by
    have := Int.mul_le_mul_of_nonneg_left (show 1 ≤ a + 1 by omega) (show 0 ≤ a + 1 by omega)
    omega
  repeat walk_at "rd"
  refine if_d (fun c3 => ?_) (fun c3 => ?_)
  · refine wgo ?_
    repeat walk_at "rd"
    refine ⟨⟨a + 1, rfl, rfl, by omega, by omega, .inr c3⟩, ?_⟩
    show (10000 - (a + 1)).toNat < (10000 - a).toNat
    omega
  · repeat walk_at "rd"
    refine c__law_mix (by omega) (by omega) fun m1 m10 m11 em1 => ?_
    have bn : Bd 20 (1 + m1 % 12) := bd_small 20 (by omega) (by omega) (by decide)
    have ew : b = wB c k := by unfold wB; rw [← em0]; exact eb.symm
    have ea : a = wA c k d := by unfold wA; rw [← ew]; exact (lowF_eq ⟨a0, a2, by omega⟩).symm
    have en : 1 + m1 % 12 = wN c k := by unfold wN; rw [← em1]
    repeat walk_at "rd"
    refine c__law_low (by omega) (bn.mono (by decide)) fun r H7 s7 e7 => ?_
    exact q r H7 _ _ _ s7 e7 ⟨(ba.mono (by decide)).fdiv _, ((Bd.mono (bd_subx (bd_self 0) bb) (by decide +kernel)) : Bd 200 (0 - b)).fdiv _, (bn.mono (by decide)).fdiv _⟩ (by rw [ea, ew, en]; exact ⟨rfl, rfl, rfl⟩)
set_option maxHeartbeats 4000000 in
theorem ok__law_is_side {f : Addr} {fd : FuncData} (F : Fun K "_law_is_side" "_law_is_side" s__law_is_side f fd) (B : Bl mg)  (o__law_whole : Own P w K mg base 1 "_law_whole" ["_law_found"] [] sp__law_whole) (o__law_low : Own P w K mg base 1 "_law_low" ["_law_a", "_law_b", "_law_n"] [] sp__law_low) (o__law_sign : Own P w K mg base 1 "_law_sign" ["_law_d", "_law_a", "_law_b"] [] sp__law_sign) : FnOk P w K mg base CX0 2 f fd ["_law_thing_here", "_law_d"] sp__law_is_side := by
  refine F.ok (k := 1) sc__law_is_side (fun vs H Q E h => ?_) (fun cdv A outer s H vs Q E hr h => ?_)
  · obtain ⟨v, t, d, Z, rfl, ht, hb, hR, q⟩ := h
    rfl
  obtain ⟨v, t, d, Z, rfl, ht, hb, hR, q⟩ := h
  refine ⟨_, (pss_cons (ps_if (PW.pt (pw_or (pt_not (pt_val (pe_callB call_isinst rfl B.isinstance bt_isinstance (pa_cons (pv 0) (pa_cons (pe_bltn (v := .ty "tuple") rfl B.tuple bt_tuple rfl) pa_nil))))) (pw_or1 (pt_cmpR op_ne (pe_callB call_lenR rfl B.len PySem.boot_len (pa_cons (pv 0) pa_nil)) pe_int (nomark _))))) (pss_one (ps_ret pe_bl)) pss_nil) (pss_cons (ps_for PassesOwn.never rfl (pi_tup (pv 0)) (pg_name (i := 2) sc__law_is_side.nd rfl (Or.inl rfl)) (pss_one (ps_if (pt_not (pt_val (pe_own o__law_whole hr rfl (pa_cons (pv 2) pa_nil)))) (pss_one (ps_ret pe_bl)) pss_nil))) (pss_one (ps_ret (pe_and (pe_cmpR op_gt (pe_ix ix_tup (pv 0) pe_int (fun _ _ => rfl)) pe_int (nomark _)) (pe_and (pe_cmpR (op_eqT hr.units) (pe_own o__law_low hr rfl (pa_cons (pe_ix ix_tup (pv 0) pe_int (fun _ _ => rfl)) (pa_cons (pe_ix ix_tup (pv 0) pe_int (fun _ _ => rfl)) (pa_cons (pe_ix ix_tup (pv 0) pe_int (fun _ _ => rfl)) pa_nil)))) (pv 0) (nomark _)) (pe_one (pe_cmpR op_gt (pe_own o__law_sign hr rfl (pa_cons (pv 1) (pa_cons (pe_ix ix_tup (pv 0) pe_int (fun _ _ => rfl)) (pa_cons (pe_ix ix_tup (pv 0) pe_int (fun _ _ => rfl)) pa_nil)))) pe_int (nomark _))))))))), ?_⟩
  rw [show start ["_law_thing_here", "_law_d", "_law_number"] [v, .int d] = [some (v), some (.int d), none] from rfl]
  cases ht with
  | fl hf =>
    obtain ⟨k, hk, k1, k2⟩ := flat_kd (H := H) hf
    repeat walk_at "rd"
    refine i_isK hk k1 ?_
    repeat walk_at "rd"
    exact bl_q rfl (q H (Same.refl H))
  | li _ e r =>
    repeat walk_at "rd"
    refine i_isK (.lst e) (b := false) (by decide +kernel) ?_
    repeat walk_at "rd"
    exact bl_q rfl (q H (Same.refl H))
  | tu h1 r =>
    rename_i a xs l
    have hl := r.len
    repeat walk_at "rd"
    refine if_nd (fun c3 => ?_) (fun c3 => ?_)
    · repeat walk_at "rd"
      exact bl_q (sideT_no (fun z => c3 (by omega))).symm (q H (Same.refl H))
    have c3' : l.length = 3 := by omega
    repeat walk_at "rd"
    refine i_forT ?_
    repeat walk_at "rd"
    refine ⟨a, rfl, ⟨_, SqT.of h1⟩, for_tup (K := K) (a := a) (xs := xs) (fun i σ H' => ∃ v, σ = [some (.ref a), some (.int d), v] ∧ H' = H ∧ (l.take i).all isIT = true) ⟨_, rfl, rfl, rfl⟩ (fun i σ H' _ ⟨_, _, e, _⟩ => by rw [e]; exact SqT.of h1) ?_ ?_⟩
    · rintro i x σ H' hi ⟨v, rfl, rfl, hall⟩
      obtain ⟨t, ht, rt⟩ := r.get hi
      repeat walk_at "rd"
      refine ck__law_whole rt.kd ?_
      rw [rt.isI]
      repeat walk_at "rd"
      cases hix : isIT t with
      | false =>
        repeat walk_at "rd"
        refine bl_q (sideT_no ?_).symm (q H' (Same.refl _))
        rintro ⟨_, z⟩
        have := List.all_eq_true.mp z t (List.mem_of_getElem? ht)
        rw [hix] at this
        cases this
      | true =>
        repeat walk_at "rd"
        refine ⟨_, rfl, rfl, ?_⟩
        rw [List.take_succ, ht, List.all_append, hall]
        show isIT t && true = true
        rw [hix]
        rfl
    · rintro σ H' ⟨v, rfl, rfl, hall⟩
      rw [List.take_of_length_le (by omega)] at hall
      obtain ⟨x, y, n, rfl, rfl⟩ := reps3 r c3' hall
      obtain ⟨bx, by', bn⟩ := hb
      have es : sideT d (.tu [.fl (.int x), .fl (.int y), .fl (.int n)]) = (decide (1 ≤ n ∧ g3 x y n = 1) && decide (0 < sgn d x y)) := rfl
      repeat walk_at "rd"
      refine if_d (fun c4 => ?_) (fun c4 => ?_)
      · repeat walk_at "rd"
        refine c__law_low (by omega) (bn.mono (by decide)) fun r H2 s2 e2 => ?_
        have h1 := s2 _ _ h1
        repeat walk_at "rd"
        refine i_eq3 e2 h1 ?_
        rw [low_iff (show 1 ≤ n by omega)]
        cases hq : decide (1 ≤ n ∧ g3 x y n = 1) with
        | false =>
          repeat walk_at "rd"
          exact bl_q (by rw [es, hq]; rfl) (q H2 s2)
        | true =>
          repeat walk_at "rd"
          refine c__law_sign hR bx by' fun z H3 s3 hz => ?_
          repeat walk_at "rd"
          exact bl_q (by rw [es, hq, Bool.true_and]; exact hz) (q H3 (s2.trans s3))
      · exact bl_q (by rw [es, decide_eq_false (by omega)]; rfl) (q H' (Same.refl _))
set_option maxHeartbeats 4000000 in
theorem ok_is_length {f : Addr} {fd : FuncData} (F : Fun K "is_length" "is_length" s_is_length f fd) (B : Bl mg)  (o_length : Own P w K mg base 2 "length" ["a", "b", "n"] [] sp_length) (o_is_whole : Own P w K mg base 1 "is_whole" ["thing"] [] sp_is_whole) : FnOk P w K mg base CX0 3 f fd ["thing"] sp_is_length := by
  refine F.ok (k := 2) sc_is_length (fun vs H Q E h => ?_) (fun cdv A outer s H vs Q E hr h => ?_)
  · obtain ⟨v, t, Z, rfl, ht, hb, q⟩ := h
    rfl
  obtain ⟨v, t, Z, rfl, ht, hb, q⟩ := h
  refine ⟨_, (pss_cons (ps_if (PW.pt (pw_or (pt_not (pt_val (pe_callB call_isinst rfl B.isinstance bt_isinstance (pa_cons (pv 0) (pa_cons (pe_bltn (v := .ty "tuple") rfl B.tuple bt_tuple rfl) pa_nil))))) (pw_or1 (pt_cmpR op_ne (pe_callB call_lenR rfl B.len PySem.boot_len (pa_cons (pv 0) pa_nil)) pe_int (nomark _))))) (pss_one (ps_ret pe_bl)) pss_nil) (pss_cons (ps_if (PW.pt (pw_or (pt_not (pt_val (pe_callB (call_allL rfl) rfl B.all bt_all (pa_cons (pe_comp ["number"] [] rfl (pi_tup (pv 0)) (fun _ _ _ _ _ => (pg_name (i := 0) (show List.Nodup (α := Str) ["number"] by decide +kernel) rfl (Or.inl rfl))) (fun _ _ _ _ _ => pifs_nil) (fun _ _ _ _ _ => (pe_own o_is_whole hr rfl (pa_cons (pv 0) pa_nil)))) pa_nil)))) (pw_or1 (pt_cmpR op_lt (pe_ix ix_tup (pv 0) pe_int (fun _ _ => rfl)) pe_int (nomark _))))) (pss_one (ps_ret pe_bl)) pss_nil) (pss_one (ps_ret (pe_cmpR (op_eqT hr.units) (pe_own o_length hr rfl (pa_cons (pe_ix ix_tup (pv 0) pe_int (fun _ _ => rfl)) (pa_cons (pe_ix ix_tup (pv 0) pe_int (fun _ _ => rfl)) (pa_cons (pe_ix ix_tup (pv 0) pe_int (fun _ _ => rfl)) pa_nil)))) (pv 0) (nomark _)))))), ?_⟩
  rw [show start ["thing"] [v] = [some (v)] from rfl]
  cases ht with
  | fl hf =>
    obtain ⟨k, hk, k1, k2⟩ := flat_kd (H := H) hf
    repeat walk_at "rd"
    refine i_isK hk k1 ?_
    repeat walk_at "rd"
    exact bl_q rfl (q H (Same.refl H))
  | li _ e r =>
    repeat walk_at "rd"
    refine i_isK (.lst e) (b := false) (by decide +kernel) ?_
    repeat walk_at "rd"
    exact bl_q rfl (q H (Same.refl H))
  | tu h1 r =>
    rename_i a xs l
    have hl := r.len
    repeat walk_at "rd"
    refine if_nd (fun c3 => ?_) (fun c3 => ?_)
    · repeat walk_at "rd"
      exact bl_q (lenT_no (fun z => c3 (by omega))).symm (q H (Same.refl H))
    have c3' : l.length = 3 := by omega
    repeat walk_at "rd"
    refine i_compT ?_
    repeat walk_at "rd"
    refine ⟨a, rfl, ⟨_, SqT.of h1⟩, fun D hD => comp_tup (ys := xs) (fun i ys σ' H' => (∃ v, σ' = [v]) ∧ ys = ((l.take i).map isIT).map V.bl ∧ H' D = some (.lst ys) ∧ SameX D H H') ⟨⟨none, rfl⟩, rfl, upd_same, fun b o e n => by rw [upd_ne n]; exact e⟩ (fun i ys σ' H' _ p => SqT.of (p.2.2.2 _ _ h1 (ne_of_none h1 hD))) ?_ ?_⟩
    · rintro i x ys σ' H' hi ⟨⟨v, rfl⟩, rfl, eD, sx⟩
      have s' : Same H H' := fun b o e => sx b o e (ne_of_none e hD)
      obtain ⟨t, ht, rt⟩ := r.get hi
      have hil := (List.getElem?_eq_some_iff.mp hi).1
      repeat walk_at "rd"
      refine ck_is_whole (rt.same s').kd ?_
      rw [rt.isI]
      repeat walk_at "rd"
      refine i_append eD (by simp only [List.length_map, List.length_take]; omega) fun H3 sx3 e3 => ?_
      refine cnext hil ⟨⟨_, rfl⟩, rfl, ?_, sx.trans sx3⟩
      rw [List.take_succ, ht, List.map_append, List.map_append]
      exact e3
    · rintro ys σ' H' ⟨_, rfl, eD, sx⟩
      have s' : Same H H' := fun b o e => sx b o e (ne_of_none e hD)
      have h1' := s' _ _ h1
      rw [List.take_of_length_le (by omega)] at eD
      repeat walk_at "rd"
      refine i_allB (SqL.of eD) ?_
      have eall : (l.map isIT).all id = l.all isIT := by rw [List.all_map]; rfl
      rw [eall]
      repeat walk_at "rd"
      cases hall : l.all isIT with
      | false =>
        repeat walk_at "rd"
        exact bl_q (lenT_no (fun z => by rw [hall] at z; exact absurd z.2 (by decide))).symm (q H' s')
      | true =>
        obtain ⟨x, y, n, rfl, rfl⟩ := reps3 r c3' hall
        obtain ⟨bx8, by8, bn⟩ := hb
        repeat walk_at "rd"
        refine if_d (fun c4 => ?_) (fun c4 => ?_)
        · repeat walk_at "rd"
          exact bl_q (show false = decide (1 ≤ n ∧ g3 x y n = 1) from (decide_eq_false (by omega)).symm) (q H' s')
        · repeat walk_at "rd"
          refine c_length rfl (by omega) (bn.mono (by decide)) fun r H2 s2 e2 => ?_
          repeat walk_at "rd"
          refine i_eq3 e2 (s2 _ _ h1') ?_
          exact bl_q (low_iff (by omega)) (q H2 (s'.trans s2))
set_option maxHeartbeats 4000000 in
theorem ok__law_thing {f : Addr} {fd : FuncData} (F : Fun K "_law_thing" "_law_thing" s__law_thing f fd) (B : Bl mg)  (o__law_side : Own P w K mg base 2 "_law_side" ["_law_cell", "_law_k", "_law_d"] [] sp__law_side) (o__law_low : Own P w K mg base 1 "_law_low" ["_law_a", "_law_b", "_law_n"] [] sp__law_low) (o__law_mix : Own P w K mg base 1 "_law_mix" ["_law_cell", "_law_k"] [] sp__law_mix) (o__law_below : Own P w K mg base 2 "_law_below" ["_law_cell", "_law_k", "_law_d"] [] sp__law_below) : FnOk P w K mg base CX0 3 f fd ["_law_cell", "_law_k", "_law_d"] sp__law_thing := by
  refine F.ok (k := 2) sc__law_thing (fun vs H Q E h => ?_) (fun cdv A outer s H vs Q E hr h => ?_)
  · obtain ⟨c, k, d, rfl, ⟨k0, k1⟩, ⟨d0, d1⟩, q⟩ := h
    rfl
  obtain ⟨c, k, d, rfl, ⟨k0, k1⟩, ⟨d0, d1⟩, q⟩ := h
  refine ⟨_, (pss_cons (ps_set (i := 3) sc__law_thing.nd rfl (Or.inl rfl) (pe_own o__law_side hr rfl (pa_cons (pv 0) (pa_cons (pv 1) (pa_cons (pv 2) pa_nil))))) (pss_cons (ps_asg (pv 3) (pg_tup (n := 3) rfl (pgs_cons (pg_name (i := 4) sc__law_thing.nd rfl (Or.inl rfl)) (pgs_cons (pg_name (i := 5) sc__law_thing.nd rfl (Or.inl rfl)) (pgs_cons (pg_name (i := 6) sc__law_thing.nd rfl (Or.inl rfl)) pgs_nil))))) (pss_cons (ps_if (pt_cmpR op_gt (pe_op op_mod (pe_own o__law_mix hr rfl (pa_cons (pv 0) (pa_cons (pe_op op_add (pv 1) pe_int) pa_nil))) pe_int) pe_int (nomark _)) (pss_one (ps_ret (pv 3))) pss_nil) (pss_cons (ps_set (i := 7) sc__law_thing.nd rfl (Or.inl rfl) (WE.w (we_lst (wa_cons (we_tup (wa_cons (we_of pe_int) (wa_cons (we_of pe_int) (wa_cons (we_of pe_int) wa_nil)))) (wa_cons (we_of (pe_own o__law_low hr rfl (pa_cons (pe_op op_sub pe_int (pv 4)) (pa_cons (pe_op op_sub pe_int (pv 5)) (pa_cons (pv 6) pa_nil))))) (wa_cons (we_tup (wa_cons (we_of (pe_op op_mulB pe_int (pv 4))) (wa_cons (we_of (pe_op op_mulB pe_int (pv 5))) (wa_cons (we_of (pe_op op_mulB pe_int (pv 6))) wa_nil)))) (wa_cons (we_lst (wa_cons (we_of (pv 4)) (wa_cons (we_of (pv 5)) (wa_cons (we_of (pv 6)) wa_nil)))) (wa_cons (we_of pe_non) (wa_cons (we_of (pv 4)) (wa_cons (we_tup (wa_cons (we_of (pv 4)) (wa_cons (we_of (pv 5)) wa_nil))) (wa_cons (we_tup (wa_cons (we_of (pv 4)) (wa_cons (we_of (pv 5)) (wa_cons (we_of (pe_op op_sub pe_int (pv 6))) wa_nil)))) wa_nil))))))))))) (pss_cons (ps_set (i := 7) sc__law_thing.nd rfl (Or.inl rfl) (pe_op op_cat (pv 7) (WE.w (we_lst (wa_cons (we_tup (wa_cons (we_of (pv 4)) (wa_cons (we_of pe_bl) (wa_cons (we_of (pe_op op_mulB pe_int (pv 6))) wa_nil)))) (wa_cons (we_of pe_str) (wa_cons (we_tup (wa_cons (we_of pe_int) (wa_cons (we_of (pe_un un_neg pe_int)) (wa_cons (we_of pe_int) wa_nil)))) (wa_cons (we_tup (wa_cons (we_of pe_int) (wa_cons (we_of pe_int) (wa_cons (we_of pe_int) wa_nil)))) (wa_cons (we_tup (wa_cons (we_of pe_int) (wa_cons (we_of (pe_un un_neg pe_int)) (wa_cons (we_of pe_int) wa_nil)))) (wa_cons (we_tup (wa_cons (we_of (pe_un un_neg pe_int)) (wa_cons (we_of pe_int) (wa_cons (we_of pe_int) wa_nil)))) (wa_cons (we_of (pe_own o__law_below hr rfl (pa_cons (pv 0) (pa_cons (pe_op op_add (pv 1) pe_int) (pa_cons (pv 2) pa_nil))))) wa_nil))))))))))) (pss_one (ps_ret (pe_ix ix_list (pv 7) (pe_op op_mod (pe_own o__law_mix hr rfl (pa_cons (pv 0) (pa_cons (pe_op op_add (pv 1) pe_int) pa_nil))) (pe_callB call_lenR rfl B.len PySem.boot_len (pa_cons (pv 7) pa_nil))) (fun _ _ => rfl))))))))), ?_⟩
  rw [show start ["_law_cell", "_law_k", "_law_d", "_law_one", "_law_a", "_law_b", "_law_n", "_law_some"] [.int c, .int k, .int d] = [some (.int c), some (.int k), some (.int d), none, none, none, none, none] from rfl]
  repeat walk_at "rd"
  refine c__law_side ⟨k0, by omega⟩ ⟨d0, d1⟩ fun p0 H0 a b n s0 e0 bd ev => ?_
  obtain ⟨ba, bb, bn, n1, g1⟩ := bd
  obtain ⟨ea, eb, en⟩ := ev
  repeat walk_at "rd"
  refine c__law_mix (by omega) (by omega) fun m9 m90 m91 em9 => ?_
  repeat walk_at "rd"
  refine if_d (fun c1 => ?_) (fun c1 => ?_)
  · repeat walk_at "rd"
    have et : thT c k d = sidT c k d := by unfold thT; rw [← em9, if_pos c1]
    have es : sidT c k d = tri a b n := by unfold sidT; rw [← ea, ← eb, ← en]; rfl
    refine q (.ref p0) H0 s0 ?_ ?_
    · rw [et, es]; exact rep3 e0
    · rw [et, es]; exact ⟨ba.mono (by decide), bb.mono (by decide), bn.mono (by decide)⟩
  have S0 := s0
  repeat walk_at "rd"
  refine i_newT (by simp) fun qt1 G1 s1 t1 => ?_
  have e0 := s1 _ _ e0
  have S0 := S0.trans s1
  repeat walk_at "rd"
  refine c__law_low (by omega) (bn.mono (by decide)) fun qt2 G2 s2 t2 => ?_
  have e0 := s2 _ _ e0
  have t1 := s2 _ _ t1
  have S0 := S0.trans s2
  repeat walk_at "rd"
  refine i_newT (by simp) fun qt3 G3 s3 t3 => ?_
  have e0 := s3 _ _ e0
  have t1 := s3 _ _ t1
  have t2 := s3 _ _ t2
  have S0 := S0.trans s3
  repeat walk_at "rd"
  refine i_newLf (by simp) fun qt4 G4 z4 s4 t4 => ?_
  have z4 := none_of S0 _ z4
  have e0 := s4 _ _ e0
  have t1 := s4 _ _ t1
  have t2 := s4 _ _ t2
  have t3 := s4 _ _ t3
  have S0 := S0.trans s4
  repeat walk_at "rd"
  refine i_newT (by simp) fun qt6 G5 s5 t6 => ?_
  have e0 := s5 _ _ e0
  have t1 := s5 _ _ t1
  have t2 := s5 _ _ t2
  have t3 := s5 _ _ t3
  have t4 := s5 _ _ t4
  have S0 := S0.trans s5
  repeat walk_at "rd"
  refine i_newT (by simp) fun qt7 G6 s6 t7 => ?_
  have e0 := s6 _ _ e0
  have t1 := s6 _ _ t1
  have t2 := s6 _ _ t2
  have t3 := s6 _ _ t3
  have t4 := s6 _ _ t4
  have t6 := s6 _ _ t6
  have S0 := S0.trans s6
  repeat walk_at "rd"
  refine i_newL (by simp) fun l1 G7 s7 u1 => ?_
  have e0 := s7 _ _ e0
  have t1 := s7 _ _ t1
  have t2 := s7 _ _ t2
  have t3 := s7 _ _ t3
  have t4 := s7 _ _ t4
  have t6 := s7 _ _ t6
  have t7 := s7 _ _ t7
  have S0 := S0.trans s7
  repeat walk_at "rd"
  refine i_newT (by simp) fun qt8 G8 s8 t8 => ?_
  have e0 := s8 _ _ e0
  have t1 := s8 _ _ t1
  have t2 := s8 _ _ t2
  have t3 := s8 _ _ t3
  have t4 := s8 _ _ t4
  have t6 := s8 _ _ t6
  have t7 := s8 _ _ t7
  have u1 := s8 _ _ u1
  have S0 := S0.trans s8
  repeat walk_at "rd"
  refine i_newT (by simp) fun qt10 G9 s9 t10 => ?_
  have e0 := s9 _ _ e0
  have t1 := s9 _ _ t1
  have t2 := s9 _ _ t2
  have t3 := s9 _ _ t3
  have t4 := s9 _ _ t4
  have t6 := s9 _ _ t6
  have t7 := s9 _ _ t7
  have u1 := s9 _ _ u1
  have t8 := s9 _ _ t8
  have S0 := S0.trans s9
  repeat walk_at "rd"
  refine i_newT (by simp) fun qt11 G10 s10 t11 => ?_
  have e0 := s10 _ _ e0
  have t1 := s10 _ _ t1
  have t2 := s10 _ _ t2
  have t3 := s10 _ _ t3
  have t4 := s10 _ _ t4
  have t6 := s10 _ _ t6
  have t7 := s10 _ _ t7
  have u1 := s10 _ _ u1
  have t8 := s10 _ _ t8
  have t10 := s10 _ _ t10
  have S0 := S0.trans s10
  repeat walk_at "rd"
  refine i_newT (by simp) fun qt12 G11 s11 t12 => ?_
  have e0 := s11 _ _ e0
  have t1 := s11 _ _ t1
  have t2 := s11 _ _ t2
  have t3 := s11 _ _ t3
  have t4 := s11 _ _ t4
  have t6 := s11 _ _ t6
  have t7 := s11 _ _ t7
  have u1 := s11 _ _ u1
  have t8 := s11 _ _ t8
  have t10 := s11 _ _ t10
  have t11 := s11 _ _ t11
  have S0 := S0.trans s11
  repeat walk_at "rd"
  refine i_newT (by simp) fun qt13 G12 s12 t13 => ?_
  have e0 := s12 _ _ e0
  have t1 := s12 _ _ t1
  have t2 := s12 _ _ t2
  have t3 := s12 _ _ t3
  have t4 := s12 _ _ t4
  have t6 := s12 _ _ t6
  have t7 := s12 _ _ t7
  have u1 := s12 _ _ u1
  have t8 := s12 _ _ t8
  have t10 := s12 _ _ t10
  have t11 := s12 _ _ t11
  have t12 := s12 _ _ t12
  have S0 := S0.trans s12
  repeat walk_at "rd"
  refine c__law_below ⟨by omega, by omega⟩ ⟨d0, d1⟩ fun qt14 G13 x y z s13 t14 bw ew => ?_
  have e0 := s13 _ _ e0
  have t1 := s13 _ _ t1
  have t2 := s13 _ _ t2
  have t3 := s13 _ _ t3
  have t4 := s13 _ _ t4
  have t6 := s13 _ _ t6
  have t7 := s13 _ _ t7
  have u1 := s13 _ _ u1
  have t8 := s13 _ _ t8
  have t10 := s13 _ _ t10
  have t11 := s13 _ _ t11
  have t12 := s13 _ _ t12
  have t13 := s13 _ _ t13
  have S0 := S0.trans s13
  repeat walk_at "rd"
  refine i_newL (by simp) fun l2 G14 s14 u2 => ?_
  have e0 := s14 _ _ e0
  have t1 := s14 _ _ t1
  have t2 := s14 _ _ t2
  have t3 := s14 _ _ t3
  have t4 := s14 _ _ t4
  have t6 := s14 _ _ t6
  have t7 := s14 _ _ t7
  have u1 := s14 _ _ u1
  have t8 := s14 _ _ t8
  have t10 := s14 _ _ t10
  have t11 := s14 _ _ t11
  have t12 := s14 _ _ t12
  have t13 := s14 _ _ t13
  have t14 := s14 _ _ t14
  have S0 := S0.trans s14
  refine i_cat u1 u2 (by simp) fun l3 G15 s15 u3 => ?_
  have e0 := s15 _ _ e0
  have t1 := s15 _ _ t1
  have t2 := s15 _ _ t2
  have t3 := s15 _ _ t3
  have t4 := s15 _ _ t4
  have t6 := s15 _ _ t6
  have t7 := s15 _ _ t7
  have u1 := s15 _ _ u1
  have t8 := s15 _ _ t8
  have t10 := s15 _ _ t10
  have t11 := s15 _ _ t11
  have t12 := s15 _ _ t12
  have t13 := s15 _ _ t13
  have t14 := s15 _ _ t14
  have u2 := s15 _ _ u2
  have S0 := S0.trans s15
  have R : Reps H G15 [.ref qt1, .ref qt2, .ref qt3, .ref qt4, .non, .int a, .ref qt6, .ref qt7, .ref qt8, .str (Str.ofString "1"), .ref qt10, .ref qt11, .ref qt12, .ref qt13, .ref qt14] (odd a b n x y z) :=
    .cons (rep3 t1) (.cons (rep3 t2) (.cons (rep3 t3) (.cons (.li z4 t4 (.cons (.fl rfl) (.cons (.fl rfl) (.cons (.fl rfl) .nil)))) (.cons (.fl rfl) (.cons (.fl rfl) (.cons (.tu t6 (.cons (.fl rfl) (.cons (.fl rfl) .nil))) (.cons (rep3 t7) (.cons (.tu t8 (.cons (.fl rfl) (.cons (.fl rfl) (.cons (.fl rfl) .nil)))) (.cons (.fl rfl) (.cons (rep3 t10) (.cons (rep3 t11) (.cons (rep3 t12) (.cons (rep3 t13) (.cons (rep3 t14) .nil))))))))))))))
  have hbd : ∀ t ∈ odd a b n x y z, bd3 300 t := by
    obtain ⟨b1, b2, b3⟩ := bw
    intro t ht
    simp only [odd, List.cons_append, List.nil_append, List.mem_cons, List.not_mem_nil, or_false] at ht
    have c2 : Bd 300 2 := by decide +kernel
    rcases ht with rfl | rfl | rfl | rfl | rfl | rfl | rfl | rfl | rfl | rfl | rfl | rfl | rfl | rfl | rfl
    · exact ⟨by decide +kernel, by decide +kernel, by decide +kernel⟩
    · exact ⟨((Bd.mono (bd_subx (bd_self 0) ba) (by decide +kernel)) : Bd 300 (0 - a)).fdiv _, ((Bd.mono (bd_subx (bd_self 0) bb) (by decide +kernel)) : Bd 300 (0 - b)).fdiv _, (bn.mono (by decide)).fdiv _⟩
    · exact ⟨Bd.mono ((bd_self 2).mul ba) (by decide +kernel), Bd.mono ((bd_self 2).mul bb) (by decide +kernel), Bd.mono ((bd_self 2).mul bn) (by decide +kernel)⟩
    · trivial
    · trivial
    · trivial
    · trivial
    · exact ⟨ba.mono (by decide), bb.mono (by decide), Bd.mono (bd_subx (bd_self 0) bn) (by decide +kernel)⟩
    · trivial
    · trivial
    · exact ⟨by decide +kernel, by decide +kernel, by decide +kernel⟩
    · exact ⟨by decide +kernel, by decide +kernel, by decide +kernel⟩
    · exact ⟨by decide +kernel, by decide +kernel, by decide +kernel⟩
    · exact ⟨by decide +kernel, by decide +kernel, by decide +kernel⟩
    · exact ⟨b1.mono (by decide), b2.mono (by decide), b3.mono (by decide)⟩
  have hlen : (0 : Int) < ((([V.ref qt1, V.ref qt2, V.ref qt3, V.ref qt4, V.non, V.int a, V.ref qt6, V.ref qt7] ++ [V.ref qt8, V.str (Str.ofString "1"), V.ref qt10, V.ref qt11, V.ref qt12, V.ref qt13, V.ref qt14] : List V).length : Nat) : Int) := by simp
  repeat walk_at "rd"
  refine c__law_mix (by omega) (by omega) fun m10 m100 m101 em10 => ?_
  repeat walk_at "rd"
  have hix : (m10 % 15).toNat < 15 := by omega
  obtain ⟨v, hv⟩ : ∃ v, ([.ref qt1, .ref qt2, .ref qt3, .ref qt4, .non, .int a, .ref qt6, .ref qt7, .ref qt8, .str (Str.ofString "1"), .ref qt10, .ref qt11, .ref qt12, .ref qt13, .ref qt14] : List V)[(m10 % 15).toNat]? = some v := ⟨_, List.getElem?_eq_getElem hix⟩
  obtain ⟨t, ht, rt⟩ := R.get hv
  have hat := atI_nat hv
  rw [show (((m10 % 15).toNat : Nat) : Int) = m10 % 15 by omega] at hat
  have et : thT c k d = t := by
    obtain ⟨ex, ey, ez⟩ := ew
    unfold thT
    rw [← em9, if_neg c1, ← em10, ← ea, ← eb, ← en, ← ex, ← ey, ← ez, List.getD_eq_getElem?_getD, ht]
    rfl
  refine i_ixL u3 hat ?_
  refine q v G15 S0 ?_ ?_
  · rw [et]; exact rt
  · rw [et]; exact hbd t (List.mem_of_getElem? ht)
set_option maxHeartbeats 4000000 in
theorem ok__law_is_heap {f : Addr} {fd : FuncData} (F : Fun K "_law_is_heap" "_law_is_heap" s__law_is_heap f fd) (B : Bl mg)  (o__law_is_side : Own P w K mg base 2 "_law_is_side" ["_law_thing_here", "_law_d"] [] sp__law_is_side) : FnOk P w K mg base CX0 3 f fd ["_law_thing_here", "_law_d"] sp__law_is_heap := by
  refine F.ok (k := 2) sc__law_is_heap (fun vs H Q E h => ?_) (fun cdv A outer s H vs Q E hr h => ?_)
  · obtain ⟨v, t, d, Z, rfl, ht, hb, hR, q⟩ := h
    rfl
  obtain ⟨v, t, d, Z, rfl, ht, hb, hR, q⟩ := h
  refine ⟨_, (pss_cons (ps_if (PW.pt (pw_or (pt_not (pt_val (pe_callB call_isinst rfl B.isinstance bt_isinstance (pa_cons (pv 0) (pa_cons (pe_bltn (v := .ty "list") rfl B.list bt_list rfl) pa_nil))))) (pw_or1 (pt_cmpR op_eq (pe_callB call_lenR rfl B.len PySem.boot_len (pa_cons (pv 0) pa_nil)) pe_int (nomark _))))) (pss_one (ps_ret pe_bl)) pss_nil) (pss_cons (ps_for PassesOwn.never rfl (pi_list (pv 0)) (pg_name (i := 2) sc__law_is_heap.nd rfl (Or.inl rfl)) (pss_cons (ps_if (PW.pt (pw_or (pt_not (pt_val (pe_callB call_isinst rfl B.isinstance bt_isinstance (pa_cons (pv 2) (pa_cons (pe_bltn (v := .ty "tuple") rfl B.tuple bt_tuple rfl) pa_nil))))) (pw_or1 (pt_cmpR op_ne (pe_callB call_lenR rfl B.len PySem.boot_len (pa_cons (pv 2) pa_nil)) pe_int (nomark _))))) (pss_one (ps_ret pe_bl)) pss_nil) (pss_one (ps_if (PW.pt (pw_or (pt_not (pt_val (pe_own o__law_is_side hr rfl (pa_cons (pe_ix ix_tup (pv 2) pe_int (fun _ _ => rfl)) (pa_cons (pv 1) pa_nil))))) (pw_or1 (pt_not (pt_val (pe_own o__law_is_side hr rfl (pa_cons (pe_ix ix_tup (pv 2) pe_int (fun _ _ => rfl)) (pa_cons (pv 1) pa_nil)))))))) (pss_one (ps_ret pe_bl)) pss_nil)))) (pss_one (ps_ret pe_bl)))), ?_⟩
  rw [show start ["_law_thing_here", "_law_d", "_law_one"] [v, .int d] = [some (v), some (.int d), none] from rfl]
  cases ht with
  | fl hf =>
    obtain ⟨k, hk, k1, k2⟩ := flat_kd (H := H) hf
    repeat walk_at "rd"
    refine i_isK hk k2 ?_
    repeat walk_at "rd"
    exact bl_q rfl (q H (Same.refl H))
  | tu e r =>
    repeat walk_at "rd"
    refine i_isK (.tup e) (b := false) (by decide +kernel) ?_
    repeat walk_at "rd"
    exact bl_q rfl (q H (Same.refl H))
  | li z h1 r =>
    rename_i a xs l
    have hl := r.len
    repeat walk_at "rd"
    refine i_isK (.lst h1) (b := true) (by decide +kernel) ?_
    repeat walk_at "rd"
    refine if_d (fun c3 => ?_) (fun c3 => ?_)
    · repeat walk_at "rd"
      have : l = [] := List.length_eq_zero_iff.mp (by omega)
      subst this
      exact bl_q rfl (q H (Same.refl H))
    have eh : heapT d (.li l) = l.all (boardT d) := by
      cases l with
      | nil => exact absurd (by rw [hl]; rfl) c3
      | cons x xs => rfl
    repeat walk_at "rd"
    refine i_forL ?_
    repeat walk_at "rd"
    refine ⟨a, rfl, ⟨_, SqL.of h1⟩, for_list (K := K) (a := a) (xs := xs) (fun i σ H' => ∃ v, σ = [some (.ref a), some (.int d), v] ∧ Same H H' ∧ (l.take i).all (boardT d) = true) ⟨_, rfl, Same.refl H, rfl⟩ (fun i σ H' _ ⟨_, _, e, _⟩ => SqL.of (e _ _ h1)) ?_ ?_⟩
    · rintro i x σ H' hi ⟨v, rfl, s', hall⟩
      obtain ⟨t, ht, rt⟩ := r.get hi
      have tm := List.mem_of_getElem? ht
      have no : boardT d t = false → ∀ H2, Same H H2 → Q (.bl false) H2 := fun hn H2 s2 => by
        refine bl_q ?_ (q H2 s2)
        rw [eh]
        refine (Bool.eq_false_iff.mpr fun z => ?_).symm
        have := List.all_eq_true.mp z t tm
        rw [hn] at this
        cases this
      have yes : boardT d t = true → (l.take (i + 1)).all (boardT d) = true := fun hy => by
        rw [List.take_succ, ht, List.all_append, hall]
        show boardT d t && true = true
        rw [hy]
        rfl
      have rt := rt.same s'
      have hbt := hb l rfl t tm
      cases rt with
      | fl hf =>
        obtain ⟨k, hk, k1, k2⟩ := flat_kd (H := H') hf
        repeat walk_at "rd"
        refine i_isK hk k1 ?_
        repeat walk_at "rd"
        exact no rfl H' s'
      | li _ e2 r2 =>
        repeat walk_at "rd"
        refine i_isK (.lst e2) (b := false) (by decide +kernel) ?_
        repeat walk_at "rd"
        exact no rfl H' s'
      | tu e2 r2 =>
        rename_i a2 xs2 l2
        have hl2 := r2.len
        repeat walk_at "rd"
        refine if_nd (fun c5 => ?_) (fun c5 => ?_)
        · repeat walk_at "rd"
          exact no (boardT_no (fun z => c5 (by omega))) H' s'
        obtain ⟨x, y, tx, ty, rfl, rfl, rx, ry⟩ : ∃ x y tx ty, xs2 = [x, y] ∧ l2 = [tx, ty] ∧ Rep Z H' x tx ∧ Rep Z H' y ty := by
          have h2 : l2.length = 2 := by omega
          match l2, h2, r2 with
          | [tx, ty], _, .cons rx (.cons ry .nil) => exact ⟨_, _, _, _, rfl, rfl, rx, ry⟩
        obtain ⟨b1, b2⟩ := hbt tx ty rfl
        repeat walk_at "rd"
        refine c__law_is_side rx b1 hR fun H2 s2 => ?_
        have e2 := s2 _ _ e2
        cases hx : sideT d tx with
        | false =>
          repeat walk_at "rd"
          exact no (show (sideT d tx && sideT d ty) = false by rw [hx]; rfl) H2 (s'.trans s2)
        | true =>
          repeat walk_at "rd"
          refine c__law_is_side (ry.same s2) b2 hR fun H3 s3 => ?_
          cases hy : sideT d ty with
          | false =>
            repeat walk_at "rd"
            exact no (show (sideT d tx && sideT d ty) = false by rw [hx, hy]; rfl) H3 ((s'.trans s2).trans s3)
          | true =>
            repeat walk_at "rd"
            exact ⟨_, rfl, (s'.trans s2).trans s3, yes (show (sideT d tx && sideT d ty) = true by rw [hx, hy]; rfl)⟩
    · rintro σ H' ⟨v, rfl, s', hall⟩
      rw [List.take_of_length_le (by omega)] at hall
      repeat walk_at "rd"
      exact bl_q (by rw [eh, hall]) (q H' s')
set_option maxHeartbeats 4000000 in
theorem ok_is_side {f : Addr} {fd : FuncData} (F : Fun K "is_side" "is_side" s_is_side f fd) (B : Bl mg) (g_NOUGHT : TopT K mg "NOUGHT" [.int 0, .int 0, .int 1]) (o_is_length : Own P w K mg base 3 "is_length" ["thing"] [] sp_is_length) (o_under : Own P w K mg base 2 "under" ["d", "one", "other"] [] (sp_under K)) : FnOk P w K mg base CX0 4 f fd ["d", "thing"] sp_is_side := by
  obtain ⟨a_NOUGHT, m_NOUGHT, q_NOUGHT⟩ := g_NOUGHT
  refine F.ok (k := 3) sc_is_side (fun vs H Q E h => ?_) (fun cdv A outer s H vs Q E hr h => ?_)
  · obtain ⟨d, v, t, Z, rfl, r, hb, hd, q⟩ := h
    rfl
  obtain ⟨d, v, t, Z, rfl, r, hb, hd, q⟩ := h
  refine ⟨_, (pss_one (ps_ret (pe_and (pe_own o_is_length hr rfl (pa_cons (pv 1) pa_nil)) (pe_one (pe_own o_under hr rfl (pa_cons (pv 0) (pa_cons (pe_glob (v := .ref a_NOUGHT) rfl m_NOUGHT rfl) (pa_cons (pv 1) pa_nil)))))))), ?_⟩
  rw [show start ["d", "thing"] [.int d, v] = [some (.int d), some (v)] from rfl]
  repeat walk_at "rd"
  refine c_is_length r hb fun H1 s1 => ?_
  cases hl : lenT t with
  | false =>
    repeat walk_at "rd"
    have e : sideT d t = false := by
      unfold sideT
      split
      · have : decide _ = false := hl
        rw [this]; rfl
      · rfl
    exact bl_q e.symm (q H1 s1)
  | true =>
    obtain ⟨a, b, n, rfl⟩ : ∃ a b n : Int, t = .tu [.fl (.int a), .fl (.int b), .fl (.int n)] := by
      unfold lenT at hl
      split at hl
      · exact ⟨_, _, _, rfl⟩
      · cases hl
    have hl' : decide (1 ≤ n ∧ g3 a b n = 1) = true := hl
    obtain ⟨p, rfl, e⟩ : ∃ p, v = .ref p ∧ H p = some (.tup [.int a, .int b, .int n]) := by
      cases r with
      | tu e r =>
        obtain ⟨x, y, z, h1, h2⟩ := reps3 r rfl rfl
        injection h1 with h1 h3
        injection h3 with h3 h4
        injection h4 with h4 _
        injection h1 with h1
        injection h3 with h3
        injection h4 with h4
        injection h1 with h1
        injection h3 with h3
        injection h4 with h4
        subst h1 h3 h4
        exact ⟨_, rfl, by rw [e, h2]⟩
    obtain ⟨b1, b2, b3⟩ := hb
    repeat walk_at "rd"
    refine c_under (q_NOUGHT H1) (s1 _ _ e) hd (by decide +kernel) (by decide +kernel) (by decide +kernel) (b1.mono (by decide)) (b2.mono (by decide)) (b3.mono (by decide)) ?_
    refine bl_q ?_ (q H1 s1)
    rw [show a * 1 - 0 * n = a by omega, show b * 1 - 0 * n = b by omega]
    show _ = (decide (1 ≤ n ∧ g3 a b n = 1) && decide (0 < sgn d a b))
    rw [hl', Bool.true_and]
set_option maxHeartbeats 4000000 in
theorem ok__law_heap {f : Addr} {fd : FuncData} (F : Fun K "_law_heap" "_law_heap" s__law_heap f fd) (B : Bl mg)  (o__law_mix : Own P w K mg base 1 "_law_mix" ["_law_cell", "_law_k"] [] sp__law_mix) (o__law_thing : Own P w K mg base 3 "_law_thing" ["_law_cell", "_law_k", "_law_d"] [] sp__law_thing) : FnOk P w K mg base CX0 4 f fd ["_law_cell", "_law_d"] sp__law_heap := by
  refine F.ok (k := 3) sc__law_heap (fun vs H Q E h => ?_) (fun cdv A outer s H vs Q E hr h => ?_)
  · obtain ⟨c, d, rfl, ⟨d0, d1⟩, q⟩ := h
    rfl
  obtain ⟨c, d, rfl, ⟨d0, d1⟩, q⟩ := h
  refine ⟨_, (pss_cons (ps_setC (i := 2) sc__law_heap.nd rfl rfl ["_law_k"] [0, 1] rfl (pi_range1 rfl B.range (pa_cons (pe_op op_add pe_int (pe_op op_mod (pe_own o__law_mix hr rfl (pa_cons (pv 0) (pa_cons pe_int pa_nil))) pe_int)) pa_nil)) (fun _ _ _ _ _ => (pg_name (i := 0) (show List.Nodup (α := Str) ["_law_k", "_law_cell", "_law_d"] by decide +kernel) rfl (Or.inl rfl))) (fun _ _ _ _ _ => pifs_nil) (fun _ _ _ _ _ => (pe_tup (pa_cons (pe_own o__law_thing hr rfl (pa_cons (pv 1) (pa_cons (pe_op op_mulB pe_int (pv 0)) (pa_cons (pv 2) pa_nil)))) (pa_cons (pe_own o__law_thing hr rfl (pa_cons (pv 1) (pa_cons (pe_op op_add (pe_op op_mulB pe_int (pv 0)) pe_int) (pa_cons (pv 2) pa_nil)))) pa_nil))))) (pss_cons (ps_set (i := 3) sc__law_heap.nd rfl (Or.inl rfl) (pe_op op_mod (pe_own o__law_mix hr rfl (pa_cons (pv 0) (pa_cons pe_int pa_nil))) pe_int)) (pss_cons (ps_set (i := 4) sc__law_heap.nd rfl (Or.inl rfl) (pe_op op_mod (pe_own o__law_mix hr rfl (pa_cons (pv 0) (pa_cons pe_int pa_nil))) (pe_callB call_lenR rfl B.len PySem.boot_len (pa_cons (pv 2) pa_nil)))) (pss_cons (ps_cut (ps_if (pt_cmpR op_lt (pv 3) pe_int (nomark _)) (pss_cons (ps_set (i := 5) sc__law_heap.nd rfl (Or.inl rfl) (pe_ix ix_list (pv 2) (pv 4) (fun _ _ => rfl))) (pss_one (ps_asg (pe_ix ix_list (WE.w (we_lst (wa_cons (we_of (pe_callTy call_lstR rfl B.list bt_list (pa_cons (pv 5) pa_nil))) (wa_cons (we_of (pe_slice sl_tup (pv 5) po_none (po_some pe_int))) (wa_cons (we_of (pe_op op_catT (pv 5) (pe_slice sl_tup (pv 5) po_none (po_some pe_int)))) (wa_cons (we_of pe_non) (wa_cons (we_of (pe_ix ix_tup (pv 5) pe_int (fun _ _ => rfl))) (wa_cons (we_of pe_str) (wa_cons (we_tup wa_nil) (wa_cons (we_tup (wa_cons (we_of (pv 5)) (wa_cons (we_of (pv 5)) wa_nil))) wa_nil)))))))))) (pv 3) (fun _ _ => rfl)) (pg_sub (pv 2) (pv 4) set_list)))) pss_nil)) (pss_cons (ps_if (pt_chain op_le op_lt pe_int (pv 3) pe_int) (pss_one (ps_ret (pe_ix ix_list (WE.w (we_lst (wa_cons (we_of (pe_callTy call_tupR rfl B.tuple bt_tuple (pa_cons (pv 2) pa_nil))) (wa_cons (we_of pe_str) (wa_cons (we_lst wa_nil) (wa_cons (we_of pe_non) (wa_cons (we_of (pe_ix ix_list (pv 2) pe_int (fun _ _ => rfl))) wa_nil))))))) (pe_op op_sub (pv 3) pe_int) (fun _ _ => rfl)))) pss_nil) (pss_one (ps_ret (pv 2)))))))), ?_⟩
  rw [show start ["_law_cell", "_law_d", "_law_some", "_law_way", "_law_at", "_law_one"] [.int c, .int d] = [some (.int c), some (.int d), none, none, none, none] from rfl]
  repeat walk_at "rd"
  refine i_compR1 ?_
  repeat walk_at "rd"
  refine c__law_mix (by decide) (by decide) fun m7 m70 m71 em7 => ?_
  repeat walk_at "rd"
  refine ⟨1 + m7 % 4, rfl, by omega, by omega, fun D hD => comp_range (lo := 0) (n := (1 + m7 % 4).toNat) (fun i xs σ' H' => (∃ v, σ' = [v, some (.int c), some (.int d)]) ∧ H' D = some (.lst xs) ∧ SameX D H H' ∧ Reps (upd H D (.lst [])) H' xs ((List.range i).map (prT c d)) ∧ ∀ k : Nat, k < i → bd3 300 (thT c (30 * (k : Int)) d) ∧ bd3 300 (thT c (30 * (k : Int) + 15) d)) ⟨⟨none, rfl⟩, upd_same, fun b o e n => by rw [upd_ne n]; exact e, .nil, fun k hk => absurd hk (by omega)⟩ ?_ ?_⟩
  · rintro i xs σ' H' hi ⟨⟨v, rfl⟩, eD, sx, rs, hbk⟩
    have hi4 : i < 4 := by omega
    have ib : Bd 20 (0 + (i : Int)) := bd_small 20 (by omega) (by omega) (by decide)
    have zD : (upd H D (.lst [])) D = some (HO.lst []) := upd_same
    have nz : ∀ G : Hp, Same H' G → ∀ a, G a = none → (upd H D (.lst [])) a = none := fun G sg a ha => by
      by_cases q : a = D
      · subst q; rw [sg _ _ eD] at ha; cases ha
      · rw [upd_ne q]
        cases e : H a with
        | none => rfl
        | some o => rw [sg _ _ (sx _ _ e q)] at ha; cases ha
    have hxl : xs.length = i := by rw [rs.len, List.length_map, List.length_range]
    have e30 : 30 * (0 + (i : Int)) = 30 * (i : Int) := by omega
    repeat walk_at "rd"
    refine c__law_thing ⟨by omega, by omega⟩ ⟨d0, d1⟩ fun v1 H1 s1 r1 b1 => ?_
    repeat walk_at "rd"
    refine c__law_thing ⟨by omega, by omega⟩ ⟨d0, d1⟩ fun v2 H2 s2 r2 b2 => ?_
    repeat walk_at "rd"
    refine i_newT (by simp) fun p3 H3 s3 e3 => ?_
    have eD3 := s3 _ _ (s2 _ _ (s1 _ _ eD))
    rw [e30] at r1 b1 r2 b2
    repeat walk_at "rd"
    refine i_append eD3 (by omega) fun H4 sx4 e4 => ?_
    refine cnext hi ⟨⟨_, rfl⟩, e4, (sx.trans (((s1.trans s2).trans s3).sameX D)).trans sx4, ?_, fun k hk => ?_⟩
    · rw [List.range_succ, List.map_append]
      refine Reps.snoc ((((rs.same s1).same s2).same s3).sameX sx4 eD3 zD) (Rep.sameX sx4 eD3 zD (.tu e3 (.cons (((r1.less (nz H' (Same.refl _))).same s2).same s3) (.cons ((r2.less (nz H1 s1)).same s3) .nil))))
    · by_cases q : k < i
      · exact hbk k q
      · have : k = i := by omega
        subst this
        exact ⟨b1, b2⟩
  rintro xs σ' H1 ⟨_, eD, sx, rs, hbk⟩
  have S1 : Same H H1 := fun b o e => sx b o e (ne_of_none e hD)
  have zD : (upd H D (.lst [])) D = some (HO.lst []) := upd_same
  have nz : ∀ G : Hp, Same H1 G → ∀ a, G a = none → (upd H D (.lst [])) a = none := fun G sg a ha => by
    by_cases q : a = D
    · subst q; rw [sg _ _ eD] at ha; cases ha
    · rw [upd_ne q]
      exact none_of S1 a (none_of sg a ha)
  have nH : ∀ a, (upd H D (.lst [])) a = none → H a = none := fun a ha => by
    by_cases q : a = D
    · subst q; exact hD
    · rw [upd_ne q] at ha; exact ha
  have el0 : (List.range (1 + m7 % 4).toNat).map (prT c d) = hl0 c d := by unfold hl0; rw [em7]
  rw [el0] at rs
  have hB : HB c d := fun t ht x y e => by
    rw [← el0] at ht
    obtain ⟨k, hk, rfl⟩ := List.mem_map.mp ht
    have := hbk k (List.mem_range.mp hk)
    unfold prT at e
    injection e with e
    injection e with e1 e2
    injection e2 with e2 _
    subst e1 e2
    exact this
  have hxl := rs.len
  have hxl2 : xs.length = (1 + m7 % 4).toNat := by rw [hxl, ← el0, List.length_map, List.length_range]
  have hx0 : (0 : Int) < (xs.length : Int) := by omega
  clear sx hbk el0
  repeat walk_at "rd"
  refine c__law_mix (by decide) (by decide) fun m8 m80 m81 em8 => ?_
  repeat walk_at "rd"
  refine c__law_mix (by decide) (by decide) fun m9 m90 m91 em9 => ?_
  have xb : Bd 20 (xs.length : Int) := bd_small 20 (by omega) (by omega) (by decide)
  have hcf : CFp m9 (xs.length : Int) := ⟨hx0, Nat.lt_of_le_of_lt xb.log (by decide)⟩
  repeat walk_at "rd"
  obtain ⟨at', ea, a0, a1⟩ : ∃ at' : Int, m9 % (xs.length : Int) = at' ∧ 0 ≤ at' ∧ at' < xs.length := ⟨_, rfl, Int.emod_nonneg _ (by omega), Int.emod_lt_of_pos _ hx0⟩
  rw [ea]
  have ea2 : (mixF c 9 % ((hl0 c d).length : Int)).toNat = at'.toNat := by rw [← em9, ← hxl, ea]
  refine i_cut (T := fun σ' H' => ∃ (v5 : Option V) (ys : List V), σ' = [some (.int c), some (.int d), some (.ref D), some (.int (m8 % 27)), some (.int at'), v5] ∧ H' D = some (.lst ys) ∧ Same H H' ∧ Reps (upd H D (.lst [])) H' ys (hl1 c d)) ?_ ?_
  · repeat walk_at "rd"
    refine if_d (fun c1 => ?_) (fun c1 => ?_)
    · obtain ⟨v, hv⟩ : ∃ v, xs[at'.toNat]? = some v := ⟨_, List.getElem?_eq_getElem (by omega)⟩
      obtain ⟨t, ht, rt⟩ := rs.get hv
      have hat := atI_nat hv
      rw [show ((at'.toNat : Nat) : Int) = at' by omega] at hat
      obtain ⟨k, rfl, _⟩ := hl0_mem (List.mem_of_getElem? ht)
      obtain ⟨p, w', h', rfl, ep, rw', rh⟩ : ∃ p w' h', v = .ref p ∧ H1 p = some (.tup [w', h']) ∧ Rep (upd H D (.lst [])) H1 w' (thT c (30 * (k : Int)) d) ∧ Rep (upd H D (.lst [])) H1 h' (thT c (30 * (k : Int) + 15) d) := by
        unfold prT at rt
        cases rt with
        | tu e r =>
          cases r with
          | cons r1 r =>
            cases r with
            | cons r2 r =>
              cases r
              exact ⟨_, _, _, rfl, e, r1, r2⟩
      repeat walk_at "rd"
      refine i_ixL eD hat ?_
      repeat walk_at "rd"
      refine ⟨p, _, rfl, .inr (SqT.of ep), fun l hl => ?_⟩
      have z1 := nz H1 (Same.refl _) l hl
      have s2 : Same H1 (upd H1 l (.lst [w', h'])) := same_upd hl _
      have t1 : upd H1 l (.lst [w', h']) l = some (.lst [w', h']) := upd_same
      generalize upd H1 l (.lst [w', h']) = H2 at *
      have ep := s2 _ _ ep
      repeat walk_at "rd"
      refine i_slT1 ep fun p2 H3 s3 t2 => ?_
      have ep := s3 _ _ ep
      repeat walk_at "rd"
      refine i_slT1 ep fun p3 H4 s4 t3 => ?_
      have ep := s4 _ _ ep
      repeat walk_at "rd"
      refine i_catT ep t3 (by simp) (by simp) (by simp) fun p4 H5 s5 t4 => ?_
      have ep := s5 _ _ ep
      repeat walk_at "rd"
      refine i_newT (by simp) fun p5 H6 s6 t5 => ?_
      have ep := s6 _ _ ep
      repeat walk_at "rd"
      refine i_newT (by simp) fun p6 H7 s7 t6 => ?_
      have ep := s7 _ _ ep
      repeat walk_at "rd"
      refine i_newL (by simp) fun l8 H8 s8 u8 => ?_
      have ep := s8 _ _ ep
      have s38 := ((((s3.trans s4).trans s5).trans s6).trans s7).trans s8
      have s58 := ((s5.trans s6).trans s7).trans s8
      have s68 := (s6.trans s7).trans s8
      have SG := s2.trans s38
      have rw8 := rw'.same SG
      have rh8 := rh.same SG
      have R : Reps (upd H D (.lst [])) H8 [.ref l, .ref p2, .ref p4, .non, w', .str (Str.ofString "1x1"), .ref p5, .ref p6] (chT (prT c d k)) := by
        unfold prT chT
        exact .cons (.li z1 (s38 _ _ t1) (.cons rw8 (.cons rh8 .nil))) (.cons (.tu (((((s4.trans s5).trans s6).trans s7).trans s8) _ _ t2) (.cons rw8 .nil)) (.cons (.tu (s68 _ _ t4) (.cons rw8 (.cons rh8 (.cons rw8 .nil)))) (.cons (.fl rfl) (.cons rw8 (.cons (.fl rfl) (.cons (.tu ((s7.trans s8) _ _ t5) .nil) (.cons (.tu (s8 _ _ t6) (.cons (.tu ep (.cons rw8 (.cons rh8 .nil))) (.cons (.tu ep (.cons rw8 (.cons rh8 .nil))) .nil))) .nil)))))))
      obtain ⟨u, hu⟩ : ∃ u, ([.ref l, .ref p2, .ref p4, .non, w', .str (Str.ofString "1x1"), .ref p5, .ref p6] : List V)[(m8 % 27).toNat]? = some u := ⟨_, List.getElem?_eq_getElem (by simp only [List.length_cons, List.length_nil]; omega)⟩
      obtain ⟨tu', htu, ru⟩ := R.get hu
      have hau := atI_nat hu
      rw [show (((m8 % 27).toNat : Nat) : Int) = m8 % 27 by omega] at hau
      have eD8 := SG _ _ eD
      repeat walk_at "rd"
      refine i_ixL u8 hau ?_
      repeat walk_at "rd"
      refine i_gsub ?_
      repeat walk_at "rd"
      refine i_setL eD8 a0 a1 fun H9 sx9 e9 => ?_
      repeat walk_at "rd"
      have e1 : hl1 c d = (hl0 c d).set at'.toNat tu' := by
        unfold hl1
        rw [← em8, if_pos c1, ea2, List.getD_eq_getElem?_getD, List.getD_eq_getElem?_getD, ht, Option.getD_some, htu, Option.getD_some]
      exact ⟨_, _, rfl, e9, fun b o e => sx9 b o (SG _ _ (S1 _ _ e)) (ne_of_none e hD), by rw [e1]; exact ((rs.same SG).set _ ru).sameX sx9 eD8 zD⟩
    · repeat walk_at "rd"
      exact ⟨_, xs, rfl, eD, S1, by rw [show hl1 c d = hl0 c d by unfold hl1; rw [← em8, if_neg c1]]; exact rs⟩
  rintro σ' H2 ⟨v5, ys, rfl, eD2, S2, rs2⟩
  have out : ¬ (8 ≤ m8 % 27 ∧ m8 % 27 < 13) → Q (.ref D) H2 := fun c1 => by
    have eh : hpT c d = .li (hl1 c d) := by unfold hpT; rw [← em8, if_neg c1]
    exact q (.ref D) H2 S2 (by rw [eh]; exact .li hD eD2 (rs2.less nH)) hB
  repeat walk_at "rd"
  refine i_chain ?_
  repeat walk_at "rd"
  refine if_d (fun c1 => ?_) (fun c1 => ?_)
  · repeat walk_at "rd"
    refine if_d (fun c2 => ?_) (fun c2 => ?_)
    · have eh : hpT c d = ([.tu (hl1 c d), .fl (.str (Str.ofString "boards")), .li [], .fl .non, (hl1 c d).getD 0 (.fl .non)] : List Tr).getD (m8 % 27 - 8).toNat (.fl .non) := by unfold hpT; rw [← em8, if_pos ⟨c1, c2⟩]
      have hyl : ys.length = xs.length := by
        rw [rs2.len, hxl]
        unfold hl1
        split
        · rw [List.length_set]
        · rfl
      obtain ⟨v0, hv0⟩ : ∃ v0, ys[0]? = some v0 := ⟨_, List.getElem?_eq_getElem (by omega)⟩
      obtain ⟨t0, ht0, rt0⟩ := rs2.get hv0
      repeat walk_at "rd"
      refine i_tupL eD2 fun p1 G1 s1 t1 => ?_
      have eD2 := s1 _ _ eD2
      repeat walk_at "rd"
      refine i_newLf (by simp) fun p2 G2 z2 s2 t2 => ?_
      have z2 := none_of (S2.trans s1) _ z2
      have eD2 := s2 _ _ eD2
      repeat walk_at "rd"
      refine i_ixL eD2 (atI_nat (j := 0) hv0) ?_
      repeat walk_at "rd"
      refine i_newL (by simp) fun l3 G3 s3 t3 => ?_
      have s13 := (s1.trans s2).trans s3
      have R : Reps H G3 [.ref p1, .str (Str.ofString "boards"), .ref p2, .non, v0] [.tu (hl1 c d), .fl (.str (Str.ofString "boards")), .li [], .fl .non, (hl1 c d).getD 0 (.fl .non)] := by
        refine .cons (.tu ((s2.trans s3) _ _ t1) ((rs2.less nH).same s13)) (.cons (.fl rfl) (.cons (.li z2 (s3 _ _ t2) .nil) (.cons (.fl rfl) (.cons ?_ .nil))))
        rw [List.getD_eq_getElem?_getD, ht0, Option.getD_some]
        exact (rt0.less nH).same s13
      obtain ⟨u, hu⟩ : ∃ u, ([.ref p1, .str (Str.ofString "boards"), .ref p2, .non, v0] : List V)[(m8 % 27 - 8).toNat]? = some u := ⟨_, List.getElem?_eq_getElem (by simp only [List.length_cons, List.length_nil]; omega)⟩
      obtain ⟨tu', htu, ru⟩ := R.get hu
      have hau := atI_nat hu
      rw [show (((m8 % 27 - 8).toNat : Nat) : Int) = m8 % 27 - 8 by omega] at hau
      repeat walk_at "rd"
      refine i_ixL t3 hau ?_
      refine q u G3 (S2.trans s13) ?_ hB
      rw [eh, List.getD_eq_getElem?_getD, htu]
      exact ru
    · repeat walk_at "rd"
      exact out (fun z => c2 z.2)
  · repeat walk_at "rd"
    exact out (fun z => c1 z.1)
set_option maxHeartbeats 4000000 in
theorem ok_is_board {f : Addr} {fd : FuncData} (F : Fun K "is_board" "is_board" s_is_board f fd) (B : Bl mg)  (o_is_side : Own P w K mg base 4 "is_side" ["d", "thing"] [] sp_is_side) : FnOk P w K mg base CX0 5 f fd ["d", "thing"] sp_is_board := by
  refine F.ok (k := 4) sc_is_board (fun vs H Q E h => ?_) (fun cdv A outer s H vs Q E hr h => ?_)
  · obtain ⟨d, v, t, Z, rfl, r, hb, hd, q⟩ := h
    rfl
  obtain ⟨d, v, t, Z, rfl, r, hb, hd, q⟩ := h
  refine ⟨_, (pss_cons (ps_if (PW.pt (pw_or (pt_not (pt_val (pe_callB call_isinst rfl B.isinstance bt_isinstance (pa_cons (pv 1) (pa_cons (pe_bltn (v := .ty "tuple") rfl B.tuple bt_tuple rfl) pa_nil))))) (pw_or1 (pt_cmpR op_ne (pe_callB call_lenR rfl B.len PySem.boot_len (pa_cons (pv 1) pa_nil)) pe_int (nomark _))))) (pss_one (ps_ret pe_bl)) pss_nil) (pss_one (ps_ret (pe_and (pe_own o_is_side hr rfl (pa_cons (pv 0) (pa_cons (pe_ix ix_tup (pv 1) pe_int (fun _ _ => rfl)) pa_nil))) (pe_one (pe_own o_is_side hr rfl (pa_cons (pv 0) (pa_cons (pe_ix ix_tup (pv 1) pe_int (fun _ _ => rfl)) pa_nil)))))))), ?_⟩
  rw [show start ["d", "thing"] [.int d, v] = [some (.int d), some (v)] from rfl]
  cases r with
  | fl hf =>
    obtain ⟨k, hk, k1, k2⟩ := flat_kd (H := H) hf
    repeat walk_at "rd"
    refine i_isK hk k1 ?_
    repeat walk_at "rd"
    exact bl_q rfl (q H (Same.refl H))
  | li _ e r =>
    repeat walk_at "rd"
    refine i_isK (.lst e) (b := false) (by decide +kernel) ?_
    repeat walk_at "rd"
    exact bl_q rfl (q H (Same.refl H))
  | tu h1 r =>
    rename_i a xs l
    have hl := r.len
    repeat walk_at "rd"
    refine if_nd (fun c3 => ?_) (fun c3 => ?_)
    · repeat walk_at "rd"
      exact bl_q (boardT_no (fun z => c3 (by omega))).symm (q H (Same.refl H))
    obtain ⟨x, y, tx, ty, rfl, rfl, rx, ry⟩ : ∃ x y tx ty, xs = [x, y] ∧ l = [tx, ty] ∧ Rep Z H x tx ∧ Rep Z H y ty := by
      have h2 : l.length = 2 := by omega
      match l, h2, r with
      | [tx, ty], _, .cons rx (.cons ry .nil) => exact ⟨_, _, _, _, rfl, rfl, rx, ry⟩
    obtain ⟨b1, b2⟩ := hb tx ty rfl
    repeat walk_at "rd"
    refine c_is_side rx b1 hd fun H1 s1 => ?_
    have h1 := s1 _ _ h1
    cases hx : sideT d tx with
    | false =>
      repeat walk_at "rd"
      exact bl_q (show false = (sideT d tx && sideT d ty) by rw [hx]; rfl) (q H1 s1)
    | true =>
      repeat walk_at "rd"
      refine c_is_side (ry.same s1) b2 hd fun H2 s2 => ?_
      exact bl_q (show sideT d ty = (sideT d tx && sideT d ty) by rw [hx, Bool.true_and]) (q H2 (s1.trans s2))
set_option maxHeartbeats 4000000 in
theorem ok_board {f : Addr} {fd : FuncData} (F : Fun K "board" "board" s_board f fd) (B : Bl mg) (X : Xs K mg cs) (o_is_board : Own P w K mg base 5 "is_board" ["d", "thing"] [] sp_is_board) : FnOk P w K mg base (CXe P w) 6 f fd ["d", "width", "height"] (sp_board cs) := by
  refine F.okX (k := 5) sc_board (fun vs H Q E h => ?_) (fun cdv A outer s H vs Q E hr h => ?_)
  · obtain ⟨d, w', h', tw, th, Z, rfl, rw', rh, ⟨bw, bh⟩, hd, q, qe⟩ := h
    rfl
  obtain ⟨d, w', h', tw, th, Z, rfl, rw', rh, ⟨bw, bh⟩, hd, q, qe⟩ := h
  refine ⟨_, (pss_cons (ps_set (i := 3) sc_board.nd rfl (Or.inl rfl) (pe_tup (pa_cons (pv 1) (pa_cons (pv 2) pa_nil)))) (pss_cons (ps_if (pt_not (pt_val (pe_own o_is_board hr rfl (pa_cons (pv 0) (pa_cons (pv 3) pa_nil))))) (pss_one (ps_raise raises_of X.o_NoBoard X.m_NoBoard rfl rfl)) pss_nil) (pss_one (ps_ret (pv 3))))), ?_⟩
  rw [show start ["d", "width", "height", "made"] [.int d, w', h'] = [some (.int d), some (w'), some (h'), none] from rfl]
  repeat walk_at "rd"
  refine i_newT (by simp) fun p H1 s1 e1 => ?_
  repeat walk_at "rd"
  refine c_is_board (t := .tu [tw, th]) (.tu e1 (.cons (rw'.same s1) (.cons (rh.same s1) .nil))) (fun x y e => by injection e with e; injection e with e1 e2; injection e2 with e2 _; subst e1 e2; exact ⟨bw, bh⟩) hd fun H2 s2 => ?_
  show _
  cases hb : sideT d tw && sideT d th with
  | false =>
    rw [show boardT d (.tu [tw, th]) = false from hb]
    repeat walk_at "rd"
    exact qe hb H2 (s1.trans s2)
  | true =>
    rw [show boardT d (.tu [tw, th]) = true from hb]
    repeat walk_at "rd"
    exact q hb p H2 (s1.trans s2) (s2 _ _ e1)
set_option maxHeartbeats 4000000 in
theorem ok_is_heap {f : Addr} {fd : FuncData} (F : Fun K "is_heap" "is_heap" s_is_heap f fd) (B : Bl mg)  (o_is_board : Own P w K mg base 5 "is_board" ["d", "thing"] [] sp_is_board) : FnOk P w K mg base CX0 6 f fd ["d", "thing"] sp_is_heap := by
  refine F.ok (k := 5) sc_is_heap (fun vs H Q E h => ?_) (fun cdv A outer s H vs Q E hr h => ?_)
  · obtain ⟨d, v, t, Z, rfl, r, hb, hlen, hd, q⟩ := h
    rfl
  obtain ⟨d, v, t, Z, rfl, r, hb, hlen, hd, q⟩ := h
  refine ⟨_, (pss_cons (ps_if (PW.pt (pw_or (pt_not (pt_val (pe_callB call_isinst rfl B.isinstance bt_isinstance (pa_cons (pv 1) (pa_cons (pe_bltn (v := .ty "list") rfl B.list bt_list rfl) pa_nil))))) (pw_or1 (pt_cmpR op_eq (pe_callB call_lenR rfl B.len PySem.boot_len (pa_cons (pv 1) pa_nil)) pe_int (nomark _))))) (pss_one (ps_ret pe_bl)) pss_nil) (pss_one (ps_ret (pe_callB (call_allL rfl) rfl B.all bt_all (pa_cons (pe_comp ["one"] [0] rfl (pi_list (pv 1)) (fun _ _ _ _ _ => (pg_name (i := 0) (show List.Nodup (α := Str) ["one", "d"] by decide +kernel) rfl (Or.inl rfl))) (fun _ _ _ _ _ => pifs_nil) (fun _ _ _ _ _ => (pe_own o_is_board hr rfl (pa_cons (pv 1) (pa_cons (pv 0) pa_nil))))) pa_nil))))), ?_⟩
  rw [show start ["d", "thing"] [.int d, v] = [some (.int d), some (v)] from rfl]
  cases r with
  | fl hf =>
    obtain ⟨k, hk, k1, k2⟩ := flat_kd (H := H) hf
    repeat walk_at "rd"
    refine i_isK hk k2 ?_
    repeat walk_at "rd"
    exact bl_q rfl (q H (Same.refl H))
  | tu e r =>
    repeat walk_at "rd"
    refine i_isK (.tup e) (b := false) (by decide +kernel) ?_
    repeat walk_at "rd"
    exact bl_q rfl (q H (Same.refl H))
  | li z h1 r =>
    rename_i a xs l
    have hl := r.len
    have hl5 := hlen l rfl
    repeat walk_at "rd"
    refine i_isK (.lst h1) (b := true) (by decide +kernel) ?_
    repeat walk_at "rd"
    refine if_d (fun c3 => ?_) (fun c3 => ?_)
    · repeat walk_at "rd"
      have : l = [] := List.length_eq_zero_iff.mp (by omega)
      subst this
      exact bl_q rfl (q H (Same.refl H))
    have eh : heapT d (.li l) = l.all (boardT d) := by
      cases l with
      | nil => exact absurd (by rw [hl]; rfl) c3
      | cons x xs => rfl
    repeat walk_at "rd"
    refine i_compL ?_
    repeat walk_at "rd"
    refine ⟨a, rfl, ⟨_, SqL.of h1⟩, fun D hD => comp_list (K := K) (a := a) (ys := xs) (fun i ys σ' H' => (∃ v, σ' = [v, some (.int d)]) ∧ ys = ((l.take i).map (boardT d)).map V.bl ∧ H' D = some (.lst ys) ∧ SameX D H H') ⟨⟨none, rfl⟩, rfl, upd_same, fun b o e n => by rw [upd_ne n]; exact e⟩ (fun i ys σ' H' _ p => SqL.of (p.2.2.2 _ _ h1 (ne_of_none h1 hD))) ?_ ?_⟩
    · rintro i x ys σ' H' hi ⟨⟨v, rfl⟩, rfl, eD, sx⟩
      have s' : Same H H' := fun b o e => sx b o e (ne_of_none e hD)
      obtain ⟨t, ht, rt⟩ := r.get hi
      have hil := (List.getElem?_eq_some_iff.mp hi).1
      repeat walk_at "rd"
      refine c_is_board (rt.same s') (hb l rfl t (List.mem_of_getElem? ht)) hd fun H2 s2 => ?_
      repeat walk_at "rd"
      refine i_append (s2 _ _ eD) (by simp only [List.length_map, List.length_take]; omega) fun H3 sx3 e3 => ?_
      refine cnext hil ⟨⟨_, rfl⟩, rfl, ?_, (sx.trans (s2.sameX D)).trans sx3⟩
      rw [List.take_succ, ht, List.map_append, List.map_append]
      exact e3
    · rintro ys σ' H' ⟨_, rfl, eD, sx⟩
      have s' : Same H H' := fun b o e => sx b o e (ne_of_none e hD)
      rw [List.take_of_length_le (by omega)] at eD
      repeat walk_at "rd"
      refine i_allB (SqL.of eD) ?_
      refine bl_q ?_ (q H' s')
      rw [eh, List.all_map]
      rfl
set_option maxHeartbeats 4000000 in
theorem ok__law_board {f : Addr} {fd : FuncData} (F : Fun K "_law_board" "_law_board" s__law_board f fd) (B : Bl mg) (X : Xs K mg cs) (o_board : OwnX P w K mg base 6 "board" ["d", "width", "height"] [] (sp_board cs)) (o__law_kinds : Own P w K mg base 1 "_law_kinds" ["_law_e"] [] (sp__law_kinds cs)) : FnOk P w K mg base CX0 7 f fd ["_law_d", "_law_width", "_law_height"] sp__law_board := by
  refine F.ok (k := 6) sc__law_board (fun vs H Q E h => ?_) (fun cdv A outer s H vs Q E hr h => ?_)
  · obtain ⟨d, w', h', tw, th, Z, rfl, rw', rh, hb, hd, q, qe⟩ := h
    rfl
  obtain ⟨d, w', h', tw, th, Z, rfl, rw', rh, hb, hd, q, qe⟩ := h
  refine ⟨_, (pss_cons (ps_set (i := 3) sc__law_board.nd rfl (Or.inl rfl) pe_non) (pss_cons (ps_set (i := 4) sc__law_board.nd rfl (Or.inl rfl) pe_non) (pss_cons (ps_try (j := 5) rfl rfl sc__law_board.nd rfl rfl X.o_YardError X.m_YardError rfl (fun pl EE => (pss_one (ps_set (i := 3) sc__law_board.nd rfl (Or.inl rfl) (pe_ownT o_board hr rfl (pa_cons (pv 0) (pa_cons (pv 1) (pa_cons (pv 2) pa_nil))))))) (fun _ => (pss_one (ps_set (i := 4) sc__law_board.nd rfl (Or.inl rfl) (pv 5))))) (pss_cons (ps_if (pt_cmpR op_notNR (pv 4) pe_non (nomark _)) (pss_one (ps_ret (pe_own o__law_kinds hr rfl (pa_cons (pv 4) pa_nil)))) pss_nil) (pss_one (ps_ret (pv 3))))))), ?_⟩
  rw [show start ["_law_d", "_law_width", "_law_height", "_law_found", "_law_error", "_law_e"] [.int d, w', h'] = [some (.int d), some (w'), some (h'), none, none, none] from rfl]
  repeat walk_at "rd"
  refine i_try ?_
  repeat walk_at "rd"
  refine i_callX ?_
  repeat walk_at "rd"
  refine c_board rw' rh hb hd (fun hs p H1 s1 e1 => ?_) (fun hs H1 s1 => i_tryE X.s_NoBoard fun x hx => ?_)
  · repeat walk_at "rd"
    rw [if_neg (show ¬ (!decide (V.non = V.non)) = true by rw [decide_eq_true rfl]; decide)]
    repeat walk_at "rd"
    exact q hs p H1 s1 e1
  · have s2 : Same H1 (upd H1 x (ExcO x cs.NoBoard)) := same_upd hx _
    have ea : upd H1 x (ExcO x cs.NoBoard) x = some (ExcO x cs.NoBoard) := upd_same
    generalize upd H1 x (ExcO x cs.NoBoard) = H2 at *
    dsimp only [List.set_cons_zero, List.set_cons_succ]
    repeat walk_at "rd"
    dsimp only [tryD, List.set_cons_zero, List.set_cons_succ]
    repeat walk_at "rd"
    rw [if_pos (show (!decide (V.ref x = V.non)) = true by rw [decide_eq_false (by intro h; cases h)]; rfl)]
    repeat walk_at "rd"
    refine c__law_kinds ea fun H3 s3 => ?_
    exact qe hs H3 ((s1.trans s2).trans s3)
set_option maxHeartbeats 4000000 in
theorem ok_law {f : Addr} {fd : FuncData} (F : Fun K "law" "law" s_law f fd) (B : Bl mg)  (o__law_root : Own P w K mg base 1 "_law_root" ["_law_cell"] [] sp__law_root) (o__law_thing : Own P w K mg base 3 "_law_thing" ["_law_cell", "_law_k", "_law_d"] [] sp__law_thing) (o__law_board : Own P w K mg base 7 "_law_board" ["_law_d", "_law_width", "_law_height"] [] sp__law_board) (o__law_heap : Own P w K mg base 4 "_law_heap" ["_law_cell", "_law_d"] [] sp__law_heap) (o_is_heap : Own P w K mg base 6 "is_heap" ["d", "thing"] [] sp_is_heap) (o__law_is_side : Own P w K mg base 2 "_law_is_side" ["_law_thing_here", "_law_d"] [] sp__law_is_side) (o__law_is_heap : Own P w K mg base 3 "_law_is_heap" ["_law_thing_here", "_law_d"] [] sp__law_is_heap) : FnOk P w K mg base CX0 8 f fd ["_law_script"] (spLaw K) := by
  refine F.ok (k := 7) sc_law (fun vs H Q E h => ?_) (fun cdv A outer s H vs Q E hr h => ?_)
  · obtain ⟨a, ns, rfl, hS, h63, hbd, q⟩ := h
    rfl
  obtain ⟨a, ns, rfl, hS, h63, hbd, q⟩ := h
  refine ⟨_, (pss_cons (ps_set (i := 1) sc_law.nd rfl (Or.inl rfl) (pe_own o__law_root hr rfl (pa_cons (pe_callB (call_sumL rfl) rfl B.sum bt_sum (pa_cons (pe_slice sl_list (pv 0) po_none (po_some pe_int)) pa_nil)) pa_nil))) (pss_cons (ps_for PassesOwn.never rfl (pi_list (pe_op op_cat (pe_lst (pa_cons pe_int (pa_cons pe_int pa_nil))) (pe_slice sl_list (pv 0) po_none (po_some pe_int)))) (pg_name (i := 2) sc_law.nd rfl (Or.inl rfl)) (pss_cons (ps_set (i := 3) sc_law.nd rfl (Or.inl rfl) (pe_own o__law_thing hr rfl (pa_cons (pv 2) (pa_cons pe_int (pa_cons (pv 1) pa_nil))))) (pss_cons (ps_set (i := 4) sc_law.nd rfl (Or.inl rfl) (pe_own o__law_thing hr rfl (pa_cons (pv 2) (pa_cons pe_int (pa_cons (pv 1) pa_nil))))) (pss_cons (ps_set (i := 5) sc_law.nd rfl (Or.inl rfl) pe_int) (pss_cons (ps_cut (ps_if (PW.pt (pw_and (pt_val (pe_own o__law_is_side hr rfl (pa_cons (pv 3) (pa_cons (pv 1) pa_nil)))) (pw_and1 (pt_val (pe_own o__law_is_side hr rfl (pa_cons (pv 4) (pa_cons (pv 1) pa_nil))))))) (pss_one (ps_set (i := 5) sc_law.nd rfl (Or.inl rfl) (pe_tup (pa_cons (pv 3) (pa_cons (pv 4) pa_nil))))) pss_nil)) (pss_cons (ps_set (i := 6) sc_law.nd rfl (Or.inl rfl) (pe_own o__law_board hr rfl (pa_cons (pv 1) (pa_cons (pv 3) (pa_cons (pv 4) pa_nil))))) (pss_cons (ps_if (PW.pt (pw_or (pt_cmpR (op_neG hr.units) (pv 6) (pv 5) (nomark _)) (pw_or1 (pt_cmpR op_ne (pe_callB call_isinst rfl B.isinstance bt_isinstance (pa_cons (pv 6) (pa_cons (pe_bltn (v := .ty "tuple") rfl B.tuple bt_tuple rfl) pa_nil))) (pe_callB call_isinst rfl B.isinstance bt_isinstance (pa_cons (pv 5) (pa_cons (pe_bltn (v := .ty "tuple") rfl B.tuple bt_tuple rfl) pa_nil))) (nomark _))))) (pss_one (ps_ret pe_bl)) pss_nil) (pss_cons (ps_set (i := 7) sc_law.nd rfl (Or.inl rfl) (pe_own o__law_heap hr rfl (pa_cons (pv 2) (pa_cons (pv 1) pa_nil)))) (pss_cons (ps_set (i := 8) sc_law.nd rfl (Or.inl rfl) (pe_own o_is_heap hr rfl (pa_cons (pv 1) (pa_cons (pv 7) pa_nil)))) (pss_one (ps_if (PW.pt (pw_or (pt_not (pt_val (pe_callB call_isinst rfl B.isinstance bt_isinstance (pa_cons (pv 8) (pa_cons (pe_bltn (v := .ty "bool") rfl B.bool bt_bool rfl) pa_nil))))) (pw_or (pt_cmpR op_ne (pv 8) (pe_own o__law_is_heap hr rfl (pa_cons (pv 7) (pa_cons (pv 1) pa_nil))) (nomark _)) (pw_or1 (pt_cmpR (op_neG hr.units) (pv 7) (pe_own o__law_heap hr rfl (pa_cons (pv 2) (pa_cons (pv 1) pa_nil))) (nomark _)))))) (pss_one (ps_ret pe_bl)) pss_nil))))))))))) (pss_one (ps_ret pe_bl)))), ?_⟩
  rw [show start ["_law_script", "_law_d", "_law_cell", "_law_width", "_law_height", "_law_due", "_law_found", "_law_some", "_law_told"] [.ref a] = [some (.ref a), none, none, none, none, none, none, none, none] from rfl]
  repeat walk_at "rd"
  refine i_slTo (by decide) hS fun p1 H1 s1 e1 => ?_
  repeat walk_at "rd"
  refine i_sum (SqL.of e1) ?_
  repeat walk_at "rd"
  refine c__law_root fun d H2 hR s2 => ?_
  have hd := rt_in hR
  have hdb : Bd 64 d := bd_range (B := 99) (by omega) hd.2 (by decide +kernel)
  have hS2 := (s1.trans s2).seq hS
  repeat walk_at "rd"
  refine i_forL ?_
  repeat walk_at "rd"
  refine i_newL (by simp) fun l1 H3 s3 e3 => ?_
  repeat walk_at "rd"
  refine i_slTo (by decide) (s3.seq hS2) fun l2 H4 s4 e4 => ?_
  refine i_cat (s4 _ _ e3) e4 (by simp only [List.length_map, List.length_take, List.length_cons, List.length_nil]; omega) fun l3 H5 s5 e5 => ?_
  refine ⟨l3, rfl, ⟨_, SqL.of e5⟩, for_list (K := K) (a := l3) (xs := [V.int 0, V.int 3] ++ (ns.take (30 : Int).toNat).map V.int) (fun i σ H' => ∃ v2 v3 v4 v5 v6 v7 v8, σ = [some (.ref a), some (.int d), v2, v3, v4, v5, v6, v7, v8] ∧ Same H5 H') ⟨_, _, _, _, _, _, _, rfl, Same.refl _⟩ (fun i σ H' _ z => by obtain ⟨_, _, _, _, _, _, _, _, z⟩ := z; exact SqL.of (z _ _ e5)) ?_ ?_⟩
  · rintro i y σ H' hi ⟨v2, v3, v4, v5, v6, v7, v8, rfl, s6⟩
    obtain ⟨c, rfl⟩ : ∃ c : Int, y = .int c := by
      have := List.mem_of_getElem? hi
      rcases List.mem_append.mp this with z | z
      · simp only [List.mem_cons, List.not_mem_nil, or_false] at z
        rcases z with z | z <;> exact ⟨_, z⟩
      · obtain ⟨x, _, e⟩ := List.mem_map.mp z
        exact ⟨x, e.symm⟩
    repeat walk_at "rd"
    refine c__law_thing ⟨by decide, by decide⟩ hd fun w' H7 s7 rw' bw => ?_
    repeat walk_at "rd"
    refine c__law_thing ⟨by decide, by decide⟩ hd fun h' H8 s8 rh bh => ?_
    have rw' : Rep (fun _ => none) H8 w' (thT c 100 d) := (rw'.less fun _ _ => rfl).same s8
    have rh : Rep (fun _ => none) H8 h' (thT c 115 d) := rh.less fun _ _ => rfl
    have dw := dp_thing (c := c) (k := 100) (d := d)
    have dh := dp_thing (c := c) (k := 115) (d := d)
    repeat walk_at "rd"
    refine i_cut (T := fun σ' G => ∃ (vd : V), σ' = [some (.ref a), some (.int d), some (.int c), some w', some h', some vd, v6, v7, v8] ∧ Same H8 G ∧ Rep (fun _ => none) G vd (if (sideT d (thT c 100 d) && sideT d (thT c 115 d)) = true then .tu [(thT c 100 d), (thT c 115 d)] else .fl (.int 1))) ?_ ?_
    · repeat walk_at "rd"
      refine c__law_is_side rw' bw hR fun G1 t1 => ?_
      cases hx : sideT d (thT c 100 d) with
      | false =>
        repeat walk_at "rd"
        exact ⟨.int 1, rfl, t1, .fl rfl⟩
      | true =>
        repeat walk_at "rd"
        refine c__law_is_side (rh.same t1) bh hR fun G2 t2 => ?_
        cases hy : sideT d (thT c 115 d) with
        | false =>
          repeat walk_at "rd"
          exact ⟨.int 1, rfl, t1.trans t2, .fl rfl⟩
        | true =>
          repeat walk_at "rd"
          refine i_newT (by simp) fun p G3 t3 e3 => ?_
          repeat walk_at "rd"
          have tt := (t1.trans t2).trans t3
          exact ⟨.ref p, rfl, tt, .tu e3 (.cons (rw'.same tt) (.cons (rh.same tt) .nil))⟩
    rintro σ' G ⟨vd, rfl, sG, rd⟩
    have dpt : dp (.tu [(thT c 100 d), (thT c 115 d)]) ≤ 9 := by simp only [dp, dps]; omega
    repeat walk_at "rd"
    refine c__law_board (rw'.same sG) (rh.same sG) ⟨bw, bh⟩ hdb (fun hs p G1 t1 e1 => ?_) (fun hs G1 t1 => ?_)
    · rw [if_pos hs] at rd
      have rd := rd.same t1
      have rf : Rep (fun _ => none) G1 (.ref p) (.tu [(thT c 100 d), (thT c 115 d)]) := .tu e1 (.cons ((rw'.same sG).same t1) (.cons ((rh.same sG).same t1) .nil))
      repeat walk_at "rd"
      refine ⟨_, _, _, rf, rd, dpt, ?_⟩
      cases rd with
      | tu e2 r2' =>
      repeat walk_at "rd"
      repeat walk_at "rd"
      refine if_ne rfl ?_
      repeat walk_at "rd"
      refine c__law_heap hd fun vh G2 t2 r2 hB => ?_
      repeat walk_at "rd"
      refine c_is_heap r2 (hp_bd hB) hp_len hdb fun G3 t3 => ?_
      repeat walk_at "rd"
      refine c__law_is_heap (r2.same t3) (hp_bd hB) hR fun G4 t4 => ?_
      repeat walk_at "rd"
      refine if_ne rfl ?_
      repeat walk_at "rd"
      refine c__law_heap hd fun vh2 G5 t5 r5 hB5 => ?_
      refine ⟨hpT c d, _, _, ((r2.same t3).same t4).same t5, r5, hp_dp, ?_⟩
      repeat walk_at "rd"
      exact ⟨_, _, _, _, _, _, _, rfl, ((((((((s6.trans s7).trans s8).trans sG).trans t1).trans t2).trans t3).trans t4).trans t5)⟩
    · rw [if_neg (by rw [hs]; decide)] at rd
      cases rd with
      | fl hf =>
      repeat walk_at "rd"
      refine ⟨.fl (.int 1), (fun _ => none), (fun _ => none), .fl rfl, .fl rfl, by simp [dp], ?_⟩
      repeat walk_at "rd"
      refine i_isK (.int 1) (b := false) (by decide +kernel) ?_
      repeat walk_at "rd"
      refine i_isK (.int 1) (b := false) (by decide +kernel) ?_
      repeat walk_at "rd"
      refine if_ne rfl ?_
      repeat walk_at "rd"
      refine c__law_heap hd fun vh G2 t2 r2 hB => ?_
      repeat walk_at "rd"
      refine c_is_heap r2 (hp_bd hB) hp_len hdb fun G3 t3 => ?_
      repeat walk_at "rd"
      refine c__law_is_heap (r2.same t3) (hp_bd hB) hR fun G4 t4 => ?_
      repeat walk_at "rd"
      refine if_ne rfl ?_
      repeat walk_at "rd"
      refine c__law_heap hd fun vh2 G5 t5 r5 hB5 => ?_
      refine ⟨hpT c d, _, _, ((r2.same t3).same t4).same t5, r5, hp_dp, ?_⟩
      repeat walk_at "rd"
      exact ⟨_, _, _, _, _, _, _, rfl, ((((((((s6.trans s7).trans s8).trans sG).trans t1).trans t2).trans t3).trans t4).trans t5)⟩
  · rintro σ H' ⟨v2, v3, v4, v5, v6, v7, v8, rfl, s6⟩
    repeat walk_at "rd"
    exact q _
end
end Bk
open PySem PySem.W PyProof.Rows
set_option maxRecDepth 100000 in
set_option maxHeartbeats 0 in
theorem PySem.Challenge.cw_boardglue_k12_boards_and_heaps_holds : PySem.Challenge.rw_boardglue_k12_boards_and_heaps.Holds := by
  w_on; o_law; k_head; (case hw => w_witness2)
  k_fill
  refine L2.walk_B (l := PySem.Challenge.rw_boardglue_k12_boards_and_heaps) (k := 8) (x := "_law_script") rfl rfl ⟨rfl, by decide, by decide⟩ (fun w h Y => PySem.W.kIn_of Y) ?F
  case F =>
    intro w mg fa h KX G hmg
    have B : Bk.Bl mg := by
      refine' ⟨PySem.W.mg_none_of KX G ?z0, PySem.W.mg_none_of KX G ?z1, PySem.W.mg_none_of KX G ?z2, PySem.W.mg_none_of KX G ?z3, PySem.W.mg_none_of KX G ?z4, PySem.W.mg_none_of KX G ?z5, PySem.W.mg_none_of KX G ?z6, PySem.W.mg_none_of KX G ?z7, PySem.W.mg_none_of KX G ?z8, PySem.W.mg_none_of KX G ?z9, PySem.W.mg_none_of KX G ?z10⟩
      (case z0 => k_is)
      (case z1 => k_is)
      (case z2 => k_is)
      (case z3 => k_is)
      (case z4 => k_is)
      (case z5 => k_is)
      (case z6 => k_is)
      (case z7 => k_is)
      (case z8 => k_is)
      (case z9 => k_is)
      (case z10 => k_is)
    have T_is_whole : L2.Top (L2.KOf KX) mg "is_whole" Bk.s_is_whole := by
      dsimp only [L2.KOf]
      refine' L2.top_mk KX G ?a ?l ?c ?k
      (case a => k_is); (case l => k_is); (case c => k_is); (case k => k_is)
    have T_common_divisor : L2.Top (L2.KOf KX) mg "common_divisor" Bk.s_common_divisor := by
      dsimp only [L2.KOf]
      refine' L2.top_mk KX G ?a ?l ?c ?k
      (case a => k_is); (case l => k_is); (case c => k_is); (case k => k_is)
    have T_with_sign_of : L2.Top (L2.KOf KX) mg "with_sign_of" Bk.s_with_sign_of := by
      dsimp only [L2.KOf]
      refine' L2.top_mk KX G ?a ?l ?c ?k
      (case a => k_is); (case l => k_is); (case c => k_is); (case k => k_is)
    have T_is_above_nought : L2.Top (L2.KOf KX) mg "is_above_nought" Bk.s_is_above_nought := by
      dsimp only [L2.KOf]
      refine' L2.top_mk KX G ?a ?l ?c ?k
      (case a => k_is); (case l => k_is); (case c => k_is); (case k => k_is)
    have T__law_mix : L2.Top (L2.KOf KX) mg "_law_mix" Bk.s__law_mix := by
      dsimp only [L2.KOf]
      refine' L2.top_mk KX G ?a ?l ?c ?k
      (case a => k_is); (case l => k_is); (case c => k_is); (case k => k_is)
    have T__law_whole : L2.Top (L2.KOf KX) mg "_law_whole" Bk.s__law_whole := by
      dsimp only [L2.KOf]
      refine' L2.top_mk KX G ?a ?l ?c ?k
      (case a => k_is); (case l => k_is); (case c => k_is); (case k => k_is)
    have T__law_low : L2.Top (L2.KOf KX) mg "_law_low" Bk.s__law_low := by
      dsimp only [L2.KOf]
      refine' L2.top_mk KX G ?a ?l ?c ?k
      (case a => k_is); (case l => k_is); (case c => k_is); (case k => k_is)
    have T__law_sign : L2.Top (L2.KOf KX) mg "_law_sign" Bk.s__law_sign := by
      dsimp only [L2.KOf]
      refine' L2.top_mk KX G ?a ?l ?c ?k
      (case a => k_is); (case l => k_is); (case c => k_is); (case k => k_is)
    have T__law_root : L2.Top (L2.KOf KX) mg "_law_root" Bk.s__law_root := by
      dsimp only [L2.KOf]
      refine' L2.top_mk KX G ?a ?l ?c ?k
      (case a => k_is); (case l => k_is); (case c => k_is); (case k => k_is)
    have T__law_kinds : L2.Top (L2.KOf KX) mg "_law_kinds" Bk.s__law_kinds := by
      dsimp only [L2.KOf]
      refine' L2.top_mk KX G ?a ?l ?c ?k
      (case a => k_is); (case l => k_is); (case c => k_is); (case k => k_is)
    have T_length : ∃ u0 u1, L2.TopD (L2.KOf KX) mg "length" Bk.s_length [.int 0 u0, .int 1 u1] := by
      dsimp only [L2.KOf]
      refine' ⟨_, _, L2.topD_mk KX G ?a ?l ?c ?k ?t ?d⟩
      (case a => k_is); (case l => k_is); (case c => k_is); (case k => k_is); (case t => k_is); (case d => exact rfl)
    obtain ⟨u0, u1, T_length⟩ := T_length
    have T_under : L2.Top (L2.KOf KX) mg "under" Bk.s_under := by
      dsimp only [L2.KOf]
      refine' L2.top_mk KX G ?a ?l ?c ?k
      (case a => k_is); (case l => k_is); (case c => k_is); (case k => k_is)
    have T__law_side : L2.Top (L2.KOf KX) mg "_law_side" Bk.s__law_side := by
      dsimp only [L2.KOf]
      refine' L2.top_mk KX G ?a ?l ?c ?k
      (case a => k_is); (case l => k_is); (case c => k_is); (case k => k_is)
    have T__law_below : L2.Top (L2.KOf KX) mg "_law_below" Bk.s__law_below := by
      dsimp only [L2.KOf]
      refine' L2.top_mk KX G ?a ?l ?c ?k
      (case a => k_is); (case l => k_is); (case c => k_is); (case k => k_is)
    have T__law_is_side : L2.Top (L2.KOf KX) mg "_law_is_side" Bk.s__law_is_side := by
      dsimp only [L2.KOf]
      refine' L2.top_mk KX G ?a ?l ?c ?k
      (case a => k_is); (case l => k_is); (case c => k_is); (case k => k_is)
    have T_is_length : L2.Top (L2.KOf KX) mg "is_length" Bk.s_is_length := by
      dsimp only [L2.KOf]
      refine' L2.top_mk KX G ?a ?l ?c ?k
      (case a => k_is); (case l => k_is); (case c => k_is); (case k => k_is)
    have T__law_thing : L2.Top (L2.KOf KX) mg "_law_thing" Bk.s__law_thing := by
      dsimp only [L2.KOf]
      refine' L2.top_mk KX G ?a ?l ?c ?k
      (case a => k_is); (case l => k_is); (case c => k_is); (case k => k_is)
    have T__law_is_heap : L2.Top (L2.KOf KX) mg "_law_is_heap" Bk.s__law_is_heap := by
      dsimp only [L2.KOf]
      refine' L2.top_mk KX G ?a ?l ?c ?k
      (case a => k_is); (case l => k_is); (case c => k_is); (case k => k_is)
    have T_is_side : L2.Top (L2.KOf KX) mg "is_side" Bk.s_is_side := by
      dsimp only [L2.KOf]
      refine' L2.top_mk KX G ?a ?l ?c ?k
      (case a => k_is); (case l => k_is); (case c => k_is); (case k => k_is)
    have T__law_heap : L2.Top (L2.KOf KX) mg "_law_heap" Bk.s__law_heap := by
      dsimp only [L2.KOf]
      refine' L2.top_mk KX G ?a ?l ?c ?k
      (case a => k_is); (case l => k_is); (case c => k_is); (case k => k_is)
    have T_is_board : L2.Top (L2.KOf KX) mg "is_board" Bk.s_is_board := by
      dsimp only [L2.KOf]
      refine' L2.top_mk KX G ?a ?l ?c ?k
      (case a => k_is); (case l => k_is); (case c => k_is); (case k => k_is)
    have T_board : L2.Top (L2.KOf KX) mg "board" Bk.s_board := by
      dsimp only [L2.KOf]
      refine' L2.top_mk KX G ?a ?l ?c ?k
      (case a => k_is); (case l => k_is); (case c => k_is); (case k => k_is)
    have T_is_heap : L2.Top (L2.KOf KX) mg "is_heap" Bk.s_is_heap := by
      dsimp only [L2.KOf]
      refine' L2.top_mk KX G ?a ?l ?c ?k
      (case a => k_is); (case l => k_is); (case c => k_is); (case k => k_is)
    have T__law_board : L2.Top (L2.KOf KX) mg "_law_board" Bk.s__law_board := by
      dsimp only [L2.KOf]
      refine' L2.top_mk KX G ?a ?l ?c ?k
      (case a => k_is); (case l => k_is); (case c => k_is); (case k => k_is)
    have T_law : L2.Top (L2.KOf KX) mg "law" Bk.s_law := by
      dsimp only [L2.KOf]
      refine' L2.top_mk KX G ?a ?l ?c ?k
      (case a => k_is); (case l => k_is); (case c => k_is); (case k => k_is)
    have g_NOUGHT : L2.TopT (L2.KOf KX) mg "NOUGHT" [.int 0, .int 0, .int 1] := by
      dsimp only [L2.KOf]
      refine' L2.topT_mk KX G ?a ?l ?c ?d ?z ?v
      (case a => k_is); (case l => k_is); (case c => rfl); (case d => rfl); (case z => decide); (case v => exact (.cons ⟨_, rfl⟩ (.cons ⟨_, rfl⟩ (.cons ⟨_, rfl⟩ .nil))))
    have g_GREAT_BITS : L2.TopI mg "GREAT_BITS" (8192) := by
      refine' L2.topI_mk KX G ?e
      (case e => k_is)
    have X : ∃ xYardError xNoLength xNoBoard xNoText xNoDeed xNoName xGrain xUnfit xTooMany xNoRow xApart, Bk.Xs (L2.KOf KX) mg ⟨xYardError, xNoLength, xNoBoard, xNoText, xNoDeed, xNoName, xGrain, xUnfit, xTooMany, xNoRow, xApart⟩ := by
      dsimp only [L2.KOf]
      refine' ⟨_, _, _, _, _, _, _, _, _, _, _, Bk.xs_mk (PySem.W.mg_of KX G ?m_YardError) (PySem.W.mg_of KX G ?m_NoLength) (PySem.W.mg_of KX G ?m_NoBoard) (PySem.W.mg_of KX G ?m_NoText) (PySem.W.mg_of KX G ?m_NoDeed) (PySem.W.mg_of KX G ?m_NoName) (PySem.W.mg_of KX G ?m_Grain) (PySem.W.mg_of KX G ?m_Unfit) (PySem.W.mg_of KX G ?m_TooMany) (PySem.W.mg_of KX G ?m_NoRow) (PySem.W.mg_of KX G ?m_Apart) ⟨?o_YardError_0, Bk.is_s ?o_YardError_1, ?o_YardError_2, ?o_YardError_3, ?o_YardError_4, ?o_YardError_5, ?o_YardError_6⟩ ⟨?o_NoBoard_0, Bk.is_s ?o_NoBoard_1, ?o_NoBoard_2, ?o_NoBoard_3, ?o_NoBoard_4, ?o_NoBoard_5, ?o_NoBoard_6⟩ ?s_NoBoard ?k_NoBoard_YardError ?k_NoBoard_NoLength ?k_NoBoard_NoBoard ?k_NoBoard_NoText ?k_NoBoard_NoDeed ?k_NoBoard_NoName ?k_NoBoard_Grain ?k_NoBoard_Unfit ?k_NoBoard_TooMany ?k_NoBoard_NoRow ?k_NoBoard_Apart ?k_NoBoard_ValueError⟩
      (case m_YardError => k_is)
      (case m_NoLength => k_is)
      (case m_NoBoard => k_is)
      (case m_NoText => k_is)
      (case m_NoDeed => k_is)
      (case m_NoName => k_is)
      (case m_Grain => k_is)
      (case m_Unfit => k_is)
      (case m_TooMany => k_is)
      (case m_NoRow => k_is)
      (case m_Apart => k_is)
      (case o_YardError_0 => k_exc)
      (case o_YardError_1 => k_is)
      (case o_YardError_2 => k_is)
      (case o_YardError_3 => k_is)
      (case o_YardError_4 => k_is)
      (case o_YardError_5 => k_is)
      (case o_YardError_6 => k_is)
      (case o_NoBoard_0 => k_exc)
      (case o_NoBoard_1 => k_is)
      (case o_NoBoard_2 => k_is)
      (case o_NoBoard_3 => k_is)
      (case o_NoBoard_4 => k_is)
      (case o_NoBoard_5 => k_is)
      (case o_NoBoard_6 => k_is)
      (case s_NoBoard => k_is)
      (case k_NoBoard_YardError => kit_is)
      (case k_NoBoard_NoLength => kit_is)
      (case k_NoBoard_NoBoard => kit_is)
      (case k_NoBoard_NoText => kit_is)
      (case k_NoBoard_NoDeed => kit_is)
      (case k_NoBoard_NoName => kit_is)
      (case k_NoBoard_Grain => kit_is)
      (case k_NoBoard_Unfit => kit_is)
      (case k_NoBoard_TooMany => kit_is)
      (case k_NoBoard_NoRow => kit_is)
      (case k_NoBoard_Apart => kit_is)
      (case k_NoBoard_ValueError => kit_is)
    obtain ⟨xYardError, xNoLength, xNoBoard, xNoText, xNoDeed, xNoName, xGrain, xUnfit, xTooMany, xNoRow, xApart, X⟩ := X
    refine L2.law_mk T_law hmg (fun _ _ _ _ _ _ _ => rfl) fun base f fd F => ?_
    have o_is_whole : L2.Own PySem.Challenge.pw_boardglue_k12_boards_and_heaps w (L2.KOf KX) mg base 1 "is_whole" ["thing"] [] Bk.sp_is_whole := T_is_whole.own (fun _ _ _ _ _ _ us hl => match us, hl with | [_], _ => rfl) (fun f fd F => Bk.ok_is_whole F B )
    have o_common_divisor : L2.Own PySem.Challenge.pw_boardglue_k12_boards_and_heaps w (L2.KOf KX) mg base 1 "common_divisor" ["one", "other"] [] Bk.sp_common_divisor := T_common_divisor.own (fun _ _ _ _ _ _ us hl => match us, hl with | [_, _], _ => rfl) (fun f fd F => Bk.ok_common_divisor F B g_GREAT_BITS)
    have o_with_sign_of : L2.Own PySem.Challenge.pw_boardglue_k12_boards_and_heaps w (L2.KOf KX) mg base 1 "with_sign_of" ["divisor", "bottom"] [] Bk.sp_with_sign_of := T_with_sign_of.own (fun _ _ _ _ _ _ us hl => match us, hl with | [_, _], _ => rfl) (fun f fd F => Bk.ok_with_sign_of F B )
    have o_is_above_nought : L2.Own PySem.Challenge.pw_boardglue_k12_boards_and_heaps w (L2.KOf KX) mg base 1 "is_above_nought" ["d", "a", "b"] [] Bk.sp_is_above_nought := T_is_above_nought.own (fun _ _ _ _ _ _ us hl => match us, hl with | [_, _, _], _ => rfl) (fun f fd F => Bk.ok_is_above_nought F B )
    have o__law_mix : L2.Own PySem.Challenge.pw_boardglue_k12_boards_and_heaps w (L2.KOf KX) mg base 1 "_law_mix" ["_law_cell", "_law_k"] [] Bk.sp__law_mix := T__law_mix.own (fun _ _ _ _ _ _ us hl => match us, hl with | [_, _], _ => rfl) (fun f fd F => Bk.ok__law_mix F B )
    have o__law_whole : L2.Own PySem.Challenge.pw_boardglue_k12_boards_and_heaps w (L2.KOf KX) mg base 1 "_law_whole" ["_law_found"] [] Bk.sp__law_whole := T__law_whole.own (fun _ _ _ _ _ _ us hl => match us, hl with | [_], _ => rfl) (fun f fd F => Bk.ok__law_whole F B )
    have o__law_low : L2.Own PySem.Challenge.pw_boardglue_k12_boards_and_heaps w (L2.KOf KX) mg base 1 "_law_low" ["_law_a", "_law_b", "_law_n"] [] Bk.sp__law_low := T__law_low.own (fun _ _ _ _ _ _ us hl => match us, hl with | [_, _, _], _ => rfl) (fun f fd F => Bk.ok__law_low F B )
    have o__law_sign : L2.Own PySem.Challenge.pw_boardglue_k12_boards_and_heaps w (L2.KOf KX) mg base 1 "_law_sign" ["_law_d", "_law_a", "_law_b"] [] Bk.sp__law_sign := T__law_sign.own (fun _ _ _ _ _ _ us hl => match us, hl with | [_, _, _], _ => rfl) (fun f fd F => Bk.ok__law_sign F B )
    have o__law_root : L2.Own PySem.Challenge.pw_boardglue_k12_boards_and_heaps w (L2.KOf KX) mg base 1 "_law_root" ["_law_cell"] [] Bk.sp__law_root := T__law_root.own (fun _ _ _ _ _ _ us hl => match us, hl with | [_], _ => rfl) (fun f fd F => Bk.ok__law_root F B )
    have o__law_kinds : L2.Own PySem.Challenge.pw_boardglue_k12_boards_and_heaps w (L2.KOf KX) mg base 1 "_law_kinds" ["_law_e"] [] (Bk.sp__law_kinds (⟨xYardError, xNoLength, xNoBoard, xNoText, xNoDeed, xNoName, xGrain, xUnfit, xTooMany, xNoRow, xApart⟩ : Bk.Cs)) := T__law_kinds.own (fun _ _ _ _ _ _ us hl => match us, hl with | [_], _ => rfl) (fun f fd F => Bk.ok__law_kinds F B X)
    have o_length : L2.Own PySem.Challenge.pw_boardglue_k12_boards_and_heaps w (L2.KOf KX) mg base 2 "length" ["a", "b", "n"] [] Bk.sp_length := T_length.own (ds := []) (fun T _ _ _ _ _ _ us hl => by have hl' : us.length = 3 := (by simpa using hl); match us, hl' with | [_, _, _], _ => exact ⟨_, rfl, rfl⟩) .nil (fun f fd F => Bk.ok_length F B o_with_sign_of o_common_divisor o_is_whole)
    have o_under : L2.Own PySem.Challenge.pw_boardglue_k12_boards_and_heaps w (L2.KOf KX) mg base 2 "under" ["d", "one", "other"] [] (Bk.sp_under (L2.KOf KX)) := T_under.own (fun _ _ _ _ _ _ us hl => match us, hl with | [_, _, _], _ => rfl) (fun f fd F => Bk.ok_under F B o_is_above_nought)
    have o__law_side : L2.Own PySem.Challenge.pw_boardglue_k12_boards_and_heaps w (L2.KOf KX) mg base 2 "_law_side" ["_law_cell", "_law_k", "_law_d"] [] Bk.sp__law_side := T__law_side.own (fun _ _ _ _ _ _ us hl => match us, hl with | [_, _, _], _ => rfl) (fun f fd F => Bk.ok__law_side F B o__law_low o__law_mix)
    have o__law_below : L2.Own PySem.Challenge.pw_boardglue_k12_boards_and_heaps w (L2.KOf KX) mg base 2 "_law_below" ["_law_cell", "_law_k", "_law_d"] [] Bk.sp__law_below := T__law_below.own (fun _ _ _ _ _ _ us hl => match us, hl with | [_, _, _], _ => rfl) (fun f fd F => Bk.ok__law_below F B o__law_low o__law_mix)
    have o__law_is_side : L2.Own PySem.Challenge.pw_boardglue_k12_boards_and_heaps w (L2.KOf KX) mg base 2 "_law_is_side" ["_law_thing_here", "_law_d"] [] Bk.sp__law_is_side := T__law_is_side.own (fun _ _ _ _ _ _ us hl => match us, hl with | [_, _], _ => rfl) (fun f fd F => Bk.ok__law_is_side F B o__law_whole o__law_low o__law_sign)
    have o_is_length : L2.Own PySem.Challenge.pw_boardglue_k12_boards_and_heaps w (L2.KOf KX) mg base 3 "is_length" ["thing"] [] Bk.sp_is_length := T_is_length.own (fun _ _ _ _ _ _ us hl => match us, hl with | [_], _ => rfl) (fun f fd F => Bk.ok_is_length F B o_length o_is_whole)
    have o__law_thing : L2.Own PySem.Challenge.pw_boardglue_k12_boards_and_heaps w (L2.KOf KX) mg base 3 "_law_thing" ["_law_cell", "_law_k", "_law_d"] [] Bk.sp__law_thing := T__law_thing.own (fun _ _ _ _ _ _ us hl => match us, hl with | [_, _, _], _ => rfl) (fun f fd F => Bk.ok__law_thing F B o__law_side o__law_low o__law_mix o__law_below)
    have o__law_is_heap : L2.Own PySem.Challenge.pw_boardglue_k12_boards_and_heaps w (L2.KOf KX) mg base 3 "_law_is_heap" ["_law_thing_here", "_law_d"] [] Bk.sp__law_is_heap := T__law_is_heap.own (fun _ _ _ _ _ _ us hl => match us, hl with | [_, _], _ => rfl) (fun f fd F => Bk.ok__law_is_heap F B o__law_is_side)
    have o_is_side : L2.Own PySem.Challenge.pw_boardglue_k12_boards_and_heaps w (L2.KOf KX) mg base 4 "is_side" ["d", "thing"] [] Bk.sp_is_side := T_is_side.own (fun _ _ _ _ _ _ us hl => match us, hl with | [_, _], _ => rfl) (fun f fd F => Bk.ok_is_side F B g_NOUGHT o_is_length o_under)
    have o__law_heap : L2.Own PySem.Challenge.pw_boardglue_k12_boards_and_heaps w (L2.KOf KX) mg base 4 "_law_heap" ["_law_cell", "_law_d"] [] Bk.sp__law_heap := T__law_heap.own (fun _ _ _ _ _ _ us hl => match us, hl with | [_, _], _ => rfl) (fun f fd F => Bk.ok__law_heap F B o__law_mix o__law_thing)
    have o_is_board : L2.Own PySem.Challenge.pw_boardglue_k12_boards_and_heaps w (L2.KOf KX) mg base 5 "is_board" ["d", "thing"] [] Bk.sp_is_board := T_is_board.own (fun _ _ _ _ _ _ us hl => match us, hl with | [_, _], _ => rfl) (fun f fd F => Bk.ok_is_board F B o_is_side)
    have o_board : L2.OwnX PySem.Challenge.pw_boardglue_k12_boards_and_heaps w (L2.KOf KX) mg base 6 "board" ["d", "width", "height"] [] (Bk.sp_board (⟨xYardError, xNoLength, xNoBoard, xNoText, xNoDeed, xNoName, xGrain, xUnfit, xTooMany, xNoRow, xApart⟩ : Bk.Cs)) := T_board.ownX (fun _ _ _ _ _ _ us hl => match us, hl with | [_, _, _], _ => rfl) (fun f fd F => Bk.ok_board F B X o_is_board)
    have o_is_heap : L2.Own PySem.Challenge.pw_boardglue_k12_boards_and_heaps w (L2.KOf KX) mg base 6 "is_heap" ["d", "thing"] [] Bk.sp_is_heap := T_is_heap.own (fun _ _ _ _ _ _ us hl => match us, hl with | [_, _], _ => rfl) (fun f fd F => Bk.ok_is_heap F B o_is_board)
    have o__law_board : L2.Own PySem.Challenge.pw_boardglue_k12_boards_and_heaps w (L2.KOf KX) mg base 7 "_law_board" ["_law_d", "_law_width", "_law_height"] [] Bk.sp__law_board := T__law_board.own (fun _ _ _ _ _ _ us hl => match us, hl with | [_, _, _], _ => rfl) (fun f fd F => Bk.ok__law_board F B X o_board o__law_kinds)
    exact Bk.ok_law F B o__law_root o__law_thing o__law_board o__law_heap o_is_heap o__law_is_side o__law_is_heap