import PyProof.Rows.All
import Wide.All
import OpenK.AllK
import Wide.FinOn
import Lean
import PyProof.EqAt
import PyProof.EqKinds
import PyProof.TupleCall
import PySem.Challenge.RW_boardglue_k26_no_heap
set_option Elab.async false
set_option linter.all false
set_option maxRecDepth 100000
namespace L2
open PySem PySem.Spec PyProof.Rows
abbrev Key := Sum Int Str
def keyIs : Key → Value → Bool
  | .inl k, v => Value.isInt k v
  | .inr x, v => Value.isStrOf x v
def keyH (w : World) : Key → Int
  | .inl k => hashInt k
  | .inr x => hashStr w x
theorem keyIs_shape : ∀ {k : Key} {v : Value}, keyIs k v = true → (∃ i t, k = Sum.inl i ∧ v = Value.int i t) ∨ (∃ x t, k = Sum.inr x ∧ v = Value.str x t)
  | .inl i, v, h => by
    obtain ⟨t, e⟩ := Value.isInt_shape (k := i) (v := v) h
    exact .inl ⟨i, t, rfl, e⟩
  | .inr x, v, h => by
    obtain ⟨t, e⟩ := Value.isStrOf_shape (x := x) (v := v) h
    exact .inr ⟨x, t, rfl, e⟩
theorem key_ll (a b : Int) : decide ((Sum.inl a : Key) = Sum.inl b) = (a == b) := by
  by_cases e : a = b
  · subst e; simp
  · have h : ¬ (Sum.inl a : Key) = Sum.inl b := fun q => e (Sum.inl.inj q)
    rw [decide_eq_false h]
    exact (beq_eq_false_iff_ne.mpr e).symm
theorem key_rr (a b : Str) : decide ((Sum.inr a : Key) = Sum.inr b) = decide (a = b) := by
  by_cases e : a = b
  · subst e; simp
  · have h : ¬ (Sum.inr a : Key) = Sum.inr b := fun q => e (Sum.inr.inj q)
    rw [decide_eq_false h, decide_eq_false e]
theorem key_lr (a : Int) (b : Str) : decide ((Sum.inl a : Key) = Sum.inr b) = false := decide_eq_false (fun q => nomatch q)
theorem key_rl (a : Str) (b : Int) : decide ((Sum.inr a : Key) = Sum.inl b) = false := decide_eq_false (fun q => nomatch q)
def mixKind (prog : Program) (w : World) : PySem.KeyKind prog w Key where
  is := keyIs
  hash := keyH w
  inj := fun v a b ha hb => by
    rcases keyIs_shape ha with ⟨i, t, rfl, rfl⟩ | ⟨x, t, rfl, rfl⟩
    · rcases keyIs_shape hb with ⟨j, u, rfl, e⟩ | ⟨y, u, rfl, e⟩
      · injection e with e1 _; rw [e1]
      · exact nomatch e
    · rcases keyIs_shape hb with ⟨j, u, rfl, e⟩ | ⟨y, u, rfl, e⟩
      · exact nomatch e
      · injection e with e1 _; rw [e1]
  byValue := fun k v h => by
    rcases keyIs_shape h with ⟨i, t, rfl, rfl⟩ | ⟨x, t, rfl, rfl⟩ <;> rfl
  pyHash := fun hv h => by
    rcases keyIs_shape hv with ⟨i, t, rfl, rfl⟩ | ⟨x, t, rfl, rfl⟩
    · exact wpAny_pyHash_int h
    · exact wpAny_pyHash_str h
  eqBool := fun hu hv h => by
    rcases keyIs_shape hu with ⟨i, t, rfl, rfl⟩ | ⟨x, t, rfl, rfl⟩
    · rcases keyIs_shape hv with ⟨j, u, rfl, rfl⟩ | ⟨y, u, rfl, rfl⟩
      · rw [key_ll] at h; exact wpAny_eqBool_int h
      · rw [key_lr] at h; exact SeqAt.EqAt.int_str i t y u _ _ _ _ h
    · rcases keyIs_shape hv with ⟨j, u, rfl, rfl⟩ | ⟨y, u, rfl, rfl⟩
      · rw [key_rl] at h; exact SeqAt.EqAt.str_int x t j u _ _ _ _ h
      · rw [key_rr] at h; exact wpAny_eqBool_str h
  «strs» := fun k x t v h => by
    rcases keyIs_shape h with ⟨i, u, rfl, e⟩ | ⟨y, u, rfl, e⟩
    · exact nomatch e
    · injection e with e1 _
      subst e1
      cases v <;> rfl
end L2
namespace L2
open PySem PySem.Spec PyProof.Rows
inductive V where
  | non | bl (b : Bool) | int (i : Int) | str (x : Str) | byt (b : Array UInt8) | flt (b : UInt64) | ref (a : Addr) | ty (n : String)
  deriving DecidableEq
def RelV : V → Value → Prop
  | .non, u => u = Value.none
  | .bl b, u => u = Value.bool b
  | .int i, u => ∃ t, u = Value.int i t
  | .str x, u => ∃ t, u = Value.str x t
  | .byt b, u => ∃ t, u = Value.bytes b t
  | .flt b, u => ∃ t, u = Value.float b t
  | .ref a, u => u = Value.ref a
  | .ty n, u => u = Value.type n
abbrev Vals : List V → List Value → Prop := Paired RelV
theorem Vals.length {xs : List V} {us : List Value} (r : Vals xs us) : xs.length = us.length := Paired.length r
theorem Vals.get : ∀ {xs : List V} {us : List Value} {i : Nat} {x : V}, Vals xs us → xs[i]? = some x → ∃ u, us[i]? = some u ∧ RelV x u
  | _, _, _, _, .nil, e => by simp at e
  | _, _, 0, _, .cons r _, e => by simp at e; subst e; exact ⟨_, rfl, r⟩
  | _, _, i + 1, x, .cons _ t, e => by
    obtain ⟨u, h1, h2⟩ := Vals.get (i := i) (x := x) t (by simpa using e)
    exact ⟨u, by simpa using h1, h2⟩
theorem Vals.append : ∀ {xs ys : List V} {us ws : List Value}, Vals xs us → Vals ys ws → Vals (xs ++ ys) (us ++ ws)
  | _, _, _, _, .nil, s => s
  | _, _, _, _, .cons r t, s => .cons r (Vals.append t s)
theorem Vals.take : ∀ {xs : List V} {us : List Value} (n : Nat), Vals xs us → Vals (xs.take n) (us.take n)
  | _, _, 0, _ => .nil
  | _, _, _ + 1, .nil => .nil
  | _, _, n + 1, .cons r t => .cons r (Vals.take n t)
theorem Vals.drop : ∀ {xs : List V} {us : List Value} (n : Nat), Vals xs us → Vals (xs.drop n) (us.drop n)
  | _, _, 0, r => r
  | _, _, _ + 1, .nil => .nil
  | _, _, n + 1, .cons _ t => Vals.drop n t
def RelO : Option V → Option Value → Prop
  | some v, some u => RelV v u
  | none, none => True
  | _, _ => False
def KV {κ : Type} : List (κ × V) → List (κ × Value) → Prop := Paired fun (p : κ × V) (q : κ × Value) => p.1 = q.1 ∧ RelV p.2 q.2
def kV : Key → V
  | .inl i => .int i
  | .inr x => .str x
inductive HO where
  | lst (xs : List V)
  | tup (xs : List V)
  | dK (kvs : List (Key × V)) | dT (kvs : List (List Key × V))
  | set (S : Int → Bool) (n : Nat)
  | ins (C dx : Addr) (fs : List (Str × V))
  | own (x : Addr)
  | xd (fs : List (Str × V))
  | met (f x : Addr)
  | rng (lo hi : Int)
  | frz (o : Obj) (u : HO)
  | tbl (ps : Array Value)
  | ext (φ : Heap → Prop)
abbrev Hp := Addr → Option HO
def upd (H : Hp) (a : Addr) (o : HO) : Hp := fun b => if b = a then some o else H b
theorem upd_same {H : Hp} {a : Addr} {o : HO} : upd H a o a = some o := by unfold upd; rw [if_pos rfl]
theorem upd_ne {H : Hp} {a b : Addr} {o : HO} (h : b ≠ a) : upd H a o b = H b := by unfold upd; rw [if_neg h]
theorem ne_of {H : Hp} {a b : Addr} {o u : HO} (h : H a = some o) (h' : H b = some u) (d : o ≠ u) : a ≠ b := by
  intro e; subst e; rw [h] at h'; exact d (Option.some.inj h')
theorem ne_of_none {H : Hp} {a b : Addr} {o : HO} (h : H a = some o) (h' : H b = none) : a ≠ b := by
  intro e; subst e; rw [h] at h'; cases h'
section
variable (P : Program) (w : World)
def ObjOk (H : Hp) (h : Heap) (a : Addr) : HO → Prop
  | .lst xs => xs.length ≤ sizeLine ∧ ∃ (its : List Value) (n : Nat), Vals xs its ∧ h.get? a = some { cls := .type "list", data := .seq its.toArray n }
  | .tup xs => xs.length ≤ sizeLine ∧ ∃ its : List Value, Vals xs its ∧ IsTup h a its.toArray
  | .dK kvs => kvs.length ≤ sizeLine ∧ (a == sysModules) = false ∧ ∃ vs, KV kvs vs ∧ h.DictOf (mixKind P w) a vs
  | .dT kvs => kvs.length ≤ sizeLine ∧ (a == sysModules) = false ∧ ∃ xs : List (List Key × Addr × Value),
      Paired (fun (p : List Key × V) (q : List Key × Addr × Value) => p.1 = q.1 ∧ H q.2.1 = some (.tup (p.1.map kV)) ∧ RelV p.2 q.2.2) kvs xs ∧
      ∃ o es ep, h.get? a = some o ∧ o.ExactDict ∧ o.data = .dict es ep ∧ es.toList = xs.map (entryOfKey (tupleKind (mixKind P w))) ∧ (xs.map (·.1)).Nodup
  | .set S n => h.SetOf (intKind P w) a S n
  | .ins C dx fs => H dx = some (.own a) ∧ fs.length ≤ 1000 ∧ dx ≠ a ∧ h.get? a = some (PySem.W.instObj C dx) ∧
      ∃ mA, h.Ns1 dx mA ∧ (∀ f, RelO (fs.lookup f) (mA f)) ∧ PySem.Within mA (fs.map (·.1))
  | .own _ => ∃ o, h.get? a = some o
  | .xd fs => ∃ mA, h.Ns1 a mA ∧ ∀ f, RelO (fs.lookup f) (mA f)
  | .rng lo hi => ∃ t u v, h.get? a = some { cls := .type "range", data := .fields #[.int lo t, .int hi u, .int 1 v] }
  | .frz o u => h.get? a = some o ∧ ObjOk H h a u
  | .tbl ps => h.get? a = some { cls := .none, data := .fields ps }
  | .met f x => h.get? a = some (PySem.W.methodObj (.ref f) (.ref x))
  | .ext φ => φ h ∧ (∃ o, h.get? a = some o) ∧ ∀ h1 h2 : Heap, φ h1 → (∀ o, h1.get? a = some o → h2.get? a = some o) → φ h2
def HOk (H : Hp) (h : Heap) : Prop := ∀ a o, H a = some o → ObjOk P w H h a o
end
section
variable {P : Program} {w : World} {H H' : Hp} {h h' : Heap} {a : Addr} {o : HO}
theorem ObjOk.lt (x : ObjOk P w H h a o) : a < h.objs.size := by
  cases o with
  | lst xs => obtain ⟨_, _, _, _, e⟩ := x; exact Heap.lt_size e
  | tup xs => obtain ⟨_, _, _, p⟩ := x; exact p.lt
  | dK kvs => obtain ⟨_, _, _, _, o, _, _, e, _⟩ := x; exact Heap.lt_size e
  | dT kvs => obtain ⟨_, _, _, _, o, _, _, e, _⟩ := x; exact Heap.lt_size e
  | set S n => obtain ⟨o, _, _, _, e, _⟩ := x; exact Heap.lt_size e
  | ins C dx fs => obtain ⟨_, _, _, e, _⟩ := x; exact Heap.lt_size e
  | own y => obtain ⟨_, e⟩ := x; exact Heap.lt_size e
  | xd fs => obtain ⟨_, ⟨_, _, _, e, _⟩, _⟩ := x; exact Heap.lt_size e
  | rng lo hi => obtain ⟨_, _, _, e⟩ := x; exact Heap.lt_size e
  | frz ob u => obtain ⟨e, _⟩ := x; exact Heap.lt_size e
  | tbl ps => exact Heap.lt_size (show h.get? a = some _ from x)
  | met f y => exact Heap.lt_size (show h.get? a = some _ from x)
  | ext φ => obtain ⟨_, ⟨_, e⟩, _⟩ := x; exact Heap.lt_size e
theorem Paired.mapP {α β : Type} {F G : α → β → Prop} : ∀ {l₁ : List α} {l₂ : List β}, Paired F l₁ l₂ → (∀ a b, F a b → G a b) → Paired G l₁ l₂
  | _, _, .nil, _ => .nil
  | _, _, .cons r t, f => .cons (f _ _ r) (Paired.mapP t f)
theorem ObjOk.stay (x : ObjOk P w H h a o) (k : ∀ b u, (b = a ∨ H b = some (.own a)) → h.get? b = some u → h'.get? b = some u)
    (ho : ∀ b, H b = some (.own a) → H' b = some (.own a)) (ht : ∀ b xs, H b = some (.tup xs) → H' b = some (.tup xs)) : ObjOk P w H' h' a o := by
  induction o with
  | lst xs => obtain ⟨z, its, n, r, e⟩ := x; exact ⟨z, its, n, r, k _ _ (.inl rfl) e⟩
  | tup xs => obtain ⟨z, its, r, ob, e, c⟩ := x; exact ⟨z, its, r, ob, k _ _ (.inl rfl) e, c⟩
  | dK kvs => obtain ⟨z, y, vs, r, ob, es, ep, e, c⟩ := x; exact ⟨z, y, vs, r, ob, es, ep, k _ _ (.inl rfl) e, c⟩
  | dT kvs =>
    obtain ⟨z, y, xs, r, ob, es, ep, e, c⟩ := x
    exact ⟨z, y, xs, Paired.mapP r fun p q z => ⟨z.1, ht _ _ z.2.1, z.2.2⟩, ob, es, ep, k _ _ (.inl rfl) e, c⟩
  | set S n => obtain ⟨ob, es, ep, t, e, c⟩ := x; exact ⟨ob, es, ep, t, k _ _ (.inl rfl) e, c⟩
  | ins C dx fs =>
    obtain ⟨d, z, ne, e, mA, ⟨od, es, ep, e2, c⟩, r⟩ := x
    exact ⟨ho _ d, z, ne, k _ _ (.inl rfl) e, mA, ⟨od, es, ep, k _ _ (.inr d) e2, c⟩, r⟩
  | own y => obtain ⟨ob, e⟩ := x; exact ⟨ob, k _ _ (.inl rfl) e⟩
  | xd fs => obtain ⟨mA, ⟨od, es, ep, e, c⟩, r⟩ := x; exact ⟨mA, ⟨od, es, ep, k _ _ (.inl rfl) e, c⟩, r⟩
  | rng lo hi => obtain ⟨t, u, v, e⟩ := x; exact ⟨t, u, v, k _ _ (.inl rfl) e⟩
  | frz ob u ih => obtain ⟨e, q⟩ := x; exact ⟨k _ _ (.inl rfl) e, ih q⟩
  | tbl ps =>
    have e : h.get? a = some { cls := .none, data := .fields ps } := x
    show h'.get? a = some { cls := .none, data := .fields ps }
    exact k a _ (.inl rfl) e
  | met f y =>
    have e : h.get? a = some (PySem.W.methodObj (.ref f) (.ref y)) := x
    show h'.get? a = some (PySem.W.methodObj (.ref f) (.ref y))
    exact k a _ (.inl rfl) e
  | ext φ => obtain ⟨p, ⟨o, e⟩, st⟩ := x; exact ⟨st _ _ p fun o q => k _ _ (.inl rfl) q, ⟨o, k _ _ (.inl rfl) e⟩, st⟩
theorem HOk.lt (x : HOk P w H h) (e : H a = some o) : a < h.objs.size := (x a o e).lt
theorem HOk.fresh (x : HOk P w H h) (e : h.objs.size ≤ a) : H a = none := by
  cases q : H a with
  | none => rfl
  | some u => exact absurd (Nat.lt_of_lt_of_le (x.lt q) e) (Nat.lt_irrefl _)
theorem HOk.kept (x : HOk P w H h) (k : ∀ b u, h.get? b = some u → h'.get? b = some u) : HOk P w H h' := fun a o e =>
  (x a o e).stay (fun b u _ q => k b u q) (fun _ q => q) fun _ _ q => q
theorem HOk.laid (x : HOk P w H h) (k : ∀ b u, h.get? b = some u → h'.get? b = some u) (hp : h.objs.size ≤ a) (new : ObjOk P w (upd H a o) h' a o) : HOk P w (upd H a o) h' := fun b u e => by
  have hn := x.fresh hp
  by_cases hb : b = a
  · subst hb; rw [upd_same] at e; cases e; exact new
  · rw [upd_ne hb] at e
    exact (x b u e).stay (fun c v _ q => k c v q) (fun c q => by rw [upd_ne (ne_of_none q hn)]; exact q) fun c xs q => by rw [upd_ne (ne_of_none q hn)]; exact q
end
def Rd (H : Hp) (a : Addr) (u : HO) : Prop := H a = some u ∨ ∃ o, H a = some (.frz o u)
theorem Rd.ok {P : Program} {w : World} {H : Hp} {h : Heap} {a : Addr} {u : HO} (r : Rd H a u) (x : HOk P w H h) : ObjOk P w H h a u := by
  rcases r with r | ⟨o, r⟩
  · exact x a u r
  · obtain ⟨_, q⟩ := x a _ r
    exact q
def Mut : Option HO → Prop
  | some (.lst _) => True
  | some (.dK _) => True
  | some (.dT _) => True
  | some (.set _ _) => True
  | some (.ins _ _ _) => True
  | some (.ext _) => True
  | _ => False
section
variable {P : Program} {w : World} {H : Hp} {h h' : Heap} {x e : Addr} {o' : HO}
theorem HOk.write (ok : HOk P w H h) (mu : Mut (H x)) (he : e = x ∨ H e = some (.own x)) (k : ∀ b u, b ≠ e → h.get? b = some u → h'.get? b = some u) (heo : ∃ u, h'.get? e = some u)
    (new : ObjOk P w (upd H x o') h' x o') : HOk P w (upd H x o') h' := fun b u q => by
  have nown : ∀ c y, H c = some (.own y) → c ≠ x := fun c y r z => by subst z; rw [r] at mu; exact mu
  have ntup : ∀ c xs, H c = some (.tup xs) → c ≠ x := fun c xs r z => by subst z; rw [r] at mu; exact mu
  by_cases hb : b = x
  · subst hb; rw [upd_same] at q; cases q; exact new
  · rw [upd_ne hb] at q
    by_cases hbe : b = e
    · have q' : H b = some (.own x) := by
        rcases he with z | z
        · exact absurd (hbe.trans z) hb
        · rw [hbe]; exact z
      rw [q] at q'; cases q'
      obtain ⟨v, hv⟩ := heo
      exact ⟨v, by rw [hbe]; exact hv⟩
    · refine (ok b u q).stay (fun c v hc r => k c v ?_ r) (fun c r => by rw [upd_ne (nown c b r)]; exact r) fun c xs r => by rw [upd_ne (ntup c xs r)]; exact r
      rcases hc with rfl | hc
      · exact hbe
      · rintro rfl
        rcases he with z | z
        · exact nown c b hc z
        · rw [hc] at z; cases z; exact hb rfl
end
structure Un (fs ex : List Addr) (H H' : Hp) (h h' : Heap) : Prop where
  keep : ∀ b o, h.get? b = some o → H b = none → b ∉ fs → b ∉ ex → h'.get? b = some o
  slot : ∀ b o, h.get? b = some o → H b = none → b ∈ fs → b ∉ ex → ∃ sl, h'.get? b = some { o with slots := sl }
  free : ∀ b o, h.get? b = some o → H b = none → b ∉ ex → H' b = none
  there : ∀ b o, h.get? b = some o → b ∉ ex → ∃ o', h'.get? b = some o'
  tups : ∀ b xs, H b = some (.tup xs) → H' b = some (.tup xs)
  frzs : ∀ b o u, H b = some (.frz o u) → H' b = some (.frz o u)
  tbls : ∀ b ps, H b = some (.tbl ps) → ∃ more, H' b = some (.tbl (ps ++ more))
section
variable {fs fs' ex ex' : List Addr} {H H1 H2 : Hp} {h h1 h2 h' : Heap} {a x e : Addr} {o : HO}
theorem Un.any (u : Un fs ex H H1 h h1) {b : Addr} {ob : Obj} (q : h.get? b = some ob) (n : H b = none) (hx : b ∉ ex) : ∃ sl, h1.get? b = some { ob with slots := sl } := by
  by_cases hb : b ∈ fs
  · exact u.slot b ob q n hb hx
  · exact ⟨ob.slots, u.keep b ob q n hb hx⟩
theorem Un.kept (k : ∀ b u, h.get? b = some u → h'.get? b = some u) : Un fs ex H H h h' :=
  ⟨fun b ob q _ _ _ => k b ob q, fun b ob q _ _ _ => ⟨ob.slots, k b ob q⟩, fun _ _ _ n _ => n, fun b ob q _ => ⟨ob, k b ob q⟩, fun _ _ q => q, fun _ _ _ q => q, fun _ ps q => ⟨#[], by rw [q]; simp⟩⟩
theorem Un.refl : Un fs ex H H h h := Un.kept fun _ _ q => q
theorem Un.laid (k : ∀ b u, h.get? b = some u → h'.get? b = some u) (hp : h.objs.size ≤ a) (hn : H a = none) : Un fs ex H (upd H a o) h h' where
  keep := fun b u q _ _ _ => k b u q
  slot := fun b u q _ _ _ => ⟨u.slots, k b u q⟩
  free := fun b u q n _ => by rw [upd_ne (Nat.ne_of_lt (Nat.lt_of_lt_of_le (Heap.lt_size q) hp))]; exact n
  there := fun b u q _ => ⟨u, k b u q⟩
  tups := fun b xs q => by rw [upd_ne (ne_of_none q hn)]; exact q
  frzs := fun b u xs q => by rw [upd_ne (ne_of_none q hn)]; exact q
  tbls := fun b ps q => ⟨#[], by rw [upd_ne (ne_of_none q hn), q]; simp⟩
theorem Un.write (mu : Mut (H x)) (he : e = x ∨ H e = some (.own x)) (k : ∀ b u, b ≠ e → h.get? b = some u → h'.get? b = some u) (heo : ∃ u, h'.get? e = some u) : Un fs ex H (upd H x o) h h' := by
  have hx : ∀ b, H b = none → b ≠ x := fun b n z => by subst z; rw [n] at mu; exact mu
  have hb : ∀ b, H b = none → b ≠ e := fun b n z => by
    subst z
    rcases he with r | r
    · exact hx b n r
    · rw [n] at r; cases r
  have hm : ∀ b u, H b = some u → ¬ Mut (some u) → b ≠ x := fun b u q nm z => by subst z; rw [q] at mu; exact nm mu
  refine ⟨fun b u q n _ _ => k b u (hb b n) q, fun b u q n _ _ => ⟨u.slots, k b u (hb b n) q⟩, fun b u q n _ => by rw [upd_ne (hx b n)]; exact n, fun b u q _ => ?_,
    fun b xs q => by rw [upd_ne (hm b _ q fun z => z)]; exact q, fun b u xs q => by rw [upd_ne (hm b _ q fun z => z)]; exact q, fun b ps q => ⟨#[], by rw [upd_ne (hm b _ q fun z => z), q]; simp⟩⟩
  by_cases hbe : b = e
  · subst hbe; exact heo
  · exact ⟨u, k b u hbe q⟩
end
def trk (h : Heap) (H : Hp) : List Addr := (List.range h.objs.size).filter fun a => (H a).isSome
def hidT (h : Heap) (H : Hp) : Heap := PySem.W.hideAll h (trk h H)
theorem hidT_size (h : Heap) (H : Hp) : (hidT h H).objs.size = h.objs.size := PySem.W.hideAll_size _ _
theorem hidT_get {h : Heap} {H : Hp} {b : Addr} {o : Obj} (e : h.get? b = some o) (n : H b = none) : (hidT h H).get? b = some o :=
  PySem.W.hideAll_get _ e fun hm => by
    have q : (H b).isSome = true := (List.mem_filter.mp hm).2
    rw [n] at q; simp at q
theorem of_hidT {h : Heap} {H : Hp} {b : Addr} {o : Obj} (e : (hidT h H).get? b = some o) : h.get? b = some o ∧ H b = none := by
  have e' : h.get? b = some o := PySem.W.of_hideAll (trk h H) e
  refine ⟨e', ?_⟩
  cases q : H b with
  | none => rfl
  | some x =>
    have hm : b ∈ trk h H := List.mem_filter.mpr ⟨List.mem_range.mpr (Heap.lt_size e'), by simp [q]⟩
    have z : (hidT h H).get? b = none := PySem.W.hideAll_none (trk h H) hm
    rw [z] at e; cases e
def allNews (g h : Heap) (L : Addr) : List (Addr × Obj) := (List.range h.objs.size).filterMap fun a => if a = L ∨ (g.get? a).isSome = true then none else (h.get? a).map fun o => (a, o)
def rest (g h : Heap) (L d : Addr) : List (Addr × Obj) := (allNews g h L).filter fun p => decide (p.1 ≠ d)
end L2
namespace L2
open PySem PySem.Spec PyProof.Rows
structure Mod (K : PySem.W.Frag) (mg : Str → Option Value) (base : Heap) : Prop where
  kin : K.In base
  glob : base.Ns mainGlobals mg
  blt : ∃ mb, base.Ns builtinsNs mb ∧ ∀ x : Str, x ≠ "__name__" → mb x = bootBuiltins x
  nolimit : base.NoLimit
structure Cx where
  prog : Program
  w : World
  K : PySem.W.Frag
  mg : Str → Option Value
  base : Heap
  A : Around
  N : List Str
  s₀ : Shared
  H₀ : Hp
  env : Env
  outer : List Env
  stack : List Env
  ex : List Addr
  fn : Str → Bool
  calm : Bool
  pn : List (Addr × Obj)
  xe : Value → Shared → Prop
def frs (l : List Env) : List Addr := l.filterMap (·.frame)
abbrev Cx.fs (X : Cx) : List Addr := frs X.outer
def Vis (sc : Scope) (x : Str) : Prop := sc.names.lookup x = some .local ∨ sc.names.lookup x = some .cell ∨ sc.names.lookup x = some .free
def Loc (sc : Scope) (x : Str) : Prop := sc.names.lookup x = some .local ∨ sc.names.lookup x = some .cell
def Look (env : Env) (h : Heap) (m : Str → Option Value) (x : Str) (u : Value) : Prop :=
  (env.kindOf x = some .local ∧ m x = some u) ∨ ((env.kindOf x = some .cell ∨ env.kindOf x = some .free) ∧ ∃ c, env.cells.lookup x = some c ∧ h.IsCell c (some u))
structure Cx.Ok (X : Cx) : Prop where
  mod : Mod X.K X.mg X.base
  kind : X.env.scope.kind = .function
  glob : X.env.globals = mainGlobals
  blt : X.env.builtins = builtinsNs
  above : X.s₀.heap.objs.size ≤ X.env.locals
  inj : ∀ x y c, X.env.cells.lookup x = some c → X.env.cells.lookup y = some c → x = y
  has : ∀ x, (X.env.kindOf x = some .cell ∨ X.env.kindOf x = some .free) → ∃ c, X.env.cells.lookup x = some c
  cab : ∀ x c, X.fn x = true → X.env.cells.lookup x = some c → X.s₀.heap.objs.size ≤ c
  hd : X.calm = true → X.A.handled = none
  frames : X.A.frames = some X.stack
  stk : X.stack = X.outer ∨ (X.stack = X.env :: X.outer ∧ X.env.frame = some X.env.locals)
  exf : ∀ b ∈ X.ex, b ≠ X.env.locals ∧ ∀ x c, X.env.cells.lookup x = some c → c ≠ b
  bs : ∀ b o, X.base.get? b = some o → X.s₀.heap.get? b = some o ∧ X.H₀ b = none
  bsz : X.base.objs.size ≤ X.s₀.heap.objs.size
  noex : ∀ b o, X.base.get? b = some o → b ∉ X.ex
  exfs : ∀ b ∈ X.ex, b ∉ X.fs
  funs : X.s₀.heap.FunFrames X.base X.outer
  frf : ∀ b ∈ X.fs, X.H₀ b = none
structure Inv (X : Cx) (pins : List (Addr × Obj)) (σ : List (Option V)) (H : Hp) (s : Shared) : Prop where
  ok : X.Ok
  os : s.os = X.s₀.os
  bare : AllBare s.gens
  base : Un X.fs X.ex X.H₀ H X.s₀.heap s.heap
  loc : ∃ m, s.heap.Ns X.env.locals m ∧ ∀ (i : Nat) (x : Str) (v : V), X.N[i]? = some x → σ[i]? = some (some v) → Vis X.env.scope x → ∃ u, RelV v u ∧ Look X.env s.heap m x u
  cell : ∀ x c, X.env.cells.lookup x = some c → ∃ v, s.heap.IsCell c v
  free : H X.env.locals = none
  freeC : ∀ x c, X.env.cells.lookup x = some c → H c = none
  pin : ∀ p ∈ X.pn ++ pins, s.heap.get? p.1 = some p.2 ∧ H p.1 = none ∧ p.1 ≠ X.env.locals ∧ p.1 ∉ X.fs ∧ ∀ v, p.2.data ≠ .cell v
  hok : HOk X.prog X.w H s.heap
  len : σ.length = X.N.length
section
variable {X : Cx} {pins : List (Addr × Obj)} {σ : List (Option V)} {H H' : Hp} {s : Shared} {h' : Heap}
theorem Cx.Ok.nofr (ok : X.Ok) {b : Addr} {o : Obj} (e : X.base.get? b = some o) : b ∉ X.fs := fun hb => by
  have := (ok.funs.mem hb).1
  rw [e] at this; cases this
theorem Inv.bs (I : Inv X pins σ H s) : ∀ b o, X.base.get? b = some o → s.heap.get? b = some o ∧ H b = none := fun b o e =>
  ⟨I.base.keep b o (I.ok.bs b o e).1 (I.ok.bs b o e).2 (I.ok.nofr e) (I.ok.noex b o e), I.base.free b o (I.ok.bs b o e).1 (I.ok.bs b o e).2 (I.ok.noex b o e)⟩
theorem Inv.bk (I : Inv X pins σ H s) : ∀ b o, X.base.get? b = some o → s.heap.get? b = some o := fun b o e => (I.bs b o e).1
theorem Inv.mod (I : Inv X pins σ H s) : Mod X.K X.mg X.base := I.ok.mod
theorem Inv.kIn (I : Inv X pins σ H s) : X.K.In s.heap := I.ok.mod.kin.keeps I.bk
theorem Inv.lt (I : Inv X pins σ H s) : X.env.locals < s.heap.objs.size := let ⟨_, hn, _⟩ := I.loc; hn.lt
theorem Inv.sz (I : Inv X pins σ H s) : X.s₀.heap.objs.size ≤ s.heap.objs.size := Nat.le_trans I.ok.above (Nat.le_of_lt I.lt)
theorem Inv.nofs (I : Inv X pins σ H s) {a : Addr} (h : s.heap.objs.size ≤ a) : a ∉ X.fs := fun hb => by
  obtain ⟨_, o, ho, _⟩ := I.ok.funs.mem hb
  exact absurd (Nat.lt_of_lt_of_le (Heap.lt_size ho) (Nat.le_trans I.sz h)) (Nat.lt_irrefl _)
theorem Inv.cne (I : Inv X pins σ H s) : ∀ x c, X.env.cells.lookup x = some c → c ≠ X.env.locals := fun x c e z => by
  obtain ⟨v, o, ho, hd⟩ := I.cell x c e
  obtain ⟨m, ⟨o', es, ep, ho', hd', _⟩, _⟩ := I.loc
  rw [z, ho'] at ho; cases ho; rw [hd'] at hd; cases hd
theorem Inv.funs (I : Inv X pins σ H s) : s.heap.FunFrames X.base X.outer := by
  have all : ∀ (l : List Env), (∀ b ∈ frs l, b ∈ X.fs) → X.s₀.heap.FunFrames X.base l → s.heap.FunFrames X.base l := by
    intro l
    induction l with
    | nil => intro _ _; trivial
    | cons env r ih =>
      intro hs hl
      obtain ⟨hk, ⟨L, o, hf, hn, ho, hd⟩, hr⟩ := hl
      have hL : L ∈ X.fs := hs L (by unfold frs; rw [List.filterMap_cons, hf]; exact List.mem_cons_self)
      obtain ⟨sl, e⟩ := I.base.slot L o ho (I.ok.frf L hL) hL fun z => I.ok.exfs L z hL
      exact ⟨hk, ⟨L, _, hf, hn, e, hd⟩, ih (fun b hb => hs b (by unfold frs; rw [List.filterMap_cons, hf]; exact List.mem_cons_of_mem _ hb)) hr⟩
  exact all X.outer (fun _ hb => hb) I.ok.funs
theorem Inv.stack (I : Inv X pins σ H s) : s.heap.FunFrames X.base X.stack := by
  rcases I.ok.stk with e | ⟨e, hf⟩
  · rw [e]; exact I.funs
  · rw [e]
    obtain ⟨m, hn, _⟩ := I.loc
    refine .cons (by rw [I.ok.kind]; decide) hf hn ?_ I.funs
    exact Heap.get?_none_of_le (Nat.le_trans I.ok.bsz I.ok.above)
theorem Inv.stkSub (I : Inv X pins σ H s) : ∀ b ∈ frs X.stack, b ∈ X.env.locals :: X.fs := fun b hb => by
  rcases I.ok.stk with e | ⟨e, hf⟩
  · rw [e] at hb; exact List.mem_cons_of_mem _ hb
  · rw [e] at hb
    unfold frs at hb
    rw [List.filterMap_cons, hf] at hb
    exact hb
theorem Inv.stkFree (I : Inv X pins σ H s) : ∀ b ∈ frs X.stack, H b = none := fun b hb => by
  rcases List.mem_cons.mp (I.stkSub b hb) with e | hb
  · rw [e]; exact I.free
  · obtain ⟨_, o, ho, _⟩ := I.ok.funs.mem hb
    exact I.base.free b o ho (I.ok.frf b hb) fun z => I.ok.exfs b z hb
theorem Inv.step {g' : Array GenState} {t' : Nat} {d' : Drawn} {ch : List Addr} (I : Inv X pins σ H s)
    (hch : ∀ b ∈ ch, (b ∈ X.ex ∨ X.s₀.heap.objs.size ≤ b) ∧ b ≠ X.env.locals ∧ (∀ x c, X.env.cells.lookup x = some c → c ≠ b) ∧ ∀ p ∈ X.pn ++ pins, p.1 ≠ b)
    (keep : ∀ b o, b ≠ X.env.locals → b ∉ X.fs → b ∉ ch → s.heap.get? b = some o → H b = none → h'.get? b = some o)
    (slot : ∀ b o, b ≠ X.env.locals → b ∈ X.fs → b ∉ ch → s.heap.get? b = some o → H b = none → ∃ sl, h'.get? b = some { o with slots := sl }) (free : ∀ b o, b ∉ ch → s.heap.get? b = some o → H b = none → H' b = none)
    (there : ∀ b o, b ∉ ch → s.heap.get? b = some o → ∃ o', h'.get? b = some o')
    (tups : ∀ b xs, H b = some (.tup xs) → H' b = some (.tup xs)) (frzs : ∀ b o u, H b = some (.frz o u) → H' b = some (.frz o u)) (tbls : ∀ b ps, H b = some (.tbl ps) → ∃ more, H' b = some (.tbl (ps ++ more)))
    (ns : ∀ m, s.heap.Ns X.env.locals m → h'.Ns X.env.locals m) (hok : HOk X.prog X.w H' h') (hg : AllBare g') :
    Inv X pins σ H' { s with heap := h', gens := g', drawn := d', toks := t' } := by
  have neL : ∀ b o, X.s₀.heap.get? b = some o → b ≠ X.env.locals := fun b o e => Nat.ne_of_lt (Nat.lt_of_lt_of_le (Heap.lt_size e) I.ok.above)
  have neC : ∀ b o, X.s₀.heap.get? b = some o → b ∉ X.ex → b ∉ ch := fun b o e hx hb => by
    rcases (hch b hb).1 with z | z
    · exact hx z
    · exact absurd (Nat.lt_of_lt_of_le (Heap.lt_size e) z) (Nat.lt_irrefl _)
  have cellK : ∀ x c, X.env.cells.lookup x = some c → ∀ v, s.heap.IsCell c v → h'.IsCell c v := fun x c e v ⟨o, ho, hd⟩ => by
    have nch : c ∉ ch := fun z => (hch c z).2.2.1 x c e rfl
    by_cases hc : c ∈ X.fs
    · obtain ⟨sl, q⟩ := slot c o (I.cne x c e) hc nch ho (I.freeC x c e)
      exact ⟨_, q, hd⟩
    · exact ⟨o, keep c o (I.cne x c e) hc nch ho (I.freeC x c e), hd⟩
  refine ⟨I.ok, I.os, hg, ⟨fun b o e n hb hx => ?_, fun b o e n hb hx => ?_, fun b o e n hx => ?_, fun b o e hx => ?_, fun b xs e => tups b xs (I.base.tups b xs e), fun b o xs e => frzs b o xs (I.base.frzs b o xs e), fun b ps e => ?_⟩, ?_, fun x c e => ?_, ?_, fun x c e => ?_, fun p hp => ?_, hok, I.len⟩
  · exact keep b o (neL b o e) hb (neC b o e hx) (I.base.keep b o e n hb hx) (I.base.free b o e n hx)
  · obtain ⟨sl, e1⟩ := I.base.slot b o e n hb hx
    obtain ⟨sl', e2⟩ := slot b _ (neL b o e) hb (neC b o e hx) e1 (I.base.free b o e n hx)
    exact ⟨sl', e2⟩
  · obtain ⟨o', e1⟩ := I.base.there b o e hx
    exact free b o' (neC b o e hx) e1 (I.base.free b o e n hx)
  · obtain ⟨o', e1⟩ := I.base.there b o e hx
    exact there b o' (neC b o e hx) e1
  · obtain ⟨m1, e1⟩ := I.base.tbls b ps e
    obtain ⟨m2, e2⟩ := tbls b _ e1
    exact ⟨m1 ++ m2, by rw [e2, Array.append_assoc]⟩
  · obtain ⟨m, hn, hl⟩ := I.loc
    refine ⟨m, ns m hn, fun i x v e1 e2 e3 => ?_⟩
    obtain ⟨u, r, l⟩ := hl i x v e1 e2 e3
    refine ⟨u, r, ?_⟩
    rcases l with l | ⟨k, c, e, z⟩
    · exact .inl l
    · exact .inr ⟨k, c, e, cellK x c e _ z⟩
  · obtain ⟨v, z⟩ := I.cell x c e
    exact ⟨v, cellK x c e v z⟩
  · obtain ⟨m, ⟨o, _, _, ho, _⟩, _⟩ := I.loc
    exact free _ o (fun z => (hch _ z).2.1 rfl) ho I.free
  · obtain ⟨v, o, ho, hd⟩ := I.cell x c e
    exact free c o (fun z => (hch c z).2.2.1 x c e rfl) ho (I.freeC x c e)
  · obtain ⟨e, n, ne, nf, d⟩ := I.pin p hp
    have nch : p.1 ∉ ch := fun z => (hch p.1 z).2.2.2 p hp rfl
    exact ⟨keep p.1 p.2 ne nf nch e n, free p.1 p.2 nch e n, ne, nf, d⟩
theorem Inv.un {t' : Nat} (I : Inv X pins σ H s) (u : Un X.fs [] H H' s.heap h') (hok : HOk X.prog X.w H' h') : Inv X pins σ H' { s with heap := h', toks := t' } := by
  obtain ⟨m, ⟨o, es, ep, ho, r⟩, _⟩ := id I.loc
  obtain ⟨sl, hL⟩ := u.any ho I.free (by simp)
  exact I.step (g' := s.gens) (d' := s.drawn) (ch := []) (fun _ z => nomatch z) (fun b o _ hb _ e n => u.keep b o e n hb (by simp)) (fun b o _ hb _ e n => u.slot b o e n hb (by simp)) (fun b o _ e n => u.free b o e n (by simp)) (fun b o _ e => u.there b o e (by simp)) u.tups u.frzs u.tbls (fun m' hm => by
    obtain ⟨o', es', ep', ho', r'⟩ := hm
    rw [ho] at ho'; cases ho'
    exact ⟨_, es', ep', hL, r'⟩) hok I.bare
theorem Inv.call {g' : Array GenState} {t' : Nat} {d' : Drawn} {ch : List Addr} (I : Inv X pins σ H s) (u : Un (frs X.stack) ch H H' s.heap h') (hok : HOk X.prog X.w H' h') (hg : AllBare g')
    (hch : ∀ b ∈ ch, (b ∈ X.ex ∨ X.s₀.heap.objs.size ≤ b) ∧ b ≠ X.env.locals ∧ (∀ x c, X.env.cells.lookup x = some c → c ≠ b) ∧ ∀ p ∈ X.pn ++ pins, p.1 ≠ b) :
    Inv X pins σ H' { s with heap := h', gens := g', drawn := d', toks := t' } := by
  obtain ⟨m, ⟨o, es, ep, ho, r⟩, _⟩ := id I.loc
  obtain ⟨sl, hL⟩ := u.any ho I.free fun z => (hch _ z).2.1 rfl
  exact I.step (ch := ch) hch (fun b o hL hb hc e n => u.keep b o e n (fun z => (List.mem_cons.mp (I.stkSub b z)).elim hL hb) hc) (fun b o _ _ hc e n => u.any e n hc) (fun b o hc e n => u.free b o e n hc) (fun b o hc e => u.there b o e hc) u.tups u.frzs u.tbls (fun m' hm => by
    obtain ⟨o', es', ep', ho', r'⟩ := hm
    rw [ho] at ho'; cases ho'
    exact ⟨_, es', ep', hL, r'⟩) hok hg
theorem Inv.turned {t' : Nat} {it : Addr} (I : Inv X pins σ H s) (k : ∀ b o, b ≠ it → s.heap.get? b = some o → h'.get? b = some o) (hn : H it = none) (hL : it ≠ X.env.locals)
    (h1 : it ∈ X.ex ∨ X.s₀.heap.objs.size ≤ it) (h2 : ∀ x c, X.env.cells.lookup x = some c → c ≠ it) (h3 : ∀ p ∈ X.pn ++ pins, p.1 ≠ it) : Inv X pins σ H { s with heap := h', toks := t' } := by
  have nit : ∀ b u, H b = some u → b ≠ it := fun b u e z => by rw [z, hn] at e; cases e
  refine I.step (g' := s.gens) (d' := s.drawn) (ch := [it]) (fun b hb => ?_) (fun b o _ _ hc e _ => k b o (fun z => hc (by simp [z])) e) (fun b o _ _ hc e _ => ⟨o.slots, k b o (fun z => hc (by simp [z])) e⟩) (fun _ _ _ _ n => n)
    (fun b o hc e => ⟨o, k b o (fun z => hc (by simp [z])) e⟩) (fun _ _ e => e) (fun _ _ _ e => e) (fun b ps e => ⟨#[], by rw [e]; simp⟩) (fun m hm => ?_) (fun b u e => ?_) I.bare
  · have e : b = it := by simpa using hb
    subst e
    exact ⟨h1, hL, h2, h3⟩
  · obtain ⟨o, es, ep, ho, r⟩ := hm
    exact ⟨o, es, ep, k _ o (Ne.symm hL) ho, r⟩
  · refine (I.hok b u e).stay (fun c v hc q => k c v ?_ q) (fun _ q => q) fun _ _ q => q
    rcases hc with z | z
    · rw [z]; exact nit b u e
    · exact nit c _ z
theorem Inv.tok (I : Inv X pins σ H s) (t : Nat) : Inv X pins σ H { s with toks := t } := I.un (h' := s.heap) (t' := t) Un.refl I.hok
theorem Inv.kept {t' : Nat} (I : Inv X pins σ H s) (k : ∀ b u, s.heap.get? b = some u → h'.get? b = some u) : Inv X pins σ H { s with heap := h', toks := t' } := I.un (Un.kept k) (I.hok.kept k)
theorem Inv.laid {a : Addr} {o : HO} {t' : Nat} (I : Inv X pins σ H s) (k : ∀ b u, s.heap.get? b = some u → h'.get? b = some u) (hp : s.heap.objs.size ≤ a) (new : ObjOk X.prog X.w (upd H a o) h' a o) :
    Inv X pins σ (upd H a o) { s with heap := h', toks := t' } := I.un (Un.laid k hp (I.hok.fresh hp)) (I.hok.laid k hp new)
theorem Inv.write {x e : Addr} {o : HO} {t' : Nat} (I : Inv X pins σ H s) (mu : Mut (H x)) (he : e = x ∨ H e = some (.own x)) (k : ∀ b u, b ≠ e → s.heap.get? b = some u → h'.get? b = some u) (heo : ∃ u, h'.get? e = some u)
    (new : ObjOk X.prog X.w (upd H x o) h' x o) : Inv X pins σ (upd H x o) { s with heap := h', toks := t' } := I.un (Un.write mu he k heo) (I.hok.write mu he k heo new)
theorem Inv.pins_of {pins' : List (Addr × Obj)} (I : Inv X pins σ H s) (h : ∀ p ∈ pins', s.heap.get? p.1 = some p.2 ∧ H p.1 = none ∧ p.1 ≠ X.env.locals ∧ p.1 ∉ X.fs ∧ ∀ v, p.2.data ≠ .cell v) : Inv X pins' σ H s :=
  ⟨I.ok, I.os, I.bare, I.base, I.loc, I.cell, I.free, I.freeC, fun p hp => (List.mem_append.mp hp).elim (fun z => I.pin p (List.mem_append_left _ z)) (h p), I.hok, I.len⟩
theorem nodup_ix {N : List Str} (hN : N.Nodup) {i j : Nat} {x : Str} (a : N[i]? = some x) (b : N[j]? = some x) : i = j := by
  obtain ⟨h1, e1⟩ := List.getElem?_eq_some_iff.mp a
  obtain ⟨h2, e2⟩ := List.getElem?_eq_some_iff.mp b
  exact (List.getElem_inj hN).mp (e1.trans e2.symm)
theorem store_ok2 {M : Model} {A : Around} {E : Value → Shared → Prop} {i : Nat} {x : Str} {v : V} {u : Value} {Q : Unit → Shared → Prop} (I : Inv X pins σ H s) (hN : X.N.Nodup) (hi : X.N[i]? = some x) (hx : Loc X.env.scope x) (r : RelV v u)
    (h : ∀ s', Inv X pins (σ.set i (some v)) H s' → (∃ a, Heap.SameBut a s.heap s'.heap ∧ (a = X.env.locals ∨ X.env.cells.lookup x = some a)) → Q () s') (hf : X.fn x = true ∨ X.env.scope.names.lookup x = some .local := by first | exact .inl rfl | exact .inr rfl | assumption) : wpAny M A (storeName X.env x u) Q E s := by
  obtain ⟨m, hn, hl⟩ := id I.loc
  have hcls : (X.env.scope.kind == .class || (X.env.scope.kind == .module && X.env.locals != X.env.globals)) = false := by rw [I.ok.kind]; rfl
  have hiσ : i < σ.length := by rw [I.len]; exact (List.getElem?_eq_some_iff.mp hi).1
  have cne := I.cne
  have tracked : ∀ {a : Addr} {h' : Heap}, (∃ o, s.heap.get? a = some o ∧ H a = none) → Heap.SameBut a s.heap h' → HOk X.prog X.w H h' := fun {a h'} ha hs b ob e => by
    obtain ⟨_, _, hfree⟩ := ha
    refine (I.hok b ob e).stay (fun c w' hc q => (hs.2 c ?_).trans q) (fun _ q => q) fun _ _ q => q
    rintro rfl
    rcases hc with rfl | hc
    · rw [hfree] at e; cases e
    · rw [hfree] at hc; cases hc
  rcases hx with hk | hk
  · refine wpAny_storeName_local hk hn (fun h' hn' hs => ?_) hcls
    obtain ⟨oL, _, _, hoL, _⟩ := id hn
    refine h _ ⟨I.ok, I.os, I.bare, ⟨fun b o e n hb hx => ?_, fun b o e n hb hx => ?_, I.base.free, fun b o e hx => ?_, I.base.tups, I.base.frzs, I.base.tbls⟩, ⟨_, hn', fun j y v' e1 e2 e3 => ?_⟩, fun y c e => ?_, I.free, I.freeC, fun p hp => ?_, tracked ⟨oL, hoL, I.free⟩ hs, by simpa using I.len⟩ ⟨_, hs, .inl rfl⟩
    · exact (hs.2 b (Nat.ne_of_lt (Nat.lt_of_lt_of_le (Heap.lt_size e) I.ok.above))).trans (I.base.keep b o e n hb hx)
    · obtain ⟨sl, e1⟩ := I.base.slot b o e n hb hx
      exact ⟨sl, (hs.2 b (Nat.ne_of_lt (Nat.lt_of_lt_of_le (Heap.lt_size e) I.ok.above))).trans e1⟩
    · obtain ⟨o', e1⟩ := I.base.there b o e hx
      exact ⟨o', (hs.2 b (Nat.ne_of_lt (Nat.lt_of_lt_of_le (Heap.lt_size e) I.ok.above))).trans e1⟩
    · by_cases hj : j = i
      · subst hj
        rw [hi] at e1; cases e1
        rw [List.getElem?_set_self hiσ] at e2
        cases e2
        exact ⟨u, r, .inl ⟨hk, by simp⟩⟩
      · rw [List.getElem?_set_ne (Ne.symm hj)] at e2
        obtain ⟨u', r', q⟩ := hl j y v' e1 e2 e3
        refine ⟨u', r', ?_⟩
        rcases q with ⟨k, e⟩ | ⟨k, c, e, z⟩
        · refine .inl ⟨k, ?_⟩
          have : y ≠ x := fun e => hj (nodup_ix hN e1 (e ▸ hi))
          simp [this, e]
        · exact .inr ⟨k, c, e, z.sameBut hs (cne y c e)⟩
    · obtain ⟨w', z⟩ := I.cell y c e
      exact ⟨w', z.sameBut hs (cne y c e)⟩
    · obtain ⟨e, n, ne, nf, d⟩ := I.pin p hp
      exact ⟨(hs.2 p.1 ne).trans e, n, ne, nf, d⟩
  · have hfn : X.fn x = true := by
      rcases hf with z | z
      · exact z
      · rw [z] at hk; cases hk
    obtain ⟨c, hc⟩ := I.ok.has x (.inl hk)
    obtain ⟨w', z⟩ := I.cell x c hc
    refine wpAny_storeName_cell I.ok.kind hk hc z (fun h' hc' hs => ?_)
    obtain ⟨oc, hoc, hocd⟩ := id z
    refine h { s with heap := h' } ⟨I.ok, I.os, I.bare, ⟨fun b o e n hb hx => ?_, fun b o e n hb hx => ?_, I.base.free, fun b o e hx => ?_, I.base.tups, I.base.frzs, I.base.tbls⟩, ⟨m, hn.sameBut hs (Ne.symm (cne x c hc)), fun j y v' e1 e2 e3 => ?_⟩, fun y c' e => ?_, I.free, I.freeC, fun p hp => ?_, tracked ⟨oc, hoc, I.freeC x c hc⟩ hs, by simpa using I.len⟩ ⟨c, hs, .inr hc⟩
    · exact (hs.2 b (Nat.ne_of_lt (Nat.lt_of_lt_of_le (Heap.lt_size e) (I.ok.cab x c hfn hc)))).trans (I.base.keep b o e n hb hx)
    · obtain ⟨sl, e1⟩ := I.base.slot b o e n hb hx
      exact ⟨sl, (hs.2 b (Nat.ne_of_lt (Nat.lt_of_lt_of_le (Heap.lt_size e) (I.ok.cab x c hfn hc)))).trans e1⟩
    · obtain ⟨o', e1⟩ := I.base.there b o e hx
      exact ⟨o', (hs.2 b (Nat.ne_of_lt (Nat.lt_of_lt_of_le (Heap.lt_size e) (I.ok.cab x c hfn hc)))).trans e1⟩
    · by_cases hj : j = i
      · subst hj
        rw [hi] at e1; cases e1
        rw [List.getElem?_set_self hiσ] at e2
        cases e2
        exact ⟨u, r, .inr ⟨.inl hk, c, hc, hc'⟩⟩
      · rw [List.getElem?_set_ne (Ne.symm hj)] at e2
        obtain ⟨u', r', q⟩ := hl j y v' e1 e2 e3
        refine ⟨u', r', ?_⟩
        rcases q with q | ⟨k, c', e, z'⟩
        · exact .inl q
        · refine .inr ⟨k, c', e, z'.sameBut hs ?_⟩
          rintro rfl
          exact hj (nodup_ix hN e1 (I.ok.inj _ _ _ e hc ▸ hi))
    · by_cases hcc : c' = c
      · subst hcc; exact ⟨_, hc'⟩
      · obtain ⟨w2, z2⟩ := I.cell y c' e
        exact ⟨w2, z2.sameBut hs hcc⟩
    · obtain ⟨e, n, ne, nf, d⟩ := I.pin p hp
      refine ⟨(hs.2 p.1 ?_).trans e, n, ne, nf, d⟩
      intro q
      rw [q, hoc] at e
      have q' : oc = p.2 := Option.some.inj e
      exact d w' (by rw [← q']; exact hocd)
theorem store_ok {M : Model} {A : Around} {E : Value → Shared → Prop} {i : Nat} {x : Str} {v : V} {u : Value} {Q : Unit → Shared → Prop} (I : Inv X pins σ H s) (hN : X.N.Nodup) (hi : X.N[i]? = some x) (hx : Loc X.env.scope x) (r : RelV v u)
    (h : ∀ s', Inv X pins (σ.set i (some v)) H s' → Q () s') (hf : X.fn x = true ∨ X.env.scope.names.lookup x = some .local := by first | exact .inl rfl | exact .inr rfl | assumption) : wpAny M A (storeName X.env x u) Q E s :=
  store_ok2 I hN hi hx r (fun s' I' _ => h s' I') hf
theorem Inv.call' {s' : Shared} {ch : List Addr} (I : Inv X pins σ H s) (ho : s'.os = s.os) (u : Un (frs X.stack) ch H H' s.heap s'.heap) (hok : HOk X.prog X.w H' s'.heap) (hg : AllBare s'.gens)
    (hch : ∀ b ∈ ch, (b ∈ X.ex ∨ X.s₀.heap.objs.size ≤ b) ∧ b ≠ X.env.locals ∧ (∀ x c, X.env.cells.lookup x = some c → c ≠ b) ∧ ∀ p ∈ X.pn ++ pins, p.1 ≠ b) : Inv X pins σ H' s' := by
  obtain ⟨h', g', d', t', o'⟩ := s'
  have e : o' = s.os := ho
  subst e
  exact I.call (g' := g') (t' := t') (d' := d') u hok hg hch
end
abbrev XK := Value → Option Addr → Hp → Prop
abbrev St := List (Option V)
abbrev VK := V → Hp → Prop
abbrev TE := St → Hp → VK → Prop
abbrev TT := St → Hp → (Bool → Hp → Prop) → Prop
abbrev TA := St → Hp → (List V → Hp → Prop) → Prop
structure Ends where
  nx : St → Hp → Prop
  rt : VK
  bk : St → Hp → Prop := fun _ _ => False
  ct : St → Hp → Prop := fun _ _ => False
abbrev TS := Ends → St → Hp → Prop
def EP (X : Cx) (pins : List (Addr × Obj)) (σ : St) (Q : VK) (u : Value) (s' : Shared) : Prop := ∃ v H', Inv X pins σ H' s' ∧ RelV v u ∧ Q v H'
def TP (X : Cx) (pins : List (Addr × Obj)) (σ : St) (Q : Bool → Hp → Prop) (b : Bool) (s' : Shared) : Prop := ∃ H', Inv X pins σ H' s' ∧ Q b H'
def AP (X : Cx) (pins : List (Addr × Obj)) (σ : St) (Q : List V → Hp → Prop) (us : List Value) (s' : Shared) : Prop := ∃ vs H', Inv X pins σ H' s' ∧ Vals vs us ∧ Q vs H'
def SP (X : Cx) (pins : List (Addr × Obj)) (D : Ends) (f : Flow) (s' : Shared) : Prop :=
  match f with
  | .next => ∃ σ' H', Inv X pins σ' H' s' ∧ D.nx σ' H'
  | .brk => ∃ σ' H', Inv X pins σ' H' s' ∧ D.bk σ' H'
  | .cont => ∃ σ' H', Inv X pins σ' H' s' ∧ D.ct σ' H'
  | .ret u => ∃ v σ' H', Inv X pins σ' H' s' ∧ RelV v u ∧ D.rt v H'
def PE (X : Cx) (e : Expr) (t : TE) : Prop :=
  ∀ (pins : List (Addr × Obj)) (s : Shared) (σ : St) (H : Hp) (Q : VK), Inv X pins σ H s → t σ H Q → wpAny (model X.prog X.w) X.A (eval e X.env) (EP X pins σ Q) X.xe s
def PT (X : Cx) (e : Expr) (t : TT) : Prop :=
  ∀ (pins : List (Addr × Obj)) (s : Shared) (σ : St) (H : Hp) (Q : Bool → Hp → Prop), Inv X pins σ H s → t σ H Q → wpAny (model X.prog X.w) X.A (isTrue e X.env (eval e X.env)) (TP X pins σ Q) X.xe s
def PW (X : Cx) (e : Expr) (t : TT) : Prop :=
  ∀ (whole : Sem Value) (pins : List (Addr × Obj)) (s : Shared) (σ : St) (H : Hp) (Q : Bool → Hp → Prop), Inv X pins σ H s → t σ H Q → wpAny (model X.prog X.w) X.A (isTrue e X.env whole) (TP X pins σ Q) X.xe s
theorem PW.pt {X : Cx} {e : Expr} {t : TT} (h : PW X e t) : PT X e t := h _
def PA (X : Cx) (es : List Expr) (t : TA) : Prop :=
  ∀ (pos : Pos) (pins : List (Addr × Obj)) (s : Shared) (σ : St) (H : Hp) (Q : List V → Hp → Prop), Inv X pins σ H s → t σ H Q → wpAny (model X.prog X.w) X.A (spliced (backTo pos (starEach es X.env))) (AP X pins σ Q) X.xe s
def PS (X : Cx) (st : Stmt) (t : TS) : Prop :=
  ∀ (pins : List (Addr × Obj)) (s : Shared) (σ : St) (H : Hp) (D : Ends), Inv X pins σ H s → t D σ H → wpAny (model X.prog X.w) X.A (exec st X.env) (SP X pins D) X.xe s
def PSs (X : Cx) (st : List Stmt) (t : TS) : Prop :=
  ∀ (pins : List (Addr × Obj)) (s : Shared) (σ : St) (H : Hp) (D : Ends), Inv X pins σ H s → t D σ H → wpAny (model X.prog X.w) X.A (execs st X.env) (SP X pins D) X.xe s
theorem thn {α : Type} {t : Sem α} {Q Q' : α → Shared → Prop} {M : Model} {A : Around} {E : Value → Shared → Prop} {s : Shared} (h : wpAny M A t Q E s) (hQ : ∀ a s, Q a s → Q' a s) : wpAny M A t Q' E s := wpAny_mono h hQ fun _ _ x => x
end L2
namespace L2
open PySem PySem.Spec PyProof.Rows
section
variable {X : Cx}
def tVar (i : Nat) : TE := fun σ H Q => ∃ v, σ[i]? = some (some v) ∧ Q v H
def tC (v : V) : TE := fun _ H Q => Q v H
theorem pe_var {i : Nat} {x : Str} {pos : Pos} (hN : X.N[i]? = some x) (hv : Vis X.env.scope x) (hd : (x == ("__debug__" : Str)) = false := by decide) (hcd : (x == ("__classdict__" : Str)) = false := by decide) : PE X (.Name x pos) (tVar i) := by
  intro pins s σ H Q I h
  obtain ⟨v, e, h⟩ := h
  obtain ⟨m, hn, hl⟩ := I.loc
  obtain ⟨u, r, l⟩ := hl i x v hN e hv
  have fin : EP X pins σ Q u s := ⟨v, H, I, r, h⟩
  rcases l with ⟨hk, hm⟩ | ⟨hk, c, hc, hcell⟩
  · exact wpAny_Name (wpAny_loadName_local I.ok.kind hk hn hm fin) hd
  · rcases hk with hk | hk
    · exact wpAny_Name (wpAny_loadName_cell I.ok.kind hk hc hcell fin) hd
    · exact wpAny_Name (wpAny_loadName_free I.ok.kind hk hc hcell fin hcd) hd
theorem pe_int {i j pos} : PE X (.Constant (.int i) j pos) (tC (.int i)) := fun _ _ _ H _ I h => wpAny_Constant_int ⟨.int i, H, I.tok _, ⟨_, rfl⟩, h⟩
theorem pe_bl {b j pos} : PE X (.Constant (.bool b) j pos) (tC (.bl b)) := fun _ _ _ H _ I h => Constant_bool ⟨.bl b, H, I, rfl, h⟩
theorem pe_non {j pos} : PE X (.Constant .none j pos) (tC .non) := fun _ _ _ H _ I h => Constant_none ⟨.non, H, I, rfl, h⟩
theorem pe_str {x j pos} : PE X (.Constant (.str x) j pos) (tC (.str x)) := fun _ _ _ H _ I h => Calls.Constant_str ⟨.str x, H, I.tok _, ⟨_, rfl⟩, h⟩
def Gl (X : Cx) (x : Str) : Prop := X.env.kindOf x = some .globalImplicit
theorem ld_glob {E : Value → Shared → Prop} {pins : List (Addr × Obj)} {s : Shared} {σ : St} {H : Hp} {x : Str} {u : Value} {pos : Pos} {Q : Value → Shared → Prop} (I : Inv X pins σ H s) (hg : Gl X x) (hm : X.mg x = some u) (h : Q u s)
    (hd : (x == ("__debug__" : Str)) = false := by decide) : wpAny (model X.prog X.w) X.A (eval (.Name x pos) X.env) Q E s :=
  Calls.Name_function_global I.ok.kind hg (Calls.loadGlobal_global (by rw [I.ok.glob]; exact I.mod.glob.keeps I.bk) hm h) hd
theorem ld_blt {E : Value → Shared → Prop} {pins : List (Addr × Obj)} {s : Shared} {σ : St} {H : Hp} {x : Str} {u : Value} {pos : Pos} {Q : Value → Shared → Prop} (I : Inv X pins σ H s) (hg : Gl X x) (hm : X.mg x = none) (hv : bootBuiltins x = some u) (h : Q u s)
    (hn : x ≠ "__name__" := by decide) (hd : (x == ("__debug__" : Str)) = false := by decide) : wpAny (model X.prog X.w) X.A (eval (.Name x pos) X.env) Q E s := by
  obtain ⟨mb, h1, h2⟩ := I.mod.blt
  exact Calls.Name_function_global I.ok.kind hg (Calls.loadGlobal_builtin (by rw [I.ok.glob]; exact I.mod.glob.keeps I.bk) hm (by rw [I.ok.blt]; exact h1.keeps I.bk) ((h2 x hn).trans hv) h) hd
theorem pe_glob {x : Str} {v : V} {u : Value} {pos : Pos} (hg : Gl X x) (hm : X.mg x = some u) (r : RelV v u) (hd : (x == ("__debug__" : Str)) = false := by decide) : PE X (.Name x pos) (tC v) :=
  fun _ _ _ H _ I h => ld_glob I hg hm ⟨v, H, I, r, h⟩ hd
theorem pe_bltn {x : Str} {v : V} {u : Value} {pos : Pos} (hg : Gl X x) (hm : X.mg x = none) (hv : bootBuiltins x = some u) (r : RelV v u) (hn : x ≠ "__name__" := by decide) (hd : (x == ("__debug__" : Str)) = false := by decide) : PE X (.Name x pos) (tC v) :=
  fun _ _ _ H _ I h => ld_blt I hg hm hv ⟨v, H, I, r, h⟩ hn hd
variable {a b : Expr} {ta tb : TE} {pos : Pos}
def tB (t : TE) : TT := fun σ H Q => t σ H fun x H1 => ∃ c, x = .bl c ∧ Q c H1
theorem pt_val {e : Expr} {t : TE} (h : PE X e t) (he : ∀ whole, isTrue e X.env whole = (do let v ← whole; standAt e.pos; holding [v] (truthy v)) := by intro _; rfl) : PT X e (tB t) := by
  intro pins s σ H Q I hw
  refine isTrue_plain (thn (h pins s σ H _ I hw) fun v s1 ⟨x, H1, I1, r1, q1⟩ => ?_) (he _)
  obtain ⟨d, rfl, q⟩ := q1
  cases r1
  exact wpAny_truthy_bool ⟨H1, I1, q⟩
variable {tA tB' : TT} {rest : List Expr}
def tAnd (t u : TT) : TT := fun σ H Q => t σ H fun c H1 => if c = true then u σ H1 Q else Q false H1
def tOr (t u : TT) : TT := fun σ H Q => t σ H fun c H1 => if c = true then Q true H1 else u σ H1 Q
def tNot (t : TT) : TT := fun σ H Q => t σ H fun c H1 => Q (!c) H1
theorem pw_and1 (ha : PT X a tA) : PW X (.BoolOp .And [a] pos) tA := by
  intro wh pins s σ H Q I h
  refine isTrue_and (thn (ha pins s σ H Q I h) fun c s1 e => ?_)
  cases c with
  | true => exact isTrue_and_nil e
  | false => exact e
theorem pw_or1 (ha : PT X a tA) : PW X (.BoolOp .Or [a] pos) tA := by
  intro wh pins s σ H Q I h
  refine isTrue_or (thn (ha pins s σ H Q I h) fun c s1 e => ?_)
  cases c with
  | false => exact isTrue_or_nil e
  | true => exact e
theorem pw_and (ha : PT X a tA) (hb : PW X (.BoolOp .And (b :: rest) pos) tB') : PW X (.BoolOp .And (a :: b :: rest) pos) (tAnd tA tB') := by
  intro wh pins s σ H Q I h
  refine isTrue_and (thn (ha pins s σ H _ I h) fun c s1 ⟨H1, I1, q1⟩ => ?_)
  cases c with
  | true => exact hb wh pins s1 σ H1 Q I1 q1
  | false => exact ⟨H1, I1, q1⟩
theorem pw_or (ha : PT X a tA) (hb : PW X (.BoolOp .Or (b :: rest) pos) tB') : PW X (.BoolOp .Or (a :: b :: rest) pos) (tOr tA tB') := by
  intro wh pins s σ H Q I h
  refine isTrue_or (thn (ha pins s σ H _ I h) fun c s1 ⟨H1, I1, q1⟩ => ?_)
  cases c with
  | true => exact ⟨H1, I1, q1⟩
  | false => exact hb wh pins s1 σ H1 Q I1 q1
theorem pt_not (ha : PT X a tA) : PT X (.UnaryOp .Not a pos) (tNot tA) := by
  intro pins s σ H Q I h
  exact isTrue_not (ha pins s σ H (fun c H1 => Q (!c) H1) I h)
def tAndV (ta tb : TE) : TE := fun σ H Q => ta σ H fun x H1 => ∃ c, x = .bl c ∧ if c = true then tb σ H1 Q else Q (.bl false) H1
def tOrV (ta tb : TE) : TE := fun σ H Q => ta σ H fun x H1 => ∃ c, x = .bl c ∧ if c = true then Q (.bl true) H1 else tb σ H1 Q
def tNotV (ta : TE) : TE := fun σ H Q => ta σ H fun x H1 => ∃ c, x = .bl c ∧ Q (.bl (!c)) H1
theorem pe_one {op} {t : TE} (h : PE X a t) : PE X (.BoolOp op [a] pos) t := fun pins s σ H Q I hw => BoolOp_one (h pins s σ H Q I hw)
theorem pe_and (ha : PE X a ta) (hb : PE X (.BoolOp .And (b :: rest) pos) tb) : PE X (.BoolOp .And (a :: b :: rest) pos) (tAndV ta tb) := by
  intro pins s σ H Q I h
  refine BoolOp_and (thn (ha pins s σ H _ I h) fun v s1 ⟨x, H1, I1, r1, q1⟩ => ?_)
  obtain ⟨c, rfl, q1⟩ := q1
  cases r1
  refine wpAny_truthy_bool ?_
  cases c with
  | true => exact hb pins s1 σ H1 Q I1 q1
  | false => exact ⟨.bl false, H1, I1, rfl, q1⟩
theorem pe_or (ha : PE X a ta) (hb : PE X (.BoolOp .Or (b :: rest) pos) tb) : PE X (.BoolOp .Or (a :: b :: rest) pos) (tOrV ta tb) := by
  intro pins s σ H Q I h
  refine BoolOp_or (thn (ha pins s σ H _ I h) fun v s1 ⟨x, H1, I1, r1, q1⟩ => ?_)
  obtain ⟨c, rfl, q1⟩ := q1
  cases r1
  refine wpAny_truthy_bool ?_
  cases c with
  | false => exact hb pins s1 σ H1 Q I1 q1
  | true => exact ⟨.bl true, H1, I1, rfl, q1⟩
theorem pe_not (ha : PE X a ta) : PE X (.UnaryOp .Not a pos) (tNotV ta) := by
  intro pins s σ H Q I h
  refine UnaryOp_ (thn (ha pins s σ H _ I h) fun v s1 ⟨x, H1, I1, r1, q1⟩ => ?_)
  obtain ⟨c, rfl, q1⟩ := q1
  cases r1
  exact not_of (wpAny_truthy_bool ⟨.bl (!c), H1, I1, rfl, q1⟩)
def tIf (t : TT) (ta tb : TE) : TE := fun σ H Q => t σ H fun c H1 => if c = true then ta σ H1 Q else tb σ H1 Q
theorem pe_ifExp {c : Expr} (hc : PT X c tA) (ha : PE X a ta) (hb : PE X b tb) : PE X (.IfExp c a b pos) (tIf tA ta tb) := by
  intro pins s σ H Q I h
  refine wpAny_IfExp (thn (hc pins s σ H _ I h) fun d s1 ⟨H1, I1, q1⟩ => ?_)
  cases d with
  | true => exact ha pins s1 σ H1 Q I1 q1
  | false => exact hb pins s1 σ H1 Q I1 q1
end
end L2
namespace L2
open PySem PySem.Spec PyProof.Rows
def SqL (K : PySem.W.Frag) (H : Hp) (a : Addr) (xs : List V) : Prop :=
  Rd H a (.lst xs) ∨
    ∃ (o : Obj) (its : Array Value) (n : Nat), K.lookup a = some o ∧ o.cls = .type "list" ∧ o.dict = none ∧ o.data = .seq its n ∧ its.size ≤ sizeLine ∧ Vals xs its.toList
def SqT (K : PySem.W.Frag) (H : Hp) (a : Addr) (xs : List V) : Prop :=
  Rd H a (.tup xs) ∨
    ∃ (o : Obj) (its : Array Value) (n : Nat), K.lookup a = some o ∧ o.cls = .type "tuple" ∧ o.data = .seq its n ∧ its.size ≤ sizeLine ∧ Vals xs its.toList
def absV : Value → Option V
  | .none => some .non
  | .bool b => some (.bl b)
  | .int i _ => some (.int i)
  | .str x _ => some (.str x)
  | .bytes b _ => some (.byt b)
  | .float b _ => some (.flt b)
  | .ref a => some (.ref a)
  | .type n => some (.ty n)
  | _ => none
theorem RelV.abs {x : V} {u : Value} (r : RelV x u) : absV u = some x := by
  cases x with
  | non => cases r; rfl
  | bl _ => cases r; rfl
  | int _ => obtain ⟨t, rfl⟩ := r; rfl
  | str _ => obtain ⟨t, rfl⟩ := r; rfl
  | byt _ => obtain ⟨t, rfl⟩ := r; rfl
  | flt _ => obtain ⟨t, rfl⟩ := r; rfl
  | ref _ => cases r; rfl
  | ty _ => cases r; rfl
theorem RelV.inj {x y : V} {u : Value} (r : RelV x u) (q : RelV y u) : x = y := Option.some.inj (r.abs.symm.trans q.abs)
theorem Vals.inj : ∀ {xs ys : List V} {us : List Value}, Vals xs us → Vals ys us → xs = ys
  | _, _, _, .nil, .nil => rfl
  | _, _, _, .cons r t, .cons r' t' => by rw [r.inj r', Vals.inj t t']
section
variable {X : Cx} {pins : List (Addr × Obj)} {σ : St} {H : Hp} {s : Shared} {a : Addr} {xs ys : List V}
theorem SqL.of {K : PySem.W.Frag} (h : H a = some (.lst xs)) : SqL K H a xs := .inl (.inl h)
theorem SqT.of {K : PySem.W.Frag} (h : H a = some (.tup xs)) : SqT K H a xs := .inl (.inl h)
theorem Inv.list (I : Inv X pins σ H s) (h : SqL X.K H a xs) : ∃ its : List Value, Vals xs its ∧ PlainL s.heap a its.toArray ∧ xs.length ≤ sizeLine := by
  rcases h with h | ⟨o, its, n, hk, hc, hd, hs, hz, r⟩
  · obtain ⟨z, its, n, r, e⟩ := h.ok I.hok
    exact ⟨its, r, ⟨_, n, e, rfl, rfl, rfl⟩, z⟩
  · refine ⟨its.toList, r, ⟨o, n, I.kIn a o hk, hc, hd, by simpa using hs⟩, ?_⟩
    have e := r.length
    simp only [Array.length_toList] at e
    omega
theorem Inv.tuple (I : Inv X pins σ H s) (h : SqT X.K H a xs) : ∃ its : List Value, Vals xs its ∧ IsTup s.heap a its.toArray ∧ xs.length ≤ sizeLine := by
  rcases h with h | ⟨o, its, n, hk, hc, hs, hz, r⟩
  · obtain ⟨z, its, r, p⟩ := h.ok I.hok
    exact ⟨its, r, p, z⟩
  · refine ⟨its.toList, r, ⟨o, I.kIn a o hk, hc, n, by simpa using hs⟩, ?_⟩
    have e := r.length
    simp only [Array.length_toList] at e
    omega
theorem Inv.list_inj (I : Inv X pins σ H s) (h : SqL X.K H a xs) (h' : SqL X.K H a ys) : xs = ys := by
  obtain ⟨its, r, ⟨o, n, e, _, _, d⟩, _⟩ := I.list h
  obtain ⟨its', r', ⟨o', n', e', _, _, d'⟩, _⟩ := I.list h'
  rw [e] at e'; cases e'
  rw [d] at d'
  injection d' with d1 _
  have : its = its' := by simpa using congrArg Array.toList d1
  subst this
  exact r.inj r'
theorem Inv.tuple_inj (I : Inv X pins σ H s) (h : SqT X.K H a xs) (h' : SqT X.K H a ys) : xs = ys := by
  obtain ⟨its, r, ⟨o, e, _, n, d⟩, _⟩ := I.tuple h
  obtain ⟨its', r', ⟨o', e', _, n', d'⟩, _⟩ := I.tuple h'
  rw [e] at e'; cases e'
  rw [d] at d'
  injection d' with d1 _
  have : its = its' := by simpa using congrArg Array.toList d1
  subst this
  exact r.inj r'
end
abbrev Cx.wish (X : Cx) (E : Value → Shared → Prop) : Cx := { X with xe := E }
abbrev Cx.nox (X : Cx) : Cx := X.wish fun _ _ => False
theorem Cx.Ok.wish {X : Cx} (ok : X.Ok) (E : Value → Shared → Prop) : (X.wish E).Ok :=
  ⟨ok.mod, ok.kind, ok.glob, ok.blt, ok.above, ok.inj, ok.has, ok.cab, ok.hd, ok.frames, ok.stk, ok.exf, ok.bs, ok.bsz, ok.noex, ok.exfs, ok.funs, ok.frf⟩
theorem Cx.Ok.unwish {X : Cx} {E : Value → Shared → Prop} (ok : (X.wish E).Ok) : X.Ok :=
  ⟨ok.mod, ok.kind, ok.glob, ok.blt, ok.above, ok.inj, ok.has, ok.cab, ok.hd, ok.frames, ok.stk, ok.exf, ok.bs, ok.bsz, ok.noex, ok.exfs, ok.funs, ok.frf⟩
section
variable {X : Cx} {pins : List (Addr × Obj)} {σ : St} {H : Hp} {s : Shared} {E : Value → Shared → Prop}
theorem Inv.wish (I : Inv X pins σ H s) (E : Value → Shared → Prop) : Inv (X.wish E) pins σ H s := ⟨I.ok.wish E, I.os, I.bare, I.base, I.loc, I.cell, I.free, I.freeC, I.pin, I.hok, I.len⟩
theorem Inv.unwish (I : Inv (X.wish E) pins σ H s) : Inv X pins σ H s := ⟨I.ok.unwish, I.os, I.bare, I.base, I.loc, I.cell, I.free, I.freeC, I.pin, I.hok, I.len⟩
theorem SP.unwish {D : Ends} {f : Flow} {s' : Shared} (h : SP (X.wish E) pins D f s') : SP X pins D f s' := by
  cases f with
  | next => obtain ⟨σ', H', I, q⟩ := h; exact ⟨σ', H', I.unwish, q⟩
  | brk => obtain ⟨σ', H', I, q⟩ := h; exact ⟨σ', H', I.unwish, q⟩
  | cont => obtain ⟨σ', H', I, q⟩ := h; exact ⟨σ', H', I.unwish, q⟩
  | ret u => obtain ⟨v, σ', H', I, r, q⟩ := h; exact ⟨v, σ', H', I.unwish, r, q⟩
theorem PSs.nox {st : List Stmt} {t : TS} (h : PSs X.nox st t) : PSs X st t := fun pins s σ H D I hw =>
  wpAny_mono (h pins s σ H D (I.wish _) hw) (fun _ _ q => q.unwish) fun _ _ z => False.elim z
end
section
variable {X : Cx} {st : Stmt} {rest : List Stmt} {t u : TS} {e : Expr} {te : TE} {pos : Pos}
def tNext : TS := fun D σ H => D.nx σ H
def tSeq (t u : TS) : TS := fun D σ H => t { D with nx := u D } σ H
theorem pss_nil : PSs X [] tNext := fun _ _ σ H _ I h => wpAny_execs_nil ⟨σ, H, I, h⟩
theorem pss_cons (h1 : PS X st t) (h2 : PSs X rest u) : PSs X (st :: rest) (tSeq t u) := by
  intro pins s σ H D I h
  refine wpAny_execs_cons (thn (h1 pins s σ H { D with nx := u D } I h) fun f s1 q => ?_)
  cases f with
  | next =>
    obtain ⟨σ', H', I', q⟩ := q
    exact h2 pins s1 σ' H' D I' q
  | ret v => exact q
  | brk => exact q
  | cont => exact q
theorem pss_one (h1 : PS X st t) : PSs X [st] t := by
  intro pins s σ H D I h
  refine wpAny_execs_cons (thn (h1 pins s σ H D I h) fun f s1 q => ?_)
  cases f with
  | next => exact wpAny_execs_nil q
  | ret v => exact q
  | brk => exact q
  | cont => exact q
theorem Inv.quiet {pins : List (Addr × Obj)} {σ : St} {H : Hp} {s : Shared} (I : Inv X pins σ H s) : interactive X.env = false := by simp [interactive, I.ok.kind]
def tDrop (te : TE) : TS := fun D σ H => te σ H fun _ H1 => D.nx σ H1
theorem ps_expr (he : PE X e te) (hs : swapsWith e none pos.line X.env = pure false := by rfl) : PS X (.Expr e pos) (tDrop te) := by
  intro pins s σ H D I h
  exact wpAny_Expr_any (thn (he pins s σ H _ I h) fun v s1 ⟨x, H1, I1, r1, q1⟩ => ⟨σ, H1, I1, q1⟩) I.quiet hs
def tRet (te : TE) : TS := fun D σ H => te σ H D.rt
theorem ps_ret (he : PE X e te) : PS X (.Return (some e) pos) (tRet te) := by
  intro pins s σ H D I h
  exact wpAny_Return_some (thn (he pins s σ H _ I h) fun v s1 ⟨x, H1, I1, r1, q1⟩ => ⟨x, σ, H1, I1, r1, q1⟩)
def tIfS (c : TT) (t u : TS) : TS := fun D σ H => c σ H fun b H1 => if b = true then t D σ H1 else u D σ H1
theorem ps_if {c : Expr} {a b : List Stmt} {tc : TT} (hc : PT X c tc) (ha : PSs X a t) (hb : PSs X b u) : PS X (.If c a b pos) (tIfS tc t u) := by
  intro pins s σ H D I h
  refine wpAny_If (thn (hc pins s σ H _ I h) fun d s1 ⟨H1, I1, q1⟩ => ?_)
  cases d with
  | true => exact ha pins s1 σ H1 D I1 q1
  | false => exact hb pins s1 σ H1 D I1 q1
def tNever : TS := fun _ _ _ => False
theorem ps_never : PS X st tNever := fun _ _ _ _ _ _ h => h.elim
theorem pss_never {sts : List Stmt} : PSs X sts tNever := fun _ _ _ _ _ _ h => h.elim
end
abbrev TG := V → St → Hp → (St → Hp → Prop) → Prop
abbrev TGs := List V → St → Hp → (St → Hp → Prop) → Prop
def PG (X : Cx) (target : Expr) (t : TG) : Prop :=
  ∀ (pins : List (Addr × Obj)) (s : Shared) (σ : St) (H : Hp) (v : V) (u : Value) (Q : St → Hp → Prop), Inv X pins σ H s → RelV v u → t v σ H Q →
    wpAny (model X.prog X.w) X.A (assign target X.env u) (fun _ s' => ∃ σ' H', Inv X pins σ' H' s' ∧ Q σ' H') X.xe s
def PGs (X : Cx) (ts : List Expr) (t : TGs) : Prop :=
  ∀ (pins : List (Addr × Obj)) (s : Shared) (σ : St) (H : Hp) (vs : List V) (us : List Value) (Q : St → Hp → Prop), Inv X pins σ H s → Vals vs us → t vs σ H Q →
    wpAny (model X.prog X.w) X.A (assignInOrder ((assignEach ts X.env).map (·.2)) us) (fun _ s' => ∃ σ' H', Inv X pins σ' H' s' ∧ Q σ' H') X.xe s
section
variable {X : Cx} {pos : Pos}
def gName (i : Nat) : TG := fun v σ H Q => Q (σ.set i (some v)) H
theorem pg_name {i : Nat} {x : Str} (hN : X.N.Nodup) (hi : X.N[i]? = some x) (hx : Loc X.env.scope x) (hf : X.fn x = true ∨ X.env.scope.names.lookup x = some .local := by first | exact .inl rfl | exact .inr rfl | assumption) : PG X (.Name x pos) (gName i) := by
  intro pins s σ H v u Q I r h
  exact wpAny_assign_Name (store_ok I hN hi hx r (fun s' I' => ⟨_, H, I', h⟩) hf)
def gNil : TGs := fun vs σ H Q => vs = [] ∧ Q σ H
def gCons (t : TG) (u : TGs) : TGs := fun vs σ H Q => ∃ v r, vs = v :: r ∧ t v σ H fun σ' H' => u r σ' H' Q
theorem pgs_nil : PGs X [] gNil := by
  intro pins s σ H vs us Q I r h
  obtain ⟨e, h⟩ := h
  subst e
  cases r
  exact assignInOrder_nil ⟨σ, H, I, h⟩
theorem pgs_cons {e : Expr} {es : List Expr} {t : TG} {u : TGs} (h1 : PG X e t) (h2 : PGs X es u)
    (hs : (assignEach (e :: es) X.env).map (·.2) = assign e X.env :: (assignEach es X.env).map (·.2) := by rfl) : PGs X (e :: es) (gCons t u) := by
  intro pins s σ H vs us Q I r h
  obtain ⟨v, vr, e1, h⟩ := h
  subst e1
  cases r with
  | cons r rr =>
    rw [hs]
    refine assignInOrder_cons (thn (h1 pins s σ H _ _ _ I r h) fun _ s1 ⟨σ1, H1, I1, q1⟩ => ?_)
    exact h2 pins s1 σ1 H1 _ _ Q I1 rr q1
def gTup (K : PySem.W.Frag) (n : Nat) (t : TGs) : TG := fun v σ H Q => ∃ a xs, v = .ref a ∧ SqT K H a xs ∧ xs.length = n ∧ t xs σ H Q
theorem pg_tup {es : List Expr} {k : Nat} {t : TGs} {n : Nat} (hc : X.calm = true) (h : PGs X es t)
    (hn : (assignEach es X.env).length = n := by rfl) (hst : (assignEach es X.env).findIdx? (·.1) = none := by rfl) : PG X (.Tuple es k pos) (gTup X.K n t) := by
  intro pins s σ H v u Q I r hw
  obtain ⟨a, xs, e1, hq, hl, hw⟩ := hw
  subst e1
  cases r
  obtain ⟨its, rv, ht, hz⟩ := I.tuple hq
  refine assign_Tuple_tuple (I.ok.hd hc) ht (by simp [hn, ← hl, rv.length]) hst fun h' hx => ?_
  have I1 : Inv X pins σ H { s with heap := h' } := I.kept (t' := s.toks) fun b o e => hx b o (Nat.ne_of_lt (Heap.lt_size e)) e
  exact h pins _ σ H xs _ Q I1 (by simpa using rv) hw
def tAsg (te : TE) (g : TG) : TS := fun D σ H => te σ H fun x H1 => g x σ H1 D.nx
theorem ps_asg {tg e : Expr} {te : TE} {g : TG} (he : PE X e te) (hg : PG X tg g) (hs : swapsWithSole [tg] e pos.line X.env = pure false := by rfl) (hw : swappedStores [tg] e X.env = pure none := by rfl)
    (h1 : (assignEach [tg] X.env).map (·.2) = [assign tg X.env] := by rfl) : PS X (.Assign [tg] e pos) (tAsg te g) := by
  intro pins s σ H D I h
  refine wpAny_Assign_stores (thn (he pins s σ H _ I h) fun v s1 ⟨x, H1, I1, r1, q1⟩ => ?_) hs hw
  rw [h1]
  exact thn (hg pins s1 σ H1 x v _ I1 r1 q1) fun _ s2 q => q
theorem ps_set {i : Nat} {x : Str} {e : Expr} {te : TE} {pos' : Pos} (hN : X.N.Nodup) (hi : X.N[i]? = some x) (hx : Loc X.env.scope x) (he : PE X e te) (hs : swapsWith e (some (.Name x pos')) pos.line X.env = pure false := by rfl) (hf : X.fn x = true ∨ X.env.scope.names.lookup x = some .local := by first | exact .inl rfl | exact .inr rfl | assumption) :
    PS X (.Assign [.Name x pos'] e pos) (tAsg te (gName i)) := by
  intro pins s σ H D I h
  refine wpAny_Assign_Name (thn (he pins s σ H _ I h) fun v s1 ⟨y, H1, I1, r1, q1⟩ => ?_) hs
  exact store_ok I1 hN hi hx r1 (fun s2 I2 => ⟨_, H1, I2, q1⟩) hf
def tPar (i j : Nat) (ta : TA) : TS := fun D σ H => ta σ H fun vs H1 => ∃ v w, vs = [v, w] ∧ D.nx ((σ.set i (some v)).set j (some w)) H1
theorem ps_par {i j : Nat} {x y : Str} {a b : Expr} {ta : TA} {px py pt : Pos} {kt k2 pt2} (hc : X.calm = true) (hN : X.N.Nodup) (hi : X.N[i]? = some x) (hj : X.N[j]? = some y) (hij : i ≠ j)
    (hx : X.env.scope.names.lookup x = some .local) (hy : X.env.scope.names.lookup y = some .local) (ha : PA X [a, b] ta)
    (hw : swappedStores [.Tuple [.Name x px, .Name y py] kt pt] (.Tuple [a, b] k2 pt2) X.env = pure (some [x, y]))
    (hs : swapsWithSole [.Tuple [.Name x px, .Name y py] kt pt] (.Tuple [a, b] k2 pt2) pos.line X.env = pure false := by rfl) :
    PS X (.Assign [.Tuple [.Name x px, .Name y py] kt pt] (.Tuple [a, b] k2 pt2) pos) (tPar i j ta) := by
  intro pins s σ H D I h
  rw [exec_Assign_arm]
  refine wpAny_bind (wpAny_standAt ?_)
  rw [hs]
  refine wpAny_bind (wpAny_pure ?_)
  rw [if_neg (by decide)]
  refine wpAny_bind (Tuple_ (thn (ha _ pins s σ H _ I h) fun us s1 ⟨vs, H1, I1, r1, q1⟩ => ?_))
  obtain ⟨v, w, e1, q1⟩ := q1
  subst e1
  obtain ⟨u1, u2, rfl, rv, rw'⟩ : ∃ u1 u2, us = [u1, u2] ∧ RelV v u1 ∧ RelV w u2 := by
    cases r1 with
    | cons p q =>
      cases q with
      | cons p' q' =>
        cases q'
        exact ⟨_, _, rfl, p, p'⟩
  refine wpAny_newObj_type ?_ (by show 2 ≤ sizeLine; decide)
  have I2 : Inv X pins σ H1 { s1 with heap := s1.heap.push { cls := .type "tuple", data := .seq [u1, u2].toArray } } := I1.kept (t' := s1.toks) fun b o e => Heap.get?_push_of_some _ e
  rw [hw]
  refine wpAny_bind (wpAny_pure ?_)
  show wpAny (model X.prog X.w) X.A (do rule "assign.swapped-stores"; let items ← unpackItems (.ref s1.heap.objs.size) 2 none; assignInOrder [fun v => bindName X.env y v, fun v => bindName X.env x v] items.reverse; pure Flow.next) _ _ _
  refine wpAny_bind (wpAny_rule (wpAny_bind (unpackItems_tuple (items := #[u1, u2]) (I.ok.hd hc) (IsTup.new s1.heap _) fun h' hx' => ?_)))
  have I3 := I2.kept (h' := h') (t' := s1.toks) fun b o e => hx' b o (Nat.ne_of_lt (Heap.lt_size e)) e
  show wpAny _ _ (assignInOrder [fun v => bindName X.env y v, fun v => bindName X.env x v] [u2, u1] >>= fun _ => pure Flow.next) _ _ _
  refine wpAny_bind (assignInOrder_cons (wpAny_bindName (store_ok I3 hN hj (.inl hy) rw' (fun s2 I4 => ?_) (.inr hy))))
  refine assignInOrder_cons (wpAny_bindName (store_ok I4 hN hi (.inl hx) rv (fun s3 I5 => assignInOrder_nil (wpAny_pure ?_)) (.inr hx)))
  rw [List.set_comm _ _ (Ne.symm hij)] at I5
  exact ⟨_, H1, I5, q1⟩
end
section
variable {X : Cx} {pos : Pos}
def tWhile (c : TT) (tb : TS) : TS := fun D σ H => ∃ W : Nat → St → Hp → Prop, (∃ m, W m σ H) ∧ ∀ m σ H, W m σ H →
  c σ H fun b H1 => if b = true then ∃ N : St → Hp → Prop, (∀ σ' H', N σ' H' → ∃ m', m' < m ∧ W m' σ' H') ∧ tb { D with nx := N, ct := N, bk := D.nx } σ H1 else D.nx σ H1
theorem ps_while {c : Expr} {body : List Stmt} {tc : TT} {tb : TS} (hp : PassesOwn (model X.prog X.w) X.A X.env X.xe) (hc : PT X c tc) (hb : PSs X body tb) : PS X (.While c body [] pos) (tWhile tc tb) := by
  intro pins s σ H D I h
  obtain ⟨W, ⟨m0, w0⟩, turn⟩ := h
  refine wpAny_While (codeAny_whileLoop (fun n s' => ∃ σ' H', Inv X pins σ' H' s' ∧ W n σ' H') ?_ m0 ⟨σ, H, I, w0⟩)
  rintro n s1 ⟨σ1, H1, I1, w1⟩
  refine wpAny_passesOwn hp (thn (hc pins s1 σ1 H1 _ I1 (turn n σ1 H1 w1)) fun b s2 ⟨H2, I2, q2⟩ => ?_)
  cases b with
  | true =>
    obtain ⟨N, hN, q2⟩ := q2
    rw [if_pos rfl]
    refine wpAny_passesOwn hp (thn (hb pins s2 σ1 H2 _ I2 q2) fun f s3 q3 => ?_)
    cases f with
    | next =>
      obtain ⟨σ3, H3, I3, n3⟩ := q3
      obtain ⟨m', hm, w3⟩ := hN σ3 H3 n3
      exact ⟨m', hm, σ3, H3, I3, w3⟩
    | cont =>
      obtain ⟨σ3, H3, I3, n3⟩ := q3
      obtain ⟨m', hm, w3⟩ := hN σ3 H3 n3
      exact ⟨m', hm, σ3, H3, I3, w3⟩
    | brk => exact q3
    | ret v => exact q3
  | false =>
    rw [if_neg Bool.false_ne_true]
    exact wpAny_execs_nil ⟨σ1, H2, I2, q2⟩
end
structure It where
  go : Nat → Hp → Prop
  yld : Nat → Hp → V → Hp → Prop
  stop : Nat → Hp → Prop
def FpOk (X : Cx) (pins : List (Addr × Obj)) (H : Hp) (b : Addr) : Prop :=
  H b = none ∧ b ≠ X.env.locals ∧ b ∉ X.fs ∧ (b ∈ X.ex ∨ X.s₀.heap.objs.size ≤ b) ∧ (∀ x c, X.env.cells.lookup x = some c → c ≠ b) ∧ ∀ p ∈ X.pn ++ pins, p.1 ≠ b
theorem Inv.fpOk {X : Cx} {pins : List (Addr × Obj)} {σ : St} {H H' : Hp} {s : Shared} {b : Addr} (I : Inv X pins σ H s) (hb : s.heap.objs.size ≤ b) (hn : H' b = none) : FpOk X pins H' b := by
  refine ⟨hn, Nat.ne_of_gt (Nat.lt_of_lt_of_le I.lt hb), I.nofs hb, .inr (Nat.le_trans I.sz hb), fun x c e z => ?_, fun p hp z => ?_⟩
  · obtain ⟨v, q⟩ := I.cell x c e
    exact absurd (Nat.lt_of_lt_of_le q.lt (by rw [z]; exact hb)) (Nat.lt_irrefl _)
  · exact absurd (Nat.lt_of_lt_of_le (Heap.lt_size (I.pin p hp).1) (by rw [z]; exact hb)) (Nat.lt_irrefl _)
structure Turn (P : Program) (w : World) (K : PySem.W.Frag) (tg : Expr) (J : It) (fp : List Addr) (it : Addr) (tn : Nat → Heap → Prop) : Prop where
  mem : it ∈ fp
  obj : ∀ i h, tn i h → ∀ b ∈ fp, ∃ o, h.get? b = some o ∧ ∀ v, o.data ≠ .cell v
  keep : ∀ i h h', tn i h → (∀ b ∈ fp, ∀ o, h.get? b = some o → h'.get? b = some o) → tn i h'
  item : ∀ (X : Cx), X.prog = P → X.w = w → X.K = K → X.calm = true → ∀ (i : Nat) (pins : List (Addr × Obj)) (s : Shared) (σ : St) (H : Hp) (E : Value → Shared → Prop), Inv X pins σ H s → (∀ b ∈ fp, FpOk X pins H b) → tn i s.heap → J.go i H →
    wpAny (model P w) X.A (pyNext (.ref it)) (fun r s1 => ∃ u, r = some u ∧
      wpAny (model P w) X.A (letOwnedTupleGo tg (.ref it) u) (fun _ s2 => ∃ x H', Inv X pins σ H' s2 ∧ RelV x u ∧ J.yld i H x H' ∧ tn (i + 1) s2.heap ∧ ∀ b ∈ fp, H' b = none) E s1) E s
  done : ∀ (X : Cx), X.prog = P → X.w = w → X.K = K → X.calm = true → ∀ (i : Nat) (pins : List (Addr × Obj)) (s : Shared) (σ : St) (H : Hp) (E : Value → Shared → Prop), Inv X pins σ H s → (∀ b ∈ fp, FpOk X pins H b) → tn i s.heap → J.stop i H →
    wpAny (model P w) X.A (pyNext (.ref it)) (fun r s1 => r = none ∧ Inv X pins σ H s1) E s
  self : ∀ (A : Around) (i : Nat) (s : Shared) (Q : Value → Shared → Prop) (E : Value → Shared → Prop), tn i s.heap → Q (.ref it) s → wpAny (model P w) A (pyIter (.ref it)) Q E s
abbrev TI := St → Hp → (It → Hp → Prop) → Prop
def PIE (X : Cx) (pins : List (Addr × Obj)) (σ : St) (tg : Expr) (R : It → Hp → Prop) (itv : Value) (s2 : Shared) : Prop :=
  ∃ (it : Addr) (fp : List Addr) (tn : Nat → Heap → Prop) (J : It) (H' : Hp), itv = .ref it ∧ Inv X pins σ H' s2 ∧ Turn X.prog X.w X.K tg J fp it tn ∧ tn 0 s2.heap ∧ (∀ b ∈ fp, FpOk X pins H' b) ∧ R J H'
def PI (X : Cx) (tg iter : Expr) (wi : TI) : Prop :=
  ∀ (pins : List (Addr × Obj)) (s : Shared) (σ : St) (H : Hp) (R : It → Hp → Prop), Inv X pins σ H s → wi σ H R →
    wpAny (model X.prog X.w) X.A (eval iter X.env) (fun v s1 => wpAny (model X.prog X.w) X.A (pyIter v) (PIE X pins σ tg R) X.xe s1) X.xe s
theorem go_of {M : Model} {A : Around} {E : Value → Shared → Prop} {s : Shared} {tg : Expr} {it : Addr} {u : Value} {o : Obj} {n : String} {vs : Array Value} {Q : Unit → Shared → Prop} (ho : s.heap.get? it = some o) (hc : o.cls = .type n) (hd : o.data = .fields vs)
    (hn : ["enumerate", "zip", "dict_itemiterator", "dict_reverseitemiterator", "odict_iterator", "itertools.zip_longest", "itertools.pairwise"].contains n = false) (hQ : Q () s) : wpAny M A (letOwnedTupleGo tg (.ref it) u) Q E s := by
  unfold letOwnedTupleGo
  cases tg <;> first
    | exact wpAny_pure hQ
    | (cases u <;> first
        | exact wpAny_pure hQ
        | (refine wpAny_bind (wpAny_load ho ?_)
           rw [hc, hd]
           show wpAny M A (if (["enumerate", "zip", "dict_itemiterator", "dict_reverseitemiterator", "odict_iterator", "itertools.zip_longest", "itertools.pairwise"].contains n && vs[0]? == some (rawInt _)) = true then _ else _) Q E s
           rw [if_neg (by intro h; rw [hn, Bool.false_and] at h; cases h)]
           exact wpAny_pure hQ))
def Itl (K : PySem.W.Frag) (a : Addr) : It :=
  ⟨fun i H => ∃ xs x, SqL K H a xs ∧ xs[i]? = some x, fun i H x H' => H' = H ∧ ∀ xs, SqL K H a xs → xs[i]? = some x, fun i H => ∃ xs, SqL K H a xs ∧ xs.length ≤ i⟩
def Itt (K : PySem.W.Frag) (a : Addr) : It :=
  ⟨fun i H => ∃ xs x, SqT K H a xs ∧ xs[i]? = some x, fun i H x H' => H' = H ∧ ∀ xs, SqT K H a xs → xs[i]? = some x, fun i H => ∃ xs, SqT K H a xs ∧ xs.length ≤ i⟩
def Itr (lo : Int) (n : Nat) : It := ⟨fun i _ => i < n, fun i H x H' => H' = H ∧ x = .int (lo + i), fun i _ => n ≤ i⟩
theorem turn_list {P : Program} {w : World} {K : PySem.W.Frag} {tg : Expr} (a it : Addr) : Turn P w K tg (Itl K a) [it] it (fun i h => h.IsListIter it a i) where
  mem := by simp
  obj := fun i h st b hb => by
    have e : b = it := by simpa using hb
    subst e
    obtain ⟨o, e, c, d⟩ := st
    exact ⟨o, e, fun v z => by rw [d] at z; cases z⟩
  keep := fun i h h' st k => st.at fun o e => k it (by simp) o e
  item := by
    intro X hP hw hK hc i pins s σ H E I hf st hg
    subst hP hw hK
    obtain ⟨xs, x, hq, hx⟩ := hg
    obtain ⟨its, rv, p, hz⟩ := I.list hq
    obtain ⟨u, hu, ru⟩ := rv.get hx
    obtain ⟨f0, f1, f2, f3, f4, f5⟩ := hf it (by simp)
    refine wpAny_pyNext_list_item st p.isList (x := u) (by simpa using hu) fun h' st' sb => ?_
    have I1 : Inv X pins σ H { s with heap := h' } := I.turned (t' := s.toks) (fun b o hb e => (sb.2 b hb).trans e) f0 f1 f3 f4 f5
    obtain ⟨o, e, c, d⟩ := id st'
    exact ⟨u, rfl, go_of (s := { s with heap := h' }) e c d (by decide) ⟨x, H, I1, ru, ⟨rfl, fun ys hy => by rw [I.list_inj hy hq]; exact hx⟩, st', fun b hb => (hf b hb).1⟩⟩
  done := by
    intro X hP hw hK hc i pins s σ H E I hf st hg
    subst hP hw hK
    obtain ⟨xs, hq, hx⟩ := hg
    obtain ⟨its, rv, p, hz⟩ := I.list hq
    obtain ⟨f0, f1, f2, f3, f4, f5⟩ := hf it (by simp)
    have hl := rv.length
    exact wpAny_pyNext_list_end (I.ok.hd hc) st p.isList (by simp; omega) fun h' eb => ⟨rfl, I.turned (t' := s.toks) (fun b o hb e => eb b o hb e) f0 f1 f3 f4 f5⟩
  self := fun _ _ _ _ _ st h => wpAny_pyIter_listiter st h
theorem turn_tuple {P : Program} {w : World} {K : PySem.W.Frag} {tg : Expr} (a it : Addr) : Turn P w K tg (Itt K a) [it] it (fun i h => h.IsTupleIter it a i) where
  mem := by simp
  obj := fun i h st b hb => by
    have e : b = it := by simpa using hb
    subst e
    obtain ⟨o, e, c, d⟩ := st
    exact ⟨o, e, fun v z => by rw [d] at z; cases z⟩
  keep := fun i h h' st k => st.at fun o e => k it (by simp) o e
  item := by
    intro X hP hw hK hc i pins s σ H E I hf st hg
    subst hP hw hK
    obtain ⟨xs, x, hq, hx⟩ := hg
    obtain ⟨its, rv, p, hz⟩ := I.tuple hq
    obtain ⟨u, hu, ru⟩ := rv.get hx
    obtain ⟨f0, f1, f2, f3, f4, f5⟩ := hf it (by simp)
    refine wpAny_pyNext_tuple_item st (show s.heap.IsTuple a its.toArray from p) (x := u) (by simpa using hu) fun h' st' sb => ?_
    have I1 : Inv X pins σ H { s with heap := h' } := I.turned (t' := s.toks) (fun b o hb e => (sb.2 b hb).trans e) f0 f1 f3 f4 f5
    obtain ⟨o, e, c, d⟩ := id st'
    exact ⟨u, rfl, go_of (s := { s with heap := h' }) e c d (by decide) ⟨x, H, I1, ru, ⟨rfl, fun ys hy => by rw [I.tuple_inj hy hq]; exact hx⟩, st', fun b hb => (hf b hb).1⟩⟩
  done := by
    intro X hP hw hK hc i pins s σ H E I hf st hg
    subst hP hw hK
    obtain ⟨xs, hq, hx⟩ := hg
    obtain ⟨its, rv, p, hz⟩ := I.tuple hq
    obtain ⟨f0, f1, f2, f3, f4, f5⟩ := hf it (by simp)
    have hl := rv.length
    exact wpAny_pyNext_tuple_end (I.ok.hd hc) st (show s.heap.IsTuple a its.toArray from p) (by simp; omega) fun h' eb => ⟨rfl, I.turned (t' := s.toks) (fun b o hb e => eb b o hb e) f0 f1 f3 f4 f5⟩
  self := fun _ _ _ _ _ st h => wpAny_pyIter_tupleiter st h
theorem turn_range {P : Program} {w : World} {K : PySem.W.Frag} {tg : Expr} (it : Addr) (lo : Int) (n : Nat) : Turn P w K tg (Itr lo n) [it] it (fun i h => IsRangeIter h it (lo + (i : Nat) * 1) ((n : Int) - (i : Nat)) 1) where
  mem := by simp
  obj := fun i h st b hb => by
    have e : b = it := by simpa using hb
    subst e
    exact ⟨_, st, fun v z => by
      have z' : Data.fields _ = Data.cell v := z
      cases z'⟩
  keep := fun i h h' st k => k it (by simp) _ st
  item := by
    intro X hP hw hK hc i pins s σ H E I hf st hg
    subst hP hw hK
    obtain ⟨f0, f1, f2, f3, f4, f5⟩ := hf it (by simp)
    have W := Walks.range (prog := X.prog) (w := X.w) (I.ok.hd hc) it lo 1 n
    refine W.item i s _ _ hg st fun v h' tk hv st' kk => ?_
    obtain ⟨t, rfl⟩ := hv
    have I1 : Inv X pins σ H { s with heap := h', toks := tk } := I.turned (fun b o hb e => kk b o (by simpa using hb) e) f0 f1 f3 f4 f5
    refine ⟨_, rfl, go_of (s := { s with heap := h', toks := tk }) (n := "range_iterator") st' rfl rfl (by decide) ⟨.int (lo + i), H, I1, ⟨t, ?_⟩, ⟨rfl, rfl⟩, st', fun b hb => (hf b hb).1⟩⟩
    rw [Int.mul_one]
  done := by
    intro X hP hw hK hc i pins s σ H E I hf st hg
    subst hP hw hK
    obtain ⟨f0, f1, f2, f3, f4, f5⟩ := hf it (by simp)
    exact wpAny_pyNext_range_end (I.ok.hd hc) st (by have : n ≤ i := hg; omega) fun h' eb => ⟨rfl, I.turned (t' := s.toks) (fun b o hb e => eb b o hb e) f0 f1 f3 f4 f5⟩
  self := fun _ _ _ _ _ st h => wpAny_pyIter_rangeiter st h
end L2
namespace L2
open PySem PySem.Spec PyProof.Rows
section
variable {X : Cx} {tg : Expr}
def iList (K : PySem.W.Frag) (tl : TE) : TI := fun σ H R => tl σ H fun x H1 => ∃ a, x = .ref a ∧ (∃ xs, SqL K H1 a xs) ∧ R (Itl K a) H1
def iTup (K : PySem.W.Frag) (tl : TE) : TI := fun σ H R => tl σ H fun x H1 => ∃ a, x = .ref a ∧ (∃ xs, SqT K H1 a xs) ∧ R (Itt K a) H1
theorem pi_list {l : Expr} {tl : TE} (hl : PE X l tl) : PI X tg l (iList X.K tl) := by
  intro pins s σ H R I h
  refine thn (hl pins s σ H _ I h) fun v s1 ⟨x, H1, I1, r1, q1⟩ => ?_
  obtain ⟨a, e, ⟨xs, hq⟩, q⟩ := q1
  subst e
  cases r1
  obtain ⟨its, rv, p, hz⟩ := I1.list hq
  refine wpAny_pyIter_list p.isList ?_
  refine ⟨s1.heap.objs.size, [s1.heap.objs.size], _, _, H1, rfl, I1.kept (t' := s1.toks) fun b o e => Heap.get?_push_of_some _ e, turn_list a _, ⟨_, Heap.get?_push_size _ rfl, rfl, rfl⟩, fun b hb => ?_, q⟩
  have e : b = s1.heap.objs.size := by simpa using hb
  subst e
  exact I1.fpOk (Nat.le_refl _) (I1.hok.fresh (Nat.le_refl _))
theorem pi_tup {l : Expr} {tl : TE} (hl : PE X l tl) : PI X tg l (iTup X.K tl) := by
  intro pins s σ H R I h
  refine thn (hl pins s σ H _ I h) fun v s1 ⟨x, H1, I1, r1, q1⟩ => ?_
  obtain ⟨a, e, ⟨xs, hq⟩, q⟩ := q1
  subst e
  cases r1
  obtain ⟨its, rv, p, hz⟩ := I1.tuple hq
  refine wpAny_pyIter_tuple (show s1.heap.IsTuple a its.toArray from p) ?_
  refine ⟨s1.heap.objs.size, [s1.heap.objs.size], _, _, H1, rfl, I1.kept (t' := s1.toks) fun b o e => Heap.get?_push_of_some _ e, turn_tuple a _, ⟨_, Heap.get?_push_size _ rfl, rfl, rfl⟩, fun b hb => ?_, q⟩
  have e : b = s1.heap.objs.size := by simpa using hb
  subst e
  exact I1.fpOk (Nat.le_refl _) (I1.hok.fresh (Nat.le_refl _))
theorem range_it {pins : List (Addr × Obj)} {σ : St} {H : Hp} {s : Shared} {R : It → Hp → Prop} {E : Value → Shared → Prop} {lo hi : Int} {t u v : Tok} {tk : Nat} (I : Inv X pins σ H s) (h1 : -(2 ^ 62) ≤ lo) (h2 : lo < 2 ^ 62) (h3 : -(2 ^ 62) ≤ hi) (h4 : hi < 2 ^ 62)
    (q : R (Itr lo (hi - lo).toNat) H) : wpAny (model X.prog X.w) X.A (pyIter (.ref s.heap.objs.size)) (PIE X pins σ tg R) E { s with heap := s.heap.push { cls := .type "range", data := .fields #[.int lo t, .int hi u, .int 1 v] }, toks := tk } := by
  refine wpAny_pyIter_range (IsRange.new ..) (small_one h1 h2 h3 h4) ?_
  have I1 : Inv X pins σ H { s with heap := s.heap.push { cls := .type "range", data := .fields #[.int lo t, .int hi u, .int 1 v] }, toks := tk } := I.kept fun b o e => Heap.get?_push_of_some _ e
  refine ⟨(s.heap.push { cls := .type "range", data := .fields #[.int lo t, .int hi u, .int 1 v] }).objs.size, [(s.heap.push { cls := .type "range", data := .fields #[.int lo t, .int hi u, .int 1 v] }).objs.size], _, _, H, rfl,
    I1.kept (t' := tk) fun b o e => Heap.get?_push_of_some _ e, turn_range _ lo (hi - lo).toNat, ?_, fun b hb => ?_, q⟩
  · have e1 : lo + ((0 : Nat) : Int) * 1 = lo := by simp
    have e2 : (((hi - lo).toNat : Nat) : Int) - ((0 : Nat) : Int) = Builtin.Range.rangeSize lo hi 1 := by rw [rangeSize_one]; split <;> omega
    show IsRangeIter _ _ (lo + ((0 : Nat) : Int) * 1) ((((hi - lo).toNat : Nat) : Int) - ((0 : Nat) : Int)) 1
    rw [e1, e2]
    exact Heap.get?_push_size _ rfl
  · have e : b = (s.heap.push { cls := .type "range", data := .fields #[.int lo t, .int hi u, .int 1 v] }).objs.size := by simpa using hb
    subst e
    exact I1.fpOk (Nat.le_refl _) (I1.hok.fresh (Nat.le_refl _))
def iRng1 (ta : TA) : TI := fun σ H R => ta σ H fun vs H1 => ∃ j : Int, vs = [.int j] ∧ -(2 ^ 62) ≤ j ∧ j < 2 ^ 62 ∧ R (Itr 0 j.toNat) H1
def iRng2 (ta : TA) : TI := fun σ H R => ta σ H fun vs H1 => ∃ i j : Int, vs = [.int i, .int j] ∧ (-(2 ^ 62) ≤ i ∧ i < 2 ^ 62 ∧ -(2 ^ 62) ≤ j ∧ j < 2 ^ 62) ∧ R (Itr i (j - i).toNat) H1
theorem pi_range1 {a : Expr} {ta : TA} {p pos : Pos} (hg : Gl X "range") (hm : X.mg "range" = none) (ha : PA X [a] ta) (hs : starEach [a] X.env = [(false, eval a X.env)] := by rfl) : PI X tg (.Call (.Name "range" p) [a] [] pos) (iRng1 ta) := by
  intro pins s σ H R I h
  refine Call_ (ld_blt I hg hm boot_range (PyProof.Rows.callWith_type1 (thn (ha pos pins s σ H _ I h) fun us s1 ⟨vs, H1, I1, r1, q1⟩ => ?_) hs rfl))
  obtain ⟨j, e, q1, q2, q⟩ := q1
  subst e
  cases r1 with
  | cons r rr =>
    cases rr
    obtain ⟨t, rfl⟩ := r
    exact call_range_1 (range_it I1 (by omega) (by omega) q1 q2 (by simpa using q))
theorem pi_range2 {a b : Expr} {ta : TA} {p pos : Pos} (hg : Gl X "range") (hm : X.mg "range" = none) (ha : PA X [a, b] ta) (hs : starEach [a, b] X.env = [(false, eval a X.env), (false, eval b X.env)] := by rfl) (hs2 : starEach [b] X.env = [(false, eval b X.env)] := by rfl) :
    PI X tg (.Call (.Name "range" p) [a, b] [] pos) (iRng2 ta) := by
  intro pins s σ H R I h
  refine Call_ (ld_blt I hg hm boot_range (PyProof.Rows.callWith_type1 (thn (ha pos pins s σ H _ I h) fun us s1 ⟨vs, H1, I1, r1, q1⟩ => ?_) (by rw [hs, hs2]) (by rw [hs2]; rfl)))
  obtain ⟨i, j, e, ⟨q1, q2, q3, q4⟩, q⟩ := q1
  subst e
  cases r1 with
  | cons r rr =>
    cases rr with
    | cons r' rr =>
      cases rr
      obtain ⟨t, rfl⟩ := r
      obtain ⟨t', rfl⟩ := r'
      exact call_range_2 (range_it I1 q1 q2 q3 q4 q)
def tFor (wi : TI) (g : TG) (tb : TS) : TS := fun D σ H => wi σ H fun J H1 => ∃ W : Nat → Nat → St → Hp → Prop, (∃ m, W 0 m σ H1) ∧ ∀ i m σ H, W i m σ H →
  (J.stop i H ∧ D.nx σ H) ∨ (J.go i H ∧ ∃ N : St → Hp → Prop, (∀ σ' H', N σ' H' → ∃ m', m' < m ∧ W (i + 1) m' σ' H') ∧ ∀ x H', J.yld i H x H' → g x σ H' fun σ2 H2 => tb { D with nx := N, ct := N, bk := D.nx } σ2 H2)
def pinsAt (fp : List Addr) (h : Heap) : List (Addr × Obj) := fp.filterMap fun b => (h.get? b).map fun o => (b, o)
theorem mem_pinsAt {fp : List Addr} {h : Heap} {b : Addr} {o : Obj} (hb : b ∈ fp) (e : h.get? b = some o) : (b, o) ∈ pinsAt fp h := List.mem_filterMap.mpr ⟨b, hb, by rw [e]; rfl⟩
theorem of_pinsAt {fp : List Addr} {h : Heap} {p : Addr × Obj} (hp : p ∈ pinsAt fp h) : p.1 ∈ fp ∧ h.get? p.1 = some p.2 := by
  obtain ⟨b, hb, e⟩ := List.mem_filterMap.mp hp
  cases q : h.get? b with
  | none => rw [q] at e; cases e
  | some o =>
    rw [q] at e
    have e' : (b, o) = p := Option.some.inj e
    subst e'
    exact ⟨hb, q⟩
theorem Inv.pinned {pins : List (Addr × Obj)} {σ : St} {H : Hp} {s : Shared} {fp : List Addr} (I : Inv X pins σ H s) (hf : ∀ b ∈ fp, FpOk X pins H b) (ho : ∀ b ∈ fp, ∃ o, s.heap.get? b = some o ∧ ∀ v, o.data ≠ .cell v) : Inv X (pins ++ pinsAt fp s.heap) σ H s :=
  I.pins_of fun p hp => (List.mem_append.mp hp).elim (fun z => I.pin p (List.mem_append_right _ z)) fun z => by
    obtain ⟨hb, e⟩ := of_pinsAt z
    obtain ⟨f0, f1, f2, _⟩ := hf p.1 hb
    obtain ⟨o, e', d⟩ := ho p.1 hb
    rw [e] at e'; cases e'
    exact ⟨e, f0, f1, f2, d⟩
theorem Inv.unpinned {pins pl : List (Addr × Obj)} {σ : St} {H : Hp} {s : Shared} (I : Inv X (pins ++ pl) σ H s) : Inv X pins σ H s := I.pins_of fun p hp => I.pin p (List.mem_append_right _ (List.mem_append_left _ hp))
theorem ps_for {iter : Expr} {body : List Stmt} {wi : TI} {g : TG} {tb : TS} {pos : Pos} (hp : PassesOwn (model X.prog X.w) X.A X.env X.xe) (hc : X.calm = true) (hi : PI X tg iter wi) (hg : PG X tg g) (hb : PSs X body tb)
    (hs : ∀ x, foldedSetIterable iter X.env x = pure x := by intro _; rfl) : PS X (.For tg iter body [] pos) (tFor wi g tb) := by
  intro pins s σ H D I h
  refine wpAny_For (thn (hi pins s σ H _ I h) fun v s1 h1 => thn h1 fun itv s2 h2 => ?_) hs
  obtain ⟨it, fp, tn, J, H2, e, I2, T, st2, f2, W, ⟨m0, w0⟩, turn⟩ := h2
  subst e
  have stat : ∀ {H' : Hp}, (∀ b ∈ fp, H' b = none) → ∀ b ∈ fp, FpOk X pins H' b := fun hn b hb => ⟨hn b hb, (f2 b hb).2⟩
  refine codeAny_forLoop_any (fun n s' => ∃ i σ' H', Inv X pins σ' H' s' ∧ tn i s'.heap ∧ (∀ b ∈ fp, H' b = none) ∧ W i n σ' H') ?_ m0 ⟨0, σ, H2, I2, st2, fun b hb => (f2 b hb).1, w0⟩
  rintro n s3 ⟨i, σ3, H3, I3, st3, fr3, w3⟩
  rcases turn i n σ3 H3 w3 with ⟨stop, qn⟩ | ⟨go, N, hN, step⟩
  · refine wpAny_passesOwn hp (thn (T.done X rfl rfl rfl hc i pins s3 σ3 H3 X.xe I3 (stat fr3) st3 stop) fun r s4 ⟨hr, I4⟩ => ?_)
    subst hr
    exact wpAny_execs_nil ⟨σ3, H3, I4, qn⟩
  · refine wpAny_passesOwn hp (thn (T.item X rfl rfl rfl hc i pins s3 σ3 H3 X.xe I3 (stat fr3) st3 go) fun r s4 ⟨u, hr, h4⟩ => ?_)
    subst hr
    refine wpAny_passesOwn hp (thn h4 fun _ s5 ⟨x, H5, I5, r5, y5, st5, fr5⟩ => ?_)
    have I5' := I5.pinned (stat fr5) (T.obj _ _ st5)
    refine wpAny_passesOwn hp (thn (hg _ s5 σ3 H5 x u _ I5' r5 (step x H5 y5)) fun _ s6 ⟨σ6, H6, I6, q6⟩ => ?_)
    refine wpAny_passesOwn hp (thn (hb _ s6 σ6 H6 _ I6 q6) fun f s7 q7 => ?_)
    have again : ∀ {σ7 : St} {H7 : Hp}, Inv X (pins ++ pinsAt fp s5.heap) σ7 H7 s7 → N σ7 H7 → ∃ m, m < n ∧ ∃ i σ' H', Inv X pins σ' H' s7 ∧ tn i s7.heap ∧ (∀ b ∈ fp, H' b = none) ∧ W i m σ' H' := fun {σ7 H7} I7 n7 => by
      obtain ⟨m', hm, w7⟩ := hN σ7 H7 n7
      refine ⟨m', hm, i + 1, σ7, H7, I7.unpinned, T.keep _ _ _ st5 fun b hb o e => (I7.pin (b, o) (List.mem_append_right _ (List.mem_append_right _ (mem_pinsAt hb e)))).1, fun b hb => ?_, w7⟩
      obtain ⟨o, e, d⟩ := T.obj _ _ st5 b hb
      exact (I7.pin (b, o) (List.mem_append_right _ (List.mem_append_right _ (mem_pinsAt hb e)))).2.1
    cases f with
    | next => obtain ⟨σ7, H7, I7, n7⟩ := q7; exact again I7 n7
    | cont => obtain ⟨σ7, H7, I7, n7⟩ := q7; exact again I7 n7
    | brk => obtain ⟨σ7, H7, I7, q7⟩ := q7; exact ⟨σ7, H7, I7.unpinned, q7⟩
    | ret v => obtain ⟨x7, σ7, H7, I7, r7, q7⟩ := q7; exact ⟨x7, σ7, H7, I7.unpinned, r7, q7⟩
end
theorem for_list {K : PySem.W.Frag} {a : Addr} {xs : List V} {g : TG} {tb : TS} {D : Ends} {σ : St} {H : Hp} (Pv : Nat → St → Hp → Prop) (h0 : Pv 0 σ H) (hl : ∀ i σ H, i ≤ xs.length → Pv i σ H → SqL K H a xs)
    (hs : ∀ i x σ H, xs[i]? = some x → Pv i σ H → g x σ H fun σ2 H2 => tb { D with nx := Pv (i + 1), ct := Pv (i + 1), bk := D.nx } σ2 H2) (hd : ∀ σ H, Pv xs.length σ H → D.nx σ H) :
    ∃ W : Nat → Nat → St → Hp → Prop, (∃ m, W 0 m σ H) ∧ ∀ i m σ H, W i m σ H →
      ((Itl K a).stop i H ∧ D.nx σ H) ∨ ((Itl K a).go i H ∧ ∃ N : St → Hp → Prop, (∀ σ' H', N σ' H' → ∃ m', m' < m ∧ W (i + 1) m' σ' H') ∧ ∀ x H', (Itl K a).yld i H x H' → g x σ H' fun σ2 H2 => tb { D with nx := N, ct := N, bk := D.nx } σ2 H2) := by
  refine ⟨fun i m σ H => m = xs.length - i ∧ i ≤ xs.length ∧ Pv i σ H, ⟨xs.length, by simp, Nat.zero_le _, h0⟩, ?_⟩
  rintro i m σ H ⟨rfl, hi, p⟩
  have q := hl i σ H hi p
  by_cases hlt : i < xs.length
  · refine .inr ⟨⟨xs, xs[i], q, by simp [hlt]⟩, Pv (i + 1), fun σ' H' p' => ⟨xs.length - (i + 1), by omega, rfl, hlt, p'⟩, fun x H' y => ?_⟩
    obtain ⟨e, y⟩ := y
    subst e
    exact hs i x σ _ (y xs q) p
  · have e : i = xs.length := by omega
    subst e
    exact .inl ⟨⟨xs, q, Nat.le_refl _⟩, hd σ H p⟩
theorem for_range {lo : Int} {n : Nat} {g : TG} {tb : TS} {D : Ends} {σ : St} {H : Hp} (Pv : Nat → St → Hp → Prop) (h0 : Pv 0 σ H)
    (hs : ∀ i σ H, i < n → Pv i σ H → g (.int (lo + i)) σ H fun σ2 H2 => tb { D with nx := Pv (i + 1), ct := Pv (i + 1), bk := D.nx } σ2 H2) (hd : ∀ σ H, Pv n σ H → D.nx σ H) :
    ∃ W : Nat → Nat → St → Hp → Prop, (∃ m, W 0 m σ H) ∧ ∀ i m σ H, W i m σ H →
      ((Itr lo n).stop i H ∧ D.nx σ H) ∨ ((Itr lo n).go i H ∧ ∃ N : St → Hp → Prop, (∀ σ' H', N σ' H' → ∃ m', m' < m ∧ W (i + 1) m' σ' H') ∧ ∀ x H', (Itr lo n).yld i H x H' → g x σ H' fun σ2 H2 => tb { D with nx := N, ct := N, bk := D.nx } σ2 H2) := by
  refine ⟨fun i m σ H => m = n - i ∧ i ≤ n ∧ Pv i σ H, ⟨n, by simp, Nat.zero_le _, h0⟩, ?_⟩
  rintro i m σ H ⟨rfl, hi, p⟩
  by_cases hlt : i < n
  · refine .inr ⟨hlt, Pv (i + 1), fun σ' H' p' => ⟨n - (i + 1), by omega, rfl, hlt, p'⟩, fun x H' y => ?_⟩
    obtain ⟨e, y⟩ := y
    subst e y
    exact hs i σ _ hlt p
  · have e : i = n := by omega
    subst e
    exact .inl ⟨Nat.le_refl _, hd σ H p⟩
theorem while_by {c : TT} {tb : TS} {D : Ends} {σ : St} {H : Hp} (Pv : St → Hp → Prop) (μ : St → Hp → Nat) (h0 : Pv σ H)
    (hs : ∀ σ H, Pv σ H → c σ H fun b H1 => if b = true then tb { D with nx := fun σ' H' => Pv σ' H' ∧ μ σ' H' < μ σ H, ct := fun σ' H' => Pv σ' H' ∧ μ σ' H' < μ σ H, bk := D.nx } σ H1 else D.nx σ H1)
    (mono : ∀ σ H Q Q', (∀ b H1, Q b H1 → Q' b H1) → c σ H Q → c σ H Q') : tWhile c tb D σ H := by
  refine ⟨fun m σ H => m = μ σ H ∧ Pv σ H, ⟨_, rfl, h0⟩, ?_⟩
  rintro m σ H ⟨rfl, p⟩
  refine mono σ H _ _ (fun b H1 q => ?_) (hs σ H p)
  cases b with
  | true => exact ⟨_, fun σ' H' ⟨p', l⟩ => ⟨_, l, rfl, p'⟩, q⟩
  | false => exact q
end L2
namespace L2
open PySem PySem.Spec PyProof.Rows
abbrev R2 := V → V → Hp → VK → Prop
def OpR (X : Cx) (f : Value → Value → Sem Value) (r : R2) : Prop :=
  ∀ (pins : List (Addr × Obj)) (s : Shared) (σ : St) (H : Hp) (x y : V) (v u : Value) (Q : VK), Inv X pins σ H s → RelV x v → RelV y u → r x y H Q →
    wpAny (model X.prog X.w) X.A (f v u) (EP X pins σ Q) X.xe s
def UnR (X : Cx) (f : Value → Sem Value) (r : V → Hp → VK → Prop) : Prop :=
  ∀ (pins : List (Addr × Obj)) (s : Shared) (σ : St) (H : Hp) (x : V) (v : Value) (Q : VK), Inv X pins σ H s → RelV x v → r x H Q →
    wpAny (model X.prog X.w) X.A (f v) (EP X pins σ Q) X.xe s
def CallR (X : Cx) (f : Value) (r : List V → Hp → VK → Prop) : Prop :=
  ∀ (pins : List (Addr × Obj)) (s : Shared) (σ : St) (H : Hp) (xs : List V) (us : List Value) (Q : VK), Inv X pins σ H s → Vals xs us → r xs H Q →
    wpAny (model X.prog X.w) X.A (call f us) (EP X pins σ Q) X.xe s
def tOp (r : R2) (ta tb : TE) : TE := fun σ H Q => ta σ H fun x H1 => tb σ H1 fun y H2 => r x y H2 Q
def tUn (r : V → Hp → VK → Prop) (ta : TE) : TE := fun σ H Q => ta σ H fun x H1 => r x H1 Q
def rI (C : Int → Int → Prop) (g : Int → Int → V) : R2 := fun x y H Q => ∃ i j, x = .int i ∧ y = .int j ∧ C i j ∧ Q (g i j) H
def rI0 (g : Int → Int → V) : R2 := fun x y H Q => ∃ i j, x = .int i ∧ y = .int j ∧ Q (g i j) H
def rU (g : Int → V) : V → Hp → VK → Prop := fun x H Q => ∃ i, x = .int i ∧ Q (g i) H
section
variable {X : Cx} {a b c : Expr} {ta tb tc : TE} {pos : Pos}
theorem binT (ha : PE X a ta) (hb : PE X b tb) {pins : List (Addr × Obj)} {s : Shared} {σ : St} {H : Hp} {R : V → V → Hp → Prop} (I : Inv X pins σ H s)
    (h : ta σ H fun x H1 => tb σ H1 fun y H2 => R x y H2) {Q : Value → Shared → Prop} {f : Value → Value → Sem Value}
    (hf : ∀ v u s2 x y H2, Inv X pins σ H2 s2 → RelV x v → RelV y u → R x y H2 → wpAny (model X.prog X.w) X.A (f v u) Q X.xe s2) :
    wpAny (model X.prog X.w) X.A (eval a X.env) (fun v s₁ => wpAny (model X.prog X.w) X.A (eval b X.env) (fun u s₂ => wpAny (model X.prog X.w) X.A (f v u) Q X.xe s₂) X.xe s₁) X.xe s := by
  refine thn (ha pins s σ H _ I h) fun v s1 ⟨x, H1, I1, r1, q1⟩ => ?_
  refine thn (hb pins s1 σ H1 _ I1 q1) fun u s2 ⟨y, H2, I2, r2, q2⟩ => ?_
  exact hf v u s2 x y H2 I2 r1 r2 q2
theorem pe_op {op : Operator} {r : R2} (ho : OpR X (binaryOp op) r) (ha : PE X a ta) (hb : PE X b tb) : PE X (.BinOp a op b pos) (tOp r ta tb) := by
  intro pins s σ H Q I h
  exact wpAny_BinOp (binT ha hb I h fun v u s2 x y H2 I2 rx ry q => ho pins s2 σ H2 x y v u Q I2 rx ry q)
theorem pe_un {op : UnaryOp} {r : V → Hp → VK → Prop} (ho : UnR X (unaryOp op) r) (ha : PE X a ta) : PE X (.UnaryOp op a pos) (tUn r ta) := by
  intro pins s σ H Q I h
  exact UnaryOp_ (thn (ha pins s σ H _ I h) fun v s1 ⟨x, H1, I1, r1, q1⟩ => ho pins s1 σ H1 x v Q I1 r1 q1)
theorem opI {f : Value → Value → Sem Value} {C : Int → Int → Prop} {g : Int → Int → Int}
    (rule : ∀ (i j : Int) (t u : Tok) (s : Shared) (Q : Value → Shared → Prop) (E : Value → Shared → Prop), C i j → Q (.int (g i j) s.toks) { s with toks := s.toks + 1 } → wpAny (model X.prog X.w) X.A (f (.int i t) (.int j u)) Q E s) :
    OpR X f (rI C fun i j => .int (g i j)) := by
  intro pins s σ H x y v u Q I rx ry h
  obtain ⟨i, j, rfl, rfl, hc, q⟩ := h
  obtain ⟨t, rfl⟩ := rx
  obtain ⟨t', rfl⟩ := ry
  exact rule i j t t' s _ _ hc ⟨.int (g i j), H, I.tok _, ⟨_, rfl⟩, q⟩
theorem opI0 {f : Value → Value → Sem Value} {g : Int → Int → Int}
    (rule : ∀ (i j : Int) (t u : Tok) (s : Shared) (Q : Value → Shared → Prop) (E : Value → Shared → Prop), Q (.int (g i j) s.toks) { s with toks := s.toks + 1 } → wpAny (model X.prog X.w) X.A (f (.int i t) (.int j u)) Q E s) :
    OpR X f (rI0 fun i j => .int (g i j)) := by
  intro pins s σ H x y v u Q I rx ry h
  obtain ⟨i, j, rfl, rfl, q⟩ := h
  obtain ⟨t, rfl⟩ := rx
  obtain ⟨t', rfl⟩ := ry
  exact rule i j t t' s _ _ ⟨.int (g i j), H, I.tok _, ⟨_, rfl⟩, q⟩
theorem opB0 {f : Value → Value → Sem Value} {g : Int → Int → Bool}
    (rule : ∀ (i j : Int) (t u : Tok) (s : Shared) (Q : Value → Shared → Prop) (E : Value → Shared → Prop), Q (.bool (g i j)) s → wpAny (model X.prog X.w) X.A (f (.int i t) (.int j u)) Q E s) :
    OpR X f (rI0 fun i j => .bl (g i j)) := by
  intro pins s σ H x y v u Q I rx ry h
  obtain ⟨i, j, rfl, rfl, q⟩ := h
  obtain ⟨t, rfl⟩ := rx
  obtain ⟨t', rfl⟩ := ry
  exact rule i j t t' s _ _ ⟨.bl (g i j), H, I, rfl, q⟩
theorem op_add : OpR X (binaryOp .Add) (rI0 fun i j => .int (i + j)) := opI0 fun _ _ _ _ _ _ _ q => add_int q
theorem op_sub : OpR X (binaryOp .Sub) (rI0 fun i j => .int (i - j)) := opI0 fun _ _ _ _ _ _ _ q => sub_int q
theorem op_mod : OpR X (binaryOp .Mod) (rI (fun _ j => 0 < j) fun i j => .int (i % j)) := opI fun i j _ _ _ _ _ hc q => by
  have h1 : (0 : Int) < j := hc
  exact mod_int' (by omega) (by rw [Int.fmod_eq_emod_of_nonneg i (by omega)]; exact q)
theorem op_modN : OpR X (binaryOp .Mod) (rI (fun _ j => j ≠ 0) fun i j => .int (i.fmod j)) := opI fun _ _ _ _ _ _ _ hc q => mod_int' hc q
theorem unI {f : Value → Sem Value} {g : Int → Int}
    (rule : ∀ (i : Int) (t : Tok) (s : Shared) (Q : Value → Shared → Prop) (E : Value → Shared → Prop), Q (.int (g i) s.toks) { s with toks := s.toks + 1 } → wpAny (model X.prog X.w) X.A (f (.int i t)) Q E s) :
    UnR X f (rU fun i => .int (g i)) := by
  intro pins s σ H x v Q I rx h
  obtain ⟨i, rfl, q⟩ := h
  obtain ⟨t, rfl⟩ := rx
  exact rule i t s _ _ ⟨.int (g i), H, I.tok _, ⟨_, rfl⟩, q⟩
theorem un_neg : UnR X (unaryOp .USub) (rU fun i => .int (-i)) := unI fun _ _ _ _ _ q => neg_int q
end
def scal : V → V → Bool
  | .non, .non => true | .non, .int _ => true | .int _, .non => true | .non, .bl _ => true | .bl _, .non => true | .non, .str _ => true | .str _, .non => true
  | .int _, .int _ => true | .bl _, .bl _ => true | .str _, .str _ => true | .byt _, .byt _ => true
  | .int _, .str _ => true | .str _, .int _ => true | .bl _, .str _ => true | .str _, .bl _ => true
  | _, _ => false
def rEq : R2 := fun x y H Q => scal x y = true ∧ Q (.bl (decide (x = y))) H
def rNe : R2 := fun x y H Q => scal x y = true ∧ Q (.bl (!decide (x = y))) H
theorem dec_int {i j : Int} : decide (V.int i = V.int j) = (i == j) := by
  rw [Bool.eq_iff_iff]
  simp
theorem dec_bl {i j : Bool} : decide (V.bl i = V.bl j) = (i == j) := by
  rw [Bool.eq_iff_iff]
  simp
theorem dec_str {i j : Str} : decide (V.str i = V.str j) = (i == j) := by
  rw [Bool.eq_iff_iff]
  simp
theorem dec_byt {i j : Array UInt8} : decide (V.byt i = V.byt j) = (i.toList == j.toList) := by
  rw [Bool.eq_iff_iff]
  cases i
  cases j
  simp
section
variable {X : Cx} {a b c : Expr} {ta tb tc : TE} {pos : Pos}
theorem fin_bl {pins : List (Addr × Obj)} {σ : St} {H : Hp} {s : Shared} {Q : VK} {k k' : Bool} (I : Inv X pins σ H s) (q : Q (.bl k) H) (e : k = k') : EP X pins σ Q (.bool k') s := by
  subst e
  exact ⟨.bl k, H, I, rfl, q⟩
theorem op_eq : OpR X (compareOp .Eq) rEq := by
  intro pins s σ H x y v u Q I rx ry h
  obtain ⟨hs, q⟩ := h
  cases x with
  | non =>
    cases rx
    cases y with
    | non => cases ry; exact PySem.EqNone.eq_none_none (fin_bl I q (by simp))
    | bl j => cases ry; exact PySem.EqNone.eq_none_bool (fin_bl I q (by simp))
    | int j => obtain ⟨t', rfl⟩ := ry; exact PySem.EqNone.eq_none_int (fin_bl I q (by simp))
    | str j => obtain ⟨t', rfl⟩ := ry; exact PySem.EqNone.eq_none_str (fin_bl I q (by simp))
    | _ => exact absurd (show false = true from hs) Bool.false_ne_true
  | bl i =>
    cases rx
    cases y with
    | non => cases ry; exact PySem.EqNone.eq_bool_none (fin_bl I q (by simp))
    | bl j => cases ry; exact eq_bool (fin_bl I q dec_bl)
    | str j => obtain ⟨t', rfl⟩ := ry; exact PySem.EqMixed.eq_bool_str (fin_bl I q (by simp))
    | _ => exact absurd (show false = true from hs) Bool.false_ne_true
  | int i =>
    obtain ⟨t, rfl⟩ := rx
    cases y with
    | non => cases ry; exact PySem.EqNone.eq_int_none (fin_bl I q (by simp))
    | int j => obtain ⟨t', rfl⟩ := ry; exact eq_int (fin_bl I q dec_int)
    | str j => obtain ⟨t', rfl⟩ := ry; exact PySem.EqMixed.eq_int_str (fin_bl I q (by simp))
    | _ => exact absurd (show false = true from hs) Bool.false_ne_true
  | str i =>
    obtain ⟨t, rfl⟩ := rx
    cases y with
    | non => cases ry; exact PySem.EqNone.eq_str_none (fin_bl I q (by simp))
    | bl j => cases ry; exact PySem.EqMixed.eq_str_bool (fin_bl I q (by simp))
    | int j => obtain ⟨t', rfl⟩ := ry; exact PySem.EqMixed.eq_str_int (fin_bl I q (by simp))
    | str j => obtain ⟨t', rfl⟩ := ry; exact eq_str (fin_bl I q dec_str)
    | _ => exact absurd (show false = true from hs) Bool.false_ne_true
  | byt i =>
    obtain ⟨t, rfl⟩ := rx
    cases y with
    | byt j => obtain ⟨t', rfl⟩ := ry; exact PySem.W.eq_bytes (fin_bl I q dec_byt)
    | _ => exact absurd (show false = true from hs) Bool.false_ne_true
  | _ => cases y <;> exact absurd (show false = true from hs) Bool.false_ne_true
theorem op_ne : OpR X (compareOp .NotEq) rNe := by
  intro pins s σ H x y v u Q I rx ry h
  obtain ⟨hs, q⟩ := h
  cases x with
  | non =>
    cases rx
    cases y with
    | non => cases ry; exact PySem.EqNone.ne_none_none (fin_bl I q (by simp))
    | bl j => cases ry; exact PySem.EqNone.ne_none_bool (fin_bl I q (by simp))
    | int j => obtain ⟨t', rfl⟩ := ry; exact PySem.EqNone.ne_none_int (fin_bl I q (by simp))
    | str j => obtain ⟨t', rfl⟩ := ry; exact PySem.EqNone.ne_none_str (fin_bl I q (by simp))
    | _ => exact absurd (show false = true from hs) Bool.false_ne_true
  | bl i =>
    cases rx
    cases y with
    | non => cases ry; exact PySem.EqNone.ne_bool_none (fin_bl I q (by simp))
    | bl j => cases ry; exact ne_bool (fin_bl I q (congrArg not dec_bl))
    | str j => obtain ⟨t', rfl⟩ := ry; exact PySem.EqMixed.ne_bool_str (fin_bl I q (by simp))
    | _ => exact absurd (show false = true from hs) Bool.false_ne_true
  | int i =>
    obtain ⟨t, rfl⟩ := rx
    cases y with
    | non => cases ry; exact PySem.EqNone.ne_int_none (fin_bl I q (by simp))
    | int j => obtain ⟨t', rfl⟩ := ry; exact ne_int (fin_bl I q (congrArg not dec_int))
    | str j => obtain ⟨t', rfl⟩ := ry; exact PySem.EqMixed.ne_int_str (fin_bl I q (by simp))
    | _ => exact absurd (show false = true from hs) Bool.false_ne_true
  | str i =>
    obtain ⟨t, rfl⟩ := rx
    cases y with
    | non => cases ry; exact PySem.EqNone.ne_str_none (fin_bl I q (by simp))
    | bl j => cases ry; exact PySem.EqMixed.ne_str_bool (fin_bl I q (by simp))
    | int j => obtain ⟨t', rfl⟩ := ry; exact PySem.EqMixed.ne_str_int (fin_bl I q (by simp))
    | str j => obtain ⟨t', rfl⟩ := ry; exact ne_str (fin_bl I q (congrArg not dec_str))
    | _ => exact absurd (show false = true from hs) Bool.false_ne_true
  | byt i =>
    obtain ⟨t, rfl⟩ := rx
    cases y with
    | byt j => obtain ⟨t', rfl⟩ := ry; exact PySem.W.ne_bytes (fin_bl I q (congrArg not dec_byt))
    | _ => exact absurd (show false = true from hs) Bool.false_ne_true
  | _ => cases y <;> exact absurd (show false = true from hs) Bool.false_ne_true
theorem op_lt : OpR X (compareOp .Lt) (rI0 fun i j => .bl (decide (i < j))) := opB0 fun _ _ _ _ _ _ _ q => lt_int q
theorem op_le : OpR X (compareOp .LtE) (rI0 fun i j => .bl (decide (i ≤ j))) := opB0 fun _ _ _ _ _ _ _ q => le_int q
theorem op_gt : OpR X (compareOp .Gt) (rI0 fun i j => .bl (decide (j < i))) := opB0 fun _ _ _ _ _ _ _ q => gt_int q
theorem op_ge : OpR X (compareOp .GtE) (rI0 fun i j => .bl (decide (j ≤ i))) := opB0 fun _ _ _ _ _ _ _ q => ge_int q
theorem nomark (b : Expr) {op : CmpOp} (h : op ≠ .In := by decide) (h2 : op ≠ .NotIn := by decide) : behindInMarks op b = false := by
  have e1 : (op == CmpOp.In) = false := by cases op <;> first | rfl | exact absurd rfl h
  have e2 : (op == CmpOp.NotIn) = false := by cases op <;> first | rfl | exact absurd rfl h2
  cases b <;> simp [behindInMarks, e1, e2]
theorem pe_cmpR {op : CmpOp} {r : R2} (ho : OpR X (compareOp op) r) (ha : PE X a ta) (hb : PE X b tb) (hm : behindInMarks op b = false) : PE X (.Compare a [op] [b] pos) (tOp r ta tb) := by
  intro pins s σ H Q I h
  exact wpAny_Compare1 (binT ha hb I h fun v u s2 x y H2 I2 rx ry q => ho pins s2 σ H2 x y v u Q I2 rx ry q) hm
def tTest (t : TE) : TT := fun σ H Q => t σ H fun x H' => ∃ k, x = .bl k ∧ Q k H'
theorem pt_cmpR {op : CmpOp} {r : R2} (ho : OpR X (compareOp op) r) (ha : PE X a ta) (hb : PE X b tb) (hm : behindInMarks op b = false) : PT X (.Compare a [op] [b] pos) (tTest (tOp r ta tb)) := by
  intro pins s σ H Q I h
  refine wpAny_isTrue_Compare1 (thn (ha pins s σ H _ I h) fun v s1 ⟨x, H1, I1, r1, q1⟩ => thn (hb pins s1 σ H1 _ I1 q1) fun u s2 ⟨y, H2, I2, r2, q2⟩ =>
    thn (ho pins s2 σ H2 x y v u _ I2 r1 r2 q2) fun c s3 ⟨z, H3, I3, r3, k, e, q3⟩ => ?_) hm
  subst e
  cases r3
  exact wpAny_truthy_bool ⟨H3, I3, q3⟩
theorem line63 : (sizeLine : Nat) < 2 ^ 63 := by rw [sizeLine_eq]; decide
theorem op_add_str : OpR X (binaryOp .Add) (fun x y H Q => ∃ i j, x = .str i ∧ y = .str j ∧ i.length + j.length ≤ sizeLine ∧ Q (.str (i ++ j)) H) := by
  intro pins s σ H x y v u Q I rx ry h
  obtain ⟨i, j, rfl, rfl, hz, q⟩ := h
  obtain ⟨t, rfl⟩ := rx
  obtain ⟨t', rfl⟩ := ry
  exact add_str (fun t' tk => ⟨.str (i ++ j), H, I.tok _, ⟨_, rfl⟩, q⟩) hz
theorem vals1 {x : V} {us : List Value} (r : Vals [x] us) : ∃ u, us = [u] ∧ RelV x u := by
  cases r with
  | cons r1 r2 => cases r2; exact ⟨_, rfl, r1⟩
theorem vals2 {x y : V} {us : List Value} (r : Vals [x, y] us) : ∃ u w', us = [u, w'] ∧ RelV x u ∧ RelV y w' := by
  cases r with
  | cons r1 r2 =>
    cases r2 with
    | cons r3 r4 => cases r4; exact ⟨_, _, rfl, r1, r3⟩
theorem call_abs : CallR X (.builtin "abs") (fun xs H Q => ∃ i, xs = [.int i] ∧ Q (.int (if i < 0 then -i else i)) H) := by
  intro pins s σ H xs us Q I r h
  obtain ⟨i, rfl, q⟩ := h
  obtain ⟨u, rfl, t, rfl⟩ := vals1 r
  exact call_abs_int fun u tk => ⟨.int (if i < 0 then -i else i), H, I.tok _, ⟨_, rfl⟩, q⟩
theorem call_max2 (hc : X.calm = true) : CallR X (.builtin "max") (fun xs H Q => ∃ i j, xs = [.int i, .int j] ∧ Q (.int (if j > i then j else i)) H) := by
  intro pins s σ H xs us Q I r h
  obtain ⟨i, j, rfl, q⟩ := h
  obtain ⟨u, w', rfl, ⟨t, rfl⟩, ⟨t', rfl⟩⟩ := vals2 r
  refine max_two_ints (I.ok.hd hc) fun h' tk k => ⟨_, H, I.kept k, ?_, q⟩
  by_cases hj : j > i
  · rw [if_pos hj, if_pos hj]; exact ⟨_, rfl⟩
  · rw [if_neg hj, if_neg hj]; exact ⟨_, rfl⟩
theorem call_min2 (hc : X.calm = true) : CallR X (.builtin "min") (fun xs H Q => ∃ i j, xs = [.int i, .int j] ∧ Q (.int (if j < i then j else i)) H) := by
  intro pins s σ H xs us Q I r h
  obtain ⟨i, j, rfl, q⟩ := h
  obtain ⟨u, w', rfl, ⟨t, rfl⟩, ⟨t', rfl⟩⟩ := vals2 r
  refine min_two_ints (I.ok.hd hc) fun h' tk k => ⟨_, H, I.kept k, ?_, q⟩
  by_cases hj : j < i
  · rw [if_pos hj, if_pos hj]; exact ⟨_, rfl⟩
  · rw [if_neg hj, if_neg hj]; exact ⟨_, rfl⟩
theorem call_int1 : CallR X (.type "int") (fun xs H Q => (∃ i, xs = [.int i] ∧ Q (.int i) H) ∨ ∃ k, xs = [.bl k] ∧ Q (.int (if k then 1 else 0)) H) := by
  intro pins s σ H xs us Q I r h
  rcases h with ⟨i, rfl, q⟩ | ⟨k, rfl, q⟩
  · obtain ⟨u, rfl, t, rfl⟩ := vals1 r
    exact call_int_int ⟨.int i, H, I, ⟨_, rfl⟩, q⟩
  · obtain ⟨u, rfl, r1⟩ := vals1 r
    cases r1
    exact call_int_bool ⟨.int (if k then 1 else 0), H, I.tok _, ⟨_, rfl⟩, q⟩
theorem call_str_int : CallR X (.type "str") (fun xs H Q => ∃ i, xs = [.int i] ∧ i.natAbs.log2 < 1920 ∧ Q (.str (toString i)) H) := by
  intro pins s σ H xs us Q I r h
  obtain ⟨i, rfl, hz, q⟩ := h
  obtain ⟨u, rfl, t, rfl⟩ := vals1 r
  exact PySem.P.str_of_int hz ⟨.str _, H, I.tok _, ⟨_, rfl⟩, q⟩
end
end L2
namespace L2
open PySem PySem.Spec PyProof.Rows
structure ObjM (h : Heap) (x dx C : Addr) (mA : Str → Option Value) : Prop where
  obj : h.get? x = some (PySem.W.instObj C dx)
  ns : h.Ns1 dx mA
  ne : dx ≠ x
theorem lookIn_ns {h : Heap} {dx : Addr} {mA : Str → Option Value} (n : h.Ns1 dx mA) : ∃ od, h.get? dx = some od ∧ ∀ name, PySem.W.lookIn name od = some (mA name) := by
  obtain ⟨o, es, ep, ho, hd, hk, _, hm⟩ := n
  refine ⟨o, ho, fun name => ?_⟩
  have e := hm name
  unfold nsFind findBy at e
  rw [← Array.find?_toList] at e
  unfold PySem.W.lookIn
  rw [hd]
  dsimp only
  split
  · rename_i y q
    rw [q] at e
    exact congrArg some e
  · rename_i q
    rw [q] at e
    have a : es.toList.any (·.refKey) = false := by
      rw [List.any_eq_false]
      intro y hy
      obtain ⟨z, t, hkey⟩ := hk y (Array.mem_toList_iff.mp hy)
      simp [DictEntry.refKey, hkey]
    have a' : ¬ es.toList.any (·.refKey) = true := by rw [a]; exact Bool.false_ne_true
    rw [if_neg a']
    exact congrArg some e
theorem ObjM.look {h : Heap} {x dx C : Addr} {mA : Str → Option Value} (I : ObjM h x dx C mA) : ∃ od, PySem.W.InstAt h x (PySem.W.instObj C dx) C (some od) ∧ ∀ name, PySem.W.lookIn name od = some (mA name) :=
  let ⟨od, ho, hl⟩ := lookIn_ns I.ns
  ⟨od, ⟨I.obj, rfl, rfl, ho⟩, hl⟩
section
variable {prog : Program} {w : World} {A : Around} {E : Value → Shared → Prop} {s : Shared} {K : PySem.W.Frag} {x dx C f : Addr} {mA : Str → Option Value} {name : Str} {v : Value}
end
section
variable {P : Program} {w : World} {H H' : Hp} {h h' : Heap} {a C dx : Addr} {fs fs' : List (Str × V)}
theorem ins_get (hok : HOk P w H h) (e : H a = some (.ins C dx fs)) : ∃ mA, ObjM h a dx C mA ∧ (∀ f, RelO (fs.lookup f) (mA f)) ∧ PySem.Within mA (fs.map (·.1)) ∧ fs.length ≤ 1000 ∧ H dx = some (.own a) := by
  obtain ⟨d, z, ne, ob, mA, n, r, q⟩ := (show ObjOk P w H h a (.ins C dx fs) from hok a _ e)
  exact ⟨mA, ⟨ob, n, ne⟩, r, q, z, d⟩
end
structure Cls (K : PySem.W.Frag) (C : Addr) : Prop where
  pg : PySem.W.plainGet K C Str.empty = true
  hd : PySem.W.hasDictIn K C = true
  po : PySem.W.plainOver K C = true
  sa : PySem.W.findIn K (.ref C) "__setattr__" = some (some (.builtin "object.__setattr__"))
theorem Cls.get {K : PySem.W.Frag} {C : Addr} (c : Cls K C) (f : Str) : PySem.W.plainGet K C f = true := c.pg
section
variable {X : Cx} {pins : List (Addr × Obj)} {σ : St} {H : Hp} {s : Shared} {a C dx : Addr} {fs : List (Str × V)} {f : Str} {v : V} {A : Around} {E : Value → Shared → Prop}
end
section
variable {X : Cx} {o e value : Expr} {f : Str} {pos pos' tpos : Pos} {ta tv : TE}
end
section
variable {X : Cx} {pins : List (Addr × Obj)} {σ : St} {H : Hp} {s : Shared} {A : Around} {E : Value → Shared → Prop} {Q : Value → Shared → Prop} {c : Value} {b : Bool}
inductive TyOf (K : PySem.W.Frag) (H : Hp) : V → Value → Prop where
  | non : TyOf K H .non (.type "NoneType")
  | bl (x : Bool) : TyOf K H (.bl x) (.type "bool")
  | int (i : Int) : TyOf K H (.int i) (.type "int")
  | str (x : Str) : TyOf K H (.str x) (.type "str")
  | flt (x : UInt64) : TyOf K H (.flt x) (.type "float")
  | lst {a : Addr} {xs : List V} (e : H a = some (.lst xs)) : TyOf K H (.ref a) (.type "list")
  | frz {a : Addr} {o : Obj} {xs : List V} (e : H a = some (.frz o (.lst xs))) : TyOf K H (.ref a) (.type "list")
  | tup {a : Addr} {xs : List V} (e : H a = some (.tup xs)) : TyOf K H (.ref a) (.type "tuple")
  | dK {a : Addr} {kvs : List (Key × V)} (e : H a = some (.dK kvs)) : TyOf K H (.ref a) (.type "dict")
  | dT {a : Addr} {kvs : List (List Key × V)} (e : H a = some (.dT kvs)) : TyOf K H (.ref a) (.type "dict")
  | ins {a C dx : Addr} {fs : List (Str × V)} (e : H a = some (.ins C dx fs)) (cl : Cls K C) (ha : PySem.W.findIn K (.ref C) "__class__" = some (some (.builtin "object.__class__")))
      (hn : PySem.W.specialIn K (.builtin "object.__class__") "__get__" = some (some (.builtin "getset_descriptor.__get__"))) (htk : PySem.W.takesIn K (.builtin "object.__class__") = some true)
      (hm : PySem.W.mroIn K C (.type "object") = some true) : TyOf K H (.ref a) (.ref C)
theorem isinst_ok {x : V} {u t : Value} (I : Inv X pins σ H s) (rx : RelV x u) (ty : TyOf X.K H x t) (e : PySem.W.kitOne X.K t c = some b) (h : ∀ tk, Q (.bool b) { s with toks := tk }) :
    wpAny (model X.prog X.w) A (call (.builtin "isinstance") [u, c]) Q E s := by
  cases ty with
  | non => cases (show u = Value.none from rx); exact PySem.W.kia_one PySem.W.kitx_none I.kIn True.intro e (fun z => nomatch z) h
  | bl y => cases (show u = Value.bool y from rx); exact PySem.W.kia_one PySem.W.kitx_bool I.kIn True.intro e (fun z => nomatch z) h
  | int i => obtain ⟨t, q⟩ := (show ∃ t, u = Value.int i t from rx); cases q; exact PySem.W.kia_one PySem.W.kitx_int I.kIn True.intro e (fun z => nomatch z) h
  | str y => obtain ⟨t, q⟩ := (show ∃ t, u = Value.str y t from rx); cases q; exact PySem.W.kia_one PySem.W.kitx_str I.kIn True.intro e (fun z => nomatch z) h
  | flt y => obtain ⟨t, q⟩ := (show ∃ t, u = Value.float y t from rx); cases q; exact PySem.W.kia_one PySem.W.kitx_float I.kIn True.intro e (fun z => nomatch z) h
  | @lst a xs ea =>
    cases (show u = Value.ref a from rx)
    obtain ⟨_, _, n, _, h1⟩ := (show ObjOk X.prog X.w H s.heap a (.lst xs) from I.hok a _ ea)
    exact PySem.W.kia_one PySem.W.kitx_list I.kIn ⟨_, h1, rfl⟩ e (fun z => nomatch z) h
  | @frz a ob xs ea =>
    cases (show u = Value.ref a from rx)
    obtain ⟨_, _, _, n, _, h1⟩ := (show ObjOk X.prog X.w H s.heap a (.frz ob (.lst xs)) from I.hok a _ ea)
    exact PySem.W.kia_one PySem.W.kitx_list I.kIn ⟨_, h1, rfl⟩ e (fun z => nomatch z) h
  | @tup a xs ea =>
    cases (show u = Value.ref a from rx)
    obtain ⟨_, _, _, p⟩ := (show ObjOk X.prog X.w H s.heap a (.tup xs) from I.hok a _ ea)
    obtain ⟨o, h1, h2, _⟩ := p
    exact PySem.W.kia_one PySem.W.kitx_tuple I.kIn ⟨o, h1, h2⟩ e (fun z => nomatch z) h
  | @dK a kvs ea =>
    cases (show u = Value.ref a from rx)
    obtain ⟨_, _, vs, _, p⟩ := (show ObjOk X.prog X.w H s.heap a (.dK kvs) from I.hok a _ ea)
    obtain ⟨o, es, ep, h1, h2, _⟩ := p
    exact PySem.W.kia_one PySem.W.kitx_dict I.kIn ⟨o, h1, h2.1⟩ e (fun z => nomatch z) h
  | @dT a kvs ea =>
    cases (show u = Value.ref a from rx)
    obtain ⟨_, _, xs, _, o, es, ep, h1, h2, _⟩ := (show ObjOk X.prog X.w H s.heap a (.dT kvs) from I.hok a _ ea)
    exact PySem.W.kia_one PySem.W.kitx_dict I.kIn ⟨o, h1, h2.1⟩ e (fun z => nomatch z) h
  | @ins a C dx fs ea cl ha hn htk hm =>
    cases (show u = Value.ref a from rx)
    obtain ⟨mA, O, _⟩ := ins_get I.hok ea
    obtain ⟨od, J, _⟩ := O.look
    exact PySem.W.kia_one (PySem.W.kitx_own (cl.get _) cl.hd ha hn htk hm) I.kIn J e (fun z => nomatch z) h
end
end L2
namespace L2
open PySem PySem.Spec PyProof.Rows
structure Room (k : Nat) (A : Around) : Prop where
  hd : A.handled = none
  dp : A.depth + 3 * k + 5 < recursionLimit
  un : A.units + 16 * k + 200 < cLine
theorem Room.mono {j k : Nat} {A : Around} (r : Room k A) (h : j ≤ k) : Room j A := ⟨r.hd, by have := r.dp; omega, by have := r.un; omega⟩
theorem Room.deeper {k : Nat} {A : Around} (r : Room (k + 1) A) (env : Env) : Room k (A.deeper env) :=
  ⟨r.hd, by have := r.dp; show A.depth + 1 + 3 * k + 5 < _; omega, by have := r.un; show A.units + 3 + 16 * k + 200 < _; omega⟩
theorem Room.depth {k : Nat} {A : Around} (r : Room k A) : A.depth < recursionLimit := by have := r.dp; omega
theorem Room.units {k : Nat} {A : Around} (r : Room k A) : A.units + 64 < cLine := by have := r.un; omega
def tNil : TA := fun _ H Q => Q [] H
def tCons (ta : TE) (tr : TA) : TA := fun σ H Q => ta σ H fun x H1 => tr σ H1 fun xs H2 => Q (x :: xs) H2
section
variable {X : Cx} {e : Expr} {es : List Expr} {te : TE} {t : TA} {pos : Pos}
theorem pa_nil : PA X [] tNil := fun _ _ _ _ H Q I h => Calls.spliced_nil ⟨[], H, I, .nil, h⟩
theorem pa_cons (ha : PE X e te) (hr : PA X es t) (hs : starEach (e :: es) X.env = (false, eval e X.env) :: starEach es X.env := by rfl) : PA X (e :: es) (tCons te t) := by
  intro pos pins s σ H Q I h
  rw [hs]
  show wpAny _ _ (spliced ((false, eval e X.env) :: backTo pos (starEach es X.env))) _ _ s
  refine Calls.spliced_cons (thn (ha pins s σ H _ I h) fun u s1 ⟨x, H1, I1, r1, q1⟩ => ?_)
  exact thn (hr pos pins s1 σ H1 _ I1 q1) fun us s2 ⟨xs, H2, I2, r2, q2⟩ => ⟨x :: xs, H2, I2, .cons r1 r2, q2⟩
def tTup (t : TA) : TE := fun σ H Q => t σ H fun xs H1 => xs.length ≤ sizeLine ∧ ∀ p, H1 p = none → Q (.ref p) (upd H1 p (.tup xs))
def tLst (t : TA) : TE := fun σ H Q => t σ H fun xs H1 => xs.length ≤ sizeLine ∧ ∀ p, H1 p = none → Q (.ref p) (upd H1 p (.lst xs))
theorem pe_tup {x1} (h : PA X es t) : PE X (.Tuple es x1 pos) (tTup t) := by
  intro pins s σ H Q I hq
  refine wpAny_Tuple_spliced (thn (h pos pins s σ H _ I hq) fun us s1 ⟨xs, H1, I1, r, z, q⟩ => ⟨by rw [← r.length]; exact z, ?_⟩)
  have hf : H1 s1.heap.objs.size = none := I1.hok.fresh (Nat.le_refl _)
  refine ⟨.ref s1.heap.objs.size, upd H1 s1.heap.objs.size (.tup xs), I1.laid (t' := s1.toks) (fun b u e => Heap.get?_push_of_some _ e) (Nat.le_refl _) ?_, rfl, q _ hf⟩
  exact ⟨z, us, r, ⟨_, Heap.get?_push_size _ rfl, rfl, _, rfl⟩⟩
theorem pe_lst (h : PA X es t) : PE X (.List es pos) (tLst t) := by
  intro pins s σ H Q I hq
  refine wpAny_List_spliced (thn (h pos pins s σ H _ I hq) fun us s1 ⟨xs, H1, I1, r, z, q⟩ => ⟨by rw [← r.length]; exact z, ?_⟩)
  have hf : H1 s1.heap.objs.size = none := I1.hok.fresh (Nat.le_refl _)
  refine ⟨.ref s1.heap.objs.size, upd H1 s1.heap.objs.size (.lst xs), I1.laid (t' := s1.toks) (fun b u e => Heap.get?_push_of_some _ e) (Nat.le_refl _) ?_, rfl, q _ hf⟩
  exact ⟨z, us, 0, r, Heap.get?_push_size _ rfl⟩
end
abbrev Sp := List V → Hp → VK → XK → Prop
abbrev CXT := List Env → Hp → Shared → XK → Value → Shared → Prop
structure Env0 (P : Program) (w : World) (K : PySem.W.Frag) (mg : Str → Option Value) (base : Heap) (A : Around) (outer : List Env) (s : Shared) (H : Hp) : Prop where
  frames : A.frames = some outer
  mod : Mod K mg base
  bs : ∀ b o, base.get? b = some o → s.heap.get? b = some o ∧ H b = none
  bsz : base.objs.size ≤ s.heap.objs.size
  funs : s.heap.FunFrames base outer
  frf : ∀ b ∈ frs outer, H b = none
  hok : HOk P w H s.heap
  bare : AllBare s.gens
def CE (outer : List Env) (P : Program) (w : World) (H : Hp) (s : Shared) (Q : VK) (u : Value) (s' : Shared) : Prop :=
  ∃ v H', s'.os = s.os ∧ AllBare s'.gens ∧ Un (frs outer) [] H H' s.heap s'.heap ∧ HOk P w H' s'.heap ∧ RelV v u ∧ Q v H'
def CR (CX : CXT) (outer : List Env) (P : Program) (w : World) (H : Hp) (s : Shared) (Q : VK) (E : XK) (r : Result) (s' : Shared) : Prop :=
  match r with
  | .ok (.ret u) => CE outer P w H s Q u s'
  | .ok _ => False
  | .error e => CX outer H s E e s'
structure FnOk (P : Program) (w : World) (K : PySem.W.Frag) (mg : Str → Option Value) (base : Heap) (CX : CXT) (k : Nat) (f : Addr) (fd : FuncData) (ps : List Str) (sp : Sp) : Prop where
  len : ∀ vs H Q E, sp vs H Q E → vs.length = ps.length
  run : ∀ (A : Around) (outer : List Env) (s : Shared) (H : Hp) (args : Args) (us : List Value) (vs : List V) (Q : VK) (E : XK), Room k A → Env0 P w K mg base A outer s H → BindsTo s fd args (ps.zip us) → Vals vs us → sp vs H Q E →
    codeAny (model P w) A (.call (.ref f) args) (CR CX outer P w H s Q E) s
section
variable {X : Cx} {pins : List (Addr × Obj)} {σ : St} {H : Hp} {s s' : Shared}
theorem Inv.env0 (I : Inv X pins σ H s) : Env0 X.prog X.w X.K X.mg X.base X.A X.stack s H :=
  ⟨I.ok.frames, I.ok.mod, I.bs, Nat.le_trans I.ok.bsz I.sz, I.stack, I.stkFree, I.hok, I.bare⟩
theorem Inv.after {Q : VK} {u : Value} (I : Inv X pins σ H s) (h : CE X.stack X.prog X.w H s Q u s') : EP X pins σ Q u s' := by
  obtain ⟨v, H', os, bare, un, hok, r, q⟩ := h
  obtain ⟨hh, g, d, t, os'⟩ := s'
  obtain rfl : os' = s.os := os
  exact ⟨v, H', I.call (h' := hh) (g' := g) (d' := d) (t' := t) (ch := []) un hok bare (fun b z => absurd z (by simp)), r, q⟩
end
def tCall (sp : Sp) (dvs : List V) (E : XK) (t : TA) : TE := fun σ H Q => t σ H fun vs H1 => sp (vs ++ dvs) H1 Q E
def Binds (K : PySem.W.Frag) (fd : FuncData) (ps : List Str) (ds : List Value) : Prop :=
  ∀ (s : Shared) (us : List Value), K.In s.heap → (us ++ ds).length = ps.length → BindsTo s fd ⟨us, []⟩ (ps.zip (us ++ ds))
theorem Binds.all {K : PySem.W.Frag} {fd : FuncData} {ps : List Str} (h : ∀ us : List Value, us.length = ps.length → bindArgs fd ⟨us, []⟩ = pure (ps.zip us)) : Binds K fd ps [] := fun s us _ hl => by
  rw [List.append_nil] at hl ⊢
  exact .of_eq (h us hl)
def Passes (CX : CXT) (X : Cx) (E : XK) : Prop := ∀ (pins : List (Addr × Obj)) (σ : St) (H : Hp) (s : Shared) (e : Value) (s' : Shared), Inv X pins σ H s → CX X.stack H s E e s' → X.xe e s'
section
variable {X : Cx} {CX : CXT} {k : Nat} {f C : Addr} {fd : FuncData} {ps : List Str} {sp : Sp} {dvs : List V} {ds : List Value} {E : XK} {x m : Str} {p pos apos : Pos} {e o : Expr} {es : List Expr} {ta : TE} {t : TA}
theorem run_fn {pins : List (Addr × Obj)} {σ : St} {H : Hp} {s : Shared} {Q : VK} {us : List Value} {vs : List V} (F : FnOk X.prog X.w X.K X.mg X.base CX k f fd ps sp) (hr : Room k X.A) (hb : Binds X.K fd ps ds) (hd : Vals dvs ds) (hx : Passes CX X E)
    (I : Inv X pins σ H s) (r : Vals vs us) (h : sp (vs ++ dvs) H Q E) : wpAny (model X.prog X.w) X.A (call (.ref f) us) (EP X pins σ Q) X.xe s := by
  have r2 : Vals (vs ++ dvs) (us ++ ds) := r.append hd
  have hl : (us ++ ds).length = ps.length := by rw [← r2.length]; exact F.len _ _ _ _ h
  refine wpAny_call (codeAny_mono (F.run X.A X.stack s H ⟨us, []⟩ (us ++ ds) (vs ++ dvs) Q E hr I.env0 (hb s us I.kIn hl) r2 h) fun r s' hq => ?_)
  cases r with
  | error e => exact hx pins σ H s e s' I hq
  | ok fl =>
    cases fl with
    | ret u => exact I.after hq
    | next => exact False.elim hq
    | brk => exact False.elim hq
    | cont => exact False.elim hq
theorem pe_call (F : FnOk X.prog X.w X.K X.mg X.base CX k f fd ps sp) (hr : Room k X.A) (hg : Gl X x) (hm : X.mg x = some (.ref f)) (hk : PySem.W.keepIn X.K (.ref f) = true) (hb : Binds X.K fd ps ds) (hd : Vals dvs ds) (hx : Passes CX X E)
    (ha : PA X (e :: es) t) (hdb : (x == ("__debug__" : Str)) = false := by decide) (he : starEach (e :: es) X.env = (false, eval e X.env) :: starEach es X.env := by rfl) (hpl : (backTo pos (starEach es X.env)).any (·.1) = false := by rfl) :
    PE X (.Call (.Name x p) (e :: es) [] pos) (tCall sp dvs E t) := by
  intro pins s σ H Q I h
  refine wpAny_Call_Name_kw (ld_glob I hg hm ?_ hdb)
  refine PySem.W.callWith_K (h₀ := X.base) I.ok.mod.kin hk (thn (ha pos pins s σ H _ I h) fun us s1 ⟨vs, H1, I1, r, q⟩ => ⟨I1.kIn, ?_⟩) he hpl
  exact run_fn F hr hb hd hx I1 r q
end
section
variable {X : Cx} {CX : CXT} {k : Nat} {f C : Addr} {fd : FuncData} {ps ks : List Str} {sp : Sp} {E : XK} {x m : Str} {p pos apos kpos : Pos} {e o : Expr} {es : List Expr} {kws : List Keyword} {te ta : TE} {t tk : TA} {nm : Option Str}
variable {g : List Value → List Value → List Value} {gV : List V → List V → List V}
end
structure FnScope (N P : List Str) (sc : Scope) : Prop where
  kind : sc.kind = .function
  co : sc.isCoroutine = false
  gen : sc.isGenerator = false
  nd : N.Nodup
  pre : N.take P.length = P
  par : ∀ x ∈ P, sc.names.lookup x = some .local ∨ sc.names.lookup x = some .cell
  nofree : ∀ y ∈ sc.names, y.2 ≠ .free
theorem bindL_out {kindOf : Str → Option NameKind} {x : Str} : ∀ {binds : List (Str × Value)} {m : Str → Option Value}, (∀ v, (x, v) ∉ binds) → bindL kindOf binds m x = m x
  | [], _, _ => rfl
  | (n, v) :: r, m, h => by
    unfold bindL
    rw [bindL_out fun w hw => h w (List.mem_cons_of_mem _ hw)]
    split
    · have : x ≠ n := by rintro rfl; exact h v List.mem_cons_self
      simp [this]
    · rfl
theorem bindC_out {kindOf : Str → Option NameKind} {x : Str} : ∀ {binds : List (Str × Value)} {m : Str → Option Value}, (∀ v, (x, v) ∉ binds) → bindC kindOf binds m x = m x
  | [], _, _ => rfl
  | (n, v) :: r, m, h => by
    unfold bindC
    rw [bindC_out fun w hw => h w (List.mem_cons_of_mem _ hw)]
    split
    · rfl
    · have : x ≠ n := by rintro rfl; exact h v List.mem_cons_self
      simp [this]
theorem bindL_get {kindOf : Str → Option NameKind} {x : Str} {v : Value} : ∀ {P : List Str} {vs : List Value} {i : Nat} {m : Str → Option Value}, P.Nodup → P[i]? = some x → vs[i]? = some v → kindOf x = some .local →
    bindL kindOf (P.zip vs) m x = some v
  | [], _, _, _, _, h, _, _ => by simp at h
  | _ :: _, [], _, _, _, _, h, _ => by simp at h
  | p :: P, w :: vs, 0, m, nd, h1, h2, hk => by
    simp at h1 h2; subst h1; subst h2
    show bindL kindOf ((p, w) :: P.zip vs) m p = _
    unfold bindL
    rw [bindL_out fun v hv => (List.nodup_cons.mp nd).1 (List.of_mem_zip hv).1, if_pos hk]
    simp
  | p :: P, w :: vs, i + 1, m, nd, h1, h2, hk => by
    show bindL kindOf ((p, w) :: P.zip vs) m x = _
    unfold bindL
    exact bindL_get (i := i) (List.nodup_cons.mp nd).2 (by simpa using h1) (by simpa using h2) hk
theorem bindC_get {kindOf : Str → Option NameKind} {x : Str} {v : Value} : ∀ {P : List Str} {vs : List Value} {i : Nat} {m : Str → Option Value}, P.Nodup → P[i]? = some x → vs[i]? = some v → kindOf x ≠ some .local →
    bindC kindOf (P.zip vs) m x = some v
  | [], _, _, _, _, h, _, _ => by simp at h
  | _ :: _, [], _, _, _, _, h, _ => by simp at h
  | p :: P, w :: vs, 0, m, nd, h1, h2, hk => by
    simp at h1 h2; subst h1; subst h2
    show bindC kindOf ((p, w) :: P.zip vs) m p = _
    unfold bindC
    rw [bindC_out fun v hv => (List.nodup_cons.mp nd).1 (List.of_mem_zip hv).1, if_neg hk]
    simp
  | p :: P, w :: vs, i + 1, m, nd, h1, h2, hk => by
    show bindC kindOf ((p, w) :: P.zip vs) m x = _
    unfold bindC
    exact bindC_get (i := i) (List.nodup_cons.mp nd).2 (by simpa using h1) (by simpa using h2) hk
def start (N : List Str) (vs : List V) : St := vs.map some ++ List.replicate (N.length - vs.length) none
def cxOf (CX : CXT) (P : Program) (w : World) (K : PySem.W.Frag) (mg : Str → Option Value) (base : Heap) (N : List Str) (qual : Str) (scope : Scope) (f : Addr) (cd : Value) (A : Around) (outer : List Env) (s : Shared) (H : Hp) (E : XK) : Cx where
  prog := P
  w := w
  K := K
  mg := mg
  base := base
  A := A.deeper (envOfC qual scope s.heap.objs.size f cd)
  N := N
  s₀ := s
  H₀ := H
  env := envOfC qual scope s.heap.objs.size f cd
  outer := outer
  stack := envOfC qual scope s.heap.objs.size f cd :: outer
  ex := []
  calm := true
  fn := fun _ => true
  pn := []
  xe := fun e s' => wpAny (model P w) (A.deeper (envOfC qual scope s.heap.objs.size f cd)) (leaving (envOfC qual scope s.heap.objs.size f cd) e) (fun _ s'' => CX outer H s E e s'') (fun e' s'' => CX outer H s E e' s'') s'
theorem cell_has {sc : Scope} {n : Nat} {x : Str} (h : sc.names.lookup x = some .cell) : ∃ c, (cellsFrom n sc.names []).lookup x = some c := by
  have q := PySem.W.cellsFrom_some sc.names n [] (.inl h)
  exact Option.isSome_iff_exists.mp q
theorem inv_start {CX : CXT} {P : Program} {w : World} {K : PySem.W.Frag} {mg : Str → Option Value} {base : Heap} {N ps : List Str} {qual : Str} {scope : Scope} {f : Addr} {cd : Value} {A : Around} {outer : List Env} {s s1 : Shared} {H : Hp} {E : XK} {us : List Value} {vs : List V}
    (S : FnScope N ps scope) (hd : A.handled = none) (e0 : Env0 P w K mg base A outer s H) (hl : vs.length = ps.length) (r : Vals vs us)
    (x : InCallC s s.heap.objs.size (bindL (envOfC qual scope s.heap.objs.size f cd).kindOf (ps.zip us) fun _ => none) (cellsFrom (s.heap.objs.size + 1) scope.names []) (bindC (envOfC qual scope s.heap.objs.size f cd).kindOf (ps.zip us) fun _ => none) s1) :
    Inv (cxOf CX P w K mg base N qual scope f cd A outer s H E) [] (start N vs) H s1 := by
  have hpl : ps.length ≤ N.length := by have := congrArg List.length S.pre; rw [List.length_take] at this; omega
  obtain ⟨h1, tk, rfl, hk⟩ := x.done
  have noA : ∀ b : Addr, b ∉ (cxOf CX P w K mg base N qual scope f cd A outer s H E).ex := fun b z => absurd (show b ∈ ([] : List Addr) from z) (by simp)
  refine ⟨⟨e0.mod, S.kind, rfl, rfl, Nat.le_refl _, fun y z c h1 h2 => ?_, fun y hy => ?_, fun y c _ h => ?_, fun _ => hd, Around.frames_deeper e0.frames, .inr ⟨rfl, rfl⟩, fun b z => absurd z (noA b), e0.bs, e0.bsz, fun b _ _ => noA b, fun b z => absurd z (noA b), e0.funs, e0.frf⟩,
    rfl, e0.bare, Un.kept hk, ⟨_, x.toInCall.ns, fun i y v h1 h2 h3 => ?_⟩, fun y c h => ⟨_, x.cell y c h⟩, e0.hok.fresh (Nat.le_refl _), fun y c h => ?_, fun p hp => absurd (show p ∈ ([] : List (Addr × Obj)) from hp) (by simp), e0.hok.kept hk, ?_⟩
  · exact name_of_addr x.apart (PySem.mem_of_lookup h1) (PySem.mem_of_lookup h2)
  · have hy : scope.names.lookup y = some .cell ∨ scope.names.lookup y = some .free := hy
    rcases hy with hy | hy
    · exact cell_has hy
    · exact absurd rfl (S.nofree _ (PySem.mem_of_lookup hy))
  · exact Nat.le_of_lt (x.above y c (PySem.mem_of_lookup h))
  · have hi : i < vs.length := by
      unfold start at h2
      by_cases hi : i < vs.length
      · exact hi
      · rw [List.getElem?_append_right (by simpa using hi)] at h2
        rw [List.getElem?_replicate] at h2
        split at h2 <;> cases h2
    have ha : vs[i]? = some v := by
      unfold start at h2
      rw [List.getElem?_append_left (by simpa using hi), List.getElem?_map] at h2
      cases e : vs[i]? with
      | none => rw [e] at h2; cases h2
      | some a => rw [e] at h2; cases h2; rfl
    obtain ⟨u, hu, rv⟩ := r.get ha
    have hp : ps[i]? = some y := by
      rw [← S.pre, List.getElem?_take_of_lt (by omega)]; exact h1
    have ndP : ps.Nodup := by rw [← S.pre]; exact S.nd.sublist (List.take_sublist _ _)
    refine ⟨u, rv, ?_⟩
    rcases S.par y (List.mem_of_getElem? hp) with k | k
    · exact .inl ⟨k, bindL_get ndP hp hu k⟩
    · obtain ⟨c, e⟩ := cell_has (n := s.heap.objs.size + 1) k
      refine .inr ⟨.inl k, c, e, ?_⟩
      have q := x.cell y c e
      rw [bindC_get ndP hp hu (by show scope.names.lookup y ≠ _; rw [k]; decide)] at q
      exact q
  · exact e0.hok.fresh (Nat.le_of_lt (x.above y c (PySem.mem_of_lookup h)))
  · unfold start
    show _ = N.length
    rw [List.length_append, List.length_map, List.length_replicate]
    omega
theorem fn_of {CX : CXT} {P : Program} {w : World} {K : PySem.W.Frag} {mg : Str → Option Value} {base : Heap} {k : Nat} {f : Addr} {name qual : Str} {params : Arguments} {body : List Stmt} {scope : Scope} {dV kV doc pm cdv ct oc : Value} {an od : Option Addr}
    {osl : Array (Option Value)} {N ps : List Str} {sp : Sp} (lk : K.lookup f = some ⟨oc, od, .func (PySem.W.fnOf name qual params body scope dV kV doc pm an cdv ct), osl⟩) (hcd : PySem.W.codeIn K cdv qual = true) (S : FnScope N ps scope)
    (len : ∀ vs H Q E, sp vs H Q E → vs.length = ps.length)
    (hbody : ∀ (A : Around) (outer : List Env) (s : Shared) (H : Hp) (vs : List V) (Q : VK) (E : XK), Room k (A.deeper (envOfC qual scope s.heap.objs.size f cdv)) → sp vs H Q E →
      ∃ t, PSs (cxOf CX P w K mg base N qual scope f cdv A outer s H E) body t ∧ t { nx := fun _ H' => Q .non H', rt := Q } (start N vs) H) :
    FnOk P w K mg base CX (k + 1) f (PySem.W.fnOf name qual params body scope dV kV doc pm an cdv ct) ps sp := by
  refine ⟨len, fun A outer s H args us vs Q E hr e0 hb r hsp => ?_⟩
  have hl := len _ _ _ _ hsp
  have KX : K.In s.heap := e0.mod.kin.keeps fun b o e => (e0.bs b o e).1
  have lim : s.heap.NoLimit := e0.mod.nolimit.keeps fun b o e => (e0.bs b o e).1
  have hkind : ∀ y ∈ ps.zip us, scope.names.lookup y.1 = some .local ∨ (scope.names.lookup y.1 = some .cell ∧ ((cellsFrom (s.heap.objs.size + 1) scope.names []).lookup y.1).isSome = true) := fun ⟨n, v⟩ hy => by
    rcases S.par n (List.of_mem_zip hy).1 with q | q
    · exact .inl q
    · exact .inr ⟨q, PySem.W.cellsFrom_some _ _ _ (.inl q)⟩
  refine codeAny_call_function hr.depth (KX _ _ lk) rfl S.co S.gen rfl (PySem.W.codeRec_of KX hcd) (hb _ _ _ _ ?_)
  refine wpAny_newFunctionEnv_cells S.kind hkind fun env he s1 x => ?_
  subst he
  refine ⟨lim.keeps x.toInCall.keep, codeAny_func ?_⟩
  obtain ⟨t, ht, hq⟩ := hbody A outer s H vs Q E (hr.deeper _) hsp
  have I : Inv (cxOf CX P w K mg base N qual scope f cdv A outer s H E) [] (start N vs) H s1 := inv_start S hr.hd e0 hl r x
  refine wpAny_mono (ht [] s1 (start N vs) H _ I hq) (fun fl s' hs => ?_) fun e s' hs => hs
  have fin : ∀ {σ' : St} {H' : Hp} {v : V} {u : Value}, Inv (cxOf CX P w K mg base N qual scope f cdv A outer s H E) [] σ' H' s' → RelV v u → Q v H' → CE outer P w H s Q u s' :=
    fun {σ' H' v u} J rv q => ⟨v, H', J.os, J.bare, J.base, J.hok, rv, q⟩
  cases fl with
  | ret u =>
    obtain ⟨v, σ', H', J, rv, q⟩ := hs
    exact fin J rv q
  | next =>
    obtain ⟨σ', H', J, q⟩ := hs
    exact fin (v := V.non) (u := Value.none) J rfl q
  | brk =>
    obtain ⟨_, _, _, q⟩ := hs
    exact False.elim q
  | cont =>
    obtain ⟨_, _, _, q⟩ := hs
    exact False.elim q
end L2
namespace L2
open PySem PySem.Spec PyProof.Rows
section
variable {X : Cx} {x : Str} {p pos : Pos} {e : Expr} {es : List Expr} {t : TA} {id T : String} {r : List V → Hp → VK → Prop}
def tCB (r : List V → Hp → VK → Prop) (t : TA) : TE := fun σ H Q => t σ H fun vs H1 => r vs H1 Q
theorem pe_callB (hc : CallR X (.builtin id) r) (hg : Gl X x) (hm : X.mg x = none) (hv : bootBuiltins x = some (.builtin id)) (ha : PA X (e :: es) t) (hn : x ≠ "__name__" := by decide) (hdb : (x == ("__debug__" : Str)) = false := by decide)
    (he : starEach (e :: es) X.env = (false, eval e X.env) :: starEach es X.env := by rfl) (hpl : (backTo pos (starEach es X.env)).any (·.1) = false := by rfl) : PE X (.Call (.Name x p) (e :: es) [] pos) (tCB r t) := by
  intro pins s σ H Q I h
  refine wpAny_Call_Name_kw (ld_blt I hg hm hv ?_ hn hdb)
  exact PyProof.Rows.callWith_builtin1 (thn (ha pos pins s σ H _ I h) fun us s1 ⟨vs, H1, I1, r1, q1⟩ => hc pins s1 σ H1 vs us Q I1 r1 q1) he hpl
theorem pe_callTy (hc : CallR X (.type T) r) (hg : Gl X x) (hm : X.mg x = none) (hv : bootBuiltins x = some (.type T)) (ha : PA X (e :: es) t) (hn : x ≠ "__name__" := by decide) (hdb : (x == ("__debug__" : Str)) = false := by decide)
    (he : starEach (e :: es) X.env = (false, eval e X.env) :: starEach es X.env := by rfl) (hpl : (backTo pos (starEach es X.env)).any (·.1) = false := by rfl) : PE X (.Call (.Name x p) (e :: es) [] pos) (tCB r t) := by
  intro pins s σ H Q I h
  refine wpAny_Call_Name_kw (ld_blt I hg hm hv ?_ hn hdb)
  exact PyProof.Rows.callWith_type1 (thn (ha pos pins s σ H _ I h) fun us s1 ⟨vs, H1, I1, r1, q1⟩ => hc pins s1 σ H1 vs us Q I1 r1 q1) he hpl
end
end L2
namespace HT
open PySem PyProof.Rows
section
open PySem.SeqAt
open PySem.AutoSeq1 (wpAny_loadPart')
open PySem.MeetsSeq PySem.MeetsSeq2 PySem.MeetsSeq3
end
section
variable {prog : Program} {w : World} {A : Around} {E : Value → Shared → Prop} {s : Shared}
def sIx (n d : Nat) : Option Int → Nat
  | none => d
  | some v => if v < 0 then (v + (n : Int)).toNat else min v.toNat n
theorem sIx_none (n d : Nat) : sIx n d none = d := rfl
theorem sIx_nat (n d k : Nat) : sIx n d (some (k : Int)) = min k n := by
  show (if (k : Int) < 0 then ((k : Int) + (n : Int)).toNat else min (k : Int).toNat n) = min k n
  rw [if_neg (by omega), Int.toNat_natCast]
end
end HT
namespace L2
open PySem PySem.Spec PyProof.Rows
abbrev TO := St → Hp → (Option Int → Hp → Prop) → Prop
def PO (X : Cx) (e : Option Expr) (t : TO) : Prop :=
  ∀ (pins : List (Addr × Obj)) (s : Shared) (σ : St) (H : Hp) (Q : Option Int → Hp → Prop), Inv X pins σ H s → t σ H Q →
    wpAny (model X.prog X.w) X.A (evalPart e X.env) (fun u s' => ∃ o H', Inv X pins σ H' s' ∧ IsPart u o ∧ Q o H') X.xe s
def tNoPart : TO := fun _ H Q => Q none H
def tPart (t : TE) : TO := fun σ H Q => t σ H fun x H1 => ∃ i, x = .int i ∧ Q (some i) H1
section
variable {X : Cx} {e : Expr} {te : TE} {lo hi : Option Expr} {tl th : TO} {pos p2 : Pos}
theorem po_none : PO X none tNoPart := by
  intro pins s σ H Q I h
  rw [evalPart_none]
  exact wpAny_pure ⟨none, H, I, .none, h⟩
theorem po_some (h : PE X e te) : PO X (some e) (tPart te) := by
  intro pins s σ H Q I hw
  rw [evalPart_some]
  refine thn (h pins s σ H _ I hw) fun u s1 ⟨x, H1, I1, r1, q1⟩ => ?_
  obtain ⟨i, rfl, q⟩ := q1
  obtain ⟨t, rfl⟩ := r1
  exact ⟨some i, H1, I1, .int i t, q⟩
def SlR (X : Cx) (r : V → Option Int → Option Int → Hp → VK → Prop) : Prop :=
  ∀ (pins : List (Addr × Obj)) (s : Shared) (σ : St) (H : Hp) (x : V) (v vl vu : Value) (lo hi : Option Int) (sl : Addr) (Q : VK), Inv X pins σ H s → RelV x v → s.heap.IsSliceOf sl vl vu .none → IsPart vl lo → IsPart vu hi → r x lo hi H Q →
    ∃ T id, typeLookup (.type T) "__getitem__" = pure (some (.builtin id)) ∧ s.TypeIs v T ∧ wpAny (model X.prog X.w) X.A (getItem v (.ref sl)) (EP X pins σ Q) X.xe s
def tSl (r : V → Option Int → Option Int → Hp → VK → Prop) (te : TE) (tl th : TO) : TE := fun σ H Q => te σ H fun x H1 => tl σ H1 fun l H2 => th σ H2 fun u H3 => r x l u H3 Q
theorem pe_slice {r : V → Option Int → Option Int → Hp → VK → Prop} (hr : SlR X r) (he : PE X e te) (hl : PO X lo tl) (hu : PO X hi th) : PE X (.Subscript e (.Slice lo hi none p2) pos) (tSl r te tl th) := by
  intro pins s σ H Q I h
  refine Subscript_ (thn (he pins s σ H _ I h) fun v s1 ⟨x, H1, I1, r1, q1⟩ => ?_)
  refine wpAny_Slice (thn (hl pins s1 σ H1 _ I1 q1) fun vl s2 ⟨l, H2, I2, pl, q2⟩ => thn (hu pins s2 σ H2 _ I2 q2) fun vu s3 ⟨u, H3, I3, pu, q3⟩ => ?_)
  rw [evalPart_none]
  refine wpAny_pure ?_
  have I4 : Inv X pins σ H3 { s3 with heap := s3.heap.push { cls := .type "slice", data := .fields #[vl, vu, .none] } } := I3.kept (t' := s3.toks) fun b ob q => Heap.get?_push_of_some _ q
  obtain ⟨T, id, hT, ht, hg⟩ := hr pins { s3 with heap := s3.heap.push { cls := .type "slice", data := .fields #[vl, vu, .none] } } σ H3 x v vl vu l u s3.heap.objs.size Q I4 r1 (Heap.IsSliceOf.new ..) pl pu q3
  show wpAny (model X.prog X.w) X.A (subscriptTail e (.Slice lo hi none p2) v (.ref s3.heap.objs.size)) (EP X pins σ Q) X.xe { s3 with heap := s3.heap.push { cls := .type "slice", data := .fields #[vl, vu, .none] } }
  exact tail_any (ops := [.ref s3.heap.objs.size, v]) ht hT hg (by with_unfolding_all rfl)
def cutV (xs : List V) (lo hi : Option Int) : List V := (xs.drop (HT.sIx xs.length 0 lo)).take (HT.sIx xs.length xs.length hi - HT.sIx xs.length 0 lo)
theorem cutV_length (xs : List V) (lo hi : Option Int) : (cutV xs lo hi).length ≤ xs.length := by
  unfold cutV
  rw [List.length_take, List.length_drop]
  omega
end
end L2
namespace L2
open PySem PySem.Spec PyProof.Rows
def ixN (n : Nat) (i : Int) : Option Nat := if 0 ≤ i then (if i < n then some i.toNat else none) else if -(n : Int) ≤ i then some (i + n).toNat else none
def atI {α : Type} (xs : List α) (i : Int) : Option α := (ixN xs.length i).bind fun j => xs[j]?
theorem ixN_seq {n : Nat} {i : Int} {j : Nat} (h : ixN n i = some j) : seqIndex? i n = some j ∧ j < n ∧ -(n : Int) ≤ i ∧ i < n := by
  unfold ixN at h
  by_cases h0 : 0 ≤ i
  · rw [if_pos h0] at h
    by_cases h1 : i < n
    · rw [if_pos h1] at h
      have e : i.toNat = j := Option.some.inj h
      exact ⟨by rw [seqIndex_of h0 h1, e], by omega, by omega, h1⟩
    · rw [if_neg h1] at h; cases h
  · rw [if_neg h0] at h
    by_cases h1 : -(n : Int) ≤ i
    · rw [if_pos h1] at h
      have e : (i + n).toNat = j := Option.some.inj h
      exact ⟨by rw [seqIndex_neg (by omega) h1, e], by omega, h1, by omega⟩
    · rw [if_neg h1] at h; cases h
theorem atI_get {α : Type} {xs : List α} {i : Int} {v : α} (h : atI xs i = some v) : ∃ j, seqIndex? i xs.length = some j ∧ xs[j]? = some v ∧ j < xs.length ∧ -(xs.length : Int) ≤ i ∧ i < xs.length := by
  unfold atI at h
  cases e : ixN xs.length i with
  | none => rw [e] at h; cases h
  | some j =>
    rw [e] at h
    obtain ⟨h1, h2, h3, h4⟩ := ixN_seq e
    exact ⟨j, h1, h, h2, h3, h4⟩
theorem atI_nat {α : Type} {xs : List α} {j : Nat} {v : α} (h : xs[j]? = some v) : atI xs (j : Int) = some v := by
  have hj : j < xs.length := (List.getElem?_eq_some_iff.mp h).1
  have e : ixN xs.length (j : Int) = some j := by
    unfold ixN
    rw [if_pos (by omega), if_pos (by omega)]; simp
  unfold atI; rw [e]; exact h
def PlainIx (b : Expr) : Prop := ∀ o i, subscripted b false o i = operate [o, i] (getItem o i)
def IxR (X : Cx) (r : R2) : Prop :=
  ∀ (value slice : Expr) (pins : List (Addr × Obj)) (s : Shared) (σ : St) (H : Hp) (x y : V) (v u : Value) (Q : VK), Inv X pins σ H s → RelV x v → RelV y u → r x y H Q →
    subscripted slice false v u = operate [v, u] (getItem v u) → wpAny (model X.prog X.w) X.A (subscriptTail value slice v u) (EP X pins σ Q) X.xe s
def MtR (X : Cx) (id : String) (r : V → List V → Hp → VK → Prop) : Prop :=
  ∀ (pins : List (Addr × Obj)) (s : Shared) (σ : St) (H : Hp) (x : V) (xs : List V) (v : Value) (us : List Value) (Q : VK), Inv X pins σ H s → RelV x v → Vals xs us → r x xs H Q →
    wpAny (model X.prog X.w) X.A (call (.builtin id) (v :: us)) (EP X pins σ Q) X.xe s
section
variable {X : Cx} {a b : Expr} {ta tb : TE} {pos : Pos}
theorem pe_ix {r : R2} (hr : IxR X r) (ha : PE X a ta) (hb : PE X b tb) (hs : PlainIx b) : PE X (.Subscript a b pos) (tOp r ta tb) := by
  intro pins s σ H Q I h
  exact Subscript_ (binT ha hb I h fun v u s2 x y H2 I2 rx ry q => hr a b pins s2 σ H2 x y v u Q I2 rx ry q (hs _ _))
def rIxL (K : PySem.W.Frag) : R2 := fun x y H Q => ∃ p xs i v, x = .ref p ∧ y = .int i ∧ SqL K H p xs ∧ atI xs i = some v ∧ Q v H
def rIxT (K : PySem.W.Frag) : R2 := fun x y H Q => ∃ p xs i v, x = .ref p ∧ y = .int i ∧ SqT K H p xs ∧ atI xs i = some v ∧ Q v H
theorem ix_list : IxR X (rIxL X.K) := by
  intro value slice pins s σ H x y v u Q I rx ry h hs
  obtain ⟨p, xs, i, z, rfl, rfl, hq, he, q⟩ := h
  cases rx
  obtain ⟨t, rfl⟩ := ry
  obtain ⟨its, r, pl, hz⟩ := I.list hq
  obtain ⟨j, h1, h2, h3, h4, h5⟩ := atI_get he
  obtain ⟨w, ew, rw'⟩ := r.get h2
  have hl := r.length
  have hn := line63
  have fin : EP X pins σ Q w s := ⟨z, H, I, rw', q⟩
  by_cases h0 : 0 ≤ i
  · have hj : i.toNat = j := by
      rw [seqIndex_of h0 h5] at h1
      exact Option.some.inj h1
    exact item_listR pl.isList h0 (by omega) (by rw [hj]; simpa using ew) fin hs
  · have hj : (i + (its.toArray.size : Int)).toNat = j := by
      rw [seqIndex_neg (by omega) h4] at h1
      rw [List.size_toArray, ← hl]
      exact Option.some.inj h1
    exact subscriptTail_builtinR (x := w) pl.isList.typeIs slot_list_getitem.lookup
      (wpAny_getItem_list_neg (Q := fun r s' => r = w ∧ EP X pins σ Q r s') pl.isList (by omega) (by rw [List.size_toArray] <;> omega) (by omega) (by rw [hj]; simpa using ew) ⟨rfl, fin⟩) hs
theorem ix_tup : IxR X (rIxT X.K) := by
  intro value slice pins s σ H x y v u Q I rx ry h hs
  obtain ⟨p, xs, i, z, rfl, rfl, hq, he, q⟩ := h
  cases rx
  obtain ⟨t, rfl⟩ := ry
  obtain ⟨its, r, pl, hz⟩ := I.tuple hq
  obtain ⟨j, h1, h2, h3, h4, h5⟩ := atI_get he
  obtain ⟨w, ew, rw'⟩ := r.get h2
  have hl := r.length
  have hn := line63
  have fin : EP X pins σ Q w s := ⟨z, H, I, rw', q⟩
  exact subscriptTail_builtinR (x := w) pl.typeIs slot_tuple_getitem.lookup
    (getItem_tuple (j := j) (Q := fun r s' => r = w ∧ EP X pins σ Q r s') pl (by omega) (by omega) (by rw [List.size_toArray, ← hl]; exact h1) (by simpa using ew) ⟨rfl, fin⟩) hs
theorem slice_bounds (lo hi : Option Int) (n : Nat) : (sliceBounds lo hi none n).1 = ((HT.sIx n 0 lo : Nat) : Int) ∧ (sliceBounds lo hi none n).2.1 = ((HT.sIx n n hi : Nat) : Int) ∧ (sliceBounds lo hi none n).2.2 = 1 := by
  refine ⟨?_, ?_, rfl⟩
  · cases lo with
    | none => simp [sliceBounds, HT.sIx]
    | some i =>
      simp only [sliceBounds, HT.sIx, Option.getD_none, show (1 : Int) > 0 by decide, if_true]
      by_cases h : i < 0
      · simp only [h, if_true] <;> omega
      · simp only [h, if_false] <;> omega
  · cases hi with
    | none => simp [sliceBounds, HT.sIx]
    | some i =>
      simp only [sliceBounds, HT.sIx, Option.getD_none, show (1 : Int) > 0 by decide, if_true]
      by_cases h : i < 0
      · simp only [h, if_true] <;> omega
      · simp only [h, if_false] <;> omega
theorem slicePick_cut (its : List Value) (lo hi : Option Int) : slicePick its.toArray lo hi none = ((its.drop (HT.sIx its.length 0 lo)).take (HT.sIx its.length its.length hi - HT.sIx its.length 0 lo)).toArray := by
  obtain ⟨h1, h2, h3⟩ := slice_bounds lo hi its.toArray.size
  unfold slicePick
  rw [h1, h2, h3]
  simp only [sliceRange_one, pick_run, List.size_toArray] <;> rfl
def rSlL (K : PySem.W.Frag) : V → Option Int → Option Int → Hp → VK → Prop := fun x lo hi H Q => ∃ a xs, x = .ref a ∧ SqL K H a xs ∧ ∀ p, H p = none → Q (.ref p) (upd H p (.lst (cutV xs lo hi)))
theorem sl_list : SlR X (rSlL X.K) := by
  intro pins s σ H x v vl vu lo hi sl Q I rx hs pl pu h
  obtain ⟨a, xs, rfl, hx, q⟩ := h
  cases rx
  obtain ⟨its, r, ht, hz⟩ := I.list hx
  have hlen := r.length
  refine ⟨"list", _, slot_list_getitem.lookup, ht.isList.typeIs, ?_⟩
  refine wpAny_getItem_list_slice ht.isList hs pl pu .none (by simp) ?_ (by rw [List.size_toArray] <;> omega)
  rw [slicePick_cut, ← hlen]
  refine ⟨.ref s.heap.objs.size, _, I.laid (t' := s.toks) (o := .lst (cutV xs lo hi)) (fun b ob q => Heap.get?_push_of_some _ q) (Nat.le_refl _) ?_, rfl, q _ (I.hok.fresh (Nat.le_refl _))⟩
  exact ⟨Nat.le_trans (cutV_length xs lo hi) hz, _, 0, (r.drop (HT.sIx xs.length 0 lo)).take (HT.sIx xs.length xs.length hi - HT.sIx xs.length 0 lo), Heap.get?_push_size _ rfl⟩
def flatV : V → Bool
  | .non => true
  | .bl _ => true
  | .int _ => true
  | .str _ => true
  | _ => false
def eqV : V → V → Bool
  | .non, .non => true
  | .bl a, .bl b => a == b
  | .bl a, .int b => (if a then 1 else 0) == b
  | .int a, .bl b => a == (if b then 1 else 0)
  | .int a, .int b => a == b
  | .str a, .str b => a == b
  | _, _ => false
theorem eqAt_V {A : Around} {s : Shared} {y x : V} {u v : Value} (ry : RelV y u) (rx : RelV x v) (fy : flatV y = true) (fx : flatV x = true) : SeqAt.EqAt A s u v (eqV y x) := by
  cases y with
  | non =>
    cases ry
    cases x with
    | non => cases rx; exact SeqAt.EqAt.same _
    | bl b => cases rx; exact SeqAt.EqAt.none_bool b
    | int b => obtain ⟨t, rfl⟩ := rx; exact SeqAt.EqAt.none_int b t
    | str b => obtain ⟨t, rfl⟩ := rx; exact SeqAt.EqAt.none_str b t
    | _ => exact absurd (show false = true from fx) Bool.false_ne_true
  | bl a =>
    cases ry
    cases x with
    | non => cases rx; exact SeqAt.EqAt.bool_none a
    | bl b => cases rx; exact SeqAt.EqAt.bool_bool a b
    | int b => obtain ⟨t, rfl⟩ := rx; exact SeqAt.EqAt.bool_int a b t
    | str b => obtain ⟨t, rfl⟩ := rx; exact SeqAt.EqAt.bool_str a b t
    | _ => exact absurd (show false = true from fx) Bool.false_ne_true
  | int a =>
    obtain ⟨t', rfl⟩ := ry
    cases x with
    | non => cases rx; exact SeqAt.EqAt.int_none a t'
    | bl b => cases rx; exact SeqAt.EqAt.int_bool a t' b
    | int b => obtain ⟨t, rfl⟩ := rx; exact SeqAt.EqAt.int_int a t' b t
    | str b => obtain ⟨t, rfl⟩ := rx; exact SeqAt.EqAt.int_str a t' b t
    | _ => exact absurd (show false = true from fx) Bool.false_ne_true
  | str a =>
    obtain ⟨t', rfl⟩ := ry
    cases x with
    | non => cases rx; exact SeqAt.EqAt.str_none a t'
    | bl b => cases rx; exact SeqAt.EqAt.str_bool a t' b
    | int b => obtain ⟨t, rfl⟩ := rx; exact SeqAt.EqAt.str_int a t' b t
    | str b => obtain ⟨t, rfl⟩ := rx; exact SeqAt.EqAt.str_str a t' b t
    | _ => exact absurd (show false = true from fx) Bool.false_ne_true
  | _ => exact absurd (show false = true from fy) Bool.false_ne_true
def eqU (x : V) (u : Value) : Bool := match u with
  | .none => eqV .non x
  | .bool b => eqV (.bl b) x
  | .int i _ => eqV (.int i) x
  | .str z _ => eqV (.str z) x
  | _ => false
theorem eqU_of {x y : V} {u : Value} (r : RelV y u) (f : flatV y = true) : eqU x u = eqV y x := by
  cases y with
  | non => cases r; rfl
  | bl b => cases r; rfl
  | int i => obtain ⟨t, rfl⟩ := r; rfl
  | str z => obtain ⟨t, rfl⟩ := r; rfl
  | _ => exact absurd (show false = true from f) Bool.false_ne_true
theorem any_eqU {x : V} : ∀ {xs : List V} {us : List Value}, Vals xs us → xs.all flatV = true → us.any (eqU x) = xs.any fun y => eqV y x
  | _, _, .nil, _ => rfl
  | y :: xs, u :: us, .cons r t, f => by
    rw [List.all_cons, Bool.and_eq_true] at f
    rw [List.any_cons, List.any_cons, eqU_of r f.1, any_eqU t f.2]
theorem mem_eqAt {A : Around} {s : Shared} {x : V} {v : Value} (rx : RelV x v) (fx : flatV x = true) : ∀ {xs : List V} {us : List Value}, Vals xs us → xs.all flatV = true → ∀ u ∈ us, SeqAt.EqAt A s u v (eqU x u)
  | _, _, .nil, _ => fun u hu => by cases hu
  | y :: xs, u :: us, .cons r t, f => fun u' hu => by
    rw [List.all_cons, Bool.and_eq_true] at f
    rcases List.mem_cons.mp hu with rfl | hu
    · rw [eqU_of r f.1]; exact eqAt_V r rx f.1 fx
    · exact mem_eqAt rx fx t f.2 u' hu
def inV (x : V) (xs : List V) : Bool := xs.any fun y => eqV y x
def rIn (K : PySem.W.Frag) (neg : Bool) : R2 := fun x y H Q => ∃ p xs, y = .ref p ∧ (SqL K H p xs ∨ SqT K H p xs) ∧ flatV x = true ∧ xs.all flatV = true ∧ Q (.bl (if neg then !inV x xs else inV x xs)) H
theorem op_in_seq : OpR X (compareOp .In) (rIn X.K false) := by
  intro pins s σ H x y v u Q I rx ry h
  obtain ⟨p, xs, rfl, hq, fx, fs, q⟩ := h
  cases ry
  rcases hq with hq | hq
  · obtain ⟨its, r, pl, hz⟩ := I.list hq
    refine SeqAt.in_listAt (eqU x) pl.isList (fun w hw => mem_eqAt rx fx r fs w (by simpa using hw)) ⟨.bl _, H, I, rfl, ?_⟩
    rw [show its.toArray.any (eqU x) = its.any (eqU x) by simp, any_eqU r fs]
    exact q
  · obtain ⟨its, r, pl, hz⟩ := I.tuple hq
    refine SeqAt.in_tupleAt (eqU x) pl (fun w hw => mem_eqAt rx fx r fs w (by simpa using hw)) ⟨.bl _, H, I, rfl, ?_⟩
    rw [show its.toArray.any (eqU x) = its.any (eqU x) by simp, any_eqU r fs]
    exact q
theorem op_notIn_str : OpR X (compareOp .NotIn) (fun x y H Q => ∃ i j, x = .str i ∧ y = .str j ∧ Q (.bl (!(!(Builtin.Str.occurrences j i 0 j.length 1).isEmpty))) H) := by
  intro pins s σ H x y v u Q I rx ry h
  obtain ⟨i, j, rfl, rfl, q⟩ := h
  obtain ⟨t, rfl⟩ := rx
  obtain ⟨t', rfl⟩ := ry
  exact notIn_str ⟨.bl _, H, I, rfl, q⟩
theorem call_len_seq : CallR X (.builtin "len") (fun xs H Q => ∃ p ys, xs = [.ref p] ∧ (SqL X.K H p ys ∨ SqT X.K H p ys) ∧ Q (.int ys.length) H) := by
  intro pins s σ H xs us Q I r h
  obtain ⟨p, ys, rfl, hq, q⟩ := h
  obtain ⟨u, rfl, rx⟩ := vals1 r
  cases rx
  have hn := line63
  rcases hq with hq | hq
  · obtain ⟨its, r', pl, hz⟩ := I.list hq
    have hlen := r'.length
    exact Calls.call_len_list pl.isList (by simp only [List.size_toArray] <;> omega) ⟨.int ys.length, H, I.tok _, ⟨s.toks + 1, by rw [List.size_toArray, hlen]⟩, q⟩
  · obtain ⟨its, r', pl, hz⟩ := I.tuple hq
    have hlen := r'.length
    exact len_tuple pl (by simp only [List.size_toArray] <;> omega) ⟨.int ys.length, H, I.tok _, ⟨s.toks + 1, by rw [List.size_toArray, hlen]⟩, q⟩
theorem call_len_str : CallR X (.builtin "len") (fun xs H Q => ∃ z, xs = [.str z] ∧ z.length ≤ sizeLine ∧ Q (.int z.length) H) := by
  intro pins s σ H xs us Q I r h
  obtain ⟨z, rfl, hz, q⟩ := h
  obtain ⟨u, rfl, t, rfl⟩ := vals1 r
  have hn := line63
  exact len_str (by omega) ⟨.int z.length, H, I.tok _, ⟨_, rfl⟩, q⟩
def tyV (K : PySem.W.Frag) (T : String) (x : V) (H : Hp) : Prop := match x with
  | .str _ => T = "str"
  | .int _ => T = "int"
  | .ref p => (T = "list" ∧ ∃ xs, SqL K H p xs) ∨ (T = "tuple" ∧ ∃ o, K.lookup p = some o ∧ o.cls = .type "tuple" ∧ o.dict = none) ∨
      (T = "dict" ∧ ((∃ kvs, H p = some (.dK kvs)) ∨ ∃ kvs, H p = some (.dT kvs))) ∨ (T = "set" ∧ ∃ S n, H p = some (.set S n))
  | _ => False
theorem tyV_is {pins : List (Addr × Obj)} {σ : St} {H : Hp} {s : Shared} {T : String} {x : V} {v : Value} (I : Inv X pins σ H s) (r : RelV x v) (ty : tyV X.K T x H) :
    s.TypeIs v T ∧ ∀ a, v = .ref a → ∃ ob, s.heap.get? a = some ob ∧ ob.dict = none := by
  cases x with
  | str z =>
    obtain ⟨t, rfl⟩ := r
    cases (show T = "str" from ty)
    exact ⟨typeIs_str s z t, fun _ e => nomatch e⟩
  | int i =>
    obtain ⟨t, rfl⟩ := r
    cases (show T = "int" from ty)
    exact ⟨typeIs_int s i t, fun _ e => nomatch e⟩
  | ref p =>
    cases r
    rcases ty with ⟨rfl, xs, hq⟩ | ⟨rfl, o, hk, hc, hd⟩ | ⟨rfl, hk⟩ | ⟨rfl, S, n, hk⟩
    · obtain ⟨its, _, pl, _⟩ := I.list hq
      refine ⟨pl.isList.typeIs, fun a e => ?_⟩
      cases e
      obtain ⟨o, n, e, c, hd, _⟩ := pl
      exact ⟨o, e, hd⟩
    · refine ⟨⟨o, I.kIn p o hk, hc⟩, fun a e => ?_⟩
      cases e
      exact ⟨o, I.kIn _ o hk, hd⟩
    · have z : ∃ o, s.heap.get? p = some o ∧ o.ExactDict := by
        rcases hk with ⟨kvs, hk⟩ | ⟨kvs, hk⟩
        · obtain ⟨_, _, _, _, o, _, _, e, ex, _⟩ := I.hok p _ hk
          exact ⟨o, e, ex⟩
        · obtain ⟨_, _, _, _, o, _, _, e, ex, _⟩ := I.hok p _ hk
          exact ⟨o, e, ex⟩
      obtain ⟨o, e, ex⟩ := z
      refine ⟨⟨o, e, ex.1⟩, fun a e2 => ?_⟩
      cases e2
      exact ⟨o, e, ex.2.1⟩
    · obtain ⟨o, _, _, _, e, ex, _⟩ := I.hok p _ hk
      refine ⟨⟨o, e, ex.1⟩, fun a e2 => ?_⟩
      cases e2
      exact ⟨o, e, ex.2.1⟩
  | _ => exact False.elim ty
def tBM0 (K : PySem.W.Frag) (T : String) (r : V → List V → Hp → VK → Prop) (to : TE) : TE := fun σ H Q => to σ H fun x H1 => tyV K T x H1 ∧ r x [] H1 Q
def tBM (K : PySem.W.Frag) (T : String) (r : V → List V → Hp → VK → Prop) (to : TE) (t : TA) : TE := fun σ H Q => to σ H fun x H1 => tyV K T x H1 ∧ t σ H1 fun xs H2 => r x xs H2 Q
variable {o e : Expr} {es : List Expr} {to : TE} {t : TA} {name : Str} {apos cpos : Pos} {T id : String} {r : V → List V → Hp → VK → Prop}
theorem pe_bm0 (pa : PlainAttrs T) (slot : Slot T name id) (hty : typeOf (.builtin id) = pure (.type "method_descriptor")) (hm : MtR X id r) (ho : PE X o to)
    (hbase : attributeBase o name X.env (eval o X.env) = eval o X.env := by rfl) (hline : (apos.endLine == cpos.line) = true := by rfl) : PE X (.Call (.Attribute o name apos) [] [] cpos) (tBM0 X.K T r to) := by
  intro pins s σ H Q I h
  refine wpAny_Call_method0_late hbase hline (thn (ho pins s σ H _ I h) fun v s1 ⟨x, H1, I1, r1, ty, q1⟩ => ?_)
  obtain ⟨h1, h2⟩ := tyV_is I1 r1 ty
  exact ⟨T, id, pa, slot, hty, h1, h2, Calls.callWith_builtin rfl (PySem.evalArgs_none (hm pins s1 σ H1 x [] v [] Q I1 r1 .nil q1))⟩
theorem pe_bm (pa : PlainAttrs T) (slot : Slot T name id) (hty : typeOf (.builtin id) = pure (.type "method_descriptor")) (hm : MtR X id r) (ho : PE X o to) (ha : PA X (e :: es) t)
    (hbase : attributeBase o name X.env (eval o X.env) = eval o X.env := by rfl)
    (hfew : ((backTo cpos (starEach (e :: es) X.env)).all (fun x => !x.1) && (backToKw cpos (keywordEach [] X.env)).all (fun x => x.1.isSome)
      && decide ((e :: es).length + ([] : List Keyword).length + (if ([] : List Keyword).isEmpty then 0 else 1) < 30)) = true := by rfl)
    (hline : (apos.endLine == cpos.line) = true := by rfl) (hs : starEach (e :: es) X.env = (false, eval e X.env) :: starEach es X.env := by rfl) (hplain : (backTo cpos (starEach es X.env)).any (·.1) = false := by rfl) :
    PE X (.Call (.Attribute o name apos) (e :: es) [] cpos) (tBM X.K T r to t) := by
  intro pins s σ H Q I h
  refine wpAny_Call_method_late hbase hfew hline rfl (thn (ho pins s σ H _ I h) fun v s1 ⟨x, H1, I1, r1, ty, q1⟩ => ?_)
  obtain ⟨h1, h2⟩ := tyV_is I1 r1 ty
  refine ⟨T, id, pa, slot, hty, h1, h2, ?_⟩
  have hA := ha cpos pins s1 σ H1 _ I1 q1
  rw [hs] at hA ⊢
  refine Calls.callWith_builtin (by show (false || (backTo cpos (starEach es X.env)).any (·.1)) = false; rw [hplain] <;> rfl) (Calls.evalArgs_plain ?_)
  exact thn hA fun us s2 ⟨vs, H2, I2, r2, q2⟩ => hm pins s2 σ H2 x vs v us Q I2 r1 r2 q2
end
end L2
namespace L2
open PySem PySem.Spec PyProof.Rows
def MtM (X : Cx) (id : String) (r : V → List V → Hp → VK → Prop) : Prop :=
  ∀ (pins : List (Addr × Obj)) (s : Shared) (σ : St) (H : Hp) (x : V) (xs : List V) (v : Value) (us : List Value) (Q : VK), Inv X pins σ H s → RelV x v → Vals xs us → r x xs H Q →
    wpAny (model X.prog X.w) X.A (call (.builtin id) (v :: us)) (EP X pins σ Q) X.xe s
theorem Vals.one : ∀ {x : V} {us : List Value}, Vals [x] us → ∃ u, us = [u] ∧ RelV x u
  | _, _, .cons r .nil => ⟨_, rfl, r⟩
theorem Vals.two : ∀ {x y : V} {us : List Value}, Vals [x, y] us → ∃ u v, us = [u, v] ∧ RelV x u ∧ RelV y v
  | _, _, _, .cons r (.cons q .nil) => ⟨_, _, rfl, r, q⟩
theorem Vals.zero : ∀ {us : List Value}, Vals [] us → us = []
  | _, .nil => rfl
theorem Vals.reverse {xs : List V} {us : List Value} (h : Vals xs us) : Vals xs.reverse us.reverse := by
  induction h with
  | nil => exact .nil
  | cons r t ih => rw [List.reverse_cons, List.reverse_cons]; exact Vals.append ih (.cons r .nil)
theorem Vals.rep {xs : List V} {us : List Value} (h : Vals xs us) : ∀ k : Nat, Vals (List.replicate k xs).flatten (List.replicate k us).flatten
  | 0 => .nil
  | k + 1 => by
    rw [List.replicate_succ, List.replicate_succ, List.flatten_cons, List.flatten_cons]
    exact Vals.append h (Vals.rep h k)
theorem foldl_rep (its : List Value) : ∀ (k : Nat) (acc : List Value),
    List.foldl (fun x1 x2 => x1 ++ x2) acc.toArray (List.replicate k its.toArray) = (acc ++ (List.replicate k its).flatten).toArray
  | 0, acc => by simp
  | k + 1, acc => by
    have e : acc.toArray ++ its.toArray = (acc ++ its).toArray := by simp
    have e2 : (acc ++ its) ++ (List.replicate k its).flatten = acc ++ (List.replicate (k + 1) its).flatten := by
      rw [List.replicate_succ, List.flatten_cons, List.append_assoc]
    rw [← e2, ← foldl_rep its k (acc ++ its), ← e, List.replicate_succ, List.foldl_cons]
section
variable {X : Cx} {pins : List (Addr × Obj)} {σ : St} {H : Hp} {s : Shared} {l b : Addr} {xs ys zs : List V}
theorem Inv.lset {its its' : List Value} {n : Nat} {f : Array Value → Array Value} {t' : Nat} (I : Inv X pins σ H s) (hH : H l = some (.lst xs))
    (e : s.heap.get? l = some { cls := .type "list", data := .seq its.toArray n }) (hf : f its.toArray = its'.toArray) (hv : Vals ys its') (hz : ys.length ≤ sizeLine) :
    Inv X pins σ (upd H l (.lst ys)) { s with heap := s.heap.update l (Obj.mapSeq f), toks := t' } := by
  have q := PySem.IsL.update e f
  rw [hf] at q
  refine I.write (x := l) (e := l) (by rw [hH]; exact trivial) (.inl rfl) (fun b' u hb hu => (Heap.get?_update_other s.heap (Obj.mapSeq f) (Ne.symm hb)).trans hu) ⟨_, q⟩ ?_
  exact ⟨hz, its', _, hv, q⟩
theorem Inv.lnew {its : List Value} {t' : Nat} (I : Inv X pins σ H s) (hv : Vals ys its) (hz : ys.length ≤ sizeLine) :
    Inv X pins σ (upd H s.heap.objs.size (.lst ys)) { s with heap := s.heap.push { cls := .type "list", data := .seq its.toArray }, toks := t' } :=
  I.laid (fun _ _ q => Heap.get?_push_of_some _ q) (Nat.le_refl _) ⟨hz, its, 0, hv, Heap.get?_push_size _ rfl⟩
theorem Inv.fresh (I : Inv X pins σ H s) : H s.heap.objs.size = none := I.hok.fresh (Nat.le_refl _)
theorem Inv.lstM (I : Inv X pins σ H s) (hH : H l = some (.lst xs)) : xs.length ≤ sizeLine ∧ ∃ (its : List Value) (n : Nat), Vals xs its ∧ xs.length = its.length ∧ s.heap.get? l = some { cls := .type "list", data := .seq its.toArray n } := by
  obtain ⟨z, its, n, r, e⟩ := I.hok l _ hH
  exact ⟨z, its, n, r, r.length, e⟩
theorem notLongL {n : Nat} (h : n ≤ sizeLine) : Builtin.List.listTooLong n = false := by
  unfold Builtin.List.listTooLong
  exact decide_eq_false (by omega)
end
section
variable {X : Cx}
def rAppend : V → List V → Hp → VK → Prop := fun x vs H Q => ∃ l xs y, x = .ref l ∧ vs = [y] ∧ H l = some (.lst xs) ∧ xs.length < sizeLine ∧ Q .non (upd H l (.lst (xs ++ [y])))
theorem mt_append : MtM X "list.append" rAppend := by
  intro pins s σ H x vs v us Q I rx rv h
  obtain ⟨l, xs, y, rfl, rfl, hH, hz, q⟩ := h
  cases rx
  obtain ⟨u, rfl, ru⟩ := rv.one
  obtain ⟨z, its, n, r, hl, e⟩ := I.lstM hH
  refine call_meets F.slot_list_append ⟨_, e, rfl⟩ F.entry_list_append (F.args_list_append_2 _ _) (PySem.list_append l its.toArray n u (by rw [List.size_toArray]; omega)) ⟨e, ?_⟩
  refine ⟨.non, _, I.lset (its' := its ++ [u]) hH e (by simp) (r.append (.cons ru .nil)) ?_, rfl, q⟩
  rw [List.length_append, List.length_singleton]
  omega
def rReverse : V → List V → Hp → VK → Prop := fun x vs H Q => ∃ l xs, x = .ref l ∧ vs = [] ∧ H l = some (.lst xs) ∧ Q .non (upd H l (.lst xs.reverse))
theorem mt_reverse : MtM X "list.reverse" rReverse := by
  intro pins s σ H x vs v us Q I rx rv h
  obtain ⟨l, xs, rfl, rfl, hH, q⟩ := h
  cases rx
  have hus := rv.zero
  subst hus
  obtain ⟨z, its, n, r, hl, e⟩ := I.lstM hH
  refine call_meets F.slot_list_reverse ⟨_, e, rfl⟩ F.entry_list_reverse (F.args_list_reverse_1 _) (AutoSeq1.list_reverse_list_0 l its.toArray n (by rw [List.size_toArray]; omega)) ⟨e, ?_⟩
  refine ⟨.non, _, I.lset (its' := its.reverse) hH e (by simp) r.reverse ?_, rfl, q⟩
  rw [List.length_reverse]
  omega
def rCat : R2 := fun x y H Q => ∃ l b xs zs, x = .ref l ∧ y = .ref b ∧ H l = some (.lst xs) ∧ H b = some (.lst zs) ∧ xs.length + zs.length ≤ sizeLine ∧ ∀ p, H p = none → Q (.ref p) (upd H p (.lst (xs ++ zs)))
theorem op_cat : OpR X (binaryOp .Add) rCat := by
  intro pins s σ H x y v u Q I rx ry h
  obtain ⟨l, b, xs, zs, rfl, rfl, hH, hB, hz, q⟩ := h
  cases rx
  cases ry
  obtain ⟨z, its, n, r, hl, e⟩ := I.lstM hH
  obtain ⟨z2, its2, n2, r2, hl2, e2⟩ := I.lstM hB
  refine PySem.P.add_list e e2 ?_ (by rw [List.size_toArray, List.size_toArray]; omega)
  have ea : its.toArray ++ its2.toArray = (its ++ its2).toArray := by simp
  rw [ea]
  exact ⟨.ref _, _, I.lnew (t' := s.toks) (r.append r2) (by rw [List.length_append]; omega), rfl, q _ I.fresh⟩
def rRep : R2 := fun x y H Q => ∃ l k xs, x = .ref l ∧ y = .int k ∧ H l = some (.lst xs) ∧ -(2 ^ 63) ≤ k ∧ k < 2 ^ 63 ∧ xs.length * k.toNat ≤ sizeLine ∧
  ∀ p, H p = none → Q (.ref p) (upd H p (.lst (List.replicate k.toNat xs).flatten))
theorem len_rep {α : Type} (xs : List α) (k : Nat) : (List.replicate k xs).flatten.length = k * xs.length := by
  induction k with
  | zero => simp
  | succ k ih => rw [List.replicate_succ, List.flatten_cons, List.length_append, ih, Nat.succ_mul, Nat.add_comm]
theorem op_rep : OpR X (binaryOp .Mult) rRep := by
  intro pins s σ H x y v u Q I rx ry h
  obtain ⟨l, k, xs, rfl, rfl, hH, h1, h2, hz, q⟩ := h
  cases rx
  obtain ⟨t, rfl⟩ := ry
  obtain ⟨z, its, n, r, hl, e⟩ := I.lstM hH
  have hlen : its.toArray.size * k.toNat ≤ sizeLine := by rw [List.size_toArray, ← hl]; exact hz
  have hcap : ¬ its.toArray.size * k.toNat > (2 ^ 63 - 1) / 8 := by
    have : (sizeLine : Nat) ≤ (2 ^ 63 - 1) / 8 := by decide
    omega
  have hfit : ¬ (!Builtin.List.listFitsIndex k) = true := by
    rw [fitsIndex_both h1 h2]
    exact Bool.false_ne_true
  have hlong : ¬ Builtin.List.listTooLong (its.toArray.size * k.toNat) = true := by
    rw [notLongL hlen]
    exact Bool.false_ne_true
  have hnew : List.foldl (fun x1 x2 => x1 ++ x2) #[] (List.replicate (if its.toArray.isEmpty = true then 0 else k.toNat) its.toArray) = (List.replicate k.toNat its).flatten.toArray := by
    have f0 : ∀ m : Nat, List.foldl (fun x1 x2 => x1 ++ x2) #[] (List.replicate m its.toArray) = (List.replicate m its).flatten.toArray := fun m => by
      have := foldl_rep its m []
      rw [List.nil_append] at this
      exact this
    rw [f0]
    cases its with
    | nil => simp
    | cons a r' => rw [if_neg (by simp)]
  refine wpAny_binaryOp_repeat_ref (T := "list") (U := "int") (by decide) ⟨_, e, rfl⟩ (fun s' => typeIs_int s' k t) noFill_list_mul F.fills_int_mul F.slot_int_rmul repeat_list F.slot_int_index.lookup
    (call_meets F.slot_int_rmul (typeIs_int s k t) F.entry_int_rmul (F.args_int_rmul_2 _ _) (int___rmul___int_list k t l its.toArray n)
      ⟨e, rfl, ⟨_, e, rfl⟩, call_meets F.slot_list_mul ⟨_, e, rfl⟩ F.entry_list_mul (F.args_list_mul_2 _ _) (AutoListH.list___mul___list_int_3 l its.toArray n k t hfit hcap hlong) ⟨e, ?_⟩⟩)
  rw [hnew]
  exact ⟨.ref _, _, I.lnew (t' := s.toks) (r.rep k.toNat) (by rw [len_rep, Nat.mul_comm]; exact hz), rfl, q _ I.fresh⟩
end
section
variable {prog : Program} {w : World} {A : Around} {E : Value → Shared → Prop} {s : Shared}
end
section
variable {X : Cx}
end
end L2
namespace Att
open PySem PySem.W PySem.Calls PyProof.Rows
theorem ints_of_wellAll {P : Params} {h : Heap} : ∀ (ns : List Int) (vs : List Value), WellAll P h vs (ns.map WData.int) → IntsAre vs ns := by
  intro ns
  induction ns with
  | nil =>
    intro vs w
    rw [List.map_nil] at w
    cases w
    exact .nil
  | cons n ns ih =>
    intro vs w
    rw [List.map_cons] at w
    cases w with
    | cons a b =>
      cases a
      exact .cons _ _ (ih _ b)
theorem script_of {l : OpenLaw} {n : Nat} (hn : l.most = some n) {P : Params} {h : Heap} {args : List WData} {vals : List Value}
    (hpre : l.row.toRowW.claim.pre args = true) (hwl : WellAll P h vals args) :
    ∃ a vs ns, vals = [Value.ref a] ∧ args = [WData.list (ns.map WData.int)] ∧ h.get? a = some { cls := .type "list", data := .seq vs.toArray } ∧ IntsAre vs ns ∧ ns.length ≤ n := by
  have hsh : WShape.hasAll [] args [.list .int] = true := (pre_splitW hpre).1
  have hc : l.pre.holds [] { args := args } = true := (pre_splitW hpre).2
  obtain ⟨d, r, rfl, h1, h2⟩ := hasAllW_cons hsh
  obtain rfl := hasAllW_nil h2
  obtain ⟨xs, rfl, h3⟩ := hasW_list h1
  obtain ⟨ns, rfl⟩ := items_int h3
  have hlen : ns.length ≤ n := by
    unfold OpenLaw.pre at hc
    have h4 : (WTm.not (.lt (.lit (.int (n : Int))) (.len (.arg 0)))).holds [] { args := [.list (ns.map .int)] } = true := by
      have h4 := (holds_andW hc).1
      rw [hn] at h4
      exact h4
    have h5 := condW_of h4 (w_not (w_lt w_lit (w_len_list (w_arg rfl))))
    rw [List.length_map] at h5
    refine Nat.le_of_not_lt fun q => ?_
    have q' : (n : Int) < ((ns.length : Nat) : Int) := by omega
    first
      | (rw [decide_eq_true q'] at h5; exact absurd h5 (by decide))
      | (simp at h5; omega)
  cases hwl with
  | cons w1 w2 =>
    cases w2
    cases w1 with
    | list ho hall => exact ⟨_, _, ns, rfl, rfl, ho, ints_of_wellAll ns _ hall, hlen⟩
theorem post_true (l : OpenLaw) (args : List WData) : l.row.toRowW.claim.post args (.bool true) args = true :=
  postW_of (r := l.row.toRowW) (X := (true == true))
    (show WShape.has [] (.bool true) .bool = true by first | rfl | decide | simp [WShape.has, WShape.arms, WShape.armsAll])
    (show (WTm.eq .res (.lit (.bool true))).value [] { args := args, res := some (.bool true), after := args } = some (.bool (true == true)) from w_eq_bool (w_res rfl) w_lit) rfl
section
variable {prog : Program} {w : World} {A : Around} {E : Value → Shared → Prop} {s : Shared} {K : Frag}
end
end Att
namespace L2
open PySem PySem.Spec PyProof.Rows
theorem vals_ints : ∀ {vs : List Value} {ns : List Int}, IntsAre vs ns → Vals (ns.map V.int) vs
  | _, _, .nil => .nil
  | _, _, .cons n t h => .cons ⟨t, rfl⟩ (vals_ints h)
def Only (H : Hp) : Prop := ∀ b, H b = none ∨ ∃ o xs, H b = some (.frz o (.lst xs))
theorem law_call {P : Program} {w : World} {K : PySem.W.Frag} {mg mb : Str → Option Value} {CX : CXT} {k : Nat} {fa a : Addr} {fd : FuncData} {x : Str} {sp : Sp} {s₁ : Shared} {vs : List Value} {ns : List Int}
    (KX : K.In s₁.heap) (hns : s₁.heap.Ns mainGlobals mg) (hb : s₁.heap.Ns builtinsNs mb) (hbb : ∀ x : Str, x ≠ "__name__" → mb x = bootBuiltins x) (hlim : s₁.heap.NoLimit) (hg : s₁.gens = #[])
    (ha : s₁.heap.get? a = some { cls := .type "list", data := .seq vs.toArray }) (hi : IntsAre vs ns) (hl : ns.length ≤ sizeLine) (hr : Room k callerA)
    (F : ∀ base : Heap, K.In base → base.Ns mainGlobals mg → FnOk P w K mg base CX k fa fd [x] sp) (hbind : ∀ (s : Shared) (u : Value), BindsTo s fd ⟨[u], []⟩ [(x, u)])
    (hsp : ∀ H : Hp, Only H → SqL K H a (ns.map V.int) → sp [.ref a] H (fun v _ => v = .bl true) fun _ _ _ => False)
    (hCX : ∀ H e s', CX [] H s₁ (fun _ _ _ => False) e s' → False) :
    codeAny (model P w) callerA (.call (.ref fa) ⟨[.ref a], []⟩) (fun r s' => r = .ok (.ret (.bool true)) ∧ OldK s₁.heap s'.heap ∧ s'.os = s₁.os ∧ AllBare s'.gens) s₁ := by
  have rv := vals_ints hi
  have lenV := hi.length
  have core : ∀ H : Hp, Only H → SqL K H a (ns.map V.int) → HOk P w H s₁.heap → (∀ b, H b ≠ none → b = a) → (H a ≠ none → K.lookup a = none) →
      codeAny (model P w) callerA (.call (.ref fa) ⟨[.ref a], []⟩) (fun r s' => r = .ok (.ret (.bool true)) ∧ OldK s₁.heap s'.heap ∧ s'.os = s₁.os ∧ AllBare s'.gens) s₁ := by
    intro H hO hS hok hA hK
    have base_of : ∀ {b : Addr} {o : Obj}, s₁.heap.get? b = some o → H b = none → (hidT s₁.heap H).get? b = some o := fun e n => hidT_get e n
    have noA : ∀ {b : Addr} {o : Obj} {es : Array DictEntry} {ep : Nat}, s₁.heap.get? b = some o → o.data = .dict es ep → H b = none := fun {b o es ep} e d => by
      cases q : H b with
      | none => rfl
      | some u =>
        have e' : b = a := hA b (by rw [q]; simp)
        subst e'
        rw [ha] at e; cases e
        have d' : Data.seq vs.toArray _ = Data.dict es ep := d
        cases d'
    have nsK : ∀ {b : Addr} {m : Str → Option Value}, s₁.heap.Ns b m → (hidT s₁.heap H).Ns b m := fun {b m} ⟨o, es, ep, e, d, r⟩ => ⟨o, es, ep, base_of e (noA e d), d, r⟩
    have hKb : K.In (hidT s₁.heap H) := fun b o e => base_of (KX b o e) (by
      cases q : H b with
      | none => rfl
      | some u =>
        have e' : b = a := hA b (by rw [q]; simp)
        subst e'
        rw [hK (by rw [q]; simp)] at e; cases e)
    have hM : Mod K mg (hidT s₁.heap H) := ⟨hKb, nsK hns, ⟨mb, nsK hb, hbb⟩, let ⟨mc, h1, h2⟩ := hlim; ⟨mc, nsK h1, h2⟩⟩
    have e0 : Env0 P w K mg (hidT s₁.heap H) callerA [] s₁ H := ⟨rfl, hM, fun b o e => of_hidT e, Nat.le_of_eq (hidT_size _ _), trivial, fun b hb => absurd (show b ∈ ([] : List Addr) from hb) (by simp), hok, .of_eq hg⟩
    refine codeAny_mono ((F _ hKb (nsK hns)).run callerA [] s₁ H ⟨[.ref a], []⟩ [.ref a] [.ref a] _ _ hr e0 (hbind s₁ (.ref a)) (.cons rfl .nil) (hsp H hO hS)) fun r s' h => ?_
    cases r with
    | error e => exact (hCX H e s' h).elim
    | ok fl =>
      cases fl with
      | next => exact False.elim h
      | brk => exact False.elim h
      | cont => exact False.elim h
      | ret u =>
        obtain ⟨v, H', os, bare, un, hok', r', q⟩ := h
        have q' : v = .bl true := q
        subst q'
        obtain rfl : u = Value.bool true := r'
        refine ⟨rfl, OldK.of_keep fun b o e => ?_, os, bare⟩
        cases q : H b with
        | none => exact un.keep b o e q (by intro z; exact absurd (show b ∈ ([] : List Addr) from z) (by simp)) (by simp)
        | some u =>
          rcases hO b with z | ⟨ob, xs, z⟩
          · rw [q] at z; cases z
          · have z2 := un.frzs b ob _ z
            obtain ⟨e1, _⟩ := hok b _ z
            obtain ⟨e2, _⟩ := hok' b _ z2
            rw [e] at e1; cases e1
            exact e2
  cases hk : K.lookup a with
  | some o =>
    have e := KX a o hk
    rw [ha] at e
    cases e
    refine core (fun _ => none) (fun _ => .inl rfl) (.inr ⟨_, vs.toArray, _, hk, rfl, rfl, rfl, by rw [List.size_toArray, lenV]; exact hl, by simpa using rv⟩) (fun b u z => by have z' : (none : Option HO) = some u := z; cases z') (fun b z => absurd rfl z) fun z => absurd rfl z
  | none =>
    refine core (fun b => if b = a then some (.frz { cls := .type "list", data := .seq vs.toArray } (.lst (ns.map V.int))) else none) (fun b => ?_) (.inl (.inr ⟨{ cls := .type "list", data := .seq vs.toArray }, if_pos rfl⟩)) (fun b u z => ?_) (fun b z => ?_) fun _ => hk
    · by_cases hb : b = a
      · exact .inr ⟨_, _, if_pos hb⟩
      · exact .inl (if_neg hb)
    · by_cases hb : b = a
      · have z' := (if_pos hb).symm.trans z
        cases z'
        subst hb
        exact ⟨ha, by rw [List.length_map]; exact hl, vs, _, rv, ha⟩
      · have z' := (if_neg hb).symm.trans z
        cases z'
    · by_cases hb : b = a
      · exact hb
      · exact absurd (if_neg hb) z
end L2
namespace L2
open PySem PySem.Spec PyProof.Rows
end L2
namespace L2
open PySem PySem.Spec PyProof.Rows
def defArgs (s : Stmt) : Arguments := match s with
  | .FunctionDef _ a _ _ _ _ _ _ _ _ => a
  | _ => { posonlyargs := [], args := [], vararg := none, kwonlyargs := [], kw_defaults := [], kwarg := none, defaults := [] }
def defBody (s : Stmt) : List Stmt := match s with
  | .FunctionDef _ _ b _ _ _ _ _ _ _ => b
  | _ => []
def defScope (s : Stmt) : Scope := match s with
  | .FunctionDef _ _ _ _ _ _ sc _ _ _ => sc
  | _ => { kind := .function, names := [], isGenerator := false, isCoroutine := false }
abbrev CX0 : CXT := fun _ _ _ _ _ _ => False
abbrev E0 : XK := fun _ _ _ => False
theorem pass0 {X : Cx} : Passes CX0 X E0 := fun _ _ _ _ _ _ _ h => h.elim
structure Fun (K : PySem.W.Frag) (x qual : Str) (st : Stmt) (f : Addr) (fd : FuncData) : Prop where
  ex : ∃ (oc : Value) (od : Option Addr) (kV doc pm : Value) (an : Option Addr) (cdv ct : Value) (osl : Array (Option Value)),
    fd = PySem.W.fnOf x qual (defArgs st) (defBody st) (defScope st) .none kV doc pm an cdv ct ∧ K.lookup f = some ⟨oc, od, .func fd, osl⟩ ∧ PySem.W.codeIn K cdv qual = true
  kp : PySem.W.keepIn K (.ref f) = true
section
variable {P : Program} {w : World} {K : PySem.W.Frag} {mg : Str → Option Value} {base : Heap}
theorem Fun.ok {x qual : Str} {st : Stmt} {f : Addr} {fd : FuncData} {N ps : List Str} {k : Nat} {sp : Sp} (F : Fun K x qual st f fd) (S : FnScope N ps (defScope st)) (len : ∀ vs H Q E, sp vs H Q E → vs.length = ps.length)
    (hbody : ∀ (cdv : Value) (A : Around) (outer : List Env) (s : Shared) (H : Hp) (vs : List V) (Q : VK) (E : XK), Room k (A.deeper (envOfC qual (defScope st) s.heap.objs.size f cdv)) → sp vs H Q E →
      ∃ t, PSs (cxOf CX0 P w K mg base N qual (defScope st) f cdv A outer s H E).nox (defBody st) t ∧ t { nx := fun _ H' => Q .non H', rt := Q } (start N vs) H) : FnOk P w K mg base CX0 (k + 1) f fd ps sp := by
  obtain ⟨oc, od, kV, doc, pm, an, cdv, ct, osl, rfl, lk, hcd⟩ := F.ex
  refine fn_of lk hcd S len fun A outer s H vs Q E hr hsp => ?_
  obtain ⟨t, h, q⟩ := hbody cdv A outer s H vs Q E hr hsp
  exact ⟨t, h.nox, q⟩
theorem Fun.binds {x qual : Str} {st : Stmt} {f : Addr} {fd : FuncData} {ps : List Str} (F : Fun K x qual st f fd)
    (h : ∀ (kV doc pm : Value) (an : Option Addr) (cdv ct : Value) (us : List Value), us.length = ps.length → bindArgs (PySem.W.fnOf x qual (defArgs st) (defBody st) (defScope st) .none kV doc pm an cdv ct) ⟨us, []⟩ = pure (ps.zip us)) : Binds K fd ps [] := by
  obtain ⟨oc, od, kV, doc, pm, an, cdv, ct, osl, rfl, lk, hcd⟩ := F.ex
  exact .all (h kV doc pm an cdv ct)
theorem fun_mk {x qual : Str} {st : Stmt} {f : Addr} {oc : Value} {od an : Option Addr} {osl : Array (Option Value)} {kV doc pm cdv ct : Value} (l : K.lookup f = some ⟨oc, od, .func (PySem.W.fnOf x qual (defArgs st) (defBody st) (defScope st) .none kV doc pm an cdv ct), osl⟩)
    (c : PySem.W.codeIn K cdv qual = true) (k : PySem.W.keepIn K (.ref f) = true) : Fun K x qual st f (PySem.W.fnOf x qual (defArgs st) (defBody st) (defScope st) .none kV doc pm an cdv ct) := ⟨⟨oc, od, kV, doc, pm, an, cdv, ct, osl, rfl, l, c⟩, k⟩
end
theorem small1000 {n : Nat} (h : n ≤ 1000) : n < sizeLine := Nat.lt_of_le_of_lt h (by decide)
section
variable {X : Cx}
theorem pv (i : Nat) {x : Str} {pos : Pos} (hN : X.N[i]? = some x := by rfl) (hv : Vis X.env.scope x := by first | exact Or.inl rfl | exact Or.inr (Or.inl rfl) | exact Or.inr (Or.inr rfl)) (hd : (x == ("__debug__" : Str)) = false := by decide)
    (hcd : (x == ("__classdict__" : Str)) = false := by decide) : PE X (.Name x pos) (tVar i) := pe_var hN hv hd hcd
end
def Same (H H' : Hp) : Prop := ∀ b o, H b = some o → H' b = some o
theorem Same.refl (H : Hp) : Same H H := fun _ _ h => h
theorem Same.trans {H H1 H2 : Hp} (a : Same H H1) (b : Same H1 H2) : Same H H2 := fun c o h => b c o (a c o h)
theorem Same.seq {K : PySem.W.Frag} {H H' : Hp} {a : Addr} {xs : List V} (e : Same H H') (h : SqL K H a xs) : SqL K H' a xs := by
  rcases h with (h | ⟨o, h⟩) | h
  · exact .inl (.inl (e _ _ h))
  · exact .inl (.inr ⟨o, e _ _ h⟩)
  · exact .inr h
end L2
noncomputable section
set_option linter.all false
namespace Hd
open PySem PySem.W PySem.Calls PyProof.Rows
abbrev lf0 : Life := @PySem.Life.mk (@List.nil.{0} @Nat) (@List.nil.{0} @Nat) (@List.nil.{0} @Nat) (@OfNat.ofNat.{0} @Nat (nat_lit 0) (@instOfNatNat (nat_lit 0))) (@List.nil.{0} (@Prod.{0, 0} @Nat @Nat)) (@List.nil.{0} @Nat) @Bool.false (@List.toArray.{0} @Nat (@List.nil.{0} @Nat)) (@List.nil.{0} @Nat) (@OfNat.ofNat.{0} @Nat (nat_lit 0) (@instOfNatNat (nat_lit 0))) @Bool.false @Bool.false @Bool.false (@OfNat.ofNat.{0} @Int (nat_lit 0) (@instOfNat (nat_lit 0))) (@List.cons.{0} @Int (@OfNat.ofNat.{0} @Int (nat_lit 2000) (@instOfNat (nat_lit 2000))) (@List.cons.{0} @Int (@OfNat.ofNat.{0} @Int (nat_lit 10) (@instOfNat (nat_lit 10))) (@List.cons.{0} @Int (@OfNat.ofNat.{0} @Int (nat_lit 10) (@instOfNat (nat_lit 10))) (@List.nil.{0} @Int)))) @Bool.false (@OfNat.ofNat.{0} @Nat (nat_lit 0) (@instOfNatNat (nat_lit 0))) @Bool.true (@List.nil.{0} @Nat) (@List.nil.{0} @Nat) (@OfNat.ofNat.{0} @Nat (nat_lit 0) (@instOfNatNat (nat_lit 0))) @Bool.false
abbrev dr1 : Drawn := @PySem.Drawn.mk (@OfNat.ofNat.{0} @Nat (nat_lit 0) (@instOfNatNat (nat_lit 0))) (@OfNat.ofNat.{0} @Nat (nat_lit 0) (@instOfNatNat (nat_lit 0))) (@OfNat.ofNat.{0} @Nat (nat_lit 0) (@instOfNatNat (nat_lit 0))) (@OfNat.ofNat.{0} @Nat (nat_lit 0) (@instOfNatNat (nat_lit 0)))
abbrev p : Program := PySem.Challenge.pw_boardglue_k26_no_heap
def top (i : Nat) : Stmt := p.main.body.getD i (.Pass ⟨0, 0, 0, 0⟩)
def sub (s : Stmt) (j : Nat) : Stmt := match s with | .ClassDef (body := b) .. => b.getD j (.Pass ⟨0, 0, 0, 0⟩) | _ => s
def fn (x q : Str) (s : Stmt) (g : Addr) (cl : List (Str × Addr)) (dV kV doc pm : Value) (an : Option Addr) (cd ct : Value) (bl : Addr) : FuncData := { name := x, qualname := q, params := L2.defArgs s, body := .stmts (L2.defBody s), scope := L2.defScope s, globals := g, closure := cl, defaults := dV, kwdefaults := kV, doc := doc, pyModule := pm, annotations := an, code := cd, closureTuple := ct, builtins := bl }
def z0 : Value := .int 0 0
def cp (n : Tok) : Value := .str "/claim/cut.py" n
def co (a : Array Value) : Obj := ⟨.type "code", none, .fields a, #[]⟩
def fo (f : FuncData) : Obj := ⟨.type "function", none, .func f, #[]⟩
abbrev so (x : String) : Str := Str.ofString x
abbrev R (n : Addr) : Value := .ref n
abbrev N := @BT.node
abbrev Z : BT := .nil
abbrev L (o : Obj) : BT := .node o .nil .nil
def cO (x : String) (t : Tok) (y : String) (u v : Tok) (l a b c n : Int) (e : Value) (g : Bool) (k : Int) (m A B C D : Value) (i j : Int) (z : Tok) : Obj := co #[.str x t, .str y u, cp v, .int l 0, .int a 0, .int b 0, .int c 0, .int n 0, e, .bool g, .int k 0, m, A, B, C, D, .int i 0, .int j 0, cp z]
def f0 (x q : Str) (s : Stmt) : Obj := ⟨.none, none, .func (fn x q s 0 [] .none .none .none .none none .none .none 0), #[]⟩
def fO (x q : Str) (s : Stmt) (d m : Value) (c : Addr) : Obj := fo (fn x q s 3 [] d .none .none m none (.ref c) .none 0)
abbrev m0m : Value := .str "boardglue.lengths" 367
abbrev m1m : Value := .str "boardglue.boards" 481
abbrev m2m : Value := .str "boardglue.notes" 505
abbrev m3m : Value := .str "law_boardglue_k26_no_heap" 637
def tu (a : Array Value) : Obj := ⟨.type "tuple", none, .seq a 0, #[]⟩
def en (P : Params) (x : String) (t : Tok) (v : Value) : DictEntry := ⟨PyData.keyHash P x, .str x t, v⟩
def env : Env := { scope := p.main.scope, locals := mainNs, globals := mainNs, cells := [], code := (.ref 13), frame := some 14 }
abbrev b : List Stmt := behindTheImports p
abbrev cE : Code := .body b env
abbrev q : Pos := ⟨0, 0, 0, 0⟩
abbrev B : List Frame := [topFrame q]
abbrev m0 : Nat := nat_lit 11
abbrev ann : Option Value := (some (.ref 6))
def o0 : Obj := tu #[]
def o1 : Obj := ⟨.none, none, (.fields #[]), #[]⟩
def o2 : Obj := cO "<module>" 182 "<module>" 183 184 1 0 0 0 0 (R 11) false 181 (R 12) .none .none .none .none 185 1 186
def o3 : Obj := ⟨(.type "frame"), none, .plain, #[(some (.ref 13)), (some (.ref 3)), (some (.ref 3)), none, (some (.str "__main__" 164)), none, (some (.ref 0))]⟩
def Ha (P : Params) : Heap := ⟨⟨[boot_o_0 P, boot_o_1 P, boot_o_2 P, boot_o_3 P, boot_o_4 P, boot_o_5 P, boot_o_6 P, boot_o_7 P, boot_o_8 P, boot_o_9 P, boot_o_10 P, o0, o1, o2, o3]⟩, lf0⟩
def T0 (P : Params) : BT := (N (boot_o_0 P) (N (boot_o_1 P) (N (boot_o_3 P) (L (boot_o_7 P)) (L o0)) (N (boot_o_5 P) (L (boot_o_9 P)) (L o2))) (N (boot_o_2 P) (N (boot_o_4 P) (L (boot_o_8 P)) (L o1)) (N (boot_o_6 P) (L (boot_o_10 P)) (L o3))))
theorem pre' (w : World) : (fun os => PySem.W.Fast.tw15667345088766844465 PySem.W.Fast.tw14364793385576792824 p w m0 ann (nat_lit 12) (⟨boot_heap w.params, ⟨[]⟩, boot_drawn, boot_toks, os⟩ : Shared) (PySem.W.topStub p)) = fun os => some ((⟨Ha w.params, ⟨[]⟩, dr1, nat_lit 187, os⟩ : Shared), Thread.mk (PySem.W.Fast.tw11892475500146522536 PySem.W.Fast.tw14364793385576792824 cE) cE ⟨0, 0, 0, 0⟩ B) := by kernel_rfl
theorem pre (w : World) (os : OsState) : topGo treeTable p w m0 ann (nat_lit 12) (⟨boot_heap w.params, ⟨[]⟩, boot_drawn, boot_toks, os⟩ : Shared) (topStub p) = some ((⟨Ha w.params, ⟨[]⟩, dr1, nat_lit 187, os⟩ : Shared), Thread.mk (denote treeTable cE) cE ⟨0, 0, 0, 0⟩ B) := by
  rw [PySem.W.Fast.te15667345088766844465, PySem.W.Fast.te14364793385576792824, PySem.W.Fast.te11892475500146522536]
  exact congrFun (pre' w) os
theorem blk' (w : World) : (fun os => PySem.W.Fast.tw14374325043358763698 PySem.W.Fast.tw14364793385576792824 p w m0 ann (nat_lit 1) (nat_lit 1) (⟨Ha w.params, ⟨[]⟩, dr1, nat_lit 187, os⟩ : Shared) (PySem.W.blockOf b env cE ⟨0, 0, 0, 0⟩ B)) = fun os => some (Flow.next, SharedT.abs (⟨T0 w.params, nat_lit 15, lf0, ⟨[]⟩, dr1, nat_lit 187, os⟩ : SharedT), cE, ⟨0, 0, 0, 0⟩) := by kernel_rfl
theorem blk (w : World) (os : OsState) : segRun treeTable p w m0 ann (nat_lit 1) (nat_lit 1) (⟨Ha w.params, ⟨[]⟩, dr1, nat_lit 187, os⟩ : Shared) (blockOf b env cE ⟨0, 0, 0, 0⟩ B) = some (Flow.next, SharedT.abs (⟨T0 w.params, nat_lit 15, lf0, ⟨[]⟩, dr1, nat_lit 187, os⟩ : SharedT), cE, ⟨0, 0, 0, 0⟩) := by
  rw [PySem.W.Fast.te14374325043358763698, PySem.W.Fast.te14364793385576792824]
  exact congrFun (blk' w) os
def nm : Stmt → Str | .FunctionDef (name := n) .. => n | _ => ⟨#[]⟩
def ln : Stmt → Nat | .FunctionDef _ _ _ _ _ _ _ _ _ q => q.line | _ => 0
def vr (s : Stmt) : List Str := ((L2.defScope s).names.filter fun x => match x.2 with | .local => true | _ => false).map (·.1)
def sT : Tok → List Str → List Value
  | _, [] => []
  | n, x :: r => .str x n :: sT (n + 1) r
def tS (n : Tok) (l : List Str) : Obj := tu ⟨sT n l⟩
def cD (x y : Str) (s : Stmt) (e t i : Nat) (A B C : Value) : Obj := co #[.str x t, .str y (t + 1), cp (t + 2), .int (ln s) 0, .int (L2.defArgs s).args.length 0, z0, z0, .int 3 0, .ref e, .bool true, .int 181 0, .ref (e + 1), .none, A, B, C, .int i 0, .int (ln s) 0, cp (i + 1)]
def fP (x y : Str) (s : Stmt) (e t : Nat) (d m : Value) : List Obj := [o0, o1, tS (t + 3) (vr s), o0, f0 x y s, cD x y s e t (t + 3 + (vr s).length) (R (e + 2)) (R (e + 3)) (R (e + 4)), fO x y s d m (e + 5)]
def fQ (x y : Str) (s : Stmt) (e t : Nat) (d m : Value) : List Obj := [o0, o1, f0 x y s, cD x y s e t (t + 3) .none .none (R (e + 2)), fO x y s d m (e + 3)]
structure Op where
  e : Addr
  ks : List Nat
  os : Params → List Obj
  d : List (Str × Tok × Value)
  l : List Value
def ll (l : Int) (c : Addr) : List Value := [.int l 0, z0, .ref c]
def F (i e t : Nat) (m : Value) : Op := ⟨e, [0, 2, 3, 5, 6], fun _ => fP (nm (top i)) (nm (top i)) (top i) e t .none m, [(nm (top i), t + 5 + (vr (top i)).length, .ref (e + 6))], ll (ln (top i)) (e + 5)⟩
def Q (i e t : Nat) (m : Value) : Op := ⟨e, [0, 3, 4], fun _ => fQ (nm (top i)) (nm (top i)) (top i) e t .none m, [(nm (top i), t + 5, .ref (e + 4))], ll (ln (top i)) (e + 3)⟩
def Dv (i e t : Nat) (m : Value) (v : List Value) : Op := ⟨e - 1, [0, 1, 3, 4, 6, 7], fun _ => tu ⟨v⟩ :: fP (nm (top i)) (nm (top i)) (top i) e t (.ref (e - 1)) m, [(nm (top i), t + 5 + (vr (top i)).length, .ref (e + 6))], ll (ln (top i)) (e + 5)⟩
def ops : List Op := [⟨15, [0, 7, 8, 9, 10], fun P => [tu #[(.type "ValueError")], ⟨(.type "builtin_function_or_method"), none, (.fields #[(.builtin "type.__prepare__"), (.type "type")]), #[]⟩, ⟨(.type "dict"), none, (.dict #[en P "__module__" 196 (.str "boardglue.errors" 187), en P "__qualname__" 198 (.str "YardError" 197), en P "__firstlineno__" 200 (.int (2) 199), en P "__static_attributes__" 201 (.ref 22)] 4), #[]⟩, o0, o1, cO "YardError" 191 "YardError" 192 193 2 0 0 0 0 (R 18) false 181 (R 19) .none .none .none .none 194 2 195, ⟨(.type "frame"), none, .plain, #[(some (.ref 20)), (some (.ref 3)), (some (.ref 17)), none, (some (.str "boardglue.errors" 187)), none, (some (.ref 0))]⟩, o0, ⟨(.type "dict"), none, (.dict #[en P "__module__" 196 (.str "boardglue.errors" 187), en P "__firstlineno__" 200 (.int (2) 199), en P "__static_attributes__" 201 (.ref 22), en P "__weakref__" 203 (.ref 25), en P "__doc__" 204 .none] 3), #[]⟩, ⟨(.type "type"), none, (.cls ⟨"YardError", [(.type "ValueError")], [(.ref 24), (.type "ValueError"), (.type "Exception"), (.type "BaseException"), (.type "object")], 23, "YardError", true, [], [(.ref 37), (.ref 49), (.ref 61), (.ref 73), (.ref 85), (.ref 97), (.ref 109), (.ref 121), (.ref 133), (.ref 145)], false, none, false⟩), #[(some (.ref 15)), none, (some (.str "YardError" 189)), (some (.str "YardError" 197)), (some (.builtin "ValueError.__new__")), (some (.bool true))]⟩, ⟨(.type "getset_descriptor"), none, (.fields #[(.str "__weakref__" 202), (.ref 24), (.builtin "ExceptionGroup.__weakref__"), .none]), #[]⟩, ⟨(.type "super"), none, (.fields #[(.ref 24), (.ref 24), (.ref 24)]), #[]⟩, ⟨(.type "builtin_function_or_method"), none, (.fields #[(.builtin "object.__init_subclass__"), (.ref 24)]), #[]⟩], [("YardError", 206, .ref 24)], ll 2 20⟩, ⟨28, [0, 7, 8, 9], fun P => [tu #[(.ref 24)], ⟨(.type "builtin_function_or_method"), none, (.fields #[(.builtin "type.__prepare__"), (.type "type")]), #[]⟩, ⟨(.type "dict"), none, (.dict #[en P "__module__" 214 (.str "boardglue.errors" 187), en P "__qualname__" 216 (.str "NoLength" 215), en P "__firstlineno__" 218 (.int (4) 217), en P "__static_attributes__" 219 (.ref 35)] 4), #[]⟩, o0, o1, cO "NoLength" 209 "NoLength" 210 211 4 0 0 0 0 (R 31) false 181 (R 32) .none .none .none .none 212 4 213, ⟨(.type "frame"), none, .plain, #[(some (.ref 33)), (some (.ref 3)), (some (.ref 30)), none, (some (.str "boardglue.errors" 187)), none, (some (.ref 0))]⟩, o0, ⟨(.type "dict"), none, (.dict #[en P "__module__" 214 (.str "boardglue.errors" 187), en P "__firstlineno__" 218 (.int (4) 217), en P "__static_attributes__" 219 (.ref 35), en P "__doc__" 220 .none] 2), #[]⟩, ⟨(.type "type"), none, (.cls ⟨"NoLength", [(.ref 24)], [(.ref 37), (.ref 24), (.type "ValueError"), (.type "Exception"), (.type "BaseException"), (.type "object")], 36, "NoLength", true, [], [], false, none, false⟩), #[(some (.ref 28)), none, (some (.str "NoLength" 207)), (some (.str "NoLength" 215)), (some (.builtin "ValueError.__new__")), (some (.bool true))]⟩, ⟨(.type "super"), none, (.fields #[(.ref 37), (.ref 37), (.ref 37)]), #[]⟩, ⟨(.type "builtin_function_or_method"), none, (.fields #[(.builtin "object.__init_subclass__"), (.ref 37)]), #[]⟩], [("NoLength", 222, .ref 37)], ll 4 33⟩, ⟨40, [0, 7, 8, 9], fun P => [tu #[(.ref 24)], ⟨(.type "builtin_function_or_method"), none, (.fields #[(.builtin "type.__prepare__"), (.type "type")]), #[]⟩, ⟨(.type "dict"), none, (.dict #[en P "__module__" 230 (.str "boardglue.errors" 187), en P "__qualname__" 232 (.str "NoBoard" 231), en P "__firstlineno__" 234 (.int (6) 233), en P "__static_attributes__" 235 (.ref 47)] 4), #[]⟩, o0, o1, cO "NoBoard" 225 "NoBoard" 226 227 6 0 0 0 0 (R 43) false 181 (R 44) .none .none .none .none 228 6 229, ⟨(.type "frame"), none, .plain, #[(some (.ref 45)), (some (.ref 3)), (some (.ref 42)), none, (some (.str "boardglue.errors" 187)), none, (some (.ref 0))]⟩, o0, ⟨(.type "dict"), none, (.dict #[en P "__module__" 230 (.str "boardglue.errors" 187), en P "__firstlineno__" 234 (.int (6) 233), en P "__static_attributes__" 235 (.ref 47), en P "__doc__" 236 .none] 2), #[]⟩, ⟨(.type "type"), none, (.cls ⟨"NoBoard", [(.ref 24)], [(.ref 49), (.ref 24), (.type "ValueError"), (.type "Exception"), (.type "BaseException"), (.type "object")], 48, "NoBoard", true, [], [], false, none, false⟩), #[(some (.ref 40)), none, (some (.str "NoBoard" 223)), (some (.str "NoBoard" 231)), (some (.builtin "ValueError.__new__")), (some (.bool true))]⟩, ⟨(.type "super"), none, (.fields #[(.ref 49), (.ref 49), (.ref 49)]), #[]⟩, ⟨(.type "builtin_function_or_method"), none, (.fields #[(.builtin "object.__init_subclass__"), (.ref 49)]), #[]⟩], [("NoBoard", 238, .ref 49)], ll 6 45⟩, ⟨52, [0, 7, 8, 9], fun P => [tu #[(.ref 24)], ⟨(.type "builtin_function_or_method"), none, (.fields #[(.builtin "type.__prepare__"), (.type "type")]), #[]⟩, ⟨(.type "dict"), none, (.dict #[en P "__module__" 246 (.str "boardglue.errors" 187), en P "__qualname__" 248 (.str "NoText" 247), en P "__firstlineno__" 250 (.int (8) 249), en P "__static_attributes__" 251 (.ref 59)] 4), #[]⟩, o0, o1, cO "NoText" 241 "NoText" 242 243 8 0 0 0 0 (R 55) false 181 (R 56) .none .none .none .none 244 8 245, ⟨(.type "frame"), none, .plain, #[(some (.ref 57)), (some (.ref 3)), (some (.ref 54)), none, (some (.str "boardglue.errors" 187)), none, (some (.ref 0))]⟩, o0, ⟨(.type "dict"), none, (.dict #[en P "__module__" 246 (.str "boardglue.errors" 187), en P "__firstlineno__" 250 (.int (8) 249), en P "__static_attributes__" 251 (.ref 59), en P "__doc__" 252 .none] 2), #[]⟩, ⟨(.type "type"), none, (.cls ⟨"NoText", [(.ref 24)], [(.ref 61), (.ref 24), (.type "ValueError"), (.type "Exception"), (.type "BaseException"), (.type "object")], 60, "NoText", true, [], [], false, none, false⟩), #[(some (.ref 52)), none, (some (.str "NoText" 239)), (some (.str "NoText" 247)), (some (.builtin "ValueError.__new__")), (some (.bool true))]⟩, ⟨(.type "super"), none, (.fields #[(.ref 61), (.ref 61), (.ref 61)]), #[]⟩, ⟨(.type "builtin_function_or_method"), none, (.fields #[(.builtin "object.__init_subclass__"), (.ref 61)]), #[]⟩], [("NoText", 254, .ref 61)], ll 8 57⟩, ⟨64, [0, 7, 8, 9], fun P => [tu #[(.ref 24)], ⟨(.type "builtin_function_or_method"), none, (.fields #[(.builtin "type.__prepare__"), (.type "type")]), #[]⟩, ⟨(.type "dict"), none, (.dict #[en P "__module__" 262 (.str "boardglue.errors" 187), en P "__qualname__" 264 (.str "NoDeed" 263), en P "__firstlineno__" 266 (.int (10) 265), en P "__static_attributes__" 267 (.ref 71)] 4), #[]⟩, o0, o1, cO "NoDeed" 257 "NoDeed" 258 259 10 0 0 0 0 (R 67) false 181 (R 68) .none .none .none .none 260 10 261, ⟨(.type "frame"), none, .plain, #[(some (.ref 69)), (some (.ref 3)), (some (.ref 66)), none, (some (.str "boardglue.errors" 187)), none, (some (.ref 0))]⟩, o0, ⟨(.type "dict"), none, (.dict #[en P "__module__" 262 (.str "boardglue.errors" 187), en P "__firstlineno__" 266 (.int (10) 265), en P "__static_attributes__" 267 (.ref 71), en P "__doc__" 268 .none] 2), #[]⟩, ⟨(.type "type"), none, (.cls ⟨"NoDeed", [(.ref 24)], [(.ref 73), (.ref 24), (.type "ValueError"), (.type "Exception"), (.type "BaseException"), (.type "object")], 72, "NoDeed", true, [], [], false, none, false⟩), #[(some (.ref 64)), none, (some (.str "NoDeed" 255)), (some (.str "NoDeed" 263)), (some (.builtin "ValueError.__new__")), (some (.bool true))]⟩, ⟨(.type "super"), none, (.fields #[(.ref 73), (.ref 73), (.ref 73)]), #[]⟩, ⟨(.type "builtin_function_or_method"), none, (.fields #[(.builtin "object.__init_subclass__"), (.ref 73)]), #[]⟩], [("NoDeed", 270, .ref 73)], ll 10 69⟩, ⟨76, [0, 7, 8, 9], fun P => [tu #[(.ref 24)], ⟨(.type "builtin_function_or_method"), none, (.fields #[(.builtin "type.__prepare__"), (.type "type")]), #[]⟩, ⟨(.type "dict"), none, (.dict #[en P "__module__" 278 (.str "boardglue.errors" 187), en P "__qualname__" 280 (.str "NoName" 279), en P "__firstlineno__" 282 (.int (12) 281), en P "__static_attributes__" 283 (.ref 83)] 4), #[]⟩, o0, o1, cO "NoName" 273 "NoName" 274 275 12 0 0 0 0 (R 79) false 181 (R 80) .none .none .none .none 276 12 277, ⟨(.type "frame"), none, .plain, #[(some (.ref 81)), (some (.ref 3)), (some (.ref 78)), none, (some (.str "boardglue.errors" 187)), none, (some (.ref 0))]⟩, o0, ⟨(.type "dict"), none, (.dict #[en P "__module__" 278 (.str "boardglue.errors" 187), en P "__firstlineno__" 282 (.int (12) 281), en P "__static_attributes__" 283 (.ref 83), en P "__doc__" 284 .none] 2), #[]⟩, ⟨(.type "type"), none, (.cls ⟨"NoName", [(.ref 24)], [(.ref 85), (.ref 24), (.type "ValueError"), (.type "Exception"), (.type "BaseException"), (.type "object")], 84, "NoName", true, [], [], false, none, false⟩), #[(some (.ref 76)), none, (some (.str "NoName" 271)), (some (.str "NoName" 279)), (some (.builtin "ValueError.__new__")), (some (.bool true))]⟩, ⟨(.type "super"), none, (.fields #[(.ref 85), (.ref 85), (.ref 85)]), #[]⟩, ⟨(.type "builtin_function_or_method"), none, (.fields #[(.builtin "object.__init_subclass__"), (.ref 85)]), #[]⟩], [("NoName", 286, .ref 85)], ll 12 81⟩, ⟨88, [0, 7, 8, 9], fun P => [tu #[(.ref 24)], ⟨(.type "builtin_function_or_method"), none, (.fields #[(.builtin "type.__prepare__"), (.type "type")]), #[]⟩, ⟨(.type "dict"), none, (.dict #[en P "__module__" 294 (.str "boardglue.errors" 187), en P "__qualname__" 296 (.str "Grain" 295), en P "__firstlineno__" 298 (.int (14) 297), en P "__static_attributes__" 299 (.ref 95)] 4), #[]⟩, o0, o1, cO "Grain" 289 "Grain" 290 291 14 0 0 0 0 (R 91) false 181 (R 92) .none .none .none .none 292 14 293, ⟨(.type "frame"), none, .plain, #[(some (.ref 93)), (some (.ref 3)), (some (.ref 90)), none, (some (.str "boardglue.errors" 187)), none, (some (.ref 0))]⟩, o0, ⟨(.type "dict"), none, (.dict #[en P "__module__" 294 (.str "boardglue.errors" 187), en P "__firstlineno__" 298 (.int (14) 297), en P "__static_attributes__" 299 (.ref 95), en P "__doc__" 300 .none] 2), #[]⟩, ⟨(.type "type"), none, (.cls ⟨"Grain", [(.ref 24)], [(.ref 97), (.ref 24), (.type "ValueError"), (.type "Exception"), (.type "BaseException"), (.type "object")], 96, "Grain", true, [], [], false, none, false⟩), #[(some (.ref 88)), none, (some (.str "Grain" 287)), (some (.str "Grain" 295)), (some (.builtin "ValueError.__new__")), (some (.bool true))]⟩, ⟨(.type "super"), none, (.fields #[(.ref 97), (.ref 97), (.ref 97)]), #[]⟩, ⟨(.type "builtin_function_or_method"), none, (.fields #[(.builtin "object.__init_subclass__"), (.ref 97)]), #[]⟩], [("Grain", 302, .ref 97)], ll 14 93⟩, ⟨100, [0, 7, 8, 9], fun P => [tu #[(.ref 24)], ⟨(.type "builtin_function_or_method"), none, (.fields #[(.builtin "type.__prepare__"), (.type "type")]), #[]⟩, ⟨(.type "dict"), none, (.dict #[en P "__module__" 310 (.str "boardglue.errors" 187), en P "__qualname__" 312 (.str "Unfit" 311), en P "__firstlineno__" 314 (.int (16) 313), en P "__static_attributes__" 315 (.ref 107)] 4), #[]⟩, o0, o1, cO "Unfit" 305 "Unfit" 306 307 16 0 0 0 0 (R 103) false 181 (R 104) .none .none .none .none 308 16 309, ⟨(.type "frame"), none, .plain, #[(some (.ref 105)), (some (.ref 3)), (some (.ref 102)), none, (some (.str "boardglue.errors" 187)), none, (some (.ref 0))]⟩, o0, ⟨(.type "dict"), none, (.dict #[en P "__module__" 310 (.str "boardglue.errors" 187), en P "__firstlineno__" 314 (.int (16) 313), en P "__static_attributes__" 315 (.ref 107), en P "__doc__" 316 .none] 2), #[]⟩, ⟨(.type "type"), none, (.cls ⟨"Unfit", [(.ref 24)], [(.ref 109), (.ref 24), (.type "ValueError"), (.type "Exception"), (.type "BaseException"), (.type "object")], 108, "Unfit", true, [], [], false, none, false⟩), #[(some (.ref 100)), none, (some (.str "Unfit" 303)), (some (.str "Unfit" 311)), (some (.builtin "ValueError.__new__")), (some (.bool true))]⟩, ⟨(.type "super"), none, (.fields #[(.ref 109), (.ref 109), (.ref 109)]), #[]⟩, ⟨(.type "builtin_function_or_method"), none, (.fields #[(.builtin "object.__init_subclass__"), (.ref 109)]), #[]⟩], [("Unfit", 318, .ref 109)], ll 16 105⟩, ⟨112, [0, 7, 8, 9], fun P => [tu #[(.ref 24)], ⟨(.type "builtin_function_or_method"), none, (.fields #[(.builtin "type.__prepare__"), (.type "type")]), #[]⟩, ⟨(.type "dict"), none, (.dict #[en P "__module__" 326 (.str "boardglue.errors" 187), en P "__qualname__" 328 (.str "TooMany" 327), en P "__firstlineno__" 330 (.int (18) 329), en P "__static_attributes__" 331 (.ref 119)] 4), #[]⟩, o0, o1, cO "TooMany" 321 "TooMany" 322 323 18 0 0 0 0 (R 115) false 181 (R 116) .none .none .none .none 324 18 325, ⟨(.type "frame"), none, .plain, #[(some (.ref 117)), (some (.ref 3)), (some (.ref 114)), none, (some (.str "boardglue.errors" 187)), none, (some (.ref 0))]⟩, o0, ⟨(.type "dict"), none, (.dict #[en P "__module__" 326 (.str "boardglue.errors" 187), en P "__firstlineno__" 330 (.int (18) 329), en P "__static_attributes__" 331 (.ref 119), en P "__doc__" 332 .none] 2), #[]⟩, ⟨(.type "type"), none, (.cls ⟨"TooMany", [(.ref 24)], [(.ref 121), (.ref 24), (.type "ValueError"), (.type "Exception"), (.type "BaseException"), (.type "object")], 120, "TooMany", true, [], [], false, none, false⟩), #[(some (.ref 112)), none, (some (.str "TooMany" 319)), (some (.str "TooMany" 327)), (some (.builtin "ValueError.__new__")), (some (.bool true))]⟩, ⟨(.type "super"), none, (.fields #[(.ref 121), (.ref 121), (.ref 121)]), #[]⟩, ⟨(.type "builtin_function_or_method"), none, (.fields #[(.builtin "object.__init_subclass__"), (.ref 121)]), #[]⟩], [("TooMany", 334, .ref 121)], ll 18 117⟩, ⟨124, [0, 7, 8, 9], fun P => [tu #[(.ref 24)], ⟨(.type "builtin_function_or_method"), none, (.fields #[(.builtin "type.__prepare__"), (.type "type")]), #[]⟩, ⟨(.type "dict"), none, (.dict #[en P "__module__" 342 (.str "boardglue.errors" 187), en P "__qualname__" 344 (.str "NoRow" 343), en P "__firstlineno__" 346 (.int (20) 345), en P "__static_attributes__" 347 (.ref 131)] 4), #[]⟩, o0, o1, cO "NoRow" 337 "NoRow" 338 339 20 0 0 0 0 (R 127) false 181 (R 128) .none .none .none .none 340 20 341, ⟨(.type "frame"), none, .plain, #[(some (.ref 129)), (some (.ref 3)), (some (.ref 126)), none, (some (.str "boardglue.errors" 187)), none, (some (.ref 0))]⟩, o0, ⟨(.type "dict"), none, (.dict #[en P "__module__" 342 (.str "boardglue.errors" 187), en P "__firstlineno__" 346 (.int (20) 345), en P "__static_attributes__" 347 (.ref 131), en P "__doc__" 348 .none] 2), #[]⟩, ⟨(.type "type"), none, (.cls ⟨"NoRow", [(.ref 24)], [(.ref 133), (.ref 24), (.type "ValueError"), (.type "Exception"), (.type "BaseException"), (.type "object")], 132, "NoRow", true, [], [], false, none, false⟩), #[(some (.ref 124)), none, (some (.str "NoRow" 335)), (some (.str "NoRow" 343)), (some (.builtin "ValueError.__new__")), (some (.bool true))]⟩, ⟨(.type "super"), none, (.fields #[(.ref 133), (.ref 133), (.ref 133)]), #[]⟩, ⟨(.type "builtin_function_or_method"), none, (.fields #[(.builtin "object.__init_subclass__"), (.ref 133)]), #[]⟩], [("NoRow", 350, .ref 133)], ll 20 129⟩, ⟨136, [0, 7, 8, 9], fun P => [tu #[(.ref 24)], ⟨(.type "builtin_function_or_method"), none, (.fields #[(.builtin "type.__prepare__"), (.type "type")]), #[]⟩, ⟨(.type "dict"), none, (.dict #[en P "__module__" 358 (.str "boardglue.errors" 187), en P "__qualname__" 360 (.str "Apart" 359), en P "__firstlineno__" 362 (.int (22) 361), en P "__static_attributes__" 363 (.ref 143)] 4), #[]⟩, o0, o1, cO "Apart" 353 "Apart" 354 355 22 0 0 0 0 (R 139) false 181 (R 140) .none .none .none .none 356 22 357, ⟨(.type "frame"), none, .plain, #[(some (.ref 141)), (some (.ref 3)), (some (.ref 138)), none, (some (.str "boardglue.errors" 187)), none, (some (.ref 0))]⟩, o0, ⟨(.type "dict"), none, (.dict #[en P "__module__" 358 (.str "boardglue.errors" 187), en P "__firstlineno__" 362 (.int (22) 361), en P "__static_attributes__" 363 (.ref 143), en P "__doc__" 364 .none] 2), #[]⟩, ⟨(.type "type"), none, (.cls ⟨"Apart", [(.ref 24)], [(.ref 145), (.ref 24), (.type "ValueError"), (.type "Exception"), (.type "BaseException"), (.type "object")], 144, "Apart", true, [], [], false, none, false⟩), #[(some (.ref 136)), none, (some (.str "Apart" 351)), (some (.str "Apart" 359)), (some (.builtin "ValueError.__new__")), (some (.bool true))]⟩, ⟨(.type "super"), none, (.fields #[(.ref 145), (.ref 145), (.ref 145)]), #[]⟩, ⟨(.type "builtin_function_or_method"), none, (.fields #[(.builtin "object.__init_subclass__"), (.ref 145)]), #[]⟩], [("Apart", 366, .ref 145)], ll 22 141⟩, ⟨148, [0], fun _ => [tu #[(.int (0) 369), (.int (0) 370), (.int (1) 371)]], [("NOUGHT", 372, .ref 148)], []⟩, ⟨0, [], fun _ => [], [("GREAT_BITS", 374, (.int (8192) 373))], []⟩, ⟨0, [], fun _ => [], [("HEAD_BITS", 376, (.int (64) 375))], []⟩, F 16 149 377 m0m, F 17 156 384 m0m, F 18 163 394 m0m, F 19 170 404 m0m, F 20 177 417 m0m, Dv 21 185 427 m0m [(.int (0) 425), (.int (1) 426)], Dv 22 193 438 m0m [(.int (1) 437)], F 23 200 447 m0m, F 24 207 454 m0m, F 25 214 463 m0m, F 26 221 472 m0m, Q 28 228 483 m1m, F 29 233 489 m1m, F 30 240 497 m1m, ⟨0, [], fun _ => [], [("FIGURES", 508, (.str "0123456789" 507))], []⟩, ⟨0, [], fun _ => [], [("PARTING", 510, (.str "; " 509))], []⟩, ⟨0, [], fun _ => [], [("PIECE_FIGURES", 512, (.int (18) 511))], []⟩, ⟨0, [], fun _ => [], [("PIECE", 514, (.int (1000000000000000000) 513))], []⟩, F 36 247 515 m2m, F 37 254 524 m2m, F 38 261 533 m2m, F 39 268 542 m2m, F 40 275 553 m2m, Q 41 282 563 m2m, Q 42 287 569 m2m, F 43 292 575 m2m, F 44 299 583 m2m, F 45 306 592 m2m, F 46 313 601 m2m, F 47 320 611 m2m, F 48 327 621 m2m, Q 49 334 631 m2m, F 51 339 639 m3m, F 52 346 647 m3m, F 53 353 655 m3m, F 54 360 663 m3m, F 55 367 671 m3m, F 56 374 682 m3m, F 57 381 689 m3m, F 58 388 700 m3m, F 59 395 711 m3m, F 60 402 722 m3m, F 61 409 734 m3m, F 62 416 745 m3m, F 63 423 759 m3m, F 64 430 769 m3m]
def o4 (P : Params) : Obj := ⟨.type "dict", none, .dict ⟨[en P "__name__" 165 (.str "law_boardglue_k26_no_heap" 637), en P "__doc__" 166 .none, en P "__package__" 167 .none, en P "__loader__" 168 (.builtin "__main__.__loader__#opaque"), en P "__spec__" 169 .none, en P "__annotations__" 170 (.ref 6), en P "__builtins__" 171 (.ref 4), en P "__file__" 173 (cp 172), en P "__cached__" 174 .none] ++ (ops.flatMap (·.d)).map fun x => ⟨PyData.keyHash P x.1, .str x.1 x.2.1, x.2.2⟩⟩ 69, #[]⟩
def ob (P : Params) : List Obj := [(boot_o_0 P), (boot_o_1 P), (boot_o_2 P), o4 P, (boot_o_4 P), (boot_o_5 P), (boot_o_6 P), (boot_o_7 P), (boot_o_8 P), (boot_o_9 P), (boot_o_10 P), (o0), ⟨.none, none, .fields ⟨ops.flatMap (·.l)⟩, #[]⟩, (o2), (o3)] ++ ops.flatMap (·.os P)
noncomputable def ev (l : List Obj) : Bool → List Obj := List.rec (fun _ => []) (fun x _ h b => bif b then x :: h false else h true) l
noncomputable def tr (n : Nat) : List Obj → BT := Nat.rec (fun _ => .nil) (fun _ h l => match l with | [] => .nil | x :: r => .node x (h (ev r true)) (h (ev r false))) n
def T1 (P : Params) : BT := tr 12 (ob P)
theorem pc0' (w : World) : (fun os => PySem.W.Fast.tw10110043849684766642 PySem.W.Fast.tw14364793385576792824 p w m0 ann (nat_lit 1) (nat_lit 3739) (⟨T0 w.params, nat_lit 15, lf0, ⟨[]⟩, dr1, nat_lit 187, os⟩ : SharedT) (PySem.W.piecesOf ((b.drop 0).take 65) env cE ⟨0, 0, 0, 0⟩ B)) = fun os => some (Flow.next, (⟨T1 w.params, nat_lit 437, lf0, ⟨[]⟩, dr1, nat_lit 783, os⟩ : SharedT), cE, ⟨284, 0, 296, 104⟩) := by kernel_rfl
theorem pc0 (w : World) (os : OsState) : segRun treeTable p w m0 ann (nat_lit 1) (nat_lit 3739) (SharedT.abs (⟨T0 w.params, nat_lit 15, lf0, ⟨[]⟩, dr1, nat_lit 187, os⟩ : SharedT)) (piecesOf ((b.drop 0).take 65) env cE ⟨0, 0, 0, 0⟩ B) = some (Flow.next, SharedT.abs (⟨T1 w.params, nat_lit 437, lf0, ⟨[]⟩, dr1, nat_lit 783, os⟩ : SharedT), cE, ⟨284, 0, 296, 104⟩) := by
  refine segRun_of ?_
  rw [PySem.W.Fast.te10110043849684766642, PySem.W.Fast.te14364793385576792824]
  exact congrFun (pc0' w) os
def H1 (P : Params) : Heap := ⟨⟨ob P⟩, lf0⟩
theorem fin' (w : World) : (fun os => PySem.W.Fast.tw14082659384304107361 PySem.W.Fast.tw14364793385576792824 p w m0 ann (nat_lit 2) (SharedT.abs (⟨T1 w.params, nat_lit 437, lf0, ⟨[]⟩, dr1, nat_lit 783, os⟩ : SharedT)) (Thread.mk (PySem.W.doneF Flow.next) cE ⟨284, 0, 296, 104⟩ B)) = fun os => some (⟨H1 w.params, ⟨[]⟩, dr1, nat_lit 783, os⟩ : Shared) := by kernel_rfl
theorem fin (w : World) (os : OsState) : topRun treeTable p w m0 ann (nat_lit 2) (SharedT.abs (⟨T1 w.params, nat_lit 437, lf0, ⟨[]⟩, dr1, nat_lit 783, os⟩ : SharedT)) (Thread.mk (doneF Flow.next) cE ⟨284, 0, 296, 104⟩ B) = some (⟨H1 w.params, ⟨[]⟩, dr1, nat_lit 783, os⟩ : Shared) := by
  rw [PySem.W.Fast.te14082659384304107361, PySem.W.Fast.te14364793385576792824]
  exact congrFun (fin' w) os
def as : List Addr := [2, 3] ++ ops.flatMap fun x => x.ks.map (x.e + ·)
def K (P : Params) : Frag := [(2, boot_o_2 P), (3, o4 P)] ++ ops.flatMap fun x => x.ks.map fun k => (x.e + k, (x.os P).getD k o0)
theorem asK (P : Params) : as = (K P).map (·.1) := by kernel_rfl
theorem at_ {w : World} {n N : Nat} {s s' r : Shared} {i k : Nat} {pos p' : Pos} (h : segRun treeTable p w m0 ann 1 n s (piecesOf ((b.drop i).take k) env cE pos B) = some (.next, s', cE, p')) (g : topRun treeTable p w m0 ann N s' (restOf (b.drop (i + k)) env cE p' B) = some r) : topRun treeTable p w m0 ann (n + N) s (restOf (b.drop i) env cE pos B) = some r := by
  have z := piece_app h g
  rwa [← List.drop_drop, List.take_append_drop] at z
theorem bend : b.drop 65 = [] := by kernel_rfl
theorem run (w : World) (os : OsState) : topRun treeTable p w m0 ann (12 + (1 + (3739 + 2))) (⟨boot_heap w.params, ⟨[]⟩, boot_drawn, boot_toks, os⟩ : Shared) (topStub p) = some (⟨H1 w.params, ⟨[]⟩, dr1, nat_lit 783, os⟩ : Shared) := go_top (pre w os) (piece_block (blk w os) (show topRun treeTable p w m0 ann _ _ (restOf (b.drop 0) env cE _ B) = _ from (at_ (i := 0) (k := 65) (pc0 w os) (by rw [show b.drop 65 = [] from bend]; exact piece_nil (fin w os)))))
theorem size (w : World) : ((boot_heap w.params).isNs mainGlobals && (⟨[]⟩ : Array GenState).size == 0, (boot_heap w.params).objs.size, (boot_heap w.params).nsMap mainGlobals "__annotations__") = (true, m0, ann) := by kernel_rfl
def qv : Program := view p [64]
def loose : List Str := ((ops.flatMap (·.d)).map (·.1)).dropLast
def Xt (s : Shared) : Bool := xlAt qv [] s && recOk [] s
def Yf (s : Shared) : List (Option Obj) := as.map s.heap.get?
def Ya (w : World) : List (Option Obj) := (K w.params).map fun p => some p.2
theorem looks1 (w : World) : (fun os : OsState => (staticsOk (importedModules p.main.body) (boot_heap w.params) (H1 w.params) && namesBound p (H1 w.params) && gensDone (⟨H1 w.params, ⟨[]⟩, dr1, nat_lit 783, os⟩ : Shared) && laidKept (boot_heap w.params) (H1 w.params))) = fun _ => true := by kernel_rfl
theorem looks2 (w : World) : (fun os : OsState => openSeen qv loose (importedModules p.main.body) Xt true (⟨H1 w.params, ⟨[]⟩, dr1, nat_lit 783, os⟩ : Shared)) = fun _ => openGood qv loose := by kernel_rfl
theorem looks3 (w : World) : (fun os : OsState => Yf (⟨H1 w.params, ⟨[]⟩, dr1, nat_lit 783, os⟩ : Shared)) = fun _ => Ya w := by kernel_rfl
theorem left : LeftO p qv loose Xt Yf Ya 7602 := by
  refine LeftO.of_pieces (H₀ := boot_heap) (H₁ := H1) (gs₀ := ⟨[]⟩) (gs₁ := ⟨[]⟩) (d₀ := boot_drawn) (d₁ := dr1) (k₀ := boot_toks) (k₁ := nat_lit 783) (m₀ := m0) (ann := ann) (M := (12 + (1 + (3739 + 2)))) (boot_open (by kernel_rfl) (by decide) (fun s => by kernel_rfl)) size run (by decide) (fun w => funext fun os => ?_)
  exact looks_pair (congrFun (looks1 w) os) (looks_pair (congrFun (looks2 w) os) (congrFun (looks3 w) os))
end Hd
end
local macro_rules | `(tactic| omega) => `(tactic| first | lia | omega +splitNatSub)
namespace L2
open PySem PySem.Spec PyProof.Rows
end L2
namespace L2
open PySem PySem.Spec PyProof.Rows
end L2
namespace L2
open PySem PySem.Spec PyProof.Rows
end L2
namespace L2
open PySem PySem.Spec PyProof.Rows
end L2
namespace L2
open PySem PySem.Spec PyProof.Rows
end L2
namespace L2
open PySem PySem.Spec PyProof.Rows
end L2
namespace L2
open PySem PySem.Spec PyProof.Rows
end L2
namespace L2
open PySem PySem.Spec PyProof.Rows
end L2
namespace L2
open PySem PySem.Spec PyProof.Rows
end L2
namespace L2
open PySem PySem.Spec PyProof.Rows
end L2
namespace L2
open PySem PySem.Spec PyProof.Rows
section
variable {κ : Type} [DecidableEq κ]
end
section
variable {P : Program} {w : World} {H : Hp} {h : Heap} {a : Addr}
end
section
variable {X : Cx} {pins : List (Addr × Obj)} {σ : St} {H : Hp} {s : Shared} {a : Addr} {y v : V} {u r : Value} {o : Option V} {A : Around} {E : Value → Shared → Prop}
end
section
variable {X : Cx} {pins : List (Addr × Obj)} {σ : St} {H : Hp} {s : Shared} {a : Addr} {kvs : List (Key × V)} {k : Key} {u : Value} {A : Around} {E : Value → Shared → Prop}
end
section
variable {X : Cx} {o i e value : Expr} {pos pos' tpos : Pos} {td ty tv : TE}
end
section
variable {X : Cx} {pos : Pos}
end
section
variable {X : Cx} {pins : List (Addr × Obj)} {σ : St} {H : Hp} {s : Shared} {a : Addr} {y d : V} {u r : Value} {o : Option V} {A : Around} {E : Value → Shared → Prop}
end
section
variable {X : Cx} {o e f : Expr} {apos cpos : Pos} {td ty tx : TE}
end
section
variable {X : Cx} {pins : List (Addr × Obj)} {σ : St} {H : Hp} {s : Shared} {a : Addr} {kvs : List (Key × V)} {A : Around} {E : Value → Shared → Prop}
end
section
variable {X : Cx} {pins : List (Addr × Obj)} {σ : St} {H : Hp} {s : Shared} {a : Addr} {y : V} {u : Value} {A : Around} {E : Value → Shared → Prop}
end
end L2
namespace Att
open PySem PySem.W PySem.Calls PyProof.Rows
end Att
namespace L2
open PySem PySem.Spec PyProof.Rows
end L2
namespace L2
open PySem PySem.Spec PyProof.Rows
end L2
namespace L2
open PySem PySem.Spec PyProof.Rows
section
variable {X : Cx}
end
section
variable {κ : Type} [DecidableEq κ]
end
end L2
namespace Bg
theorem gcd_fmod (a b : Int) : Int.gcd b (a.fmod b) = Int.gcd a b := by
  rw [Int.fmod_def, Int.mul_comm, Int.gcd_sub_mul_right_right, Int.gcd_comm]
theorem gcd_emod (a b : Int) : Int.gcd b (a % b) = Int.gcd a b := by
  rw [Int.emod_def, Int.mul_comm, Int.gcd_sub_mul_right_right, Int.gcd_comm]
theorem fmod_lt {a b : Int} (h : b ≠ 0) : (a.fmod b).natAbs < b.natAbs := by
  rw [Int.fmod_eq_emod]
  have h1 := Int.emod_nonneg a h
  have h2 := Int.emod_lt a h
  by_cases c : 0 ≤ b ∨ b ∣ a
  · rw [if_pos c]; omega
  · rw [if_neg c]
    have hb : b < 0 := by
      rcases Int.lt_or_le b 0 with z | z
      · exact z
      · exact absurd (Or.inl z) c
    have hd : ¬ b ∣ a := fun z => c (Or.inr z)
    have hn : a % b ≠ 0 := fun z => hd (Int.dvd_of_emod_eq_zero z)
    omega
def Bd (k : Nat) (x : Int) : Prop := x.natAbs < 2 ^ k
instance {k : Nat} {x : Int} : Decidable (Bd k x) := inferInstanceAs (Decidable (x.natAbs < 2 ^ k))
theorem Bd.mono {j k : Nat} {x : Int} (h : Bd j x) (l : j ≤ k) : Bd k x := Nat.lt_of_lt_of_le h (Nat.pow_le_pow_right (by decide) l)
theorem Bd.neg {k : Nat} {x : Int} (h : Bd k x) : Bd k (-x) := by unfold Bd at *; rw [Int.natAbs_neg]; exact h
theorem Bd.mul {j k : Nat} {x y : Int} (h : Bd j x) (g : Bd k y) : Bd (j + k) (x * y) := by
  unfold Bd at *
  rw [Int.natAbs_mul, Nat.pow_add]
  exact Nat.mul_lt_mul_of_lt_of_lt h g
theorem Bd.add {k : Nat} {x y : Int} (h : Bd k x) (g : Bd k y) : Bd (k + 1) (x + y) := by
  unfold Bd at *
  rw [Nat.pow_succ]
  omega
theorem Bd.sub {k : Nat} {x y : Int} (h : Bd k x) (g : Bd k y) : Bd (k + 1) (x - y) := by
  unfold Bd at *
  rw [Nat.pow_succ]
  omega
theorem Bd.of_le {k : Nat} {x y : Int} (h : Bd k y) (l : x.natAbs ≤ y.natAbs) : Bd k x := Nat.lt_of_le_of_lt l h
theorem Bd.abs {k : Nat} {x : Int} (h : Bd k x) : Bd k (if x < 0 then -x else x) := by
  split
  · exact h.neg
  · exact h
theorem natAbs_fdiv_le (a b : Int) : (a.fdiv b).natAbs ≤ a.natAbs := by
  by_cases hb : b = 0
  · subst hb; simp
  have key : ∀ a b : Int, 0 < b → (a.fdiv b).natAbs ≤ a.natAbs := fun a b hb => by
    rw [Int.fdiv_eq_ediv_of_nonneg a (by omega)]
    have h1 : b * (a / b) + a % b = a := Int.mul_ediv_add_emod a b
    have h2 := Int.emod_nonneg a (show b ≠ 0 by omega)
    have h3 := Int.emod_lt_of_pos a hb
    rcases Int.lt_or_le (a / b) 0 with q | q
    · have e : a ≤ a / b := by
        have : b * (a / b) ≤ 1 * (a / b) - (b - 1) := by
          have z : (b - 1) * (a / b) ≤ (b - 1) * (-1) := Int.mul_le_mul_of_nonneg_left (by omega) (by omega)
          have z2 : b * (a / b) = (b - 1) * (a / b) + a / b := by rw [Int.sub_mul]; omega
          omega
        omega
      omega
    · have e : a / b ≤ a := by
        have z : 1 * (a / b) ≤ b * (a / b) := Int.mul_le_mul_of_nonneg_right (by omega) q
        omega
      omega
  rcases Int.lt_or_le b 0 with h | h
  · have e : a.fdiv b = (-a).fdiv (-b) := by rw [Int.neg_fdiv_neg]
    rw [e]
    have := key (-a) (-b) (by omega)
    omega
  · exact key a b (by omega)
theorem Bd.fdiv {k : Nat} {x : Int} (h : Bd k x) (y : Int) : Bd k (x.fdiv y) := h.of_le (natAbs_fdiv_le x y)
theorem Bd.log {k : Nat} {x : Int} (h : Bd k x) : x.natAbs.log2 ≤ k := by
  by_cases z : x.natAbs = 0
  · rw [z]; simp
  · exact Nat.le_of_lt ((Nat.log2_lt z).mpr h)
def g3 (a b n : Int) : Nat := Int.gcd (Int.gcd n a) b
def gd (a b n : Int) : Int := if n < 0 then -(g3 a b n : Int) else (g3 a b n : Int)
theorem g3_n (a b n : Int) : (g3 a b n : Int) ∣ n := Int.dvd_trans (Int.gcd_dvd_left ..) (Int.gcd_dvd_left ..)
theorem g3_a (a b n : Int) : (g3 a b n : Int) ∣ a := Int.dvd_trans (Int.gcd_dvd_left ..) (Int.gcd_dvd_right ..)
theorem g3_b (a b n : Int) : (g3 a b n : Int) ∣ b := Int.gcd_dvd_right ..
theorem g3_pos {a b n : Int} (h : n ≠ 0) : 0 < g3 a b n := by
  rcases Nat.eq_zero_or_pos (g3 a b n) with z | z
  · have := g3_n a b n
    rw [z] at this
    exact absurd (Int.zero_dvd.mp (by simpa using this)) h
  · exact z
theorem gd_ne {a b n : Int} (h : n ≠ 0) : gd a b n ≠ 0 := by
  have := g3_pos (a := a) (b := b) h
  unfold gd
  split <;> omega
theorem gd_abs (a b n : Int) : (gd a b n).natAbs = g3 a b n := by
  unfold gd
  split <;> simp
theorem gd_dvd {a b n x : Int} (h : (g3 a b n : Int) ∣ x) : gd a b n ∣ x := by
  unfold gd
  split
  · exact Int.neg_dvd.mpr h
  · exact h
theorem gd_bd {k : Nat} {a b n : Int} (hn : n ≠ 0) (h : Bd k n) : Bd k (gd a b n) := by
  refine h.of_le ?_
  rw [gd_abs]
  exact Nat.le_of_dvd (by omega) (by
    have := Int.natAbs_dvd_natAbs.mpr (g3_n a b n)
    simpa using this)
def lA (a b n : Int) : Int := a.fdiv (gd a b n)
def lB (a b n : Int) : Int := b.fdiv (gd a b n)
def lN (a b n : Int) : Int := n.fdiv (gd a b n)
theorem lA_mul {a b n : Int} : lA a b n * gd a b n = a := Int.fdiv_mul_cancel (gd_dvd (g3_a a b n))
theorem lB_mul {a b n : Int} : lB a b n * gd a b n = b := Int.fdiv_mul_cancel (gd_dvd (g3_b a b n))
theorem lN_mul {a b n : Int} : lN a b n * gd a b n = n := Int.fdiv_mul_cancel (gd_dvd (g3_n a b n))
theorem l_a {a b n : Int} : lA a b n * n = a * lN a b n := by
  have h1 := lA_mul (a := a) (b := b) (n := n)
  have h2 := lN_mul (a := a) (b := b) (n := n)
  calc lA a b n * n = lA a b n * (lN a b n * gd a b n) := by rw [h2]
    _ = lA a b n * gd a b n * lN a b n := by rw [Int.mul_assoc, Int.mul_comm (gd a b n)]
    _ = a * lN a b n := by rw [h1]
theorem l_b {a b n : Int} : lB a b n * n = b * lN a b n := by
  have h1 := lB_mul (a := a) (b := b) (n := n)
  have h2 := lN_mul (a := a) (b := b) (n := n)
  calc lB a b n * n = lB a b n * (lN a b n * gd a b n) := by rw [h2]
    _ = lB a b n * gd a b n * lN a b n := by rw [Int.mul_assoc, Int.mul_comm (gd a b n)]
    _ = b * lN a b n := by rw [h1]
theorem l_n {a b n : Int} (h : n ≠ 0) : 1 ≤ lN a b n := by
  have h2 := lN_mul (a := a) (b := b) (n := n)
  have hp := g3_pos (a := a) (b := b) h
  have hs : 0 < lN a b n := by
    by_cases c : n < 0
    · have e : gd a b n = -(g3 a b n : Int) := if_pos c
      rw [e] at h2
      refine Int.lt_of_not_ge fun z => ?_
      have : 0 ≤ lN a b n * -(g3 a b n : Int) := Int.mul_nonneg_of_nonpos_of_nonpos z (by omega)
      omega
    · have e : gd a b n = (g3 a b n : Int) := if_neg c
      rw [e] at h2
      refine Int.lt_of_not_ge fun z => ?_
      have : lN a b n * (g3 a b n : Int) ≤ 0 := Int.mul_nonpos_of_nonpos_of_nonneg z (by omega)
      omega
  omega
theorem l_gcd {a b n : Int} (h : n ≠ 0) : g3 (lA a b n) (lB a b n) (lN a b n) = 1 := by
  have hp := g3_pos (a := a) (b := b) h
  have e : g3 a b n = g3 (lA a b n) (lB a b n) (lN a b n) * (gd a b n).natAbs := by
    have h1 := lA_mul (a := a) (b := b) (n := n)
    have h2 := lB_mul (a := a) (b := b) (n := n)
    have h3 := lN_mul (a := a) (b := b) (n := n)
    have : g3 (lA a b n * gd a b n) (lB a b n * gd a b n) (lN a b n * gd a b n) = g3 (lA a b n) (lB a b n) (lN a b n) * (gd a b n).natAbs := by
      unfold g3
      rw [Int.gcd_mul_right]
      have e1 : ((Int.gcd (lN a b n) (lA a b n) * (gd a b n).natAbs : Nat) : Int).gcd (lB a b n * gd a b n) = Int.gcd ((Int.gcd (lN a b n) (lA a b n) : Int) * gd a b n) (lB a b n * gd a b n) := by
        rw [Int.gcd_eq_natAbs_gcd_natAbs, Int.gcd_eq_natAbs_gcd_natAbs]
        congr 1
        rw [Int.natAbs_mul, Int.natAbs_natCast, Int.natAbs_natCast]
      rw [e1, Int.gcd_mul_right]
    rw [h1, h2, h3] at this
    exact this
  rw [gd_abs] at e
  have : 1 * g3 a b n = g3 (lA a b n) (lB a b n) (lN a b n) * g3 a b n := by omega
  exact (Nat.eq_of_mul_eq_mul_right hp this).symm
end Bg
namespace L2
open PySem PySem.Spec PyProof.Rows Bg
theorem bits_of {k : Nat} {x : Int} (h : Bd k x) : Builtin.Int.intBits x ≤ k := by
  unfold Builtin.Int.intBits
  split
  · exact Nat.zero_le _
  · rename_i z
    have z' : x ≠ 0 := by simpa using z
    exact (Nat.log2_lt (by omega)).mpr h
theorem Bd.ok {j k : Nat} {x y : Int} (h : Bd j x) (g : Bd k y) (l : j + k ≤ 134217728) : IntMulOk x y := by
  have h1 := bits_of h
  have h2 := bits_of g
  unfold IntMulOk
  have : Builtin.Int.intTooBig (Builtin.Int.intBits x + Builtin.Int.intBits y) = false := by
    unfold Builtin.Int.intTooBig bitsLine
    simp only [decide_eq_false_iff_not, Int.not_lt, gt_iff_lt]
    have : (2 ^ 27 : Nat) = 134217728 := by decide
    omega
  rw [this]
  simp
section
variable {X : Cx}
theorem op_mulB : OpR X (binaryOp .Mult) (rI IntMulOk fun i j => .int (i * j)) := opI fun _ _ _ _ _ _ _ hc q => mul_int q hc
abbrev CFd (_ j : Int) : Prop := j ≠ 0 ∧ j.natAbs.log2 < 9000
abbrev CFp (_ j : Int) : Prop := 0 < j ∧ j.natAbs.log2 < 9000
abbrev CPw (i j : Int) : Prop := 0 ≤ j ∧ (Builtin.Int.intBits i : Int) * j ≤ 2 ^ 27
theorem op_fdivB : OpR X (binaryOp .FloorDiv) (rI CFd fun i j => .int (i.fdiv j)) := opI fun _ _ _ _ _ _ _ hc q => floordiv_int hc.1 q (.inl (PyProof.noPylong_of_log2 hc.2))
theorem op_fdivP : OpR X (binaryOp .FloorDiv) (rI CFp fun i j => .int (i / j)) := opI fun i j _ _ _ _ _ hc q => by
  have h1 : (0 : Int) < j := hc.1
  exact floordiv_int (by omega) (by rw [Int.fdiv_eq_ediv_of_nonneg i (by omega)]; exact q) (.inl (PyProof.noPylong_of_log2 hc.2))
theorem op_powB : OpR X (binaryOp .Pow) (rI CPw fun i j => .int (i ^ j.toNat)) := opI fun _ _ _ _ _ _ _ hc q => pow_int hc.1 hc.2 q
def rIs (K : PySem.W.Frag) : List V → Hp → VK → Prop := fun xs H Q => ∃ x T t b, xs = [x, .ty T] ∧ TyOf K H x t ∧ PySem.W.kitOne K t (.type T) = some b ∧ Q (.bl b) H
theorem call_isinst : CallR X (.builtin "isinstance") (rIs X.K) := by
  intro pins s σ H xs us Q I r h
  obtain ⟨x, T, t, b, rfl, ty, e, q⟩ := h
  obtain ⟨u, c, rfl, ru, rc⟩ := vals2 r
  cases (show c = Value.type T from rc)
  exact isinst_ok I ru ty e fun tk => ⟨.bl b, H, I.tok tk, rfl, q⟩
end
theorem kit_same (K : PySem.W.Frag) (T : String) : PySem.W.kitOne K (.type T) (.type T) = some true := by
  unfold PySem.W.kitOne
  rw [if_pos]
  simp
theorem kit_int_bool (K : PySem.W.Frag) : PySem.W.kitOne K (.type "int") (.type "bool") = some false := by
  unfold PySem.W.kitOne
  rw [if_neg (by decide)]
  show (if PySem.W.kitMeta "bool" = true then PySem.W.subIn K (.type "int") (.type "bool") else none) = some false
  rw [if_pos (by decide +kernel)]
  show (fastBuiltinMro "int").map (·.contains (Value.type "bool")) = some false
  decide +kernel
section
variable {K : PySem.W.Frag} {H : Hp} {Q : VK}
theorem i_is_int {i : Int} (h : Q (.bl true) H) : rIs K [.int i, .ty "int"] H Q := ⟨_, _, _, _, rfl, .int i, kit_same K _, h⟩
theorem i_is_intb {i : Int} (h : Q (.bl false) H) : rIs K [.int i, .ty "bool"] H Q := ⟨_, _, _, _, rfl, .int i, kit_int_bool K, h⟩
theorem i_is_tup {a : Addr} {xs : List V} (e : H a = some (.tup xs)) (h : Q (.bl true) H) : rIs K [.ref a, .ty "tuple"] H Q := ⟨_, _, _, _, rfl, .tup e, kit_same K _, h⟩
end
def Own (P : Program) (w : World) (K : PySem.W.Frag) (mg : Str → Option Value) (base : Heap) (k : Nat) (x : Str) (ps : List Str) (dvs : List V) (sp : Sp) : Prop :=
  ∃ (f : Addr) (fd : FuncData) (ds : List Value), FnOk P w K mg base CX0 k f fd ps sp ∧ mg x = some (.ref f) ∧ PySem.W.keepIn K (.ref f) = true ∧ Binds K fd ps ds ∧ Vals dvs ds
theorem pe_own {X : Cx} {k j : Nat} {x : Str} {ps : List Str} {dvs : List V} {sp : Sp} {p pos : Pos} {e : Expr} {es : List Expr} {t : TA} (O : Own X.prog X.w X.K X.mg X.base k x ps dvs sp) (hr : Room j X.A) (hg : Gl X x)
    (ha : PA X (e :: es) t) (hk : k ≤ j := by decide) (hdb : (x == ("__debug__" : Str)) = false := by decide) (he : starEach (e :: es) X.env = (false, eval e X.env) :: starEach es X.env := by rfl) (hpl : (backTo pos (starEach es X.env)).any (·.1) = false := by rfl) :
    PE X (.Call (.Name x p) (e :: es) [] pos) (tCall sp dvs E0 t) := by
  obtain ⟨f, fd, ds, F, hm, kp, hb, hd⟩ := O
  exact pe_call F (hr.mono hk) hg hm kp hb hd pass0 ha hdb he hpl
structure FunD (K : PySem.W.Frag) (x qual : Str) (st : Stmt) (f : Addr) (fd : FuncData) (its : List Value) : Prop where
  ex : ∃ (oc : Value) (od : Option Addr) (T : Addr) (kV doc pm : Value) (an : Option Addr) (cdv ct : Value) (osl : Array (Option Value)) (to : Obj) (n : Nat),
    fd = PySem.W.fnOf x qual (defArgs st) (defBody st) (defScope st) (.ref T) kV doc pm an cdv ct ∧ K.lookup f = some ⟨oc, od, .func fd, osl⟩ ∧ PySem.W.codeIn K cdv qual = true ∧ K.lookup T = some to ∧ to.data = .seq its.toArray n
  kp : PySem.W.keepIn K (.ref f) = true
section
variable {P : Program} {w : World} {K : PySem.W.Frag} {mg : Str → Option Value} {base : Heap}
theorem FunD.ok {x qual : Str} {st : Stmt} {f : Addr} {fd : FuncData} {its : List Value} {N ps : List Str} {k : Nat} {sp : Sp} (F : FunD K x qual st f fd its) (S : FnScope N ps (defScope st)) (len : ∀ vs H Q E, sp vs H Q E → vs.length = ps.length)
    (hbody : ∀ (cdv : Value) (A : Around) (outer : List Env) (s : Shared) (H : Hp) (vs : List V) (Q : VK) (E : XK), Room k (A.deeper (envOfC qual (defScope st) s.heap.objs.size f cdv)) → sp vs H Q E →
      ∃ t, PSs (cxOf CX0 P w K mg base N qual (defScope st) f cdv A outer s H E).nox (defBody st) t ∧ t { nx := fun _ H' => Q .non H', rt := Q } (start N vs) H) : FnOk P w K mg base CX0 (k + 1) f fd ps sp := by
  obtain ⟨oc, od, T, kV, doc, pm, an, cdv, ct, osl, to, n, rfl, lk, hcd, _⟩ := F.ex
  refine fn_of lk hcd S len fun A outer s H vs Q E hr hsp => ?_
  obtain ⟨t, h, q⟩ := hbody cdv A outer s H vs Q E hr hsp
  exact ⟨t, h.nox, q⟩
end
def Top (K : PySem.W.Frag) (mg : Str → Option Value) (x : Str) (st : Stmt) : Prop := ∃ (f : Addr) (fd : FuncData), Fun K x x st f fd ∧ mg x = some (.ref f)
def TopD (K : PySem.W.Frag) (mg : Str → Option Value) (x : Str) (st : Stmt) (its : List Value) : Prop := ∃ (f : Addr) (fd : FuncData), FunD K x x st f fd its ∧ mg x = some (.ref f)
theorem top_mk {K : PySem.W.Frag} {h : Heap} {mg : Str → Option Value} {x : Str} {st : Stmt} {f : Addr} {oc : Value} {od an : Option Addr} {osl : Array (Option Value)} {kV doc pm cdv ct : Value} (X : K.In h) (G : h.Ns mainGlobals mg)
    (a : PySem.W.nsIn K mainGlobals x = some (some (.ref f))) (l : K.lookup f = some ⟨oc, od, .func (PySem.W.fnOf x x (defArgs st) (defBody st) (defScope st) .none kV doc pm an cdv ct), osl⟩)
    (c : PySem.W.codeIn K cdv x = true) (k : PySem.W.keepIn K (.ref f) = true) : Top K mg x st := ⟨f, _, fun_mk l c k, PySem.W.mg_of X G a⟩
theorem topD_mk {K : PySem.W.Frag} {h : Heap} {mg : Str → Option Value} {x : Str} {st : Stmt} {f T : Addr} {oc : Value} {od an : Option Addr} {osl : Array (Option Value)} {kV doc pm cdv ct : Value} {its : List Value} {n : Nat} {to : Obj} (X : K.In h) (G : h.Ns mainGlobals mg)
    (a : PySem.W.nsIn K mainGlobals x = some (some (.ref f))) (l : K.lookup f = some ⟨oc, od, .func (PySem.W.fnOf x x (defArgs st) (defBody st) (defScope st) (.ref T) kV doc pm an cdv ct), osl⟩)
    (c : PySem.W.codeIn K cdv x = true) (k : PySem.W.keepIn K (.ref f) = true) (t : K.lookup T = some to) (d : to.data = .seq its.toArray n) : TopD K mg x st its := ⟨f, _, ⟨⟨oc, od, T, kV, doc, pm, an, cdv, ct, osl, _, n, rfl, l, c, t, d⟩, k⟩, PySem.W.mg_of X G a⟩
theorem Top.own {P : Program} {w : World} {K : PySem.W.Frag} {mg : Str → Option Value} {base : Heap} {k : Nat} {x : Str} {st : Stmt} {ps : List Str} {sp : Sp} (T : Top K mg x st)
    (hb : ∀ (kV doc pm : Value) (an : Option Addr) (cdv ct : Value) (us : List Value), us.length = ps.length → bindArgs (PySem.W.fnOf x x (defArgs st) (defBody st) (defScope st) .none kV doc pm an cdv ct) ⟨us, []⟩ = pure (ps.zip us))
    (h : ∀ f fd, Fun K x x st f fd → FnOk P w K mg base CX0 k f fd ps sp) : Own P w K mg base k x ps [] sp := by
  obtain ⟨f, fd, F, m⟩ := T
  exact ⟨f, fd, [], h f fd F, m, F.kp, F.binds hb, .nil⟩
def NewL (xs : List V) (H : Hp) (Q : VK) : Prop := xs.length ≤ sizeLine ∧ ∀ p, H p = none → Q (.ref p) (upd H p (.lst xs))
def NewT (xs : List V) (H : Hp) (Q : VK) : Prop := xs.length ≤ sizeLine ∧ ∀ p, H p = none → Q (.ref p) (upd H p (.tup xs))
def rLen (K : PySem.W.Frag) : List V → Hp → VK → Prop := fun xs H Q => ∃ p ys, xs = [.ref p] ∧ (SqL K H p ys ∨ SqT K H p ys) ∧ Q (.int ys.length) H
def rAbs : List V → Hp → VK → Prop := fun xs H Q => ∃ i, xs = [.int i] ∧ Q (.int (if i < 0 then -i else i)) H
def rInt : List V → Hp → VK → Prop := fun xs H Q => (∃ i, xs = [.int i] ∧ Q (.int i) H) ∨ ∃ k, xs = [.bl k] ∧ Q (.int (if k then 1 else 0)) H
theorem call_lenR {X : Cx} : CallR X (.builtin "len") (rLen X.K) := call_len_seq
theorem call_absR {X : Cx} : CallR X (.builtin "abs") rAbs := call_abs
theorem call_intR {X : Cx} : CallR X (.type "int") rInt := call_int1
section
variable {σ : St} {H : Hp} {Q : VK} {B : Bool → Hp → Prop} {D : Ends} {K : PySem.W.Frag}
theorem i_next (h : D.nx σ H) : tNext D σ H := h
theorem i_asg {te : TE} {g : TG} (h : te σ H fun x H1 => g x σ H1 D.nx) : tAsg te g D σ H := h
theorem i_gname {i : Nat} {v : V} {R : St → Hp → Prop} (h : R (σ.set i (some v)) H) : gName i v σ H R := h
theorem i_ret {te : TE} (h : te σ H D.rt) : tRet te D σ H := h
theorem i_drop {te : TE} (h : te σ H fun _ H1 => D.nx σ H1) : tDrop te D σ H := h
theorem i_ifS {c : TT} {t u : TS} (h : c σ H fun b H1 => if b = true then t D σ H1 else u D σ H1) : tIfS c t u D σ H := h
theorem i_var {i : Nat} {v : V} (e : σ[i]? = some (some v)) (h : Q v H) : tVar i σ H Q := ⟨v, e, h⟩
theorem i_c {v : V} (h : Q v H) : tC v σ H Q := h
theorem i_op {r : R2} {ta tb : TE} (h : ta σ H fun x H1 => tb σ H1 fun y H2 => r x y H2 Q) : tOp r ta tb σ H Q := h
theorem i_un {r : V → Hp → VK → Prop} {ta : TE} (h : ta σ H fun x H1 => r x H1 Q) : tUn r ta σ H Q := h
theorem i_I0 {g : Int → Int → V} {i j : Int} (h : Q (g i j) H) : rI0 g (.int i) (.int j) H Q := ⟨i, j, rfl, rfl, h⟩
theorem i_I {C : Int → Int → Prop} {g : Int → Int → V} {i j : Int} (h : Q (g i j) H) (c : C i j) : rI C g (.int i) (.int j) H Q := ⟨i, j, rfl, rfl, c, h⟩
theorem i_U {g : Int → V} {i : Int} (h : Q (g i) H) : rU g (.int i) H Q := ⟨i, rfl, h⟩
theorem i_eqI {i j : Int} (h : Q (.bl (decide (i = j))) H) : rEq (.int i) (.int j) H Q := ⟨rfl, by
  have e : decide (V.int i = V.int j) = decide (i = j) := by rw [dec_int]; exact Bool.beq_eq_decide_eq i j
  rw [e]; exact h⟩
theorem i_neI {i j : Int} (h : Q (.bl (!decide (i = j))) H) : rNe (.int i) (.int j) H Q := ⟨rfl, by
  have e : decide (V.int i = V.int j) = decide (i = j) := by rw [dec_int]; exact Bool.beq_eq_decide_eq i j
  rw [e]; exact h⟩
theorem i_eqB {i j : Bool} (h : Q (.bl (decide (i = j))) H) : rEq (.bl i) (.bl j) H Q := ⟨rfl, by
  have e : decide (V.bl i = V.bl j) = decide (i = j) := by rw [dec_bl]; cases i <;> cases j <;> rfl
  rw [e]; exact h⟩
theorem i_test {t : TE} (h : t σ H fun x H' => ∃ k, x = .bl k ∧ B k H') : tTest t σ H B := h
theorem i_tB {t : TE} (h : t σ H fun x H' => ∃ k, x = .bl k ∧ B k H') : tB t σ H B := h
theorem i_bl {k : Bool} {R : Bool → Prop} (h : R k) : ∃ k', V.bl k = .bl k' ∧ R k' := ⟨k, rfl, h⟩
theorem i_and {t u : TT} (h : t σ H fun c H1 => if c = true then u σ H1 B else B false H1) : tAnd t u σ H B := h
theorem i_or {t u : TT} (h : t σ H fun c H1 => if c = true then B true H1 else u σ H1 B) : tOr t u σ H B := h
theorem i_not {t : TT} (h : t σ H fun c H1 => B (!c) H1) : tNot t σ H B := h
theorem i_andV {t u : TE} (h : t σ H fun x H1 => ∃ c, x = .bl c ∧ if c = true then u σ H1 Q else Q (.bl false) H1) : tAndV t u σ H Q := h
theorem i_orV {t u : TE} (h : t σ H fun x H1 => ∃ c, x = .bl c ∧ if c = true then Q (.bl true) H1 else u σ H1 Q) : tOrV t u σ H Q := h
theorem i_notV {t : TE} (h : t σ H fun x H1 => ∃ c, x = .bl c ∧ Q (.bl (!c)) H1) : tNotV t σ H Q := h
theorem i_ifE {c : TT} {ta tb : TE} (h : c σ H fun b H1 => if b = true then ta σ H1 Q else tb σ H1 Q) : tIf c ta tb σ H Q := h
theorem i_nil {R : List V → Hp → Prop} (h : R [] H) : tNil σ H R := h
theorem i_cons {ta : TE} {tr : TA} {R : List V → Hp → Prop} (h : ta σ H fun x H1 => tr σ H1 fun xs H2 => R (x :: xs) H2) : tCons ta tr σ H R := h
theorem i_call {sp : Sp} {dvs : List V} {E : XK} {t : TA} (h : t σ H fun vs H1 => sp (vs ++ dvs) H1 Q E) : tCall sp dvs E t σ H Q := h
theorem i_cb {r : List V → Hp → VK → Prop} {t : TA} (h : t σ H fun vs H1 => r vs H1 Q) : tCB r t σ H Q := h
theorem i_tup {t : TA} (h : t σ H fun xs H1 => NewT xs H1 Q) : tTup t σ H Q := h
theorem i_lst {t : TA} (h : t σ H fun xs H1 => NewL xs H1 Q) : tLst t σ H Q := h
theorem small_le {n : Nat} (h : n ≤ 1000) : n ≤ sizeLine := Nat.le_of_lt (small1000 h)
theorem i_ixT {p : Addr} {xs : List V} {i : Int} {v : V} (h : H p = some (.tup xs)) (e : atI xs i = some v) (q : Q v H) : rIxT K (.ref p) (.int i) H Q := ⟨p, xs, i, v, rfl, rfl, SqT.of h, e, q⟩
theorem i_ixL {p : Addr} {xs : List V} {i : Int} {v : V} (h : H p = some (.lst xs)) (e : atI xs i = some v) (q : Q v H) : rIxL K (.ref p) (.int i) H Q := ⟨p, xs, i, v, rfl, rfl, SqL.of h, e, q⟩
theorem i_lenT {p : Addr} {xs : List V} (h : H p = some (.tup xs)) (q : Q (.int xs.length) H) : rLen K [.ref p] H Q := ⟨p, xs, rfl, .inr (SqT.of h), q⟩
theorem i_lenL {p : Addr} {xs : List V} (h : H p = some (.lst xs)) (q : Q (.int xs.length) H) : rLen K [.ref p] H Q := ⟨p, xs, rfl, .inl (SqL.of h), q⟩
theorem i_abs {i : Int} (q : Q (.int (if i < 0 then -i else i)) H) : rAbs [.int i] H Q := ⟨i, rfl, q⟩
theorem i_intB {k : Bool} (q : Q (.int (if k then 1 else 0)) H) : rInt [.bl k] H Q := .inr ⟨k, rfl, q⟩
theorem i_par {i j : Nat} {ta : TA} (h : ta σ H fun vs H1 => ∃ v w, vs = [v, w] ∧ D.nx ((σ.set i (some v)).set j (some w)) H1) : tPar i j ta D σ H := h
theorem i_par2 {v w : V} {R : V → V → Prop} (h : R v w) : ∃ v' w', [v, w] = [v', w'] ∧ R v' w' := ⟨v, w, rfl, h⟩
end
theorem if_d {p A B : Prop} [Decidable p] (h1 : p → A) (h2 : ¬ p → B) : if decide p = true then A else B := by
  by_cases h : p
  · rw [if_pos (decide_eq_true h)]; exact h1 h
  · rw [if_neg (by simp [h])]; exact h2 h
theorem if_nd {p A B : Prop} [Decidable p] (h1 : ¬ p → A) (h2 : p → B) : if (!decide p) = true then A else B := by
  by_cases h : p
  · rw [if_neg (by simp [h])]; exact h2 h
  · rw [if_pos (by simp [h])]; exact h1 h
theorem if_ne {α : Type} {x y : α} {A B : Prop} [Decidable (x = y)] (e : x = y) (h : B) : if (!decide (x = y)) = true then A else B := if_nd (fun c => absurd e c) fun _ => h
theorem if_t {A B : Prop} (h : A) : if true = true then A else B := by rw [if_pos rfl]; exact h
theorem if_f {A B : Prop} (h : B) : if false = true then A else B := by rw [if_neg Bool.false_ne_true]; exact h
theorem if_nt {A B : Prop} (h : B) : if (!true) = true then A else B := by rw [if_neg (by decide)]; exact h
theorem if_nf {A B : Prop} (h : A) : if (!false) = true then A else B := by rw [if_pos (by decide)]; exact h
theorem same_upd {H : Hp} {p : Addr} (h : H p = none) (o : HO) : Same H (upd H p o) := fun b u q => by rw [upd_ne (ne_of_none q h)]; exact q
theorem bd_self (x : Int) : Bd (x.natAbs.log2 + 1) x := by
  unfold Bd
  exact Nat.lt_log2_self
theorem bd_addx {j k : Nat} {x y : Int} (h : Bd j x) (g : Bd k y) : Bd (j + k + 1) (x + y) := (h.mono (Nat.le_add_right ..)).add (g.mono (Nat.le_add_left ..))
theorem bd_subx {j k : Nat} {x y : Int} (h : Bd j x) (g : Bd k y) : Bd (j + k + 1) (x - y) := (h.mono (Nat.le_add_right ..)).sub (g.mono (Nat.le_add_left ..))
end L2
namespace L2
open PySem PySem.Spec PyProof.Rows Bg
section
variable {P : Program} {w : World} {K : PySem.W.Frag} {mg : Str → Option Value} {base : Heap}
theorem FunD.binds {x qual : Str} {st : Stmt} {f : Addr} {fd : FuncData} {its ds : List Value} {ps : List Str} (F : FunD K x qual st f fd its)
    (h : ∀ (T : Addr) (kV doc pm : Value) (an : Option Addr) (cdv ct : Value) (us : List Value), (us ++ ds).length = ps.length → ∃ k : Option (Array Value) → Sem (List (Str × Value)),
      bindArgs (PySem.W.fnOf x qual (defArgs st) (defBody st) (defScope st) (.ref T) kV doc pm an cdv ct) ⟨us, []⟩ = seqItems? (.ref T) >>= k ∧ k (some its.toArray) = pure (ps.zip (us ++ ds))) : Binds K fd ps ds := by
  obtain ⟨oc, od, T, kV, doc, pm, an, cdv, ct, osl, to, n, rfl, lk, hcd, lT, hs⟩ := F.ex
  intro s us KX hl
  obtain ⟨k, h1, h2⟩ := h T kV doc pm an cdv ct us hl
  exact BindsTo.of_defaults rfl (KX _ _ lT) hs h1 h2
theorem TopD.own {k : Nat} {x : Str} {st : Stmt} {ps : List Str} {its ds : List Value} {dvs : List V} {sp : Sp} (T : TopD K mg x st its)
    (hb : ∀ (T : Addr) (kV doc pm : Value) (an : Option Addr) (cdv ct : Value) (us : List Value), (us ++ ds).length = ps.length → ∃ k : Option (Array Value) → Sem (List (Str × Value)),
      bindArgs (PySem.W.fnOf x x (defArgs st) (defBody st) (defScope st) (.ref T) kV doc pm an cdv ct) ⟨us, []⟩ = seqItems? (.ref T) >>= k ∧ k (some its.toArray) = pure (ps.zip (us ++ ds)))
    (hd : Vals dvs ds) (h : ∀ f fd, FunD K x x st f fd its → FnOk P w K mg base CX0 k f fd ps sp) : Own P w K mg base k x ps dvs sp := by
  obtain ⟨f, fd, F, m⟩ := T
  exact ⟨f, fd, ds, h f fd F, m, F.kp, F.binds hb, hd⟩
end
end L2
namespace Att
open PySem PySem.W PySem.Calls PyProof.Rows Bg
theorem weight_item {x : WData} : ∀ {xs : List WData}, x ∈ xs → WData.weight x ≤ WData.weightAll xs
  | [], h => absurd h (by simp)
  | y :: ys, h => by
    simp only [WData.weightAll]
    rcases List.mem_cons.mp h with e | e
    · subst e; omega
    · have := weight_item e
      omega
theorem lay_bits {ns : List Int} (h : WData.layableAll [WData.list (ns.map WData.int)] = true) : ∀ x ∈ ns, Bd 1048576 x := fun x hx => by
  have h1 : WData.layable (WData.list (ns.map WData.int)) = true := by simpa [WData.layableAll] using h
  unfold WData.layable at h1
  rw [Bool.and_eq_true] at h1
  have h2 : WData.weight (WData.list (ns.map WData.int)) ≤ 2 ^ 20 := of_decide_eq_true h1.2
  simp only [WData.weight] at h2
  have h3 : WData.weight (WData.int x) ≤ WData.weightAll (ns.map WData.int) := weight_item (List.mem_map.mpr ⟨x, hx, rfl⟩)
  simp only [WData.weight] at h3
  unfold Bd
  by_cases z : x = 0
  · subst z
    exact Nat.pow_pos (by decide)
  · rw [if_neg (by simpa using z)] at h3
    have e : (2 : Nat) ^ 20 = 1048576 := by decide
    exact (Nat.log2_lt (by omega)).mp (by omega)
theorem attach_callB {l : OpenLaw} {n : Nat} {q : Program} {loose : List Str} {XP : (Str → Option Value) → Heap → Prop} {YP : World → Heap → Prop} {d : DefRec}
    (hn : l.most = some n) (hdf : d.params.defaults = [])
    (call : ∀ (w : World) (s₀ s₁ : Shared) (mg mb : Str → Option Value) (fa : Addr) (a : Addr) (vs : List Value) (ns : List Int),
      Ground q loose [] XP w s₀ mg mb s₁.heap → YP w s₁.heap → mg d.name = some (.ref fa) →
      s₁.heap.get? a = some { cls := .type "list", data := .seq vs.toArray } → IntsAre vs ns → ns.length ≤ n → (∀ x ∈ ns, Bd 1048576 x) → s₁.gens = #[] →
      codeAny (model l.prog w) callerA (.call (.ref fa) ⟨[.ref a], []⟩) (fun r s' => r = .ok (.ret (.bool true)) ∧ OldK s₁.heap s'.heap ∧ s'.os = s₁.os ∧ AllBare s'.gens) s₁) :
    WalkO q loose XP YP l.row.toRowW d [] (fun f vs => PySem.call f vs) := by
  intro w s₀ s₁ mg mb G Y fa o pm cd doc dV kV ho hd hcd hD hmg hg args vals as hpre hlay hrd hwl hlo
  obtain ⟨a, vs, ns, rfl, rfl, hobj, hints, hlen⟩ := script_of hn hpre hwl
  refine enter_call (codeAny_mono (call w s₀ s₁ mg mb fa a vs ns G Y hmg hobj hints hlen (lay_bits hlay) hg) fun r s' hq => ?_)
  obtain ⟨rfl, h2, h3, h4⟩ := hq
  exact ⟨.inl ⟨.bool true, .bool true, [], rfl, fun _ => rfl, .bool true, post_true l _, fun _ => ⟨List.Pairwise.nil, fun _ hm => (nomatch hm)⟩⟩, h2, h3, h4⟩
end Att
namespace L2
open PySem PySem.Spec PyProof.Rows Bg
def spLaw (K : PySem.W.Frag) : Sp := fun vs H Q _ => ∃ (a : Addr) (ns : List Int), vs = [.ref a] ∧ SqL K H a (ns.map V.int) ∧ ns.length ≤ 63 ∧ (∀ x ∈ ns, Bd 1048576 x) ∧ ∀ H', Q (.bl true) H'
theorem walk_B {l : PySem.W.OpenLaw} {k : Nat} {q : Program} {loose : List Str} {XP : (Str → Option Value) → Heap → Prop} {YP : World → Heap → Prop} {d : DefRec} {K : Params → PySem.W.Frag} {x : Str}
    (hn : l.most = some 63) (hdf : d.params.defaults = []) (hr : Room k callerA)
    (hY : ∀ (w : World) (h : Heap), YP w h → (K w.params).In h)
    (F : ∀ (w : World) (mg : Str → Option Value) (fa : Addr) (h : Heap), (K w.params).In h → h.Ns mainGlobals mg → mg d.name = some (.ref fa) →
      ∃ fd : FuncData, (∀ (s : Shared) (u : Value), BindsTo s fd ⟨[u], []⟩ [(x, u)]) ∧
        ∀ base : Heap, (K w.params).In base → base.Ns mainGlobals mg → FnOk l.prog w (K w.params) mg base CX0 k fa fd [x] (spLaw (K w.params))) :
    PySem.W.WalkO q loose XP YP l.row.toRowW d [] (fun f vs => PySem.call f vs) := by
  refine Att.attach_callB hn hdf fun w s₀ s₁ mg mb fa a vs ns G Y hmg hobj hints hlen hbd hg => ?_
  have KX := hY w _ Y
  obtain ⟨fd, hb, hF⟩ := F w mg fa _ KX G.T.g hmg
  exact law_call KX G.T.g G.T.b G.T.builtins G.T.nolimit hg hobj hints (Nat.le_trans hlen (by decide)) hr hF hb (fun H hO hS => ⟨a, ns, rfl, hS, hlen, hbd, fun _ => rfl⟩) fun H e s' z => z
theorem law_mk {P : Program} {w : World} {K : PySem.W.Frag} {mg : Str → Option Value} {fa : Addr} {k : Nat} {st : Stmt} {x : Str} (T : Top K mg "law" st) (hfa : mg "law" = some (.ref fa))
    (hb : ∀ (kV doc pm : Value) (an : Option Addr) (cdv ct : Value) (v : Value), bindArgs (PySem.W.fnOf "law" "law" (defArgs st) (defBody st) (defScope st) .none kV doc pm an cdv ct) ⟨[v], []⟩ = pure [(x, v)])
    (h : ∀ base f fd, Fun K "law" "law" st f fd → FnOk P w K mg base CX0 k f fd [x] (spLaw K)) :
    ∃ fd : FuncData, (∀ (s : Shared) (u : Value), BindsTo s fd ⟨[u], []⟩ [(x, u)]) ∧ ∀ base : Heap, K.In base → base.Ns mainGlobals mg → FnOk P w K mg base CX0 k fa fd [x] (spLaw K) := by
  obtain ⟨f, fd, F, m⟩ := T
  have e := hfa.symm.trans m
  cases e
  obtain ⟨oc, od, kV, doc, pm, an, cdv, ct, osl, e1, lk, hcd⟩ := id F.ex
  refine ⟨fd, fun s u => ?_, fun base _ _ => h base _ _ F⟩
  rw [e1]
  exact .of_eq (hb kV doc pm an cdv ct u)
end L2
namespace Bg
def fg (t b : Int) : Int := if b < 0 then -((Int.gcd t b : Nat) : Int) else ((Int.gcd t b : Nat) : Int)
def fT (t b : Int) : Int := t.fdiv (fg t b)
def fB (t b : Int) : Int := b.fdiv (fg t b)
theorem fg_gd (t b : Int) : fg t b = gd t t b := by
  have e : g3 t t b = Int.gcd t b := by
    unfold g3
    rw [Int.gcd_comm b t]
    have h : ((Int.gcd t b : Nat) : Int) ∣ t := Int.gcd_dvd_left ..
    rw [Int.gcd_comm]
    have := Int.gcd_eq_right_iff_dvd (a := t) (b := ((Int.gcd t b : Nat) : Int))
    rw [Int.gcd_eq_natAbs_gcd_natAbs]
    rw [Nat.gcd_eq_right (Int.natAbs_dvd_natAbs.mpr h)]
    simp
  unfold fg gd
  rw [e]
theorem fT_lA (t b : Int) : fT t b = lA t t b := by unfold fT lA; rw [fg_gd]
theorem fB_lN (t b : Int) : fB t b = lN t t b := by unfold fB lN; rw [fg_gd]
theorem f_b {t b : Int} (h : b ≠ 0) : 1 ≤ fB t b := by rw [fB_lN]; exact l_n h
theorem f_t {t b : Int} : fT t b * b = t * fB t b := by rw [fT_lA, fB_lN]; exact l_a
theorem f_gcd {t b : Int} (h : b ≠ 0) : Int.gcd (fT t b) (fB t b) = 1 := by
  have := l_gcd (a := t) (b := t) (n := b) h
  rw [fT_lA, fB_lN]
  unfold g3 at this
  have e : lB t t b = lA t t b := rfl
  rw [e] at this
  have d : ((Int.gcd (lN t t b) (lA t t b) : Nat) : Int) ∣ lA t t b := Int.gcd_dvd_right ..
  rw [Int.gcd_eq_natAbs_gcd_natAbs, Nat.gcd_eq_left (Int.natAbs_dvd_natAbs.mpr d), Int.natAbs_natCast] at this
  rw [Int.gcd_comm]
  exact this
theorem fg_ne {t b : Int} (h : b ≠ 0) : fg t b ≠ 0 := by rw [fg_gd]; exact gd_ne h
theorem fg_bd {k : Nat} {t b : Int} (h : b ≠ 0) (hb : Bd k b) : Bd k (fg t b) := by rw [fg_gd]; exact gd_bd h hb
theorem g3_mul (c x y z : Int) : g3 (c * x) (c * y) (c * z) = c.natAbs * g3 x y z := by
  unfold g3
  rw [Int.gcd_mul_left]
  have e1 : ((c.natAbs * Int.gcd z x : Nat) : Int).gcd (c * y) = Int.gcd (c * (Int.gcd z x : Nat)) (c * y) := by
    rw [Int.gcd_eq_natAbs_gcd_natAbs, Int.gcd_eq_natAbs_gcd_natAbs]
    congr 1
    rw [Int.natAbs_mul, Int.natAbs_natCast, Int.natAbs_natCast]
  rw [e1, Int.gcd_mul_left]
theorem dvd_g3 {d x y z : Int} (hx : d ∣ x) (hy : d ∣ y) (hz : d ∣ z) : d ∣ (g3 x y z : Int) := Int.dvd_coe_gcd (Int.dvd_coe_gcd hz hx) hy
theorem low_dvd {x y z x' y' z' : Int} (hg : g3 x y z = 1) (hx : x * z' = x' * z) (hy : y * z' = y' * z) : z ∣ z' := by
  have h1 : z ∣ z' * x := ⟨x', by rw [Int.mul_comm z', hx, Int.mul_comm]⟩
  have h2 : z ∣ z' * y := ⟨y', by rw [Int.mul_comm z', hy, Int.mul_comm]⟩
  have h3 : z ∣ z' * z := ⟨z', by rw [Int.mul_comm]⟩
  have h := dvd_g3 h1 h2 h3
  rw [g3_mul, hg, Nat.mul_one] at h
  exact Int.dvd_natAbs.mp h
theorem low_eq {x y z x' y' z' : Int} (h1 : 1 ≤ z) (h2 : 1 ≤ z') (g1 : g3 x y z = 1) (g2 : g3 x' y' z' = 1) (hx : x * z' = x' * z) (hy : y * z' = y' * z) : x = x' ∧ y = y' ∧ z = z' := by
  have d1 : z ∣ z' := low_dvd g1 hx hy
  have d2 : z' ∣ z := low_dvd g2 hx.symm hy.symm
  have e : z = z' := by
    have a1 := Int.le_of_dvd (by omega) d1
    have a2 := Int.le_of_dvd (by omega) d2
    omega
  subst e
  exact ⟨Int.eq_of_mul_eq_mul_right (by omega) hx, Int.eq_of_mul_eq_mul_right (by omega) hy, rfl⟩
theorem low_unique {x y z a b n : Int} (h1 : 1 ≤ z) (g1 : g3 x y z = 1) (hn : n ≠ 0) (hx : x * n = a * z) (hy : y * n = b * z) : x = lA a b n ∧ y = lB a b n ∧ z = lN a b n := by
  refine low_eq h1 (l_n hn) g1 (l_gcd hn) ?_ ?_
  · have e := l_a (a := a) (b := b) (n := n)
    refine Int.eq_of_mul_eq_mul_right hn ?_
    calc x * lN a b n * n = x * n * lN a b n := by rw [Int.mul_assoc, Int.mul_comm (lN a b n), Int.mul_assoc]
      _ = a * z * lN a b n := by rw [hx]
      _ = a * lN a b n * z := by rw [Int.mul_assoc, Int.mul_comm z, Int.mul_assoc]
      _ = lA a b n * n * z := by rw [e]
      _ = lA a b n * z * n := by rw [Int.mul_assoc, Int.mul_comm n, Int.mul_assoc]
  · have e := l_b (a := a) (b := b) (n := n)
    refine Int.eq_of_mul_eq_mul_right hn ?_
    calc y * lN a b n * n = y * n * lN a b n := by rw [Int.mul_assoc, Int.mul_comm (lN a b n), Int.mul_assoc]
      _ = b * z * lN a b n := by rw [hy]
      _ = b * lN a b n * z := by rw [Int.mul_assoc, Int.mul_comm z, Int.mul_assoc]
      _ = lB a b n * n * z := by rw [e]
      _ = lB a b n * z * n := by rw [Int.mul_assoc, Int.mul_comm n, Int.mul_assoc]
theorem frac_eq {x z x' z' : Int} (h1 : 1 ≤ z) (h2 : 1 ≤ z') (g1 : Int.gcd x z = 1) (g2 : Int.gcd x' z' = 1) (hx : x * z' = x' * z) : x = x' ∧ z = z' := by
  have k : ∀ {a b : Int}, Int.gcd a b = 1 → g3 a a b = 1 := fun {a b} h => by
    unfold g3
    rw [Int.gcd_comm b a, h]
    simp
  have := low_eq h1 h2 (k g1) (k g2) hx hx
  exact ⟨this.1, this.2.2⟩
theorem frac_of {x z t b : Int} (hz : 1 ≤ z) (hb : 1 ≤ b) (g : Int.gcd t b = 1) (e : x * b = t * z) : fT x z = t ∧ fB x z = b := by
  have z0 : z ≠ 0 := by omega
  have f1 := f_t (t := x) (b := z)
  refine frac_eq (f_b z0) hb (f_gcd z0) g ?_
  generalize fT x z = u at *
  generalize fB x z = v at *
  refine Int.eq_of_mul_eq_mul_right z0 ?_
  calc u * b * z = u * z * b := by rw [Int.mul_assoc, Int.mul_comm b, Int.mul_assoc]
    _ = x * v * b := by rw [f1]
    _ = x * b * v := by rw [Int.mul_assoc, Int.mul_comm v, Int.mul_assoc]
    _ = t * z * v := by rw [e]
    _ = t * v * z := by rw [Int.mul_assoc, Int.mul_comm z, Int.mul_assoc]
theorem by_parts_a {t b t' b' : Int} (h1 : 1 ≤ b) (h2 : 1 ≤ b') (g1 : Int.gcd t b = 1) : fT (lA (t * b') (t' * b) (b * b')) (lN (t * b') (t' * b) (b * b')) = t ∧ fB (lA (t * b') (t' * b) (b * b')) (lN (t * b') (t' * b) (b * b')) = b := by
  have n0 : b * b' ≠ 0 := Int.mul_ne_zero (by omega) (by omega)
  refine frac_of (l_n n0) h1 g1 ?_
  have e := l_a (a := t * b') (b := t' * b) (n := b * b')
  generalize lA (t * b') (t' * b) (b * b') = x at *
  generalize lN (t * b') (t' * b) (b * b') = z at *
  refine Int.eq_of_mul_eq_mul_right (show b' ≠ 0 by omega) ?_
  calc x * b * b' = x * (b * b') := by rw [Int.mul_assoc]
    _ = t * b' * z := e
    _ = t * z * b' := by rw [Int.mul_assoc, Int.mul_comm b', Int.mul_assoc]
theorem by_parts_b {t b t' b' : Int} (h1 : 1 ≤ b) (h2 : 1 ≤ b') (g2 : Int.gcd t' b' = 1) : fT (lB (t * b') (t' * b) (b * b')) (lN (t * b') (t' * b) (b * b')) = t' ∧ fB (lB (t * b') (t' * b) (b * b')) (lN (t * b') (t' * b) (b * b')) = b' := by
  have n0 : b * b' ≠ 0 := Int.mul_ne_zero (by omega) (by omega)
  refine frac_of (l_n n0) h2 g2 ?_
  have e := l_b (a := t * b') (b := t' * b) (n := b * b')
  generalize lB (t * b') (t' * b) (b * b') = x at *
  generalize lN (t * b') (t' * b) (b * b') = z at *
  refine Int.eq_of_mul_eq_mul_right (show b ≠ 0 by omega) ?_
  calc x * b' * b = x * (b * b') := by rw [Int.mul_assoc, Int.mul_comm b']
    _ = t' * b * z := e
    _ = t' * z * b := by rw [Int.mul_assoc, Int.mul_comm b, Int.mul_assoc]
end Bg
namespace Bg
theorem bd_range {k : Nat} {x B : Int} (h0 : 0 ≤ x) (h1 : x ≤ B) (hB : B.natAbs < 2 ^ k) : Bd k x := by
  unfold Bd
  omega
theorem bd_small {x : Int} (k : Nat) (h0 : -1000000 ≤ x) (h1 : x ≤ 1000000) (hk : 20 ≤ k) : Bd k x := by
  have h : Bd 20 x := by
    unfold Bd
    have : (2 : Nat) ^ 20 = 1048576 := by decide
    omega
  exact h.mono hk
end Bg
namespace L2
open PySem PySem.Spec PyProof.Rows Bg
section
variable {σ : St} {H : Hp} {Q : VK} {D : Ends} {K : PySem.W.Frag}
def tCut (t : TS) : TS := fun D σ H => ∃ T : St → Hp → Prop, (∀ σ' H', T σ' H' → D.nx σ' H') ∧ t { D with nx := T } σ H
theorem ps_cut {X : Cx} {st : Stmt} {t : TS} (h : PS X st t) : PS X st (tCut t) := by
  intro pins s σ H D I hw
  obtain ⟨T, hT, hw⟩ := hw
  refine thn (h pins s σ H _ I hw) fun f s' q => ?_
  cases f with
  | next => obtain ⟨σ', H', I', q⟩ := q; exact ⟨σ', H', I', hT _ _ q⟩
  | brk => exact q
  | cont => exact q
  | ret v => exact q
theorem i_cut {t : TS} {T : St → Hp → Prop} (h : t { D with nx := T } σ H) (hT : ∀ σ' H', T σ' H' → D.nx σ' H') : tCut t D σ H := ⟨T, hT, h⟩
theorem i_newT {xs : List V} (hl : xs.length ≤ 1000) (h : ∀ p H2, Same H H2 → H2 p = some (.tup xs) → Q (.ref p) H2) : NewT xs H Q :=
  ⟨small_le hl, fun p hp => h p _ (same_upd hp _) upd_same⟩
theorem i_newL {xs : List V} (hl : xs.length ≤ 1000) (h : ∀ p H2, Same H H2 → H2 p = some (.lst xs) → Q (.ref p) H2) : NewL xs H Q :=
  ⟨small_le hl, fun p hp => h p _ (same_upd hp _) upd_same⟩
theorem i_newLf {xs : List V} (hl : xs.length ≤ 1000) (h : ∀ p H2, H p = none → Same H H2 → H2 p = some (.lst xs) → Q (.ref p) H2) : NewL xs H Q :=
  ⟨small_le hl, fun p hp => h p _ hp (same_upd hp _) upd_same⟩
theorem i_cat {l b : Addr} {xs zs : List V} (h1 : H l = some (.lst xs)) (h2 : H b = some (.lst zs)) (hz : xs.length + zs.length ≤ 1000) (h : ∀ p H2, Same H H2 → H2 p = some (.lst (xs ++ zs)) → Q (.ref p) H2) : rCat (.ref l) (.ref b) H Q :=
  ⟨l, b, xs, zs, rfl, rfl, h1, h2, small_le hz, fun p hp => h p _ (same_upd hp _) upd_same⟩
theorem i_sl {r : V → Option Int → Option Int → Hp → VK → Prop} {te : TE} {tl th : TO} (h : te σ H fun x H1 => tl σ H1 fun l H2 => th σ H2 fun u H3 => r x l u H3 Q) : tSl r te tl th σ H Q := h
theorem i_noPart {R : Option Int → Hp → Prop} (h : R none H) : tNoPart σ H R := h
theorem i_part {t : TE} {R : Option Int → Hp → Prop} (h : t σ H fun x H1 => ∃ i, x = .int i ∧ R (some i) H1) : tPart t σ H R := h
theorem i_int {k : Int} {R : Int → Prop} (h : R k) : ∃ k', V.int k = .int k' ∧ R k' := ⟨k, rfl, h⟩
theorem i_forL {tl : TE} {g : TG} {tb : TS} (h : tl σ H fun x H1 => ∃ a, x = .ref a ∧ (∃ xs, SqL K H1 a xs) ∧ ∃ W : Nat → Nat → St → Hp → Prop, (∃ m, W 0 m σ H1) ∧ ∀ i m σ H, W i m σ H →
  ((Itl K a).stop i H ∧ D.nx σ H) ∨ ((Itl K a).go i H ∧ ∃ N : St → Hp → Prop, (∀ σ' H', N σ' H' → ∃ m', m' < m ∧ W (i + 1) m' σ' H') ∧ ∀ x H', (Itl K a).yld i H x H' → g x σ H' fun σ2 H2 => tb { D with nx := N, ct := N, bk := D.nx } σ2 H2)) :
  tFor (iList K tl) g tb D σ H := h
end
end L2
namespace L2
open PySem PySem.Spec PyProof.Rows Bg
def EqV (X : Cx) (n : Nat) (H : Hp) (x y : V) (b : Bool) : Prop :=
  ∀ (pins : List (Addr × Obj)) (σ : St) (s : Shared) (v u : Value) (A : Around), Inv X pins σ H s → RelV x v → RelV y u → A.units + 4 * n < cLine → SeqAt.EqAt A s v u b
theorem EqV.int {X : Cx} {n : Nat} {H : Hp} (i j : Int) : EqV X n H (.int i) (.int j) (i == j) := fun _ _ s v u A _ rv ru _ => by
  obtain ⟨t, rfl⟩ := rv
  obtain ⟨t', rfl⟩ := ru
  exact SeqAt.EqAt.int_int i t j t'
inductive EqVs (X : Cx) (n : Nat) (H : Hp) : List V → List V → List Bool → Prop
  | nil : EqVs X n H [] [] []
  | cons {x y : V} {b : Bool} {xs ys : List V} {bs : List Bool} : EqV X n H x y b → EqVs X n H xs ys bs → EqVs X n H (x :: xs) (y :: ys) (b :: bs)
theorem EqVs.at {X : Cx} {n : Nat} {H : Hp} : ∀ {xs ys : List V} {bs : List Bool}, EqVs X n H xs ys bs → ∀ {j : Nat} {x y : V}, xs[j]? = some x → ys[j]? = some y → EqV X n H x y (bs.getD j false)
  | _, _, _, .nil, j, x, y, h, _ => by simp at h
  | _, _, _, .cons e _, 0, x, y, h1, h2 => by
    simp at h1 h2
    subst h1; subst h2
    exact e
  | _, _, _, .cons _ r, j + 1, x, y, h1, h2 => by
    have := EqVs.at r (j := j) (x := x) (y := y) (by simpa using h1) (by simpa using h2)
    simpa using this
theorem EqVs.len {X : Cx} {n : Nat} {H : Hp} : ∀ {xs ys : List V} {bs : List Bool}, EqVs X n H xs ys bs → xs.length = bs.length ∧ ys.length = bs.length
  | _, _, _, .nil => ⟨rfl, rfl⟩
  | _, _, _, .cons _ r => by
    have := r.len
    simp only [List.length_cons]
    omega
theorem all_getD (bs : List Bool) : ((List.range bs.length).all fun j => bs.getD j false) = bs.all id := by
  rw [Bool.eq_iff_iff]
  simp only [List.all_eq_true, List.mem_range, id]
  constructor
  · intro h b hb
    obtain ⟨j, hj, e⟩ := List.mem_iff_getElem.mp hb
    have := h j hj
    rw [List.getD_eq_getElem?_getD, List.getElem?_eq_getElem hj] at this
    rw [← e]
    exact this
  · intro h j hj
    rw [List.getD_eq_getElem?_getD, List.getElem?_eq_getElem hj]
    exact h _ (List.getElem_mem hj)
theorem rc_tup {X : Cx} {n : Nat} {H : Hp} {a b : Addr} {xs ys : List V} {bs : List Bool} {pins : List (Addr × Obj)} {σ : St} {s : Shared} {A : Around} (ha : SqT X.K H a xs) (hb : SqT X.K H b ys) (he : EqVs X n H xs ys bs) (I : Inv X pins σ H s) (hu : A.units + 4 * (n + 1) < cLine) :
    ∃ (is js : Array Value), s.heap.IsTuple a is ∧ s.heap.IsTuple b js ∧ (∀ j (h1 : j < is.size) (h2 : j < js.size), SeqAt.EqAt A.in1 s is[j] js[j] (bs.getD j false)) ∧ ((List.range (min is.size js.size)).all (fun j => bs.getD j false) && is.size == js.size) = bs.all id := by
  obtain ⟨is, r1, p1, _⟩ := I.tuple ha
  obtain ⟨js, r2, p2, _⟩ := I.tuple hb
  obtain ⟨l1, l2⟩ := he.len
  have q1 := r1.length
  have q2 := r2.length
  refine ⟨is.toArray, js.toArray, (show s.heap.IsTuple a is.toArray from p1), (show s.heap.IsTuple b js.toArray from p2), fun j h1 h2 => ?_, ?_⟩
  · have hj1 : j < xs.length := by rw [q1]; simpa using h1
    have hj2 : j < ys.length := by rw [q2]; simpa using h2
    obtain ⟨v, ev, rv⟩ := r1.get (List.getElem?_eq_getElem hj1)
    obtain ⟨u, eu, ru⟩ := r2.get (List.getElem?_eq_getElem hj2)
    have e1 : is.toArray[j] = v := by
      have : is[j]? = some v := ev
      rw [List.getElem?_eq_getElem (by simpa using h1)] at this
      simpa using Option.some.inj this
    have e2 : js.toArray[j] = u := by
      have : js[j]? = some u := eu
      rw [List.getElem?_eq_getElem (by simpa using h2)] at this
      simpa using Option.some.inj this
    rw [e1, e2]
    exact he.at (List.getElem?_eq_getElem hj1) (List.getElem?_eq_getElem hj2) pins σ s v u A.in1 I rv ru (by show A.units + 1 + 4 * n < cLine; omega)
  · have e1 : is.toArray.size = bs.length := by rw [List.size_toArray]; omega
    have e2 : js.toArray.size = bs.length := by rw [List.size_toArray]; omega
    rw [e1, e2, Nat.min_self, all_getD]
    simp
def rEqT (X : Cx) : R2 := fun x y H Q => ∃ a b xs ys bs n, x = .ref a ∧ y = .ref b ∧ n ≤ 9 ∧ SqT X.K H a xs ∧ SqT X.K H b ys ∧ EqVs X n H xs ys bs ∧ Q (.bl (bs.all id)) H
theorem op_eqT {X : Cx} (hu : X.A.units + 64 < cLine) : OpR X (compareOp .Eq) (rEqT X) := by
  intro pins s σ H x y v u Q I rx ry h
  obtain ⟨a, b, xs, ys, bs, n, rfl, rfl, hn, ha, hb, he, q⟩ := h
  cases rx
  cases ry
  obtain ⟨is, js, p1, p2, hj, e⟩ := rc_tup (A := X.A) ha hb he I (by omega)
  refine SeqAt.eq_tupleAt p1 p2 (by omega) hj ?_
  rw [e]
  exact ⟨.bl _, H, I, rfl, q⟩
theorem i_eq3 {X : Cx} {H : Hp} {Q : VK} {a b : Addr} {x y z x' y' z' : Int} (ha : H a = some (.tup [.int x, .int y, .int z])) (hb : H b = some (.tup [.int x', .int y', .int z'])) (q : Q (.bl (decide (x = x' ∧ y = y' ∧ z = z'))) H) : rEqT X (.ref a) (.ref b) H Q := by
  refine ⟨a, b, _, _, _, 0, rfl, rfl, Nat.zero_le _, SqT.of ha, SqT.of hb, .cons (.int x x') (.cons (.int y y') (.cons (.int z z') .nil)), ?_⟩
  have e : ([x == x', y == y', z == z'] : List Bool).all id = decide (x = x' ∧ y = y' ∧ z = z') := by
    rw [Bool.eq_iff_iff]
    simp
  rw [e]
  exact q
end L2
namespace L2
open PySem PySem.Spec PyProof.Rows Bg
theorem i_eq2 {X : Cx} {H : Hp} {Q : VK} {a b : Addr} {x z x' z' : Int} (ha : H a = some (.tup [.int x, .int z])) (hb : H b = some (.tup [.int x', .int z'])) (q : Q (.bl (decide (x = x' ∧ z = z'))) H) : rEqT X (.ref a) (.ref b) H Q := by
  refine ⟨a, b, _, _, _, 0, rfl, rfl, Nat.zero_le _, SqT.of ha, SqT.of hb, .cons (.int x x') (.cons (.int z z') .nil), ?_⟩
  have e : ([x == x', z == z'] : List Bool).all id = decide (x = x' ∧ z = z') := by
    rw [Bool.eq_iff_iff]
    simp
  rw [e]
  exact q
def SameX (l : Addr) (H H' : Hp) : Prop := ∀ b o, H b = some o → b ≠ l → H' b = some o
theorem Same.sameX {H H' : Hp} (s : Same H H') (l : Addr) : SameX l H H' := fun b o e _ => s b o e
theorem SameX.trans {l : Addr} {H H1 H2 : Hp} (a : SameX l H H1) (b : SameX l H1 H2) : SameX l H H2 := fun c o e n => b c o (a c o e n) n
theorem SameX.tup {l p : Addr} {H H' : Hp} {xs ys : List V} (s : SameX l H H') (h : H p = some (.tup xs)) (hl : H l = some (.lst ys)) : H' p = some (.tup xs) := s _ _ h (ne_of h hl (fun z => nomatch z))
section
variable {σ : St} {H : Hp} {Q : VK} {D : Ends} {K : PySem.W.Frag}
theorem i_append {l : Addr} {xs : List V} {y : V} (h : H l = some (.lst xs)) (hz : xs.length < 1000) (q : ∀ H2, SameX l H H2 → H2 l = some (.lst (xs ++ [y])) → Q .non H2) : rAppend (.ref l) [y] H Q :=
  ⟨l, xs, y, rfl, rfl, h, Nat.lt_of_lt_of_le hz (small_le (Nat.le_refl _)), q _ (fun b o e n => by rw [upd_ne n]; exact e) upd_same⟩
theorem i_bm {T : String} {r : V → List V → Hp → VK → Prop} {to : TE} {t : TA} (h : to σ H fun x H1 => tyV K T x H1 ∧ t σ H1 fun xs H2 => r x xs H2 Q) : tBM K T r to t σ H Q := h
theorem i_tyL {l : Addr} {xs : List V} {R : Prop} (h : H l = some (.lst xs)) (q : R) : tyV K "list" (.ref l) H ∧ R := ⟨.inl ⟨rfl, _, SqL.of h⟩, q⟩
theorem i_forR1 {ta : TA} {g : TG} {tb : TS} (h : ta σ H fun vs H1 => ∃ j : Int, vs = [.int j] ∧ -(2 ^ 62) ≤ j ∧ j < 2 ^ 62 ∧ ∃ W : Nat → Nat → St → Hp → Prop, (∃ m, W 0 m σ H1) ∧ ∀ i m σ H, W i m σ H →
  ((Itr 0 j.toNat).stop i H ∧ D.nx σ H) ∨ ((Itr 0 j.toNat).go i H ∧ ∃ N : St → Hp → Prop, (∀ σ' H', N σ' H' → ∃ m', m' < m ∧ W (i + 1) m' σ' H') ∧ ∀ x H', (Itr 0 j.toNat).yld i H x H' → g x σ H' fun σ2 H2 => tb { D with nx := N, ct := N, bk := D.nx } σ2 H2)) :
  tFor (iRng1 ta) g tb D σ H := h
end
end L2
namespace Bg
structure Rt (d : Int) : Prop where
  lo : 2 ≤ d
  hi : d ≤ 99
  ns : ∀ k : Nat, ((k * k : Nat) : Int) ≠ d
theorem rt_of {d : Int} (h : 2 ≤ d ∧ d ≤ 99) (n : d ≠ 4 ∧ d ≠ 9 ∧ d ≠ 16 ∧ d ≠ 25 ∧ d ≠ 36 ∧ d ≠ 49 ∧ d ≠ 64 ∧ d ≠ 81) : Rt d := by
  refine ⟨h.1, h.2, fun k e => ?_⟩
  have hk : k < 10 := by
    refine Nat.lt_of_not_le fun z => ?_
    have : 10 * 10 ≤ k * k := Nat.mul_le_mul z z
    omega
  have : k = 0 ∨ k = 1 ∨ k = 2 ∨ k = 3 ∨ k = 4 ∨ k = 5 ∨ k = 6 ∨ k = 7 ∨ k = 8 ∨ k = 9 := by omega
  rcases this with q | q | q | q | q | q | q | q | q | q <;> subst q <;> omega
theorem irrN {D A B : Nat} (ns : ∀ k : Nat, k * k ≠ D) (e : A * A = D * B * B) : B = 0 := by
  rcases Nat.eq_zero_or_pos B with z | hB
  · exact z
  exfalso
  have hg : 0 < Nat.gcd A B := Nat.gcd_pos_of_pos_right A hB
  have hc := Nat.coprime_div_gcd_div_gcd hg
  obtain ⟨a, ha⟩ := Nat.gcd_dvd_left A B
  obtain ⟨b, hb⟩ := Nat.gcd_dvd_right A B
  have ea : A / Nat.gcd A B = a := by rw [Nat.div_eq_iff_eq_mul_right hg (Nat.gcd_dvd_left A B)]; exact ha
  have eb : B / Nat.gcd A B = b := by rw [Nat.div_eq_iff_eq_mul_right hg (Nat.gcd_dvd_right A B)]; exact hb
  rw [ea, eb] at hc
  generalize Nat.gcd A B = g at *
  have e2 : a * a = D * b * b := by
    have h1 : g * g * (a * a) = g * g * (D * b * b) := by
      rw [ha, hb] at e
      calc g * g * (a * a) = g * a * (g * a) := by simp only [Nat.mul_assoc, Nat.mul_left_comm]
        _ = D * (g * b) * (g * b) := e
        _ = g * g * (D * b * b) := by simp only [Nat.mul_assoc, Nat.mul_left_comm]
    exact Nat.eq_of_mul_eq_mul_left (Nat.mul_pos hg hg) h1
  have d1 : b ∣ a * a := ⟨D * b, by rw [e2, Nat.mul_comm b]⟩
  have d2 : b ∣ a := hc.symm.dvd_of_dvd_mul_left d1
  have d3 : b = 1 := by
    have : b ∣ Nat.gcd a b := Nat.dvd_gcd d2 (Nat.dvd_refl b)
    rw [show Nat.gcd a b = 1 from hc] at this
    exact Nat.dvd_one.mp this
  rw [d3, Nat.mul_one, Nat.mul_one] at e2
  exact ns a e2
theorem irr {d a b : Int} (h : Rt d) (e : a * a = d * b * b) : b = 0 := by
  have hd : (d.toNat : Int) = d := Int.toNat_of_nonneg (by have := h.lo; omega)
  have := irrN (D := d.toNat) (A := a.natAbs) (B := b.natAbs) (fun k q => h.ns k (by rw [q]; exact hd)) (by
    have h1 : ((a.natAbs * a.natAbs : Nat) : Int) = ((d.toNat * b.natAbs * b.natAbs : Nat) : Int) := by
      have ea : ((a.natAbs * a.natAbs : Nat) : Int) = a * a := Int.natAbs_mul_self
      have eb : ((b.natAbs * b.natAbs : Nat) : Int) = b * b := Int.natAbs_mul_self
      rw [ea, Nat.mul_assoc, Int.natCast_mul, eb, hd, ← Int.mul_assoc]
      exact e
    exact Int.ofNat.inj h1)
  omega
def sgn (d a b : Int) : Int := if 0 ≤ a ∧ 0 ≤ b then (if 0 < a + b then 1 else 0) else if a ≤ 0 ∧ b ≤ 0 then -1 else if 0 < a then (if d * b * b < a * a then 1 else -1) else (if a * a < d * b * b then 1 else -1)
theorem sq_pos {b : Int} (h : b ≠ 0) : 0 < b * b := by
  rcases Int.lt_or_gt_of_ne h with q | q
  · exact Int.mul_pos_of_neg_of_neg q q
  · exact Int.mul_pos q q
theorem dsq_pos {d b : Int} (h : 2 ≤ d) (hb : b ≠ 0) : 0 < d * b * b := by rw [Int.mul_assoc]; exact Int.mul_pos (by omega) (sq_pos hb)
def nrm (d a b : Int) : Int := a * a - d * b * b
theorem nrm_zero {d a b : Int} (h : Rt d) (e : nrm d a b = 0) : a = 0 ∧ b = 0 := by
  unfold nrm at e
  have hb := irr (a := a) (b := b) h (by omega)
  subst hb
  rw [Int.mul_zero] at e
  refine ⟨?_, rfl⟩
  rcases Int.lt_trichotomy a 0 with q | q | q
  · have := Int.mul_pos_of_neg_of_neg q q; omega
  · exact q
  · have := Int.mul_pos q q; omega
def sg (x : Int) : Int := if 0 < x then 1 else if x < 0 then -1 else 0
theorem sgn_pos {d a b : Int} (h : Rt d) (n : 0 < nrm d a b) : sgn d a b = sg a := by
  unfold nrm at n
  have ha : a ≠ 0 := fun z => by
    subst z
    by_cases hb : b = 0
    · subst hb; simp at n
    · have := dsq_pos h.lo hb
      omega
  unfold sgn sg
  repeat' split
  all_goals omega
theorem sgn_neg' {d a b : Int} (h : Rt d) (n : nrm d a b < 0) : sgn d a b = sg b := by
  unfold nrm at n
  have hb : b ≠ 0 := fun z => by
    subst z
    rw [Int.mul_zero] at n
    by_cases ha : a = 0
    · subst ha; simp at n
    · have := sq_pos ha
      omega
  unfold sgn sg
  repeat' split
  all_goals omega
theorem sgn_zero (d : Int) : sgn d 0 0 = 0 := by simp [sgn]
theorem nrm_tri {d a b : Int} (h : Rt d) : (0 < nrm d a b) ∨ (nrm d a b < 0) ∨ (a = 0 ∧ b = 0) := by
  rcases Int.lt_trichotomy (nrm d a b) 0 with q | q | q
  · exact .inr (.inl q)
  · exact .inr (.inr (nrm_zero h q))
  · exact .inl q
theorem sg_neg (x : Int) : sg (-x) = - sg x := by unfold sg; repeat' split <;> omega
theorem nrm_neg (d a b : Int) : nrm d (-a) (-b) = nrm d a b := by unfold nrm; rw [Int.neg_mul_neg, Int.mul_assoc, Int.neg_mul_neg, ← Int.mul_assoc]
theorem sgn_neg {d : Int} (h : Rt d) (a b : Int) : sgn d (-a) (-b) = - sgn d a b := by
  rcases nrm_tri (a := a) (b := b) h with q | q | ⟨rfl, rfl⟩
  · rw [sgn_pos h q, sgn_pos h (by rw [nrm_neg]; exact q), sg_neg]
  · rw [sgn_neg' h q, sgn_neg' h (by rw [nrm_neg]; exact q), sg_neg]
  · rfl
theorem sg_cases (x : Int) : (0 < x ∧ sg x = 1) ∨ (x < 0 ∧ sg x = -1) ∨ (x = 0 ∧ sg x = 0) := by unfold sg; repeat' split <;> omega
theorem sg_mul_pos {k : Int} (hk : 0 < k) (x : Int) : sg (k * x) = sg x := by
  rcases sg_cases x with ⟨q, e⟩ | ⟨q, e⟩ | ⟨q, e⟩
  · have := Int.mul_pos hk q
    rw [e]; unfold sg; rw [if_pos this]
  · have := Int.mul_neg_of_pos_of_neg hk q
    rw [e]; unfold sg; rw [if_neg (by omega), if_pos this]
  · subst q; simp
theorem nrm_mul (d k a b : Int) : nrm d (k * a) (k * b) = k * k * nrm d a b := by
  unfold nrm
  rw [Int.mul_sub]
  congr 1
  · simp only [Int.mul_assoc, Int.mul_left_comm]
  · simp only [Int.mul_assoc, Int.mul_left_comm, Int.mul_comm d]
theorem sgn_scale {d k : Int} (h : Rt d) (hk : 0 < k) (a b : Int) : sgn d (k * a) (k * b) = sgn d a b := by
  have kk : 0 < k * k := Int.mul_pos hk hk
  rcases nrm_tri (a := a) (b := b) h with q | q | ⟨rfl, rfl⟩
  · rw [sgn_pos h q, sgn_pos h (by rw [nrm_mul]; exact Int.mul_pos kk q), sg_mul_pos hk]
  · rw [sgn_neg' h q, sgn_neg' h (by rw [nrm_mul]; exact Int.mul_neg_of_pos_of_neg kk q), sg_mul_pos hk]
  · simp
theorem sgn_same {d k m a b a' b' : Int} (h : Rt d) (hk : 0 < k) (hm : 0 < m) (ea : k * a = m * a') (eb : k * b = m * b') : sgn d a b = sgn d a' b' := by
  rw [← sgn_scale h hk a b, ← sgn_scale h hm a' b', ea, eb]
theorem sq_nn (x : Int) : 0 ≤ x * x := by
  by_cases h : x = 0
  · subst h; simp
  · exact Int.le_of_lt (sq_pos h)
theorem dsq_nn {d : Int} (h : 2 ≤ d) (x : Int) : 0 ≤ d * x * x := by rw [Int.mul_assoc]; exact Int.mul_nonneg (by omega) (sq_nn x)
theorem sgn_tri {d : Int} (h : Rt d) (a b : Int) : sgn d a b = 1 ∨ sgn d a b = -1 ∨ (a = 0 ∧ b = 0) := by
  rcases nrm_tri (a := a) (b := b) h with q | q | q
  · have ha : a ≠ 0 := fun z => by
      subst z
      unfold nrm at q
      have := dsq_nn h.lo b
      omega
    rw [sgn_pos h q]
    rcases sg_cases a with ⟨_, e⟩ | ⟨_, e⟩ | ⟨e, _⟩
    · exact .inl e
    · exact .inr (.inl e)
    · exact absurd e ha
  · have hb : b ≠ 0 := fun z => by
      subst z
      unfold nrm at q
      rw [Int.mul_zero] at q
      have := sq_nn a
      omega
    rw [sgn_neg' h q]
    rcases sg_cases b with ⟨_, e⟩ | ⟨_, e⟩ | ⟨e, _⟩
    · exact .inl e
    · exact .inr (.inl e)
    · exact absurd e hb
  · exact .inr (.inr q)
end Bg
namespace Bg
theorem sgn_nn {d a b : Int} (h : 0 ≤ a) (k : 0 ≤ b) : sgn d a b = if 0 < a + b then 1 else 0 := by unfold sgn; rw [if_pos ⟨h, k⟩]
theorem sgn_np {d a b : Int} (n : ¬ (0 ≤ a ∧ 0 ≤ b)) (h : a ≤ 0) (k : b ≤ 0) : sgn d a b = -1 := by unfold sgn; rw [if_neg n, if_pos ⟨h, k⟩]
theorem sgn_pa {d a b : Int} (h : 0 < a) (k : b < 0) : sgn d a b = if d * b * b < a * a then 1 else -1 := by unfold sgn; rw [if_neg (by omega), if_neg (by omega), if_pos h]
theorem sgn_pb {d a b : Int} (h : a < 0) (k : 0 < b) : sgn d a b = if a * a < d * b * b then 1 else -1 := by unfold sgn; rw [if_neg (by omega), if_neg (by omega), if_neg (by omega)]
end Bg
namespace L2
open PySem PySem.Spec PyProof.Rows Bg
theorem closure_aux (env : Env) : ∀ (names : List (Str × NameKind)) (acc : List (Str × Addr)), (∀ y ∈ names, y.2 = .free → ∃ c, env.cells.lookup y.1 = some c) → (∀ x c, acc.lookup x = some c → env.cells.lookup x = some c) →
    ∃ cl, (forIn names acc (fun (x : Str × NameKind) (r : List (Str × Addr)) => if (x.snd == NameKind.free) = true then do
                  let a ← cellOf env x.fst
                  pure (ForInStep.yield ((x.fst, a) :: r))
                else pure (ForInStep.yield r)) : Sem (List (Str × Addr))) = pure cl ∧ (∀ x c, cl.lookup x = some c → env.cells.lookup x = some c) ∧
      ∀ x, ((∃ c, acc.lookup x = some c) ∨ ∃ y ∈ names, y.1 = x ∧ y.2 = .free) → ∃ c, cl.lookup x = some c
  | [], acc, _, ha => ⟨acc, rfl, ha, fun x h => by
      rcases h with h | ⟨y, hy, _⟩
      · exact h
      · simp at hy⟩
  | y :: r, acc, hn, ha => by
    by_cases hf : y.2 = .free
    · obtain ⟨c, hc⟩ := hn y List.mem_cons_self hf
      obtain ⟨cl, e, h1, h2⟩ := closure_aux env r ((y.1, c) :: acc) (fun z hz => hn z (List.mem_cons_of_mem _ hz)) (fun x d hx => by
        rw [List.lookup_cons] at hx
        split at hx
        · rename_i q
          have q' : x = y.1 := by simpa using q
          rw [q', hc]; exact hx
        · exact ha x d hx)
      refine ⟨cl, ?_, h1, fun x h => h2 x ?_⟩
      · rw [List.forIn_cons, if_pos (by rw [hf]; rfl)]
        unfold cellOf
        rw [hc]
        exact e
      · by_cases q : x = y.1
        · exact .inl ⟨c, by rw [List.lookup_cons, q]; simp⟩
        · rcases h with ⟨d, hd⟩ | ⟨z, hz, e1, e2⟩
          · exact .inl ⟨d, by
              rw [List.lookup_cons]
              have : (x == y.1) = false := by simpa using q
              rw [this]; exact hd⟩
          · rcases List.mem_cons.mp hz with e3 | e3
            · subst e3; exact absurd e1.symm q
            · exact .inr ⟨z, e3, e1, e2⟩
    · obtain ⟨cl, e, h1, h2⟩ := closure_aux env r acc (fun z hz => hn z (List.mem_cons_of_mem _ hz)) ha
      refine ⟨cl, ?_, h1, fun x h => h2 x ?_⟩
      · rw [List.forIn_cons, if_neg (by simpa using hf)]
        exact e
      · rcases h with h | ⟨z, hz, e1, e2⟩
        · exact .inl h
        · rcases List.mem_cons.mp hz with e3 | e3
          · subst e3; exact absurd e2 hf
          · exact .inr ⟨z, e3, e1, e2⟩
theorem closure_of {scope : Scope} {env : Env} (h : ∀ y ∈ scope.names, y.2 = .free → ∃ c, env.cells.lookup y.1 = some c) :
    ∃ cl, closureFor scope env = pure cl ∧ (∀ x c, cl.lookup x = some c → env.cells.lookup x = some c) ∧ ∀ y ∈ scope.names, y.2 = .free → ∃ c, cl.lookup y.1 = some c := by
  obtain ⟨cl, e, h1, h2⟩ := closure_aux env scope.names [] h (fun x c q => by simp at q)
  refine ⟨cl, ?_, h1, fun y hy hf => h2 y.1 (.inr ⟨y, hy, rfl, hf⟩)⟩
  exact congrArg (fun z : Sem (List (Str × Addr)) => z >>= fun cs => pure cs) e
section
variable {prog : Program} {w : World} {A : Around} {R : Result → Shared → Prop} {s : Shared}
abbrev NoX : Value → Shared → Prop := fun _ _ => False
theorem codeAny_compLoop_go {elt target iter : Expr} {ifs : List Expr} {scope : Scope} {pos : Pos} {it acc : Value} {env : Env} (I : Nat → Shared → Prop)
    (turn : ∀ n s, I n s → wpAny (model prog w) A (pyNext it) (fun r s₁ => match r with
      | none => R (.ok .next) s₁
      | some v => wpAny (model prog w) A (letOwnedTupleGo target it v) (fun _ s₁' => wpAny (model prog w) A (assign target env v) (fun _ s₂ =>
          wpAny (model prog w) A (forIn ifs true fun c r => if r = true then do let ok ← isTrue c env (eval c env); pure (ForInStep.yield ok) else pure (ForInStep.yield r)) (fun ok s₃ =>
            if ok = true then wpAny (model prog w) A (eval elt env) (fun x s₄ =>
              wpAny (model prog w) A (call (.builtin "list.append") [acc, x]) (fun _ s₅ => ∃ m, m < n ∧ I m s₅) NoX s₄) NoX s₃
            else ∃ m, m < n ∧ I m s₃) NoX s₂) NoX s₁') NoX s₁) NoX s)
    (n : Nat) (h : I n s) :
    codeAny (model prog w) A (.compLoop (.ListComp elt [⟨target, iter, ifs, 0⟩] scope pos) 0 it acc env) R s := by
  refine codeAny_loop rfl I (fun n s hI => ?_) n h
  show wpAny _ A ((compTurn (.ListComp elt [⟨target, iter, ifs, 0⟩] scope pos) 0 it acc env).onRaise (fun x => do noteFrame x env; theTreesLotGoes x)) _ _ s
  refine wpAny_noted ?_
  rw [compTurn_list]
  refine wpAny_bind (wpAny_standAt (wpAny_bind (wpAny_mono (turn n s hI) (fun r s₁ h₁ => ?_) fun _ _ h' => h'.elim)))
  cases r with
  | none => exact wpAny_pure h₁
  | some v =>
    refine wpAny_bind (wpAny_mono h₁ (fun _ s₁' h₁' => ?_) fun _ _ h' => h'.elim)
    refine wpAny_bind (wpAny_mono h₁' (fun _ s₂ h₂ => wpAny_bind (wpAny_mono h₂ (fun ok s₃ h₃ => ?_) fun _ _ h' => h'.elim)) fun _ _ h' => h'.elim)
    cases ok with
    | false => exact wpAny_pure ⟨rfl, h₃⟩
    | true =>
      exact wpAny_bind (wpAny_bind (wpAny_mono h₃ (fun x s₄ h₄ => wpAny_bind (wpAny_mono h₄ (fun _ s₅ h₅ => wpAny_pure (wpAny_pure ⟨rfl, h₅⟩)) fun _ _ h' => h'.elim)) fun _ _ h' => h'.elim))
end
end L2
namespace L2
open PySem PySem.Spec PyProof.Rows Bg
theorem lookup_relabel_free {env : Env} (hk : env.scope.kind = .function) : ∀ {names : List (Str × NameKind)} {x : Str}, names.lookup x = some .free → env.kindOf x = some .cell →
    (names.map fun (n, k) => if (k == NameKind.free && env.scope.kind == .function && env.kindOf n == some .cell) then (n, NameKind.cell) else (n, k)).lookup x = some .cell
  | [], _, h, _ => by simp at h
  | (n, k) :: r, x, h, he => by
    have ih := @lookup_relabel_free env hk r x
    show List.lookup x ((if (k == NameKind.free && env.scope.kind == .function && env.kindOf n == some .cell) = true then (n, NameKind.cell) else (n, k)) :: _) = _
    cases hx : x == n with
    | true =>
      simp only [List.lookup_cons, hx] at h
      cases h
      have hxn : x = n := by simpa using hx
      subst hxn
      have hc : (NameKind.free == NameKind.free && env.scope.kind == .function && env.kindOf x == some .cell) = true := by rw [hk, he]; rfl
      rw [if_pos hc]
      simp [List.lookup_cons]
    | false =>
      simp only [List.lookup_cons, hx] at h
      by_cases hc : (k == NameKind.free && env.scope.kind == .function && env.kindOf n == some .cell) = true
      · rw [if_pos hc]; simp only [List.lookup_cons, hx]; exact ih h he
      · rw [if_neg hc]; simp only [List.lookup_cons, hx]; exact ih h he
theorem of_relabel {env : Env} : ∀ {names : List (Str × NameKind)} {x : Str} {k : NameKind}, (∀ y ∈ names, y.2 ≠ .cell) → (k = .cell ∨ k = .free) →
    (names.map fun (n, k) => if (k == NameKind.free && env.scope.kind == .function && env.kindOf n == some .cell) then (n, NameKind.cell) else (n, k)).lookup x = some k → ∃ y ∈ names, y.1 = x ∧ y.2 = .free
  | [], _, _, _, _, h => by simp at h
  | (n, k) :: r, x, k', hn, hk, h => by
    have h' : List.lookup x ((if (k == NameKind.free && env.scope.kind == .function && env.kindOf n == some .cell) = true then (n, NameKind.cell) else (n, k)) :: _) = some k' := h
    have ih := @of_relabel env r x k' (fun y hy => hn y (List.mem_cons_of_mem _ hy)) hk
    have kn : k ≠ .cell := hn (n, k) List.mem_cons_self
    by_cases hc : (k == NameKind.free && env.scope.kind == .function && env.kindOf n == some .cell) = true
    · rw [if_pos hc, List.lookup_cons] at h'
      have kf : k = .free := by
        rw [Bool.and_eq_true, Bool.and_eq_true] at hc
        simpa using hc.1.1
      cases hx : x == n with
      | true =>
        have hxn : x = n := by simpa using hx
        exact ⟨(n, k), List.mem_cons_self, hxn.symm, kf⟩
      | false =>
        rw [hx] at h'
        obtain ⟨y, hy, q⟩ := ih h'
        exact ⟨y, List.mem_cons_of_mem _ hy, q⟩
    · rw [if_neg hc, List.lookup_cons] at h'
      cases hx : x == n with
      | true =>
        have hxn : x = n := by simpa using hx
        rw [hx] at h'
        have e : k = k' := Option.some.inj h'
        refine ⟨(n, k), List.mem_cons_self, hxn.symm, ?_⟩
        rcases hk with q | q
        · exact absurd (e.trans q) kn
        · exact e.trans q
      | false =>
        rw [hx] at h'
        obtain ⟨y, hy, q⟩ := ih h'
        exact ⟨y, List.mem_cons_of_mem _ hy, q⟩
theorem sc_free {scope : Scope} {ns : List (Str × NameKind)} (h : (scope.names.all fun y => y.2 != .free || ns.lookup y.1 == some .cell) = true) : ∀ y ∈ scope.names, y.2 = .free → ns.lookup y.1 = some .cell := fun y hy hf => by
  have := List.all_eq_true.mp h y hy
  rw [hf] at this
  simpa using this
theorem sc_js {scope : Scope} {ns : List (Str × NameKind)} {N : List Str} {js : List Nat} (h : (js.all fun j => scope.names.lookup (N.getD j Str.empty) == some .free && ns.lookup (N.getD j Str.empty) == some .cell) = true) : ∀ j ∈ js, scope.names.lookup (N.getD j Str.empty) = some .free ∧ ns.lookup (N.getD j Str.empty) = some .cell := fun j hj => by
  have := List.all_eq_true.mp h j hj
  rw [Bool.and_eq_true] at this
  exact ⟨eq_of_beq this.1, eq_of_beq this.2⟩
theorem sc_cell {scope : Scope} (h : (scope.names.all fun y => y.2 != .cell) = true) : ∀ y ∈ scope.names, y.2 ≠ .cell := fun y hy => by
  have := List.all_eq_true.mp h y hy
  simpa using this
theorem sc_names {scope : Scope} (h : (scope.names.all fun y => y.2 != .local || scope.names.lookup y.1 == some .local) = true) : ∀ y ∈ scope.names, y.2 = .local → scope.names.lookup y.1 = some .local := fun y hy hf => by
  have := List.all_eq_true.mp h y hy
  rw [hf] at this
  simpa using this
def inner (n : Nat) (js : List Nat) (σ : St) : St := List.replicate n none ++ js.map fun j => (σ[j]?).join
def cxComp (X : Cx) (scope : Scope) (cl : List (Str × Addr)) (own : List Str) (js : List Nat) (fp : List Addr) (C : Addr) (s3 : Shared) (H3 : Hp) : Cx :=
  { X with N := own ++ js.map (fun j => X.N.getD j Str.empty), s₀ := s3, H₀ := H3, env := compEnvC scope cl C X.env, outer := X.stack, ex := fp, fn := fun _ => false, pn := [], xe := fun _ _ => False }
def PIfs (X : Cx) (ifs : List Expr) (t : TT) : Prop := ∀ (pins : List (Addr × Obj)) (s : Shared) (σ : St) (H : Hp) (Q : Bool → Hp → Prop), Inv X pins σ H s → t σ H Q →
  wpAny (model X.prog X.w) X.A (forIn ifs true fun c r => if r = true then do let ok ← isTrue c X.env (eval c X.env); pure (ForInStep.yield ok) else pure (ForInStep.yield r)) (TP X pins σ Q) X.xe s
def tAll : TT := fun _ H B => B true H
theorem pifs_nil {X : Cx} : PIfs X [] tAll := fun _ _ _ H _ I h => wpAny_tests_nil ⟨H, I, h⟩
def tComp (wi : TI) (g : TG) (tc : TT) (te : TE) (n : Nat) (js : List Nat) : TE := fun σ H Q => wi σ H fun J H1 => ∀ D, H1 D = none → ∃ W : Nat → Nat → St → Hp → Prop, (∃ m, W 0 m (inner n js σ) (upd H1 D (.lst []))) ∧
  ∀ i m σ' H', W i m σ' H' → (J.stop i H' ∧ Q (.ref D) H') ∨ (J.go i H' ∧ ∀ x H2, J.yld i H' x H2 → g x σ' H2 fun σ3 H3 => tc σ3 H3 fun b H4 =>
    if b = true then te σ3 H4 fun v H5 => rAppend (.ref D) [v] H5 fun _ H6 => ∃ m', m' < m ∧ W (i + 1) m' σ3 H6 else ∃ m', m' < m ∧ W (i + 1) m' σ3 H4)
section
variable {X : Cx} {pins : List (Addr × Obj)} {σ : St} {H : Hp} {s : Shared} {scope : Scope} {cl : List (Str × Addr)} {own : List Str} {js : List Nat} {fp : List Addr}
theorem cxComp_ok (I : Inv X pins σ H s) (hkind : scope.kind = .function) (hcell : ∀ y ∈ scope.names, y.2 ≠ .cell) (cl1 : ∀ x c, cl.lookup x = some c → X.env.cells.lookup x = some c) (cl2 : ∀ y ∈ scope.names, y.2 = .free → ∃ c, cl.lookup y.1 = some c)
    (hf : ∀ b ∈ fp, FpOk X pins H b) (hl : ∀ b ∈ fp, b < s.heap.objs.size) : (cxComp X scope cl own js fp s.heap.objs.size s H).Ok := by
  have hno : ∀ b o, X.base.get? b = some o → b ∉ fp := fun b o e hb => by
    rcases (hf b hb).2.2.2.1 with z | z
    · exact I.ok.noex b o e z
    · exact absurd (Nat.lt_of_lt_of_le (Heap.lt_size e) (Nat.le_trans I.ok.bsz z)) (Nat.lt_irrefl _)
  have hex : ∀ b ∈ fp, b ∉ frs X.stack := fun b hb z => by
    rcases List.mem_cons.mp (I.stkSub b z) with e | e
    · exact (hf b hb).2.1 e
    · exact (hf b hb).2.2.1 e
  exact ⟨I.ok.mod, hkind, I.ok.glob, I.ok.blt, Nat.le_refl _, fun x y c h1 h2 => I.ok.inj x y c (cl1 x c h1) (cl1 y c h2),
    fun x hx => by
      have hx' : (∃ k, (k = NameKind.cell ∨ k = .free) ∧ (relabel scope X.env).names.lookup x = some k) := by
        rcases hx with z | z
        · exact ⟨_, .inl rfl, z⟩
        · exact ⟨_, .inr rfl, z⟩
      obtain ⟨k, hk, z⟩ := hx'
      obtain ⟨y, hy, e1, e2⟩ := of_relabel hcell hk z
      obtain ⟨c, hc⟩ := cl2 y hy e2
      exact ⟨c, by rw [← e1]; exact hc⟩,
    fun x c h _ => absurd h (by show ¬ (false = true); decide), I.ok.hd, I.ok.frames, .inl rfl,
    fun b hb => ⟨Nat.ne_of_lt (hl b hb), fun x c e => (hf b hb).2.2.2.2.1 x c (cl1 x c e)⟩,
    I.bs, Nat.le_trans I.ok.bsz I.sz, hno, hex, I.stack, I.stkFree⟩
theorem inv_comp {h₁ : Heap} {m : Str → Option Value} {t' : Nat} (I : Inv X pins σ H s) (hkind : scope.kind = .function) (hcell : ∀ y ∈ scope.names, y.2 ≠ .cell) (cl1 : ∀ x c, cl.lookup x = some c → X.env.cells.lookup x = some c) (cl2 : ∀ y ∈ scope.names, y.2 = .free → ∃ c, cl.lookup y.1 = some c)
    (hjs : ∀ j ∈ js, scope.names.lookup (X.N.getD j Str.empty) = some .free ∧ X.env.scope.names.lookup (X.N.getD j Str.empty) = some .cell)
    (hf : ∀ b ∈ fp, FpOk X pins H b) (hl : ∀ b ∈ fp, b < s.heap.objs.size) (hn : h₁.Ns s.heap.objs.size m) (k : ∀ b o, s.heap.get? b = some o → h₁.get? b = some o) :
    Inv (cxComp X scope cl own js fp s.heap.objs.size s H) [] (inner own.length js σ) H { s with heap := h₁, toks := t' } := by
  refine ⟨cxComp_ok I hkind hcell cl1 cl2 hf hl, rfl, I.bare, Un.kept k, ⟨m, hn, fun i x v h1 h2 h3 => ?_⟩, fun x c e => ?_, I.hok.fresh (Nat.le_refl _), fun x c e => I.freeC x c (cl1 x c e), fun p hp => absurd (show p ∈ ([] : List (Addr × Obj)) from hp) (by simp), I.hok.kept k, ?_⟩
  · have hi : own.length ≤ i := by
      unfold inner at h2
      by_cases z : i < own.length
      · rw [List.getElem?_append_left (by simpa using z), List.getElem?_replicate, if_pos z] at h2
        cases h2
      · omega
    unfold inner at h2
    rw [List.getElem?_append_right (by simpa using hi), List.length_replicate, List.getElem?_map] at h2
    have h1' : (own ++ js.map (fun j => X.N.getD j Str.empty))[i]? = some x := h1
    rw [List.getElem?_append_right hi, List.getElem?_map] at h1'
    cases ej : js[i - own.length]? with
    | none => rw [ej] at h2; cases h2
    | some j =>
      rw [ej] at h2 h1'
      have ex : X.N.getD j Str.empty = x := Option.some.inj h1'
      have ev : (σ[j]?).join = some v := Option.some.inj h2
      have ev' : σ[j]? = some (some v) := by
        cases q : σ[j]? with
        | none => rw [q] at ev; cases ev
        | some z => rw [q] at ev; rw [show z = some v from ev]
      have hjl : j < X.N.length := by
        rw [← I.len]
        exact (List.getElem?_eq_some_iff.mp ev').1
      have eN : X.N[j]? = some x := by
        rw [← ex, List.getD_eq_getElem?_getD, List.getElem?_eq_getElem hjl]
        rfl
      obtain ⟨f1, f2⟩ := hjs j (List.mem_of_getElem? ej)
      rw [ex] at f1 f2
      obtain ⟨mm, hnn, hll⟩ := I.loc
      obtain ⟨u, r, lk⟩ := hll j x v eN ev' (.inr (.inl f2))
      refine ⟨u, r, ?_⟩
      rcases lk with ⟨q, _⟩ | ⟨_, c, e, ic⟩
      · rw [show X.env.kindOf x = some .cell from f2] at q; cases q
      · obtain ⟨y, hy, e1, e2⟩ : ∃ y ∈ scope.names, y.1 = x ∧ y.2 = .free := ⟨_, PySem.mem_of_lookup f1, rfl, rfl⟩
        obtain ⟨c', hc'⟩ := cl2 y hy e2
        rw [e1] at hc'
        have : c' = c := by
          have := cl1 x c' hc'
          rw [e] at this
          exact (Option.some.inj this).symm
        subst this
        obtain ⟨o, ho, hd⟩ := ic
        exact .inr ⟨.inl (lookup_relabel_free I.ok.kind f1 f2), c', hc', ⟨o, k _ _ ho, hd⟩⟩
  · obtain ⟨v, o, ho, hd⟩ := I.cell x c (cl1 x c e)
    exact ⟨v, o, k _ _ ho, hd⟩
  · show _ = (own ++ js.map _).length
    unfold inner
    simp
theorem comp_left {H' : Hp} {σ' : St} {s' : Shared} {h' : Heap} (I : Inv X pins σ H s) (hf : ∀ b ∈ fp, FpOk X pins H b) (I' : Inv (cxComp X scope cl own js fp s.heap.objs.size s H) [] σ' H' s') (sb : Heap.SameBut s.heap.objs.size s'.heap h') : Inv X pins σ H' { s' with heap := h' } := by
  have u := I'.base
  have ne : ∀ b o, s.heap.get? b = some o → b ≠ s.heap.objs.size := fun b o e => Nat.ne_of_lt (Heap.lt_size e)
  refine I.call' (ch := fp) I'.os ⟨fun b o e n hb hx => ?_, fun b o e n hb hx => ?_, u.free, fun b o e hx => ?_, u.tups, u.frzs, u.tbls⟩ (fun b o e => ?_) I'.bare fun b hb => ⟨(hf b hb).2.2.2.1, (hf b hb).2.1, (hf b hb).2.2.2.2.1, (hf b hb).2.2.2.2.2⟩
  · exact (sb.2 b (ne b o e)).trans (u.keep b o e n hb hx)
  · obtain ⟨sl, z⟩ := u.slot b o e n hb hx
    exact ⟨sl, (sb.2 b (ne b o e)).trans z⟩
  · obtain ⟨o', z⟩ := u.there b o e hx
    exact ⟨o', (sb.2 b (ne b o e)).trans z⟩
  · have hfr : H' s.heap.objs.size = none := I'.free
    refine (I'.hok b o e).stay (fun c v hc q => (sb.2 c ?_).trans q) (fun _ q => q) fun _ _ q => q
    rintro rfl
    rcases hc with rfl | hc
    · rw [hfr] at e; cases e
    · rw [hfr] at hc; cases hc
end
theorem comp_any {X : Cx} {use : Option (Value → Sem Unit)} {R : Value → Shared → Prop} {pins : List (Addr × Obj)} {σ : St} {H : Hp} {s : Shared} {Q : VK} {elt iter tgt : Expr} {ifs : List Expr} {scope : Scope} {pos : Pos} {wi : TI} {g : TG} {tc : TT} {te : TE} (own : List Str) (js : List Nat)
    (hc : X.calm = true) (hi : PI X tgt iter wi)
    (hg : ∀ cl fp C s3 H3, PG (cxComp X scope cl own js fp C s3 H3) tgt g) (ht : ∀ cl fp C s3 H3, PIfs (cxComp X scope cl own js fp C s3 H3) ifs tc) (he : ∀ cl fp C s3 H3, PE (cxComp X scope cl own js fp C s3 H3) elt te)
    (hfree : ∀ y ∈ scope.names, y.2 = .free → X.env.scope.names.lookup y.1 = some .cell)
    (hjs : ∀ j ∈ js, scope.names.lookup (X.N.getD j Str.empty) = some .free ∧ X.env.scope.names.lookup (X.N.getD j Str.empty) = some .cell)
    (hcell : ∀ y ∈ scope.names, y.2 ≠ .cell) (hnames : ∀ y ∈ scope.names, y.2 = .local → scope.names.lookup y.1 = some .local)
    (hkind : scope.kind = .function) (hs : ∀ x, foldedSetIterable iter X.env x = pure x)
    (I : Inv X pins σ H s) (h : tComp wi g tc te own.length js σ H Q)
    (hend : ∀ (D : Addr) (H3 H5 : Hp) (σ5 : St) (s3 s6 : Shared) (fp : List Addr) (cl : List (Str × Addr)), Inv X pins σ H3 s3 → (∀ b ∈ fp, FpOk X pins H3 b) → Inv (cxComp X scope cl own js fp s3.heap.objs.size s3 H3) [] σ5 H5 s6 → Q (.ref D) H5 →
      compPost (model X.prog X.w) X.A X.xe use R (.ref D) s3.heap.objs.size (.ok .next) s6) :
    wpAny (model X.prog X.w) X.A (comprehension (.ListComp elt [⟨tgt, iter, ifs, 0⟩] scope pos) scope X.env (firstIterPos [⟨tgt, iter, ifs, 0⟩] pos) (newList []) false (eval iter X.env) use) R X.xe s := by
  have hk := I.ok.kind
  obtain ⟨cl, hcl, cl1, cl2⟩ := closure_of (scope := scope) (env := X.env) fun y hy hf => I.ok.has y.1 (.inl (hfree y hy hf))
  refine wpAny_comprehension_free rfl hs hcl hkind hnames (thn (hi pins s σ H _ I h) fun v s1 h1 => thn h1 fun itv s2 h2 => ?_)
  obtain ⟨it, fp, tn, J, H2, e, I2, T, st2, f2, q2⟩ := h2
  subst e
  obtain ⟨W, ⟨m0, w0⟩, turn⟩ := q2 s2.heap.objs.size I2.fresh
  have I3 := I2.lnew (ys := []) (its := []) (t' := s2.toks) .nil (Nat.zero_le _)
  refine wpAny_newObj_type (wpAny_newFunctionEnv hcell (by intro y hy; simp at hy) (fun h₁ hns₁ hsb₁ => ?_) hkind)
  have hl3 : ∀ b ∈ fp, b < (s2.heap.push ({ cls := .type "list", data := .seq ([] : List Value).toArray } : Obj)).objs.size := fun b hb => by
    obtain ⟨o, e, _⟩ := T.obj _ _ st2 b hb
    rw [Heap.size_push]
    exact Nat.lt_succ_of_lt (Heap.lt_size e)
  have f3 : ∀ b ∈ fp, FpOk X pins (upd H2 s2.heap.objs.size (.lst [])) b := fun b hb => by
    obtain ⟨o, e, _⟩ := T.obj _ _ st2 b hb
    refine ⟨?_, (f2 b hb).2⟩
    rw [upd_ne (Nat.ne_of_lt (Heap.lt_size e))]
    exact (f2 b hb).1
  have I4 := inv_comp (own := own) (js := js) (h₁ := h₁) (t' := s2.toks + ([] : List (Str × Value)).length) I3 hkind hcell cl1 cl2 hjs f3 hl3 hns₁ (fun b o e => (hsb₁.2 b (Nat.ne_of_lt (Heap.lt_size e))).trans (Heap.get?_push_of_some _ e))
  have st4 : tn 0 h₁ := T.keep _ _ _ st2 fun b hb o e => (hsb₁.2 b (Nat.ne_of_lt (hl3 b hb))).trans (Heap.get?_push_of_some _ (Heap.get?_push_of_some _ e))
  have loop : codeAny (model X.prog X.w) X.A (.compLoop (.ListComp elt [⟨tgt, iter, ifs, 0⟩] scope pos) 0 (.ref it) (.ref s2.heap.objs.size) (compEnvC scope cl (s2.heap.push ({ cls := .type "list", data := .seq ([] : List Value).toArray } : Obj)).objs.size X.env))
      (compPost (model X.prog X.w) X.A X.xe use R (.ref s2.heap.objs.size) (s2.heap.push ({ cls := .type "list", data := .seq ([] : List Value).toArray } : Obj)).objs.size) { s2 with heap := h₁, toks := s2.toks + ([] : List (Str × Value)).length } := by
    refine codeAny_compLoop_go (fun n s' => ∃ i σ' H', Inv (cxComp X scope cl own js fp _ _ _) [] σ' H' s' ∧ tn i s'.heap ∧ (∀ b ∈ fp, H' b = none) ∧ W i n σ' H') ?_ m0 ⟨0, _, _, I4, st4, fun b hb => (f3 b hb).1, w0⟩
    rintro n s5 ⟨i, σ5, H5, I5, st5, fr5, w5⟩
    have stat : ∀ {H' : Hp}, (∀ b ∈ fp, H' b = none) → ∀ b ∈ fp, FpOk (cxComp X scope cl own js fp _ _ _) [] H' b := fun hn b hb =>
      ⟨hn b hb, (I4.ok.exf b hb).1, I4.ok.exfs b hb, .inl hb, (I4.ok.exf b hb).2, fun p hp => absurd (show p ∈ ([] : List (Addr × Obj)) from hp) (by simp)⟩
    rcases turn i n σ5 H5 w5 with ⟨stop, qn⟩ | ⟨go, step⟩
    · refine thn (T.done (cxComp X scope cl own js fp _ _ _) rfl rfl rfl hc i [] s5 σ5 H5 NoX I5 (stat fr5) st5 stop) fun r s6 ⟨hr, I6⟩ => ?_
      subst hr
      exact hend _ _ _ _ _ _ _ _ I3 f3 I6 qn
    · refine thn (T.item (cxComp X scope cl own js fp _ _ _) rfl rfl rfl hc i [] s5 σ5 H5 NoX I5 (stat fr5) st5 go) fun r s6 ⟨u, hr, h6⟩ => ?_
      subst hr
      refine thn h6 fun _ s7 ⟨x, H7, I7, r7, y7, st7, fr7⟩ => ?_
      have I7' := I7.pinned (stat fr7) (T.obj _ _ st7)
      refine thn (hg cl fp _ _ _ _ s7 σ5 H7 x u _ I7' r7 (step x H7 y7)) fun _ s8 ⟨σ8, H8, I8, q8⟩ => ?_
      have again : ∀ {C3 : Addr} {s3 : Shared} {H3 : Hp} {σ9 : St} {H9 : Hp} {s9 : Shared} {m' : Nat}, Inv (cxComp X scope cl own js fp C3 s3 H3) ([] ++ pinsAt fp s7.heap) σ9 H9 s9 → m' < n → W (i + 1) m' σ9 H9 → ∃ m, m < n ∧ ∃ i σ' H', Inv (cxComp X scope cl own js fp C3 s3 H3) [] σ' H' s9 ∧ tn i s9.heap ∧ (∀ b ∈ fp, H' b = none) ∧ W i m σ' H' := fun {C3 s3 H3 σ9 H9 s9 m'} I9 hm w9 => by
        refine ⟨m', hm, i + 1, σ9, H9, I9.unpinned, T.keep _ _ _ st7 fun b hb o e => (I9.pin (b, o) (List.mem_append_right _ (List.mem_append_right _ (mem_pinsAt hb e)))).1, fun b hb => ?_, w9⟩
        obtain ⟨o, e, d⟩ := T.obj _ _ st7 b hb
        exact (I9.pin (b, o) (List.mem_append_right _ (List.mem_append_right _ (mem_pinsAt hb e)))).2.1
      refine thn (ht cl fp _ _ _ _ s8 σ8 H8 _ I8 q8) fun b s9 ⟨H9, I9, q9⟩ => ?_
      cases b with
      | false =>
        rw [if_neg Bool.false_ne_true] at q9 ⊢
        obtain ⟨m', hm, w9⟩ := q9
        exact again I9 hm w9
      | true =>
        rw [if_pos rfl] at q9 ⊢
        refine thn (he cl fp _ _ _ _ s9 σ8 H9 _ I9 q9) fun y s10 ⟨v, H10, I10, r10, q10⟩ => ?_
        exact thn (mt_append (X := cxComp X scope cl own js fp _ _ _) _ s10 σ8 H10 (.ref s2.heap.objs.size) [v] (.ref s2.heap.objs.size) [y] _ I10 rfl (.cons r10 .nil) q10) fun _ s11 ⟨_, H11, I11, _, m', hm, w11⟩ => again I11 hm w11
  exact codeAny_compStart_list loop (T.self _ 0 _ _ _ st4 loop)
theorem pe_comp {X : Cx} {elt iter tgt : Expr} {ifs : List Expr} {scope : Scope} {pos : Pos} {wi : TI} {g : TG} {tc : TT} {te : TE} (own : List Str) (js : List Nat)
    (hc : X.calm = true) (hi : PI X tgt iter wi)
    (hg : ∀ cl fp C s3 H3, PG (cxComp X scope cl own js fp C s3 H3) tgt g) (ht : ∀ cl fp C s3 H3, PIfs (cxComp X scope cl own js fp C s3 H3) ifs tc) (he : ∀ cl fp C s3 H3, PE (cxComp X scope cl own js fp C s3 H3) elt te)
    (hfree' : (scope.names.all fun y => y.2 != .free || X.env.scope.names.lookup y.1 == some .cell) = true := by rfl)
    (hjs' : (js.all fun j => scope.names.lookup (X.N.getD j Str.empty) == some .free && X.env.scope.names.lookup (X.N.getD j Str.empty) == some .cell) = true := by rfl)
    (hcell' : (scope.names.all fun y => y.2 != .cell) = true := by rfl) (hnames' : (scope.names.all fun y => y.2 != .local || scope.names.lookup y.1 == some .local) = true := by rfl)
    (hkind : scope.kind = .function := by rfl) (hs : ∀ x, foldedSetIterable iter X.env x = pure x := by intro _; rfl) :
    PE X (.ListComp elt [⟨tgt, iter, ifs, 0⟩] scope pos) (tComp wi g tc te own.length js) := by
  have hfree : ∀ y ∈ scope.names, y.2 = .free → X.env.scope.names.lookup y.1 = some .cell := sc_free hfree'
  have hjs : ∀ j ∈ js, scope.names.lookup (X.N.getD j Str.empty) = some .free ∧ X.env.scope.names.lookup (X.N.getD j Str.empty) = some .cell := sc_js hjs'
  have hcell : ∀ y ∈ scope.names, y.2 ≠ .cell := sc_cell hcell'
  have hnames : ∀ y ∈ scope.names, y.2 = .local → scope.names.lookup y.1 = some .local := sc_names hnames'
  intro pins s σ H Q I h
  rw [eval_ListComp]
  refine comp_any own js hc hi hg ht he hfree hjs hcell hnames hkind hs I h fun D H3 H5 σ5 s3 s6 fp cl I3 f3 I6 qn => ?_
  obtain ⟨m, hm, _⟩ := id I6.loc
  exact ⟨m, hm, fun h' sb => ⟨.ref D, H5, comp_left I3 f3 I6 sb, rfl, qn⟩⟩
end L2
namespace L2
open PySem PySem.Spec PyProof.Rows Bg
def CNext (n : Nat) (Pv : Nat → List V → St → Hp → Prop) (i : Nat) (σ : St) (H : Hp) : Prop := ∃ m', m' < n - i ∧ m' = n - (i + 1) ∧ i + 1 ≤ n ∧ ∃ xs, Pv (i + 1) xs σ H
theorem cnext {n : Nat} {Pv : Nat → List V → St → Hp → Prop} {i : Nat} {xs : List V} {σ : St} {H : Hp} (h : i < n) (p : Pv (i + 1) xs σ H) : CNext n Pv i σ H := ⟨n - (i + 1), by omega, rfl, h, xs, p⟩
section
variable {g : TG} {tc : TT} {te : TE} {D : Addr} {H1 : Hp} {σ0 : St} {Q : VK}
theorem comp_list {R : Hp → Prop} {K : PySem.W.Frag} {a : Addr} {ys : List V} (Pv : Nat → List V → St → Hp → Prop) (h0 : Pv 0 [] σ0 (upd H1 D (.lst [])))
    (hl : ∀ i xs σ H, i ≤ ys.length → Pv i xs σ H → SqL K H a ys)
    (hs : ∀ i x xs σ H, ys[i]? = some x → Pv i xs σ H → g x σ H fun σ3 H3 => tc σ3 H3 fun b H4 => if b = true then te σ3 H4 fun v H5 => rAppend (.ref D) [v] H5 fun _ H6 => CNext ys.length Pv i σ3 H6 else CNext ys.length Pv i σ3 H4)
    (hd : ∀ xs σ H, Pv ys.length xs σ H → R H) :
    ∃ W : Nat → Nat → St → Hp → Prop, (∃ m, W 0 m σ0 (upd H1 D (.lst []))) ∧ ∀ i m σ' H', W i m σ' H' → ((Itl K a).stop i H' ∧ R H') ∨ ((Itl K a).go i H' ∧ ∀ x H2, (Itl K a).yld i H' x H2 → g x σ' H2 fun σ3 H3 => tc σ3 H3 fun b H4 =>
      if b = true then te σ3 H4 fun v H5 => rAppend (.ref D) [v] H5 fun _ H6 => ∃ m', m' < m ∧ W (i + 1) m' σ3 H6 else ∃ m', m' < m ∧ W (i + 1) m' σ3 H4) := by
  refine ⟨fun i m σ H => m = ys.length - i ∧ i ≤ ys.length ∧ ∃ xs, Pv i xs σ H, ⟨ys.length, by simp, Nat.zero_le _, [], h0⟩, ?_⟩
  rintro i m σ H ⟨rfl, hi, xs, p⟩
  have q := hl i xs σ H hi p
  by_cases hlt : i < ys.length
  · refine .inr ⟨⟨ys, ys[i], q, by simp [hlt]⟩, fun x H' y => ?_⟩
    obtain ⟨e, y⟩ := y
    subst e
    exact hs i x xs σ _ (y ys q) p
  · have e : i = ys.length := by omega
    subst e
    exact .inl ⟨⟨ys, q, Nat.le_refl _⟩, hd xs σ H p⟩
theorem comp_tup {R : Hp → Prop} {K : PySem.W.Frag} {a : Addr} {ys : List V} (Pv : Nat → List V → St → Hp → Prop) (h0 : Pv 0 [] σ0 (upd H1 D (.lst [])))
    (hl : ∀ i xs σ H, i ≤ ys.length → Pv i xs σ H → SqT K H a ys)
    (hs : ∀ i x xs σ H, ys[i]? = some x → Pv i xs σ H → g x σ H fun σ3 H3 => tc σ3 H3 fun b H4 => if b = true then te σ3 H4 fun v H5 => rAppend (.ref D) [v] H5 fun _ H6 => CNext ys.length Pv i σ3 H6 else CNext ys.length Pv i σ3 H4)
    (hd : ∀ xs σ H, Pv ys.length xs σ H → R H) :
    ∃ W : Nat → Nat → St → Hp → Prop, (∃ m, W 0 m σ0 (upd H1 D (.lst []))) ∧ ∀ i m σ' H', W i m σ' H' → ((Itt K a).stop i H' ∧ R H') ∨ ((Itt K a).go i H' ∧ ∀ x H2, (Itt K a).yld i H' x H2 → g x σ' H2 fun σ3 H3 => tc σ3 H3 fun b H4 =>
      if b = true then te σ3 H4 fun v H5 => rAppend (.ref D) [v] H5 fun _ H6 => ∃ m', m' < m ∧ W (i + 1) m' σ3 H6 else ∃ m', m' < m ∧ W (i + 1) m' σ3 H4) := by
  refine ⟨fun i m σ H => m = ys.length - i ∧ i ≤ ys.length ∧ ∃ xs, Pv i xs σ H, ⟨ys.length, by simp, Nat.zero_le _, [], h0⟩, ?_⟩
  rintro i m σ H ⟨rfl, hi, xs, p⟩
  have q := hl i xs σ H hi p
  by_cases hlt : i < ys.length
  · refine .inr ⟨⟨ys, ys[i], q, by simp [hlt]⟩, fun x H' y => ?_⟩
    obtain ⟨e, y⟩ := y
    subst e
    exact hs i x xs σ _ (y ys q) p
  · have e : i = ys.length := by omega
    subst e
    exact .inl ⟨⟨ys, q, Nat.le_refl _⟩, hd xs σ H p⟩
theorem i_compL {K : PySem.W.Frag} {tl : TE} {σ : St} {H : Hp} {n : Nat} {js : List Nat} (h : tl σ H fun x H1 => ∃ a, x = .ref a ∧ (∃ xs, SqL K H1 a xs) ∧ ∀ D, H1 D = none → ∃ W : Nat → Nat → St → Hp → Prop, (∃ m, W 0 m (inner n js σ) (upd H1 D (.lst []))) ∧
  ∀ i m σ' H', W i m σ' H' → ((Itl K a).stop i H' ∧ Q (.ref D) H') ∨ ((Itl K a).go i H' ∧ ∀ x H2, (Itl K a).yld i H' x H2 → g x σ' H2 fun σ3 H3 => tc σ3 H3 fun b H4 =>
    if b = true then te σ3 H4 fun v H5 => rAppend (.ref D) [v] H5 fun _ H6 => ∃ m', m' < m ∧ W (i + 1) m' σ3 H6 else ∃ m', m' < m ∧ W (i + 1) m' σ3 H4)) : tComp (iList K tl) g tc te n js σ H Q := h
theorem i_compT {K : PySem.W.Frag} {tl : TE} {σ : St} {H : Hp} {n : Nat} {js : List Nat} (h : tl σ H fun x H1 => ∃ a, x = .ref a ∧ (∃ xs, SqT K H1 a xs) ∧ ∀ D, H1 D = none → ∃ W : Nat → Nat → St → Hp → Prop, (∃ m, W 0 m (inner n js σ) (upd H1 D (.lst []))) ∧
  ∀ i m σ' H', W i m σ' H' → ((Itt K a).stop i H' ∧ Q (.ref D) H') ∨ ((Itt K a).go i H' ∧ ∀ x H2, (Itt K a).yld i H' x H2 → g x σ' H2 fun σ3 H3 => tc σ3 H3 fun b H4 =>
    if b = true then te σ3 H4 fun v H5 => rAppend (.ref D) [v] H5 fun _ H6 => ∃ m', m' < m ∧ W (i + 1) m' σ3 H6 else ∃ m', m' < m ∧ W (i + 1) m' σ3 H4)) : tComp (iTup K tl) g tc te n js σ H Q := h
theorem i_all {B : Bool → Hp → Prop} {σ : St} {H : Hp} (h : B true H) : tAll σ H B := h
theorem i_inL {K : PySem.W.Frag} {H : Hp} {p : Addr} {ys : List V} {x : V} (h : H p = some (.lst ys)) (fx : flatV x = true) (fs : ys.all flatV = true) (q : Q (.bl (inV x ys)) H) : rIn K false x (.ref p) H Q := ⟨p, ys, rfl, .inl (SqL.of h), fx, fs, q⟩
theorem i_ixS {K : PySem.W.Frag} {H : Hp} {p : Addr} {xs : List V} {i : Int} {v : V} (h : SqT K H p xs) (e : atI xs i = some v) (q : Q v H) : rIxT K (.ref p) (.int i) H Q := ⟨p, xs, i, v, rfl, rfl, h, e, q⟩
theorem i_forR2 {σ : St} {H : Hp} {E : Ends} {ta : TA} {tb : TS} (h : ta σ H fun vs H1 => ∃ i j : Int, vs = [.int i, .int j] ∧ (-(2 ^ 62) ≤ i ∧ i < 2 ^ 62 ∧ -(2 ^ 62) ≤ j ∧ j < 2 ^ 62) ∧ ∃ W : Nat → Nat → St → Hp → Prop, (∃ m, W 0 m σ H1) ∧ ∀ k m σ H, W k m σ H →
  ((Itr i (j - i).toNat).stop k H ∧ E.nx σ H) ∨ ((Itr i (j - i).toNat).go k H ∧ ∃ N : St → Hp → Prop, (∀ σ' H', N σ' H' → ∃ m', m' < m ∧ W (k + 1) m' σ' H') ∧ ∀ x H', (Itr i (j - i).toNat).yld k H x H' → g x σ H' fun σ2 H2 => tb { E with nx := N, ct := N, bk := E.nx } σ2 H2)) :
  tFor (iRng2 ta) g tb E σ H := h
end
section
variable {σ : St} {H : Hp} {K : PySem.W.Frag} {R : St → Hp → Prop}
theorem i_gtup {n : Nat} {t : TGs} {a : Addr} {xs : List V} (h : H a = some (.tup xs)) (hn : xs.length = n) (q : t xs σ H R) : gTup K n t (.ref a) σ H R := ⟨a, xs, rfl, SqT.of h, hn, q⟩
theorem i_gcons {t : TG} {u : TGs} {v : V} {r : List V} (q : t v σ H fun σ' H' => u r σ' H' R) : gCons t u (v :: r) σ H R := ⟨v, r, rfl, q⟩
theorem i_gnil (q : R σ H) : gNil [] σ H R := ⟨rfl, q⟩
end
def TopI (mg : Str → Option Value) (x : Str) (i : Int) : Prop := ∃ u, mg x = some u ∧ RelV (.int i) u
def TopT (K : PySem.W.Frag) (mg : Str → Option Value) (x : Str) (xs : List V) : Prop := ∃ a, mg x = some (.ref a) ∧ ∀ H : Hp, SqT K H a xs
theorem topT_mk {K : PySem.W.Frag} {h : Heap} {mg : Str → Option Value} {x : Str} {a : Addr} {o : Obj} {its : Array Value} {n : Nat} {xs : List V} (X : K.In h) (G : h.Ns mainGlobals mg) (e : PySem.W.nsIn K mainGlobals x = some (some (.ref a)))
    (l : K.lookup a = some o) (c : o.cls = .type "tuple") (d : o.data = .seq its n) (z : its.size ≤ sizeLine) (v : Vals xs its.toList) : TopT K mg x xs := ⟨a, PySem.W.mg_of X G e, fun _ => .inr ⟨o, its, n, l, c, d, z, v⟩⟩
theorem topI_mk {K : PySem.W.Frag} {h : Heap} {mg : Str → Option Value} {x : Str} {i : Int} {t : Tok} (X : K.In h) (G : h.Ns mainGlobals mg) (e : PySem.W.nsIn K mainGlobals x = some (some (.int i t))) : TopI mg x i := ⟨_, PySem.W.mg_of X G e, ⟨t, rfl⟩⟩
end L2
namespace L2
open PySem PySem.Spec PyProof.Rows Bg
def WGo (Pv : St → Hp → Prop) (μ : St → Hp → Nat) (tb : TS) (D : Ends) (σ0 : St) (H0 : Hp) (σ : St) (H : Hp) : Prop :=
  ∃ N : St → Hp → Prop, (∀ σ' H', N σ' H' → ∃ m', m' < μ σ0 H0 ∧ (m' = μ σ' H' ∧ Pv σ' H')) ∧ tb { D with nx := N, ct := N, bk := D.nx } σ H
theorem wgo {Pv : St → Hp → Prop} {μ : St → Hp → Nat} {tb : TS} {D : Ends} {σ0 : St} {H0 : Hp} {σ : St} {H : Hp}
    (h : tb { D with nx := fun σ' H' => Pv σ' H' ∧ μ σ' H' < μ σ0 H0, ct := fun σ' H' => Pv σ' H' ∧ μ σ' H' < μ σ0 H0, bk := D.nx } σ H) : WGo Pv μ tb D σ0 H0 σ H :=
  ⟨_, fun _ _ ⟨p, l⟩ => ⟨_, l, rfl, p⟩, h⟩
theorem while_d {c : TT} {tb : TS} {D : Ends} {σ : St} {H : Hp} (Pv : St → Hp → Prop) (μ : St → Hp → Nat) (h0 : Pv σ H)
    (hs : ∀ σ H, Pv σ H → c σ H fun b H1 => if b = true then WGo Pv μ tb D σ H σ H1 else D.nx σ H1) : tWhile c tb D σ H := by
  refine ⟨fun m σ H => m = μ σ H ∧ Pv σ H, ⟨_, rfl, h0⟩, ?_⟩
  rintro m σ H ⟨rfl, p⟩
  exact hs σ H p
theorem bl_q {Q : VK} {H : Hp} {x y : Bool} (e : x = y) (q : Q (.bl y) H) : Q (.bl x) H := by rw [e]; exact q
theorem int_q {Q : VK} {H : Hp} {x y : Int} (e : x = y) (q : Q (.int y) H) : Q (.int x) H := by rw [e]; exact q
def sqs : List Int := [4, 9, 16, 25, 36, 49, 64, 81]
theorem inV_sqs (d : Int) : inV (.int d) [.int 4, .int 9, .int 16, .int 25, .int 36, .int 49, .int 64, .int 81] = sqs.contains d := by
  simp only [inV, List.any_cons, List.any_nil, eqV, sqs, List.contains_cons, List.contains_nil, Bool.or_false]
  simp only [BEq.comm (b := d)]
theorem atI_in {xs : List Int} {i : Int} (h0 : 0 ≤ i) (h1 : i < xs.length) : ∃ d ∈ xs, atI (xs.map V.int) i = some (.int d) := by
  have hi : i.toNat < xs.length := by omega
  refine ⟨xs[i.toNat], List.getElem_mem hi, ?_⟩
  have e := atI_nat (xs := xs.map V.int) (j := i.toNat) (v := .int xs[i.toNat]) (by rw [List.getElem?_map, List.getElem?_eq_getElem hi]; rfl)
  rw [show ((i.toNat : Nat) : Int) = i by omega] at e
  exact e
end L2
namespace Bg
theorem low_self {x y z : Int} (h1 : 1 ≤ z) (g : g3 x y z = 1) : lA x y z = x ∧ lB x y z = y ∧ lN x y z = z := by
  have := low_unique (x := x) (y := y) (z := z) (a := x) (b := y) (n := z) h1 g (by omega) rfl rfl
  exact ⟨this.1.symm, this.2.1.symm, this.2.2.symm⟩
end Bg
namespace Bg
theorem gcd_pos_r {a b : Int} (h : 1 ≤ b) : (0 : Int) < (Int.gcd a b : Nat) := by
  have := (Int.gcd_pos_iff (a := a) (b := b)).mpr (.inr (show b ≠ 0 by omega))
  omega
theorem ediv_pos {a b : Int} (ha : 1 ≤ a) (hb : 0 < b) (h : b ∣ a) : 1 ≤ a / b := by
  have e := Int.ediv_mul_cancel h
  rcases Int.lt_or_le (a / b) 1 with z | z
  · have : a / b * b ≤ 0 := Int.mul_nonpos_of_nonpos_of_nonneg (by omega) (by omega)
    omega
  · exact z
theorem gcd_quot {a b : Int} (h : 1 ≤ b) : Int.gcd (a / (Int.gcd a b : Nat)) (b / (Int.gcd a b : Nat)) = 1 := Int.gcd_ediv_gcd_ediv_gcd (by have := gcd_pos_r (a := a) h; omega)
end Bg
namespace Bg
theorem gcd_bd {k : Nat} {a b : Int} (hb : b ≠ 0) (h : Bd k b) : Bd k ((Int.gcd a b : Nat) : Int) := h.of_le (by
  have h1 := Int.natAbs_dvd_natAbs.mpr (Int.gcd_dvd_right a b)
  exact Nat.le_of_dvd (by omega) h1)
end Bg
namespace Bg
def Br (j k : Nat) (q : Rat) : Prop := Bd j q.num ∧ Bd k (q.den : Int)
structure Tb where
  a : Rat
  b : Rat
  c : Rat
  e : Rat
def Tb.zero : Tb := ⟨0, 0, 0, 0⟩
def Tb.add (s t : Tb) : Tb := ⟨s.a + t.a, s.b + t.b, s.c + t.c, s.e + t.e⟩
def Tb.sub (s t : Tb) : Tb := ⟨s.a - t.a, s.b - t.b, s.c - t.c, s.e - t.e⟩
def Tb.tr (s : Tb) : Tb := ⟨s.a, s.c, s.b, s.e⟩
structure Sd where
  x : Int
  y : Int
  z : Int
structure Sd.Ok (d : Int) (s : Sd) : Prop where
  z1 : 1 ≤ s.z
  g : g3 s.x s.y s.z = 1
  bx : Bd 120 s.x
  bY : Bd 120 s.y
  bz : Bd 30 s.z
  up : sgn d s.x s.y = 1
def Sd.p (s : Sd) : Rat := Rat.divInt s.x s.z
def Sd.q (s : Sd) : Rat := Rat.divInt s.y s.z
structure Bo where
  w : Sd
  h : Sd
def Bo.Ok (d : Int) (b : Bo) : Prop := b.w.Ok d ∧ b.h.Ok d
def Bo.tb (b : Bo) : Tb := ⟨b.w.p * b.h.p, b.w.p * b.h.q, b.w.q * b.h.p, b.w.q * b.h.q⟩
end Bg
namespace Bg
structure Ms where
  f : Rat
  g : Rat
def Ms.Ok (m : Ms) : Prop := Br 90 10 m.f ∧ Br 90 10 m.g
def Sd.ms (s : Sd) : Ms := ⟨s.p, s.q⟩
end Bg
namespace Bg
def Tb.A (d : Int) (t : Tb) : Rat := t.a + (d : Rat) * t.e
def Tb.B (t : Tb) : Rat := t.b + t.c
end Bg
namespace Bg
end Bg
namespace Bg
def digs (n : Nat) : List Nat := (Nat.toDigits 10 n).map Char.toNat
theorem digs_lt {n : Nat} (h : n < 10) : digs n = [48 + n] := by
  have : n = 0 ∨ n = 1 ∨ n = 2 ∨ n = 3 ∨ n = 4 ∨ n = 5 ∨ n = 6 ∨ n = 7 ∨ n = 8 ∨ n = 9 := by omega
  rcases this with rfl | rfl | rfl | rfl | rfl | rfl | rfl | rfl | rfl | rfl <;> rfl
theorem digs_step {n : Nat} (h : 10 ≤ n) : digs n = digs (n / 10) ++ [48 + n % 10] := by
  have e := Nat.toDigits_append_toDigits (b := 10) (n := n / 10) (d := n % 10) (by decide) (by omega) (by omega)
  rw [Nat.div_add_mod] at e
  rw [← digs_lt (show n % 10 < 10 by omega)]
  unfold digs
  rw [← e, List.map_append]
theorem digs_ne (n : Nat) : digs n ≠ [] := by
  by_cases h : n < 10
  · rw [digs_lt h]
    simp
  · rw [digs_step (by omega)]
    simp
def lastf : Nat → Nat → List Nat
  | 0, _ => []
  | k + 1, m => lastf k (m / 10) ++ [48 + m % 10]
theorem lastf_len (k m : Nat) : (lastf k m).length = k := by
  induction k generalizing m with
  | zero => rfl
  | succ k ih =>
    show (lastf k (m / 10) ++ [48 + m % 10]).length = k + 1
    rw [List.length_append, ih]
    rfl
theorem digs_cut (k : Nat) : ∀ n, 10 ^ k ≤ n → digs n = digs (n / 10 ^ k) ++ lastf k (n % 10 ^ k) := by
  induction k with
  | zero =>
    intro n _
    rw [Nat.pow_zero, Nat.div_one]
    show digs n = digs n ++ []
    rw [List.append_nil]
  | succ k ih =>
    intro n h
    have p : 0 < 10 ^ k := Nat.pow_pos (by decide)
    rw [Nat.pow_succ] at h ⊢
    have h1 : 10 ^ k ≤ n / 10 := (Nat.le_div_iff_mul_le (by decide)).mpr h
    rw [digs_step (by omega), ih _ h1]
    show digs (n / 10 / 10 ^ k) ++ lastf k (n / 10 % 10 ^ k) ++ [48 + n % 10] = digs (n / (10 ^ k * 10)) ++ (lastf k (n % (10 ^ k * 10) / 10) ++ [48 + n % (10 ^ k * 10) % 10])
    have e1 : n / (10 ^ k * 10) = n / 10 / 10 ^ k := by rw [Nat.mul_comm, Nat.div_div_eq_div_mul]
    have e2 : n % (10 ^ k * 10) / 10 = n / 10 % 10 ^ k := by rw [Nat.mul_comm, Nat.mod_mul_right_div_self]
    have e3 : n % (10 ^ k * 10) % 10 = n % 10 := Nat.mod_mul_left_mod ..
    rw [e1, e2, e3, List.append_assoc]
theorem lastf_small (k : Nat) : ∀ m, m < 10 ^ k → 1 ≤ k → lastf k m = List.replicate (k - (digs m).length) 48 ++ digs m ∧ (digs m).length ≤ k := by
  induction k with
  | zero => intro m _ h; omega
  | succ k ih =>
    intro m hm _
    show lastf k (m / 10) ++ [48 + m % 10] = _ ∧ _
    by_cases h : m < 10
    · rw [digs_lt h]
      have z : ∀ j, lastf j 0 = List.replicate j 48 := fun j => by
        induction j with
        | zero => rfl
        | succ j ih =>
          show lastf j (0 / 10) ++ [48] = _
          rw [Nat.zero_div, ih, List.replicate_succ']
      rw [Nat.div_eq_of_lt h, Nat.mod_eq_of_lt h, z]
      exact ⟨rfl, by simp⟩
    · rw [digs_step (by omega)]
      have h1 : m / 10 < 10 ^ k := by
        rw [Nat.pow_succ] at hm
        exact Nat.div_lt_of_lt_mul (by rw [Nat.mul_comm]; exact hm)
      have k1 : 1 ≤ k := by
        rcases Nat.eq_zero_or_pos k with z | z
        · subst z
          omega
        · exact z
      obtain ⟨e, l⟩ := ih _ h1 k1
      rw [e, List.length_append]
      refine ⟨?_, by simp only [List.length_cons, List.length_nil]; omega⟩
      rw [List.append_assoc]
      congr 2
      simp only [List.length_cons, List.length_nil]
      omega
end Bg
namespace Bg
theorem dvd_of_mul_gcd {e x v : Int} (h : e ∣ x * v) (g : Int.gcd e v = 1) : e ∣ x := by
  have h1 : e ∣ x * v := h
  have h2 : e ∣ x * e := ⟨x, Int.mul_comm ..⟩
  have h3 : e ∣ (Int.gcd (x * e) (x * v) : Nat) := Int.dvd_coe_gcd h2 h1
  rw [Int.gcd_mul_left, g, Nat.mul_one] at h3
  exact Int.dvd_natAbs.mp h3
theorem gcd_one_of {a b : Int} (h : ∀ e : Int, e ∣ a → e ∣ b → e ∣ 1) : Int.gcd a b = 1 := by
  have := h (Int.gcd a b : Nat) (Int.gcd_dvd_left ..) (Int.gcd_dvd_right ..)
  have h2 := Int.natAbs_dvd_natAbs.mpr this
  simpa using h2
theorem dvd_one_of {a b e : Int} (h : Int.gcd a b = 1) (ha : e ∣ a) (hb : e ∣ b) : e ∣ 1 := by
  have := Int.dvd_coe_gcd ha hb
  rw [h] at this
  exact this
theorem gcd_one_mono {a b e : Int} (h : Int.gcd a b = 1) (ha : e ∣ a) : Int.gcd e b = 1 :=
  gcd_one_of fun _ h1 h2 => dvd_one_of h (Int.dvd_trans h1 ha) h2
theorem gcd_one_mul {a b c : Int} (h1 : Int.gcd a b = 1) (h2 : Int.gcd a c = 1) : Int.gcd a (b * c) = 1 :=
  gcd_one_of fun e ha hb => by
    have e1 : Int.gcd e c = 1 := gcd_one_mono h2 ha
    exact dvd_one_of h1 ha (dvd_of_mul_gcd hb e1)
theorem shares {z z' : Int} (h1 : 1 ≤ z) (h2 : 1 ≤ z') : ∃ s u v : Int, s = (Int.gcd z z' : Nat) ∧ 1 ≤ s ∧ 1 ≤ u ∧ 1 ≤ v ∧ z = s * u ∧ z' = s * v ∧ z.fdiv s = u ∧ z'.fdiv s = v ∧ Int.gcd u v = 1 := by
  have d1 : ((Int.gcd z z' : Nat) : Int) ∣ z := Int.gcd_dvd_left ..
  have d2 : ((Int.gcd z z' : Nat) : Int) ∣ z' := Int.gcd_dvd_right ..
  have hp : 0 < Int.gcd z z' := Int.gcd_pos_of_ne_zero_left _ (by omega)
  obtain ⟨u, hu⟩ := d1
  obtain ⟨v, hv⟩ := d2
  have hs : (1 : Int) ≤ (Int.gcd z z' : Nat) := by omega
  have hg : Int.gcd u v = 1 := by
    have e : Int.gcd z z' = Int.gcd ((Int.gcd z z' : Nat) * u) ((Int.gcd z z' : Nat) * v) := by rw [← hu, ← hv]
    rw [Int.gcd_mul_left, Int.natAbs_natCast] at e
    exact (Nat.eq_of_mul_eq_mul_left hp (by rw [Nat.mul_one]; exact e)).symm
  generalize ((Int.gcd z z' : Nat) : Int) = s at *
  subst hu; subst hv
  refine ⟨s, u, v, rfl, hs, ?_, ?_, rfl, rfl, Int.mul_fdiv_cancel_left _ (by omega), Int.mul_fdiv_cancel_left _ (by omega), hg⟩
  · refine Int.not_lt.mp fun q => ?_
    have := Int.mul_nonpos_of_nonneg_of_nonpos (show (0:Int) ≤ s by omega) (show u ≤ 0 by omega)
    omega
  · refine Int.not_lt.mp fun q => ?_
    have := Int.mul_nonpos_of_nonneg_of_nonpos (show (0:Int) ≤ s by omega) (show v ≤ 0 by omega)
    omega
def aS (z z' : Int) : Int := (Int.gcd z z' : Nat)
theorem gcd_bdl {k : Nat} {z a : Int} (h : z ≠ 0) (hb : Bd k z) : Bd k ((Int.gcd z a : Nat) : Int) := hb.of_le (by
  rw [Int.natAbs_natCast]
  exact Nat.le_of_dvd (by omega) (by simpa using Int.natAbs_dvd_natAbs.mpr (Int.gcd_dvd_left z a)))
theorem parts_by_low {t b t' b' : Int} (h1 : 1 ≤ b) (h2 : 1 ≤ b') (g1 : Int.gcd t b = 1) (g2 : Int.gcd t' b' = 1) :
    1 ≤ aS b b' ∧ t * b'.fdiv (aS b b') = lA (t * b') (t' * b) (b * b') ∧ t' * b.fdiv (aS b b') = lB (t * b') (t' * b) (b * b') ∧ b.fdiv (aS b b') * b' = lN (t * b') (t' * b) (b * b') := by
  obtain ⟨s, u, v, hs, s1, u1, v1, ez, ez', fu, fv, guv⟩ := shares h1 h2
  have eS : aS b b' = s := hs.symm
  rw [eS, fu, fv]
  refine ⟨s1, ?_⟩
  have gvu : Int.gcd v u = 1 := Int.gcd_comm u v ▸ guv
  have dub : u ∣ b := by rw [ez]; exact Int.dvd_mul_left ..
  have dvb : v ∣ b' := by rw [ez']; exact Int.dvd_mul_left ..
  have gX : g3 (t * v) (t' * u) (u * b') = 1 := by
    have dX := g3_a (t * v) (t' * u) (u * b')
    have dY := g3_b (t * v) (t' * u) (u * b')
    have dZ := g3_n (t * v) (t' * u) (u * b')
    have k : ((g3 (t * v) (t' * u) (u * b') : Nat) : Int) ∣ 1 := by
      generalize ((g3 (t * v) (t' * u) (u * b') : Nat) : Int) = e at *
      have cu : Int.gcd e u = 1 := gcd_one_of fun f f1 f2 => by
        have gt : Int.gcd f t = 1 := gcd_one_mono (Int.gcd_comm t b ▸ g1) (Int.dvd_trans f2 dub)
        have hv : f ∣ v := dvd_of_mul_gcd (by rw [Int.mul_comm]; exact Int.dvd_trans f1 dX) gt
        exact dvd_one_of guv f2 hv
      have et' : e ∣ t' := dvd_of_mul_gcd dY cu
      have cv : Int.gcd e v = 1 := gcd_one_of fun f f1 f2 => dvd_one_of g2 (Int.dvd_trans f1 et') (Int.dvd_trans f2 dvb)
      have et : e ∣ t := dvd_of_mul_gcd dX cv
      have cs : Int.gcd e s = 1 := gcd_one_of fun f f1 f2 => dvd_one_of g1 (Int.dvd_trans f1 et) (Int.dvd_trans f2 (by rw [ez]; exact Int.dvd_mul_right ..))
      rw [ez'] at dZ
      exact dvd_one_of (gcd_one_mul cu (gcd_one_mul cs cv)) (Int.dvd_refl _) dZ
    have := Int.natAbs_dvd_natAbs.mpr k
    simpa using this
  refine low_unique ?_ gX (Int.mul_ne_zero (by omega) (by omega)) ?_ ?_
  · exact Int.mul_pos (by omega) (by omega)
  · subst ez ez'
    clear gX hs guv gvu fu fv g1 g2
    grind
  · subst ez ez'
    clear gX hs guv gvu fu fv g1 g2
    grind
end Bg
namespace Bg
structure B4 where
  a : Int
  b : Int
  c : Int
  e : Int
def B4.nx (d : Int) (s : B4) : B4 := if 0 < sgn d (s.a - s.c) (s.b - s.e) then ⟨s.a - s.c, s.b - s.e, s.c, s.e⟩ else ⟨s.a, s.b, s.c - s.a, s.e - s.b⟩
def b4 : B4 := ⟨0, 1, 1, 0⟩
theorem sgn_lowest {d a b N : Int} (hR : Rt d) (hN : 1 ≤ N) : sgn d (lA a b N) (lB a b N) = sgn d a b := by
  have n0 : N ≠ 0 := by omega
  have h1 := l_n (a := a) (b := b) n0
  refine sgn_same hR (k := N) (m := lN a b N) (by omega) (by omega) ?_ ?_
  · rw [Int.mul_comm, l_a, Int.mul_comm]
  · rw [Int.mul_comm, l_b, Int.mul_comm]
def B4.det (s : B4) : Int := s.a * s.e - s.b * s.c
def B4.i (s : B4) (x y : Int) : Int := s.det * (x * s.e - y * s.c)
def B4.j (s : B4) (x y : Int) : Int := s.det * (s.a * y - s.b * x)
end Bg
namespace Bg
def B4.srv (s : B4) (x y : Int) : Prop := 0 ≤ s.i x y ∧ 0 ≤ s.j x y
instance {s : B4} {x y : Int} : Decidable (s.srv x y) := inferInstanceAs (Decidable (0 ≤ s.i x y ∧ 0 ≤ s.j x y))
def st (d : Int) : Nat → B4
  | 0 => b4
  | k + 1 => (st d k).nx d
end Bg
namespace Bg
def BsE (s s' : B4) (N : Int) : Prop := (lA s.a s.b N = lA s'.a s'.b N ∧ lB s.a s.b N = lB s'.a s'.b N ∧ lN s.a s.b N = lN s'.a s'.b N) ∧ (lA s.c s.e N = lA s'.c s'.e N ∧ lB s.c s.e N = lB s'.c s'.e N ∧ lN s.c s.e N = lN s'.c s'.e N)
instance {s s' : B4} {N : Int} : Decidable (BsE s s' N) := inferInstanceAs (Decidable (_ ∧ _))
end Bg
namespace Bg
end Bg
namespace Bg
end Bg
namespace Bg
def tmS (m : Int) (s : Sd) : Sd := ⟨lA (m * s.x) (m * s.y) s.z, lB (m * s.x) (m * s.y) s.z, lN (m * s.x) (m * s.y) s.z⟩
def adS (s t : Sd) : Sd := ⟨lA (s.x * t.z + t.x * s.z) (s.y * t.z + t.y * s.z) (s.z * t.z), lB (s.x * t.z + t.x * s.z) (s.y * t.z + t.y * s.z) (s.z * t.z), lN (s.x * t.z + t.x * s.z) (s.y * t.z + t.y * s.z) (s.z * t.z)⟩
structure SK (k j : Nat) (s : Sd) : Prop where
  z1 : 1 ≤ s.z
  g : g3 s.x s.y s.z = 1
  bx : Bd k s.x
  by' : Bd k s.y
  bz : Bd j s.z
theorem SK.ne {k j : Nat} {s : Sd} (h : SK k j s) : s.z ≠ 0 := by have := h.z1; omega
def nul : Sd := ⟨0, 0, 1⟩
def mny (s : B4) (N : Int) (pl : Nat) (w : Sd) : Int := if pl = 0 then s.i (N / w.z * w.x) (N / w.z * w.y) else s.j (N / w.z * w.x) (N / w.z * w.y)
def hg (s : B4) (N : Int) (pl : Nat) : List Bo → Sd := fun L => L.foldl (fun a b => adS a (tmS (mny s N pl b.w) b.h)) nul
structure B5 (d N : Int) (b : Bo) : Prop where
  w : SK 20 12 b.w
  h : SK 20 12 b.h
  wu : sgn d b.w.x b.w.y = 1
  hu : sgn d b.h.x b.h.y = 1
  dv : b.w.z ∣ N
end Bg
namespace L2
open PySem PySem.Spec PyProof.Rows Bg
def rAllB (K : PySem.W.Frag) : List V → Hp → VK → Prop := fun xs H Q => ∃ (a : Addr) (bs : List Bool), xs = [.ref a] ∧ SqL K H a (bs.map V.bl) ∧ Q (.bl (bs.all id)) H
section
variable {X : Cx}
theorem call_allL (hc : X.calm = true) : CallR X (.builtin "all") (rAllB X.K) := by
  intro pins s σ H xs us Q I r h
  obtain ⟨a, bs, rfl, hq, q⟩ := h
  obtain ⟨u, rfl, ru⟩ := Vals.one r
  cases ru
  obtain ⟨its, rv, p, hz⟩ := I.list hq
  have hlt : a < s.heap.objs.size := by
    obtain ⟨o, _, e, _⟩ := p
    exact Heap.lt_size e
  refine call_all_walk (wpAny_pyIter_list p.isList ?_)
  refine ⟨_, _, _, _, _, _, (fun i => bs.getD i false), rfl, Walks.list (A := X.A.in1) (show X.A.in1.handled = none from I.ok.hd hc) _ a (Nat.ne_of_lt hlt) its.toArray, ⟨⟨_, Heap.get?_push_size _ rfl, rfl, rfl⟩, p.isList.push _⟩, ?_, fun h' tk hk => ?_⟩
  · intro i v s' Q' E' hP hQ
    have hP' : its[i]? = some v := by simpa using hP
    have hi : i < bs.length := by
      have := rv.length
      rw [List.length_map] at this
      have := (List.getElem?_eq_some_iff.mp hP').1
      omega
    obtain ⟨u, hu, ru⟩ := rv.get (i := i) (x := .bl bs[i]) (by rw [List.getElem?_map, List.getElem?_eq_getElem hi]; rfl)
    rw [hP'] at hu
    cases hu
    cases ru
    have e : bs.getD i false = bs[i] := by rw [List.getD_eq_getElem?_getD, List.getElem?_eq_getElem hi]; rfl
    have hQ' : Q' (bs.getD i false) s' := hQ
    rw [e] at hQ'
    exact wpAny_truthy_bool hQ'
  · have e : (List.range its.toArray.size).all (fun i => bs.getD i false) = bs.all id := by
      have := rv.length
      rw [List.length_map] at this
      rw [List.size_toArray, ← this, all_getD]
    rw [e]
    refine ⟨.bl _, H, I.kept (t' := tk) fun b o e' => hk b o ?_ (Heap.get?_push_of_some _ e'), rfl, q⟩
    intro hb
    have e2 : b = s.heap.objs.size := by simpa using hb
    exact absurd (Heap.lt_size e') (by rw [e2]; exact Nat.lt_irrefl _)
end
end L2
namespace L2
open PySem PySem.Spec PyProof.Rows Bg
def kitTy (t c : String) : Option Bool := if (Value.type t == Value.type c) = true then some true else if PySem.W.kitMeta c = true then (fastBuiltinMro t).map (·.contains (Value.type c)) else none
theorem kit_ty {K : PySem.W.Frag} {t c : String} {b : Bool} (h : kitTy t c = some b) : PySem.W.kitOne K (.type t) (.type c) = some b := h
inductive Kd (H : Hp) : V → String → Prop where
  | non : Kd H .non "NoneType"
  | bl (x : Bool) : Kd H (.bl x) "bool"
  | int (i : Int) : Kd H (.int i) "int"
  | str (x : Str) : Kd H (.str x) "str"
  | lst {a : Addr} {xs : List V} (e : H a = some (.lst xs)) : Kd H (.ref a) "list"
  | tup {a : Addr} {xs : List V} (e : H a = some (.tup xs)) : Kd H (.ref a) "tuple"
  | dK {a : Addr} {xs : List (Key × V)} (e : H a = some (.dK xs)) : Kd H (.ref a) "dict"
theorem Kd.ty {K : PySem.W.Frag} {H : Hp} {x : V} {t : String} (k : Kd H x t) : TyOf K H x (.type t) := by
  cases k with
  | non => exact .non
  | bl b => exact .bl b
  | int i => exact .int i
  | str s => exact .str s
  | lst e => exact .lst e
  | tup e => exact .tup e
  | dK e => exact .dK e
theorem i_isK {K : PySem.W.Frag} {H : Hp} {Q : VK} {x : V} {t T : String} {b : Bool} (k : Kd H x t) (e : kitTy t T = some b) (q : Q (.bl b) H) : rIs K [x, .ty T] H Q := ⟨_, _, _, _, rfl, k.ty, kit_ty e, q⟩
theorem i_allB {K : PySem.W.Frag} {H : Hp} {Q : VK} {a : Addr} {bs : List Bool} (h : SqL K H a (bs.map V.bl)) (q : Q (.bl (bs.all id)) H) : rAllB K [.ref a] H Q := ⟨a, bs, rfl, h, q⟩
inductive T0 where
  | flat (x : V)
  | tup (xs : List V)
  | lst (xs : List V)
end L2
namespace L2
open PySem PySem.Spec PyProof.Rows Bg
section
variable {H0 H : Hp} {Q : VK} {ls : List (Addr × HO)}
end
end L2
namespace L2
open PySem PySem.Spec PyProof.Rows
section
variable {X : Cx} {tg : Expr}
def Its (lo c : Int) (n : Nat) : It := ⟨fun i _ => i < n, fun i H x H' => H' = H ∧ x = .int (lo + (i : Nat) * c), fun i _ => n ≤ i⟩
theorem turn_rangeS {P : Program} {w : World} {K : PySem.W.Frag} {tg : Expr} (it : Addr) (lo c : Int) (n : Nat) : Turn P w K tg (Its lo c n) [it] it (fun i h => IsRangeIter h it (lo + (i : Nat) * c) ((n : Int) - (i : Nat)) c) where
  mem := by simp
  obj := fun i h st b hb => by
    have e : b = it := by simpa using hb
    subst e
    exact ⟨_, st, fun v z => by
      have z' : Data.fields _ = Data.cell v := z
      cases z'⟩
  keep := fun i h h' st k => k it (by simp) _ st
  item := by
    intro X hP hw hK hc i pins s σ H E I hf st hg
    subst hP hw hK
    obtain ⟨f0, f1, f2, f3, f4, f5⟩ := hf it (by simp)
    have W := Walks.range (prog := X.prog) (w := X.w) (I.ok.hd hc) it lo c n
    refine W.item i s _ _ hg st fun v h' tk hv st' kk => ?_
    obtain ⟨t, rfl⟩ := hv
    have I1 : Inv X pins σ H { s with heap := h', toks := tk } := I.turned (fun b o hb e => kk b o (by simpa using hb) e) f0 f1 f3 f4 f5
    exact ⟨_, rfl, go_of (s := { s with heap := h', toks := tk }) (n := "range_iterator") st' rfl rfl (by decide) ⟨.int (lo + i * c), H, I1, ⟨t, rfl⟩, ⟨rfl, rfl⟩, st', fun b hb => (hf b hb).1⟩⟩
  done := by
    intro X hP hw hK hc i pins s σ H E I hf st hg
    subst hP hw hK
    obtain ⟨f0, f1, f2, f3, f4, f5⟩ := hf it (by simp)
    exact wpAny_pyNext_range_end (I.ok.hd hc) st (by have : n ≤ i := hg; omega) fun h' eb => ⟨rfl, I.turned (t' := s.toks) (fun b o hb e => eb b o hb e) f0 f1 f3 f4 f5⟩
  self := fun _ _ _ _ _ st h => wpAny_pyIter_rangeiter st h
theorem for_rangeS {lo c : Int} {n : Nat} {g : TG} {tb : TS} {D : Ends} {σ : St} {H : Hp} (Pv : Nat → St → Hp → Prop) (h0 : Pv 0 σ H)
    (hs : ∀ i σ H, i < n → Pv i σ H → g (.int (lo + i * c)) σ H fun σ2 H2 => tb { D with nx := Pv (i + 1), ct := Pv (i + 1), bk := D.nx } σ2 H2) (hd : ∀ σ H, Pv n σ H → D.nx σ H) :
    ∃ W : Nat → Nat → St → Hp → Prop, (∃ m, W 0 m σ H) ∧ ∀ i m σ H, W i m σ H →
      ((Its lo c n).stop i H ∧ D.nx σ H) ∨ ((Its lo c n).go i H ∧ ∃ N : St → Hp → Prop, (∀ σ' H', N σ' H' → ∃ m', m' < m ∧ W (i + 1) m' σ' H') ∧ ∀ x H', (Its lo c n).yld i H x H' → g x σ H' fun σ2 H2 => tb { D with nx := N, ct := N, bk := D.nx } σ2 H2) := by
  refine ⟨fun i m σ H => m = n - i ∧ i ≤ n ∧ Pv i σ H, ⟨n, by simp, Nat.zero_le _, h0⟩, ?_⟩
  rintro i m σ H ⟨rfl, hi, p⟩
  by_cases hlt : i < n
  · refine .inr ⟨hlt, Pv (i + 1), fun σ' H' p' => ⟨n - (i + 1), by omega, rfl, hlt, p'⟩, fun x H' y => ?_⟩
    obtain ⟨e, y⟩ := y
    subst e y
    exact hs i σ _ hlt p
  · have e : i = n := by omega
    subst e
    exact .inl ⟨Nat.le_refl _, hd σ H p⟩
end
end L2
namespace L2
open PySem PySem.Spec PyProof.Rows Bg
end L2
namespace L2
open PySem PySem.Spec PyProof.Rows Bg
abbrev SdAt (H : Hp) (p : Addr) (s : Sd) : Prop := H p = some (.tup [.int s.x, .int s.y, .int s.z])
structure Cell where
  p : Addr
  pw : Addr
  ph : Addr
  b : Bo
def Cell.v (c : Cell) : V := .ref c.p
structure Cell.At (H : Hp) (c : Cell) : Prop where
  t : H c.p = some (.tup [.ref c.pw, .ref c.ph])
  w : SdAt H c.pw c.b.w
  h : SdAt H c.ph c.b.h
theorem Cell.At.same {H H' : Hp} {c : Cell} (h : c.At H) (s : Same H H') : c.At H' := ⟨s _ _ h.t, s _ _ h.w, s _ _ h.h⟩
theorem Cell.At.sameX {H H' : Hp} {c : Cell} {D : Addr} {xs : List V} (h : c.At H) (s : SameX D H H') (e : H D = some (.lst xs)) : c.At H' := ⟨s.tup h.t e, s.tup h.w e, s.tup h.h e⟩
theorem at_cells {L : List Cell} {i : Nat} {y : V} (h : (L.map Cell.v)[i]? = some y) : ∃ c, y = .ref c.p ∧ c ∈ L ∧ L[i]? = some c := by
  rw [List.getElem?_map] at h
  cases e : L[i]? with
  | none => rw [e] at h; cases h
  | some c =>
    rw [e] at h
    exact ⟨c, (Option.some.inj h).symm, List.mem_of_getElem? e, rfl⟩
end L2
namespace L2
open PySem PySem.Spec PyProof.Rows Bg
section
variable {K : PySem.W.Frag} {H : Hp} {Q : VK} {σ : St} {D : Ends}
end
end L2
namespace L2
open PySem PySem.Spec PyProof.Rows Bg
end L2
namespace L2
open PySem PySem.Spec PyProof.Rows Bg
end L2
namespace L2
open PySem PySem.Spec PyProof.Rows Bg
section
variable {prog : Program} {w : World} {A : Around} {E : Value → Shared → Prop}
end
end L2
namespace L2
open PySem PySem.Spec PyProof.Rows Bg
section
variable {X : Cx}
def rZfill : V → List V → Hp → VK → Prop := fun x vs H Q => ∃ z i, x = .str z ∧ vs = [.int i] ∧ 0 ≤ i ∧ i ≤ 1000 ∧ Q (.str (Txt.zfill z i)) H
theorem mt_zfill : MtR X "str.zfill" rZfill := by
  intro pins s σ H x vs v us Q I rx rv h
  obtain ⟨z, i, rfl, rfl, h0, h1, q⟩ := h
  obtain ⟨t, rfl⟩ := rx
  obtain ⟨u, rfl, ru⟩ := rv.one
  obtain ⟨t', rfl⟩ := ru
  exact SC.zfill (padOk_of (by omega) (by omega)) fun t' k => ⟨.str _, H, I.tok k, ⟨_, rfl⟩, q⟩
theorem strsAre_of : ∀ {ys : List Str} {us : List Value}, Vals (ys.map V.str) us → StrsAre us ys
  | [], _, .nil => .nil
  | _ :: _, _, .cons ⟨_, rfl⟩ r => .cons _ _ (strsAre_of r)
def rJoin (K : PySem.W.Frag) : V → List V → Hp → VK → Prop := fun x vs H Q => ∃ z p ys, x = .str z ∧ vs = [.ref p] ∧ SqL K H p (ys.map V.str) ∧ (ys.map (·.length)).sum + ys.length * z.length ≤ 16777216 ∧ Q (.str (Txt.join z ys)) H
theorem mt_join : MtR X "str.join" (rJoin X.K) := by
  intro pins s σ H x vs v us Q I rx rv h
  obtain ⟨z, p, ys, rfl, rfl, hS, hok, q⟩ := h
  obtain ⟨t, rfl⟩ := rx
  obtain ⟨u, rfl, ru⟩ := rv.one
  cases ru
  obtain ⟨its, r, pl, hz⟩ := I.list hS
  exact join_list pl.isList (strsAre_of (by simpa using r)) hok fun t' k => ⟨.str _, H, I.tok k, ⟨_, rfl⟩, q⟩
abbrev TF := St → Hp → Str → VK → Prop
def PF (X : Cx) (es : List Expr) (t : TF) : Prop := ∀ (pins : List (Addr × Obj)) (s : Shared) (σ : St) (H : Hp) (out : Str) (Q : VK), Inv X pins σ H s → t σ H out Q → wpAny (model X.prog X.w) X.A (joinParts out (evalEach es X.env)) (EP X pins σ Q) X.xe s
def fNil : TF := fun _ H out Q => out.length ≤ sizeLine ∧ Q (.str out) H
def fVal (te : TE) (t : TF) : TF := fun σ H out Q => te σ H fun x H1 => ∃ y, x = .str y ∧ y.length ≤ sizeLine ∧ (out ++ y).length ≤ sizeLine ∧ t σ H1 (out ++ y) Q
def fInt (te : TE) (t : TF) : TF := fun σ H out Q => te σ H fun x H1 => ∃ i : Int, x = .int i ∧ i.natAbs.log2 < 1920 ∧ (out ++ (toString i : Str)).length ≤ sizeLine ∧ t σ H1 (out ++ (toString i : Str)) Q
def fStr (z : Str) (t : TF) : TF := fun σ H out Q => (out ++ z).length ≤ sizeLine ∧ t σ H (out ++ z) Q
theorem pf_nil : PF X [] fNil := by
  intro pins s σ H out Q I h
  exact joinParts_nil ⟨.str out, H, I.tok _, ⟨_, rfl⟩, h.2⟩ h.1
theorem pf_val {e : Expr} {es : List Expr} {te : TE} {t : TF} {pos : Pos} (he : PE X e te) (ht : PF X es t) : PF X (.FormattedValue e (-1) none pos :: es) (fVal te t) := by
  intro pins s σ H out Q I h
  show wpAny _ _ (joinParts out (eval (.FormattedValue e (-1) none pos) X.env :: evalEach es X.env)) _ _ s
  refine joinParts_cons (FormattedValue_plain (thn (he pins s σ H _ I h) fun v s1 ⟨x, H1, I1, r1, y, ey, hy, hz, q⟩ => ?_))
  subst ey
  obtain ⟨tk, rfl⟩ := r1
  exact formatField_str (fun t' k => ⟨hz, ht pins _ σ H1 _ Q (I1.tok k) q⟩) hy
theorem pf_str {z : Str} {es : List Expr} {t : TF} {j pos} (ht : PF X es t) : PF X (.Constant (.str z) j pos :: es) (fStr z t) := by
  intro pins s σ H out Q I h
  show wpAny _ _ (joinParts out (eval (.Constant (.str z) j pos) X.env :: evalEach es X.env)) _ _ s
  refine joinParts_cons (Calls.Constant_str ?_)
  exact ⟨h.1, ht pins _ σ H _ Q (I.tok _) h.2⟩
def tF (t : TF) : TE := fun σ H Q => t σ H Str.empty Q
theorem pe_fstr {v1 v2 : Expr} {rest : List Expr} {t : TF} {pos : Pos} (h : PF X (v1 :: v2 :: rest) t) : PE X (.JoinedStr (v1 :: v2 :: rest) pos) (tF t) := by
  intro pins s σ H Q I q
  exact JoinedStr_many (h pins s σ H Str.empty Q I q)
end
end L2
namespace L2
open PySem PySem.Spec PyProof.Rows Bg
theorem digs_mem (n : Nat) : ∀ c ∈ digs n, 48 ≤ c ∧ c ≤ 57 := by
  induction n using Nat.strongRecOn with
  | _ n ih =>
    intro c hc
    by_cases h : n < 10
    · rw [digs_lt h] at hc
      have : c = 48 + n := by simpa using hc
      omega
    · rw [digs_step (by omega)] at hc
      rcases List.mem_append.mp hc with z | z
      · exact ih (n / 10) (by omega) c z
      · have : c = 48 + n % 10 := by simpa using z
        omega
def dtx (n : Nat) : Str := ⟨(digs n).toArray⟩
theorem str_num {n : Int} (h : 0 ≤ n) : (toString n : Str) = dtx n.natAbs := by
  obtain ⟨m, rfl⟩ := Int.eq_ofNat_of_zero_le h
  exact text_ofNat m
theorem str_len (l : List Nat) : (⟨l.toArray⟩ : Str).length = l.length := by
  show l.toArray.size = l.length
  simp
theorem str_app (l m : List Nat) : (⟨l.toArray⟩ : Str) ++ (⟨m.toArray⟩ : Str) = ⟨(l ++ m).toArray⟩ := by
  show (⟨l.toArray ++ m.toArray⟩ : Str) = _
  simp
theorem zfill_digs {m : Nat} (h : m < 10 ^ 18) : Txt.zfill (dtx m) 18 = ⟨(lastf 18 m).toArray⟩ := by
  obtain ⟨e, l⟩ := lastf_small 18 m h (by decide)
  unfold Txt.zfill dtx
  rw [str_len]
  by_cases z : (18 : Int) ≤ (digs m).length
  · rw [if_pos z]
    have : 18 - (digs m).length = 0 := by omega
    rw [e, this]
    rfl
  · rw [if_neg z]
    unfold zfilled
    obtain ⟨c, r, hr⟩ : ∃ c r, digs m = c :: r := by
      cases q : digs m with
      | nil => exact absurd q (digs_ne m)
      | cons c r => exact ⟨c, r, rfl⟩
    have hc := digs_mem m c (by rw [hr]; exact List.mem_cons_self)
    have h0 : (digs m).toArray[0]? = some c := by rw [hr]; rfl
    show (match (digs m).toArray[0]? with | some 43 | some 45 => _ | _ => _) = _
    rw [h0]
    split
    · rename_i q; cases q; omega
    · rename_i q; cases q; omega
    · unfold Builtin.Str.padded
      rw [e]
      simp
theorem join_flat (ys : List Str) : Txt.join ⟨#[]⟩ ys = ⟨((ys.map fun y => y.cps.toList).flatten).toArray⟩ := by
  unfold Txt.join
  rw [StrLaws.glued_eq_join]
  induction ys with
  | nil => rfl
  | cons y r ih =>
    rw [PyProof.Rows.join_nil_cons, ih]
    show (⟨y.cps ++ _⟩ : Str) = _
    simp
end L2
namespace L2
open PySem PySem.Spec PyProof.Rows Bg
def txl (n : Int) : List Nat := (if n < 0 then [45] else []) ++ digs n.natAbs
def ftl (t b : Int) : List Nat := if b = 1 then txl t else txl t ++ [47] ++ txl b
abbrev sOf (l : List Nat) : Str := ⟨l.toArray⟩
theorem txl_nn {n : Int} (h : 0 ≤ n) : txl n = digs n.natAbs := by
  unfold txl
  rw [if_neg (by omega)]
  rfl
theorem txl_neg {n : Int} (h : n < 0) : txl n = 45 :: digs n.natAbs := by
  unfold txl
  rw [if_pos h]
  rfl
section
variable {X : Cx}
def rStrI : List V → Hp → VK → Prop := fun xs H Q => ∃ i : Int, xs = [.int i] ∧ i.natAbs.log2 < 1920 ∧ Q (.str (toString i)) H
theorem call_strR : CallR X (.type "str") rStrI := call_str_int
def rMin : List V → Hp → VK → Prop := fun xs H Q => ∃ i j : Int, xs = [.int i, .int j] ∧ Q (.int (if j < i then j else i)) H
theorem call_minR (hc : X.calm = true) : CallR X (.builtin "min") rMin := call_min2 hc
def rAddS : R2 := fun x y H Q => ∃ i j, x = .str i ∧ y = .str j ∧ i.length + j.length ≤ sizeLine ∧ Q (.str (i ++ j)) H
theorem op_addS : OpR X (binaryOp .Add) rAddS := op_add_str
end
section
variable {K : PySem.W.Frag} {σ : St} {H : Hp} {Q : VK}
theorem line_le {n : Nat} (h : n ≤ 1000) : n ≤ sizeLine := small_le h
theorem i_strI {i : Int} (h0 : 0 ≤ i) (hb : Bd 1000 i) (q : Q (.str (sOf (digs i.natAbs))) H) : rStrI [.int i] H Q := ⟨i, rfl, Nat.lt_of_le_of_lt hb.log (by decide), by rw [str_num h0]; exact q⟩
theorem i_min {i j : Int} (q : Q (.int (if j < i then j else i)) H) : rMin [.int i, .int j] H Q := ⟨i, j, rfl, q⟩
theorem i_addS {l m : List Nat} (h : l.length + m.length ≤ 1000) (q : Q (.str (sOf (l ++ m))) H) : rAddS (.str (sOf l)) (.str (sOf m)) H Q := ⟨_, _, rfl, rfl, by rw [str_len, str_len]; exact line_le h, by rw [str_app]; exact q⟩
theorem i_zf {m : Nat} (h : m < 10 ^ 18) (q : Q (.str (sOf (lastf 18 m))) H) : rZfill (.str (sOf (digs m))) [.int 18] H Q := ⟨_, 18, rfl, rfl, by decide, by decide, by have := zfill_digs h; unfold dtx at this; rw [this]; exact q⟩
theorem i_tyS {z : Str} {R : Prop} (q : R) : tyV K "str" (.str z) H ∧ R := ⟨rfl, q⟩
theorem i_reverse {l : Addr} {xs : List V} (h : H l = some (.lst xs)) (q : ∀ H2, SameX l H H2 → H2 l = some (.lst xs.reverse) → Q .non H2) : rReverse (.ref l) [] H Q := ⟨l, xs, rfl, rfl, h, q _ (fun b o e n => by rw [upd_ne n]; exact e) upd_same⟩
theorem i_bm0 {T : String} {r : V → List V → Hp → VK → Prop} {to : TE} (h : to σ H fun x H1 => tyV K T x H1 ∧ r x [] H1 Q) : tBM0 K T r to σ H Q := h
theorem i_eqS {i j : Str} (h : Q (.bl (decide (i = j))) H) : rEq (.str i) (.str j) H Q := ⟨rfl, by
  have e : decide (V.str i = V.str j) = decide (i = j) := by rw [Bool.eq_iff_iff]; simp
  rw [e]; exact h⟩
theorem i_neS {i j : Str} (h : Q (.bl (!decide (i = j))) H) : rNe (.str i) (.str j) H Q := ⟨rfl, by
  have e : decide (V.str i = V.str j) = decide (i = j) := by rw [Bool.eq_iff_iff]; simp
  rw [e]; exact h⟩
theorem i_is_str {z : Str} (h : Q (.bl true) H) : rIs K [.str z, .ty "str"] H Q := ⟨_, _, _, _, rfl, .str z, kit_same K _, h⟩
theorem i_join {p : Addr} {ys : List Str} (h : H p = some (.lst (ys.map V.str))) (hz : (ys.map (·.length)).sum ≤ 10000) (q : Q (.str (sOf (ys.map fun y => y.cps.toList).flatten)) H) : rJoin K (.str ⟨#[]⟩) [.ref p] H Q := ⟨⟨#[]⟩, p, ys, rfl, rfl, SqL.of h, by show _ + ys.length * 0 ≤ _; omega, by rw [join_flat]; exact q⟩
theorem i_fF {t : TF} (h : t σ H Str.empty Q) : tF t σ H Q := h
theorem i_fNil {l : List Nat} (h : l.length ≤ 1000) (q : Q (.str (sOf l)) H) : fNil σ H (sOf l) Q := ⟨by rw [str_len]; exact line_le h, q⟩
theorem i_fVal0 {te : TE} {t : TF} {out : Str} (h : te σ H fun x H1 => ∃ y, x = .str y ∧ y.length ≤ sizeLine ∧ (out ++ y).length ≤ sizeLine ∧ t σ H1 (out ++ y) Q) : fVal te t σ H out Q := h
theorem i_fVal {t : TF} {l m : List Nat} (h : l.length + m.length ≤ 1000) (q : t σ H (sOf (l ++ m)) Q) : ∃ y, V.str (sOf m) = .str y ∧ y.length ≤ sizeLine ∧ (sOf l ++ y).length ≤ sizeLine ∧ t σ H (sOf l ++ y) Q := ⟨_, rfl, by rw [str_len]; exact line_le (by omega), by rw [str_app, str_len, List.length_append]; exact line_le h, by rw [str_app]; exact q⟩
theorem i_fInt0 {te : TE} {t : TF} {out : Str} (h : te σ H fun x H1 => ∃ i : Int, x = .int i ∧ i.natAbs.log2 < 1920 ∧ (out ++ (toString i : Str)).length ≤ sizeLine ∧ t σ H1 (out ++ (toString i : Str)) Q) : fInt te t σ H out Q := h
theorem i_fStr {z m : List Nat} {t : TF} (h : z.length + m.length ≤ 1000) (q : t σ H (sOf (z ++ m)) Q) : fStr (sOf m) t σ H (sOf z) Q := ⟨by rw [str_app, str_len, List.length_append]; exact line_le h, by rw [str_app]; exact q⟩
end
theorem pf_int {X : Cx} {e : Expr} {es : List Expr} {te : TE} {t : TF} {pos : Pos} (he : PE X e te) (ht : PF X es t) : PF X (.FormattedValue e (-1) none pos :: es) (fInt te t) := by
  intro pins s σ H out Q I h
  show wpAny _ _ (joinParts out (eval (.FormattedValue e (-1) none pos) X.env :: evalEach es X.env)) _ _ s
  refine joinParts_cons (FormattedValue_plain (thn (he pins s σ H _ I h) fun v s1 ⟨x, H1, I1, r1, i, ei, hy, hz, q⟩ => ?_))
  subst ei
  obtain ⟨tk, rfl⟩ := r1
  exact formatField_int_small hy ⟨hz, ht pins _ σ H1 _ Q (I1.tok _) q⟩
theorem digs_len {n : Nat} {k : Nat} (hk : 1 ≤ k) (h : n < 10 ^ k) : (digs n).length ≤ k := (lastf_small k n h hk).2
end L2
namespace L2
open PySem PySem.Spec PyProof.Rows Bg
section
variable {prog : Program} {w : World} {A : Around} {E : Value → Shared → Prop} {s : Shared} {R : Result → Shared → Prop}
variable {I : Addr} {fp wr : List Addr} {G : Array GenState → Array GenState → Prop} {n : Nat} {P : Nat → Value → Prop} {St : Nat → Shared → Prop}
end
end L2
namespace L2
open PySem PySem.Spec PyProof.Rows Bg
section
variable {X : Cx} {e : Expr} {te : TE} {p1 p2 pos pos2 : Pos}
end
end L2
namespace L2
open PySem PySem.Spec PyProof.Rows Bg
end L2
namespace Bg
end Bg
namespace Bg
end Bg
namespace L2
open PySem PySem.Spec PyProof.Rows Bg
end L2
namespace L2
open PySem PySem.Spec PyProof.Rows Bg
end L2
namespace L2
open PySem PySem.Spec PyProof.Rows Bg
section
variable {X : Cx}
end
section
variable {K : PySem.W.Frag} {H : Hp} {Q : VK} {σ : St} {D : Ends}
end
structure Ln where
  p : Addr
  s : Sd
def Ln.v (c : Ln) : V := .ref c.p
def Ln.u (c : Ln) : Int × Int := (c.s.x, c.s.y)
end L2
namespace L2
open PySem PySem.Spec PyProof.Rows Bg
section
variable {X : Cx} {tg : Expr}
end
section
variable {K : PySem.W.Frag} {H : Hp} {Q : VK}
theorem i_slFS {a : Addr} {ns : List Int} {i j : Nat} (hS : SqL K H a (ns.map V.int)) (q : ∀ (p : Addr) (H2 : Hp), Same H H2 → H2 p = some (.lst (((ns.drop i).take (j - i)).map V.int)) → Q (.ref p) H2) : rSlL K (.ref a) (some (i : Int)) (some (j : Int)) H Q := by
  refine ⟨a, _, rfl, hS, fun p hp => ?_⟩
  refine q p _ (same_upd hp _) ?_
  rw [upd_same]
  unfold cutV
  rw [HT.sIx_nat, HT.sIx_nat, List.map_take, List.map_drop]
  congr 2
  generalize ns.map V.int = xs
  rcases Nat.le_total i xs.length with z | z
  · rw [Nat.min_eq_left z]
    rcases Nat.le_total j xs.length with y | y
    · rw [Nat.min_eq_left y]
    · rw [Nat.min_eq_right y, List.take_of_length_le (by rw [List.length_drop]; omega), List.take_of_length_le (by rw [List.length_drop]; omega)]
  · rw [Nat.min_eq_right z, List.drop_of_length_le (Nat.le_refl _), List.drop_of_length_le z, List.take_nil, List.take_nil]
end
end L2
namespace L2
open PySem PySem.Spec PyProof.Rows Bg
section
variable {X : Cx}
end
end L2
namespace L2
open PySem PySem.Spec PyProof.Rows Bg
section
variable {X : Cx}
end
end L2
namespace L2
open PySem PySem.Spec PyProof.Rows Bg
section
variable {X : Cx}
def rBits : V → List V → Hp → VK → Prop := fun x vs H Q => ∃ i : Int, x = .int i ∧ vs = [] ∧ Q (.int ((Builtin.Int.intBits i : Nat) : Int)) H
theorem mt_bits : MtR X "int.bit_length" rBits := by
  intro pins s σ H x xs v us Q I rx rv h
  obtain ⟨i, rfl, rfl, q⟩ := h
  obtain ⟨t, rfl⟩ := rx
  have hus := rv.zero
  subst hus
  exact call_int_bit_length ⟨.int _, H, I.tok _, ⟨_, rfl⟩, q⟩
theorem i_bits {i : Int} {H : Hp} {Q : VK} (q : Q (.int ((Builtin.Int.intBits i : Nat) : Int)) H) : rBits (.int i) [] H Q := ⟨i, rfl, rfl, q⟩
theorem i_tyI {K : PySem.W.Frag} {H : Hp} {z : Int} {R : Prop} (q : R) : tyV K "int" (.int z) H ∧ R := ⟨rfl, q⟩
end
theorem bits_le {k : Nat} {i : Int} (h : Bd k i) : ¬ ((k : Int) < ((Builtin.Int.intBits i : Nat) : Int)) := by
  unfold Builtin.Int.intBits
  by_cases c : i = 0
  · subst c
    rw [if_pos (by decide)]
    omega
  · rw [if_neg (by simpa using c)]
    have h1 : i.natAbs.log2 < k := (Nat.log2_lt (by omega)).mpr h
    omega
end L2
namespace L2
open PySem PySem.Spec PyProof.Rows Bg
section
variable {X : Cx}
def rIntT : List V → Hp → VK → Prop := fun xs H Q => ∃ (x : Str) (n : Int), xs = [.str x] ∧ x.length ≤ 640 ∧ PySem.intText? x = some n ∧ Q (.int n) H
theorem call_intT : CallR X (.type "int") rIntT := by
  intro pins s σ H xs us Q I r h
  obtain ⟨x, n, rfl, hl, hn, q⟩ := h
  obtain ⟨u, rfl, ru⟩ := vals1 r
  obtain ⟨t, rfl⟩ := ru
  exact PySem.W.KIN.call_text hn hl ⟨.int n, H, I.tok _, ⟨_, rfl⟩, q⟩
def rSw : V → List V → Hp → VK → Prop := fun x vs H Q => ∃ y z : Str, x = .str y ∧ vs = [.str z] ∧ Q (.bl (Txt.startswith y z)) H
theorem mt_sw : MtR X "str.startswith" rSw := by
  intro pins s σ H x vs v us Q I rx rv h
  obtain ⟨y, z, rfl, rfl, q⟩ := h
  obtain ⟨t, rfl⟩ := rx
  obtain ⟨u, rfl, ru⟩ := rv.one
  obtain ⟨t', rfl⟩ := ru
  exact SC.startswith ⟨.bl _, H, I, rfl, q⟩
def rRf : V → List V → Hp → VK → Prop := fun x vs H Q => ∃ y z : Str, x = .str y ∧ vs = [.str z] ∧ Q (.int (Txt.rfind y z)) H
theorem mt_rf : MtR X "str.rfind" rRf := by
  intro pins s σ H x vs v us Q I rx rv h
  obtain ⟨y, z, rfl, rfl, q⟩ := h
  obtain ⟨t, rfl⟩ := rx
  obtain ⟨u, rfl, ru⟩ := rv.one
  obtain ⟨t', rfl⟩ := ru
  exact SC.rfind ⟨.int _, H, I.tok _, ⟨_, rfl⟩, q⟩
def rPt : V → List V → Hp → VK → Prop := fun x vs H Q => ∃ y z : Str, x = .str y ∧ vs = [.str z] ∧ (z.length == 0) = false ∧ y.length ≤ 1000 ∧ ∀ p, H p = none → Q (.ref p) (upd H p (.tup [.str (Txt.partition y z).1, .str (Txt.partition y z).2.1, .str (Txt.partition y z).2.2]))
theorem mt_pt : MtR X "str.partition" rPt := by
  intro pins s σ H x vs v us Q I rx rv h
  obtain ⟨y, z, rfl, rfl, hz, hl, q⟩ := h
  obtain ⟨t, rfl⟩ := rx
  obtain ⟨u, rfl, ru⟩ := rv.one
  obtain ⟨t', rfl⟩ := ru
  have fin : ∀ (a b c : Str) (ta tb tc : Tok) (k : Nat), (Txt.partition y z) = (a, b, c) → EP X pins σ Q (.ref s.heap.objs.size) { s with heap := s.heap.push { cls := .type "tuple", data := .seq [.str a ta, .str b tb, .str c tc].toArray }, toks := k } := fun a b c ta tb tc k e => by
    rw [e] at q
    refine ⟨.ref s.heap.objs.size, _, I.laid (t' := k) (o := .tup [.str a, .str b, .str c]) (fun b ob q => Heap.get?_push_of_some _ q) (Nat.le_refl _) ?_, rfl, q _ (I.hok.fresh (Nat.le_refl _))⟩
    exact ⟨by show 3 ≤ sizeLine; decide, _, .cons ⟨_, rfl⟩ (.cons ⟨_, rfl⟩ (.cons ⟨_, rfl⟩ .nil)), IsTup.new _ _⟩
  refine call_meets F.slot_str_partition (typeIs_str _ _ _) F.entry_str_partition (F.args_str_partition_2 _ _) (meets_str_partition y z t t' hz (Nat.le_of_lt (small1000 hl))) ?_
  have fin' := fin
  unfold Txt.partition at fin'
  revert fin'
  cases Builtin.Str.occurrences y z 0 y.length 1 with
  | nil => intro f; exact f _ _ _ _ _ _ _ rfl
  | cons i r => intro f; exact f _ _ _ _ _ _ _ rfl
def rInS : R2 := fun x y H Q => ∃ i j : Str, x = .str i ∧ y = .str j ∧ Q (.bl (!(Builtin.Str.occurrences j i 0 j.length 1).isEmpty)) H
theorem op_inS : OpR X (compareOp .In) rInS := by
  intro pins s σ H x y v u Q I rx ry h
  obtain ⟨i, j, rfl, rfl, q⟩ := h
  obtain ⟨t, rfl⟩ := rx
  obtain ⟨t', rfl⟩ := ry
  exact in_str ⟨.bl _, H, I, rfl, q⟩
end
end L2
namespace L2
open PySem PySem.Spec PyProof.Rows Bg
def Itx (x : Str) : It := ⟨fun i _ => i < x.cps.size, fun i H v H' => H' = H ∧ ∃ c, x.cps[i]? = some c ∧ v = .str ⟨#[c]⟩, fun i _ => x.cps.size ≤ i⟩
theorem turn_ascii {P : Program} {w : World} {K : PySem.W.Frag} {tg : Expr} (it : Addr) (x : Str) (t : Tok) : Turn P w K tg (Itx x) [it] it (fun i h => h.IsStrIter it "str_ascii_iterator" x t i) where
  mem := by simp
  obj := fun i h st b hb => by
    have e : b = it := by simpa using hb
    subst e
    obtain ⟨o, e, c, d⟩ := st
    exact ⟨o, e, fun v z => by rw [d] at z; cases z⟩
  keep := fun i h h' st k => let ⟨o, e, r⟩ := st; ⟨o, k it (by simp) o e, r⟩
  item := by
    intro X hP hw hK hc i pins s σ H E I hf st hg
    subst hP hw hK
    obtain ⟨f0, f1, f2, f3, f4, f5⟩ := hf it (by simp)
    have W := Walks.strAscii (prog := X.prog) (w := X.w) (I.ok.hd hc) it x t
    refine W.item i s _ _ hg st fun v h' tk hv st' kk => ?_
    obtain ⟨c, u, hcx, rfl⟩ := hv
    have I1 : Inv X pins σ H { s with heap := h', toks := tk } := I.turned (fun b o hb e => kk b o (by simpa using hb) e) f0 f1 f3 f4 f5
    obtain ⟨o, e, cc, d⟩ := id st'
    exact ⟨_, rfl, go_of (s := { s with heap := h', toks := tk }) e cc d (by decide) ⟨.str ⟨#[c]⟩, H, I1, ⟨u, rfl⟩, ⟨rfl, c, hcx, rfl⟩, st', fun b hb => (hf b hb).1⟩⟩
  done := by
    intro X hP hw hK hc i pins s σ H E I hf st hg
    subst hP hw hK
    obtain ⟨f0, f1, f2, f3, f4, f5⟩ := hf it (by simp)
    exact wpAny_pyNext_ascii_end (I.ok.hd hc) st (by have : x.cps.size ≤ i := hg; simp; omega) fun h' eb => ⟨rfl, I.turned (t' := s.toks) (fun b o hb e => eb b o hb e) f0 f1 f3 f4 f5⟩
  self := fun _ _ _ _ _ st h => wpAny_pyIter_striter_ascii st h
theorem turn_wide {P : Program} {w : World} {K : PySem.W.Frag} {tg : Expr} (it : Addr) (x : Str) (t : Tok) : Turn P w K tg (Itx x) [it] it (fun i h => h.IsStrIter it "str_iterator" x t i) where
  mem := by simp
  obj := fun i h st b hb => by
    have e : b = it := by simpa using hb
    subst e
    obtain ⟨o, e, c, d⟩ := st
    exact ⟨o, e, fun v z => by rw [d] at z; cases z⟩
  keep := fun i h h' st k => let ⟨o, e, r⟩ := st; ⟨o, k it (by simp) o e, r⟩
  item := by
    intro X hP hw hK hc i pins s σ H E I hf st hg
    subst hP hw hK
    obtain ⟨f0, f1, f2, f3, f4, f5⟩ := hf it (by simp)
    have W := Walks.strWide (prog := X.prog) (w := X.w) (I.ok.hd hc) it x t
    refine W.item i s _ _ hg st fun v h' tk hv st' kk => ?_
    obtain ⟨c, u, hcx, rfl⟩ := hv
    have I1 : Inv X pins σ H { s with heap := h', toks := tk } := I.turned (fun b o hb e => kk b o (by simpa using hb) e) f0 f1 f3 f4 f5
    obtain ⟨o, e, cc, d⟩ := id st'
    exact ⟨_, rfl, go_of (s := { s with heap := h', toks := tk }) e cc d (by decide) ⟨.str ⟨#[c]⟩, H, I1, ⟨u, rfl⟩, ⟨rfl, c, hcx, rfl⟩, st', fun b hb => (hf b hb).1⟩⟩
  done := by
    intro X hP hw hK hc i pins s σ H E I hf st hg
    subst hP hw hK
    obtain ⟨f0, f1, f2, f3, f4, f5⟩ := hf it (by simp)
    exact wpAny_pyNext_wide_end (I.ok.hd hc) st (by have : x.cps.size ≤ i := hg; simp; omega) fun h' eb => ⟨rfl, I.turned (t' := s.toks) (fun b o hb e => eb b o hb e) f0 f1 f3 f4 f5⟩
  self := fun _ _ _ _ _ st h => wpAny_pyIter_striter_wide st h
section
variable {X : Cx} {tg : Expr}
def iStr (tl : TE) : TI := fun σ H R => tl σ H fun x H1 => ∃ z : Str, x = .str z ∧ R (Itx z) H1
theorem pi_str {l : Expr} {tl : TE} (hl : PE X l tl) : PI X tg l (iStr tl) := by
  intro pins s σ H R I h
  refine thn (hl pins s σ H _ I h) fun v s1 ⟨x, H1, I1, r1, q1⟩ => ?_
  obtain ⟨z, e, q⟩ := q1
  subst e
  obtain ⟨t, rfl⟩ := r1
  have fp : ∀ b ∈ [s1.heap.objs.size], FpOk X pins H1 b := fun b hb => by
    have e : b = s1.heap.objs.size := by simpa using hb
    subst e
    exact I1.fpOk (Nat.le_refl _) (I1.hok.fresh (Nat.le_refl _))
  cases ha : z.cps.all (· < 128) with
  | false =>
    refine wpAny_pyIter_wide ha ?_
    exact ⟨s1.heap.objs.size, [s1.heap.objs.size], _, _, H1, rfl, I1.kept (t' := s1.toks) fun b o e => Heap.get?_push_of_some _ e, turn_wide _ z t, ⟨_, Heap.get?_push_size _ rfl, rfl, rfl⟩, fp, q⟩
  | true =>
    refine wpAny_pyIter_ascii ha ?_
    exact ⟨s1.heap.objs.size, [s1.heap.objs.size], _, _, H1, rfl, I1.kept (t' := s1.toks) fun b o e => Heap.get?_push_of_some _ e, turn_ascii _ z t, ⟨_, Heap.get?_push_size _ rfl, rfl, rfl⟩, fp, q⟩
end
section
variable {g : TG} {tc : TT} {te : TE} {σ0 : St} {H1 : Hp} {D : Addr}
theorem comp_text {R : Hp → Prop} {z : Str} (Pv : Nat → List V → St → Hp → Prop) (h0 : Pv 0 [] σ0 (upd H1 D (.lst [])))
    (hs : ∀ i c xs σ H, z.cps[i]? = some c → Pv i xs σ H → g (.str ⟨#[c]⟩) σ H fun σ3 H3 => tc σ3 H3 fun b H4 => if b = true then te σ3 H4 fun v H5 => rAppend (.ref D) [v] H5 fun _ H6 => CNext z.cps.size Pv i σ3 H6 else CNext z.cps.size Pv i σ3 H4)
    (hd : ∀ xs σ H, Pv z.cps.size xs σ H → R H) :
    ∃ W : Nat → Nat → St → Hp → Prop, (∃ m, W 0 m σ0 (upd H1 D (.lst []))) ∧ ∀ i m σ' H', W i m σ' H' → ((Itx z).stop i H' ∧ R H') ∨ ((Itx z).go i H' ∧ ∀ x H2, (Itx z).yld i H' x H2 → g x σ' H2 fun σ3 H3 => tc σ3 H3 fun b H4 =>
      if b = true then te σ3 H4 fun v H5 => rAppend (.ref D) [v] H5 fun _ H6 => ∃ m', m' < m ∧ W (i + 1) m' σ3 H6 else ∃ m', m' < m ∧ W (i + 1) m' σ3 H4) := by
  refine ⟨fun i m σ H => m = z.cps.size - i ∧ i ≤ z.cps.size ∧ ∃ xs, Pv i xs σ H, ⟨z.cps.size, by simp, Nat.zero_le _, [], h0⟩, ?_⟩
  rintro i m σ H ⟨rfl, hi, xs, p⟩
  by_cases hlt : i < z.cps.size
  · refine .inr ⟨hlt, fun x H' y => ?_⟩
    obtain ⟨e, c, hc, y⟩ := y
    subst e y
    exact hs i c xs σ _ hc p
  · have e : i = z.cps.size := by omega
    subst e
    exact .inl ⟨Nat.le_refl _, hd xs σ H p⟩
end
end L2
namespace L2
open PySem PySem.Spec PyProof.Rows Bg
section
variable {X : Cx}
def rSlS : V → Option Int → Option Int → Hp → VK → Prop := fun x lo hi H Q => ∃ z : Str, x = .str z ∧ z.length ≤ 1000 ∧ Q (.str (Txt.slice z lo hi)) H
theorem sl_str : SlR X rSlS := by
  intro pins s σ H x v vl vu lo hi sl Q I rx hs pl pu h
  obtain ⟨z, rfl, hl, q⟩ := h
  obtain ⟨t, rfl⟩ := rx
  obtain ⟨l', rfl, rfl⟩ : ∃ l' : Option (Int × Tok), vl = partValue l' ∧ lo = l'.map (·.1) := by
    cases pl with
    | none => exact ⟨none, rfl, rfl⟩
    | int i t => exact ⟨some (i, t), rfl, rfl⟩
  obtain ⟨u', rfl, rfl⟩ : ∃ u' : Option (Int × Tok), vu = partValue u' ∧ hi = u'.map (·.1) := by
    cases pu with
    | none => exact ⟨none, rfl, rfl⟩
    | int i t => exact ⟨some (i, t), rfl, rfl⟩
  refine ⟨"str", _, F.slot_str_getitem.lookup, typeIs_str _ _ _, ?_⟩
  obtain ⟨o, e, c, d⟩ := hs
  refine wpAny_getItem_str_slice (l := l') (u := u') (st := none) ⟨o, e, c, d⟩ rfl ?_
  exact post_val_or_str ⟨Nat.le_trans (Txt.slice_le z _ _) (Nat.le_of_lt (small1000 hl)), fun t' k => ⟨.str _, H, I.tok k, ⟨_, rfl⟩, q⟩⟩
end
theorem sOf_len (l : List Nat) : (sOf l).length = l.length := by
  show l.toArray.size = l.length
  rw [List.size_toArray]
theorem slice_ab {l : List Nat} {a b : Nat} (hab : a ≤ b) (hb : b ≤ l.length) : Txt.slice (sOf l) (some (a : Int)) (some (b : Int)) = sOf ((l.drop a).take (b - a)) := by
  have hb' : b ≤ (sOf l).length := by rw [sOf_len]; exact hb
  have h1 := StrLaws.strSliceIndices_plain hab hb'
  have h2 := StrLaws.sliced_plain (sOf l) hab hb'
  unfold Txt.slice
  rw [h2, h1]
  split
  · rename_i c
    have hlen : b - a = l.length := by
      simp only [List.length_map, List.length_range, sOf_len] at c
      simpa using c
    have ha : a = 0 := by omega
    subst ha
    rw [List.drop_zero, List.take_of_length_le (by omega)]
  · rfl
theorem slice_to {l : List Nat} {b : Nat} (hb : b ≤ l.length) : Txt.slice (sOf l) none (some (b : Int)) = sOf (l.take b) := by
  have e : Txt.slice (sOf l) none (some (b : Int)) = Txt.slice (sOf l) (some ((0 : Nat) : Int)) (some (b : Int)) := by
    unfold Txt.slice
    have : Builtin.Str.strSliceIndices none (some (b : Int)) 1 (sOf l).length = Builtin.Str.strSliceIndices (some ((0 : Nat) : Int)) (some (b : Int)) 1 (sOf l).length := by
      unfold Builtin.Str.strSliceIndices
      have z : max (0 : Int) (min 0 ((sOf l).length : Int)) = 0 := by omega
      simp [z]
    rw [this]
  rw [e, slice_ab (Nat.zero_le _) hb, List.drop_zero, Nat.sub_zero]
theorem slice_from {l : List Nat} {a : Nat} (ha : a ≤ l.length) : Txt.slice (sOf l) (some (a : Int)) none = sOf (l.drop a) := by
  have e : Txt.slice (sOf l) (some (a : Int)) none = Txt.slice (sOf l) (some (a : Int)) (some ((l.length : Nat) : Int)) := by
    unfold Txt.slice
    have : Builtin.Str.strSliceIndices (some (a : Int)) none 1 (sOf l).length = Builtin.Str.strSliceIndices (some (a : Int)) (some ((l.length : Nat) : Int)) 1 (sOf l).length := by
      unfold Builtin.Str.strSliceIndices
      rw [sOf_len]
      have h : ¬ ((l.length : Int) < 0) := by omega
      simp [h]
    rw [this]
  rw [e, slice_ab ha (Nat.le_refl _), List.take_of_length_le (by rw [List.length_drop]; omega)]
end L2
namespace L2
open PySem PySem.Spec PyProof.Rows Bg
section
variable {X : Cx} {tg : Expr}
def eighteenth (lo hi : Int) : Nat := ((hi - lo + 17) / 18).toNat
theorem size_18 (lo hi : Int) : ((eighteenth lo hi : Nat) : Int) = Builtin.Range.rangeSize lo hi 18 := by
  unfold Builtin.Range.rangeSize eighteenth
  rw [if_pos (by decide)]
  split <;> omega
theorem small_18 {lo hi : Int} (h1 : -(2 ^ 62) ≤ lo) (h2 : lo < 2 ^ 62) (h3 : -(2 ^ 62) ≤ hi) (h4 : hi < 2 ^ 62) : Builtin.Range.small lo hi 18 = true := by
  unfold Builtin.Range.small
  rw [← size_18]
  have e : ((eighteenth lo hi : Nat) : Int) = if lo < hi then (hi - lo - 1) / 18 + 1 else 0 := by
    rw [size_18]
    unfold Builtin.Range.rangeSize
    rw [if_pos (by decide)]
  rw [e]
  simp only [Builtin.Range.rangeFitsLong, Bool.and_eq_true, Bool.or_eq_true, decide_eq_true_eq, beq_iff_eq, show (18 : Int) > 0 by decide, if_true]
  split <;> omega
theorem range_it18 {pins : List (Addr × Obj)} {σ : St} {H : Hp} {s : Shared} {R : It → Hp → Prop} {E : Value → Shared → Prop} {lo hi : Int} {t u v : Tok} {tk : Nat} (I : Inv X pins σ H s) (h1 : -(2 ^ 62) ≤ lo) (h2 : lo < 2 ^ 62) (h3 : -(2 ^ 62) ≤ hi) (h4 : hi < 2 ^ 62)
    (q : R (Its lo 18 (eighteenth lo hi)) H) : wpAny (model X.prog X.w) X.A (pyIter (.ref s.heap.objs.size)) (PIE X pins σ tg R) E { s with heap := s.heap.push { cls := .type "range", data := .fields #[.int lo t, .int hi u, .int 18 v] }, toks := tk } := by
  refine wpAny_pyIter_range (IsRange.new ..) (small_18 h1 h2 h3 h4) ?_
  have I1 : Inv X pins σ H { s with heap := s.heap.push { cls := .type "range", data := .fields #[.int lo t, .int hi u, .int 18 v] }, toks := tk } := I.kept fun b o e => Heap.get?_push_of_some _ e
  refine ⟨(s.heap.push { cls := .type "range", data := .fields #[.int lo t, .int hi u, .int 18 v] }).objs.size, [(s.heap.push { cls := .type "range", data := .fields #[.int lo t, .int hi u, .int 18 v] }).objs.size], _, _, H, rfl,
    I1.kept (t' := tk) fun b o e => Heap.get?_push_of_some _ e, turn_rangeS _ lo 18 (eighteenth lo hi), ?_, fun b hb => ?_, q⟩
  · have e1 : lo + ((0 : Nat) : Int) * 18 = lo := by simp
    have e2 : ((eighteenth lo hi : Nat) : Int) - ((0 : Nat) : Int) = Builtin.Range.rangeSize lo hi 18 := by rw [size_18]; simp
    show IsRangeIter _ _ (lo + ((0 : Nat) : Int) * 18) (((eighteenth lo hi : Nat) : Int) - ((0 : Nat) : Int)) 18
    rw [e1, e2]
    exact Heap.get?_push_size _ rfl
  · have e : b = (s.heap.push { cls := .type "range", data := .fields #[.int lo t, .int hi u, .int 18 v] }).objs.size := by simpa using hb
    subst e
    exact I1.fpOk (Nat.le_refl _) (I1.hok.fresh (Nat.le_refl _))
def iRng18 (ta : TA) : TI := fun σ H R => ta σ H fun vs H1 => ∃ i j : Int, vs = [.int i, .int j, .int 18] ∧ (-(2 ^ 62) ≤ i ∧ i < 2 ^ 62 ∧ -(2 ^ 62) ≤ j ∧ j < 2 ^ 62) ∧ R (Its i 18 (eighteenth i j)) H1
theorem pi_range18 {a b c : Expr} {ta : TA} {p pos : Pos} (hg : Gl X "range") (hm : X.mg "range" = none) (ha : PA X [a, b, c] ta) (hs : starEach [a, b, c] X.env = [(false, eval a X.env), (false, eval b X.env), (false, eval c X.env)] := by rfl) (hs2 : starEach [b, c] X.env = [(false, eval b X.env), (false, eval c X.env)] := by rfl) :
    PI X tg (.Call (.Name "range" p) [a, b, c] [] pos) (iRng18 ta) := by
  intro pins s σ H R I h
  refine Call_ (ld_blt I hg hm boot_range (PyProof.Rows.callWith_type1 (thn (ha pos pins s σ H _ I h) fun us s1 ⟨vs, H1, I1, r1, q1⟩ => ?_) (by rw [hs, hs2]) (by rw [hs2]; rfl)))
  obtain ⟨i, j, e, ⟨q1, q2, q3, q4⟩, q⟩ := q1
  subst e
  cases r1 with
  | cons r rr =>
    cases rr with
    | cons r' rr =>
      cases rr with
      | cons r'' rr =>
        cases rr
        obtain ⟨t, rfl⟩ := r
        obtain ⟨t', rfl⟩ := r'
        obtain ⟨t'', rfl⟩ := r''
        exact call_range_3 (by decide) (range_it18 I1 q1 q2 q3 q4 q) (Or.inl (PyProof.noPylong_of_log2 (by decide +kernel)))
theorem i_forR18 {g : TG} {σ : St} {H : Hp} {E : Ends} {ta : TA} {tb : TS} (h : ta σ H fun vs H1 => ∃ i j : Int, vs = [.int i, .int j, .int 18] ∧ (-(2 ^ 62) ≤ i ∧ i < 2 ^ 62 ∧ -(2 ^ 62) ≤ j ∧ j < 2 ^ 62) ∧ ∃ W : Nat → Nat → St → Hp → Prop, (∃ m, W 0 m σ H1) ∧ ∀ k m σ H, W k m σ H →
  ((Its i 18 (eighteenth i j)).stop k H ∧ E.nx σ H) ∨ ((Its i 18 (eighteenth i j)).go k H ∧ ∃ N : St → Hp → Prop, (∀ σ' H', N σ' H' → ∃ m', m' < m ∧ W (k + 1) m' σ' H') ∧ ∀ x H', (Its i 18 (eighteenth i j)).yld k H x H' → g x σ H' fun σ2 H2 => tb { E with nx := N, ct := N, bk := E.nx } σ2 H2)) :
  tFor (iRng18 ta) g tb E σ H := h
end
end L2
namespace L2
open PySem PySem.Spec PyProof.Rows Bg
theorem sw_two {prog : Program} {w : World} {A : Around} {E : Value → Shared → Prop} {s : Shared} {Q : Value → Shared → Prop} {x y z : Str} {t u v : Tok} {a : Addr} (ht : s.heap.IsTuple a #[.str y u, .str z v])
    (hq : Q (.bool (Txt.startswith x y || Txt.startswith x z)) s) : wpAny (model prog w) A (call (.builtin "str.startswith") [.str x t, .ref a]) Q E s := by
  refine wpAny_call_entry F.slot_str_startswith (typeIs_str _ _ _) F.entry_str_startswith ?_ (F.args_str_startswith_2 _ _)
  have hty := ht.typeIs
  obtain ⟨o, ho, hcls, n, hd⟩ := id ht
  show wpAny _ _ (do
    if let some p ← asStr? (.ref a) then return ← ret (.bool (0 + p.length ≤ min x.length x.length && Builtin.Str.subAt x p 0))
    if ← isInstance (.ref a) (.type "tuple") then
      rule "str.startswith.tuple"
      let some items ← seqItems? (.ref a) | unsupported "internal:str.startswith"
      for e in items do
        match ← asStr? e with
        | some p => if 0 + p.length ≤ min x.length x.length && Builtin.Str.subAt x p 0 then return ← ret (.bool true)
        | none =>
          rule "str.startswith.tuple-item-not-str"
          raiseError "TypeError" s!"tuple for startswith must only contain str, not {← typeNameOf e}"
      return ← ret (.bool false)
    rule "str.startswith.bad-affix"
    raiseError "TypeError" s!"startswith first arg must be str or a tuple of str, not {← typeNameOf (.ref a)}") _ _ s
  have e1 : wpAny (model prog w) A.in1 (asStr? (.ref a)) (fun r s' => r = none ∧ s' = s) E s := by
    unfold asStr?
    refine wpAny_bind (wpAny_load ho ?_)
    rw [hd]
    exact wpAny_pure ⟨rfl, rfl⟩
  refine wpAny_bind (wpAny_mono e1 (fun r s' h => ?_) fun _ _ e => e)
  obtain ⟨rfl, rfl⟩ := h
  refine wpAny_bind (wpAny_isInstance hty (b := true) (by rw [isSubtype_type]; kernel_rfl) ?_)
  dsimp only
  rw [if_pos rfl]
  refine wpAny_bind (wpAny_rule ?_)
  refine wpAny_bind (wpAny_seqItems ho hd ?_)
  dsimp only
  have c1 : (decide (0 + y.length ≤ min x.length x.length) && Builtin.Str.subAt x y 0) = Txt.startswith x y := by
    rw [Nat.min_self]
    rfl
  have c2 : (decide (0 + z.length ≤ min x.length x.length) && Builtin.Str.subAt x z 0) = Txt.startswith x z := by
    rw [Nat.min_self]
    rfl
  refine wpAny_bind ?_
  rw [show (#[Value.str y u, Value.str z v] : Array Value) = [Value.str y u, Value.str z v].toArray from rfl, List.forIn_toArray, List.forIn_cons]
  refine wpAny_bind ?_
  refine wpAny_bind (show wpAny _ _ (pure (some y)) _ _ _ from wpAny_pure ?_)
  dsimp only
  rw [c1]
  cases h1 : Txt.startswith x y with
  | true =>
    rw [if_pos rfl]
    refine wpAny_bind (show wpAny _ _ (ret (Value.bool true)) _ _ _ from wpAny_pure ?_)
    refine wpAny_pure ?_
    dsimp only
    refine wpAny_pure ?_
    dsimp only
    refine wpAny_pure ⟨_, rfl, ?_⟩
    rw [h1] at hq
    exact hq
  | false =>
    rw [if_neg Bool.false_ne_true]
    refine wpAny_pure ?_
    dsimp only
    rw [List.forIn_cons]
    refine wpAny_bind ?_
    refine wpAny_bind (show wpAny _ _ (pure (some z)) _ _ _ from wpAny_pure ?_)
    dsimp only
    rw [c2]
    rw [h1, Bool.false_or] at hq
    cases h2 : Txt.startswith x z with
    | true =>
      rw [if_pos rfl]
      refine wpAny_bind (show wpAny _ _ (ret (Value.bool true)) _ _ _ from wpAny_pure ?_)
      refine wpAny_pure ?_
      dsimp only
      refine wpAny_pure ?_
      dsimp only
      refine wpAny_pure ⟨_, rfl, ?_⟩
      rw [h2] at hq
      exact hq
    | false =>
      rw [if_neg Bool.false_ne_true]
      refine wpAny_pure ?_
      dsimp only
      rw [List.forIn_nil]
      refine wpAny_pure ?_
      dsimp only
      refine wpAny_pure ⟨_, rfl, ?_⟩
      rw [h2] at hq
      exact hq
end L2
namespace L2
open PySem PySem.Spec PyProof.Rows Bg
theorem sOf_list (l : List Nat) : (sOf l).cps.toList = l := rfl
theorem in_one (l : List Nat) (c : Nat) : (!(Builtin.Str.occurrences (sOf l) ⟨#[c]⟩ 0 (sOf l).length 1).isEmpty) = decide (c ∈ l) := by
  rw [StrLaws.found_one]
theorem at_one (l : List Nat) (c i : Nat) : StrLaws.At (sOf l) ⟨#[c]⟩ (sOf l).length i ↔ l[i]? = some c := StrLaws.subAt_one (sOf l) c i
theorem sub_list (l : List Nat) (i j : Nat) : Builtin.Str.strSub (sOf l) i j = sOf ((l.drop i).take (j - i)) := by
  refine Str.ext' ?_
  have h := StrLaws.strSub_toList (sOf l) i j
  have e : (Builtin.Str.strSub (sOf l) i j).cps = ((Builtin.Str.strSub (sOf l) i j).cps.toList).toArray := by simp
  rw [e, h]
theorem part_at {l r : List Nat} {c : Nat} (h : c ∉ l) : Txt.partition (sOf (l ++ c :: r)) ⟨#[c]⟩ = (sOf l, sOf [c], sOf r) := by
  have hl : (l ++ c :: r)[l.length]? = some c := by rw [List.getElem?_append_right (Nat.le_refl _), Nat.sub_self]; rfl
  have hk : ∀ k, k < l.length → (l ++ c :: r)[k]? ≠ some c := fun k hk e => by
    rw [List.getElem?_append_left hk] at e
    exact h (List.mem_of_getElem? e)
  rcases partition_whole (sOf (l ++ c :: r)) ⟨#[c]⟩ with ⟨_, hn⟩ | ⟨i, e, hi, hn⟩
  · exact absurd ((at_one _ c l.length).mpr hl) (hn l.length)
  · have hi := (at_one _ c i).mp hi
    have ei : i = l.length := by
      rcases Nat.lt_trichotomy i l.length with z | z | z
      · exact absurd hi (hk i z)
      · exact z
      · exact absurd ((at_one _ c l.length).mpr hl) (hn _ z)
    subst ei
    rw [e, sub_list, sub_list, sOf_len]
    have e1 : ((l ++ c :: r).drop 0).take (l.length - 0) = l := by simp
    have e2 : ((l ++ c :: r).drop (l.length + (⟨#[c]⟩ : Str).length)).take ((l ++ c :: r).length - (l.length + (⟨#[c]⟩ : Str).length)) = r := by
      show ((l ++ c :: r).drop (l.length + 1)).take ((l ++ c :: r).length - (l.length + 1)) = r
      rw [List.drop_append, List.drop_of_length_le (by omega), List.nil_append, show l.length + 1 - l.length = 1 by omega]
      show r.take _ = r
      rw [List.length_append, List.length_cons, List.take_of_length_le (by omega)]
    rw [e1, e2]
theorem rf_at {l r : List Nat} {c : Nat} (h : c ∉ r) : Txt.rfind (sOf (l ++ c :: r)) ⟨#[c]⟩ = (l.length : Int) := by
  have hl : (l ++ c :: r)[l.length]? = some c := by rw [List.getElem?_append_right (Nat.le_refl _), Nat.sub_self]; rfl
  rcases rfind_whole (sOf (l ++ c :: r)) ⟨#[c]⟩ with ⟨_, hn⟩ | ⟨i, e, hi, hn⟩
  · exact absurd ((at_one _ c l.length).mpr hl) (hn l.length)
  · have hi := (at_one _ c i).mp hi
    have ei : i = l.length := by
      rcases Nat.lt_trichotomy i l.length with z | z | z
      · exact absurd ((at_one _ c l.length).mpr hl) (hn _ z)
      · exact z
      · rw [List.getElem?_append_right (by omega), show i - l.length = (i - l.length - 1) + 1 by omega, List.getElem?_cons_succ] at hi
        exact absurd (List.mem_of_getElem? hi) h
    rw [e, ei]
theorem rf_no {l : List Nat} {c : Nat} (h : c ∉ l) : Txt.rfind (sOf l) ⟨#[c]⟩ = -1 := by
  rcases rfind_whole (sOf l) ⟨#[c]⟩ with ⟨e, _⟩ | ⟨i, _, hi, _⟩
  · exact e
  · exact absurd (List.mem_of_getElem? ((at_one _ c i).mp hi)) h
theorem sw_one (l : List Nat) (c : Nat) : Txt.startswith (sOf l) ⟨#[c]⟩ = decide (l[0]? = some c) := by
  rw [Bool.eq_iff_iff, decide_eq_true_eq, ← at_one]
  show (decide (0 + (⟨#[c]⟩ : Str).length ≤ (sOf l).length) && Builtin.Str.subAt (sOf l) ⟨#[c]⟩ 0) = true ↔ _
  rw [Bool.and_eq_true, decide_eq_true_eq]
  exact Iff.rfl
section
variable {X : Cx}
def rSwT (K : PySem.W.Frag) : V → List V → Hp → VK → Prop := fun x vs H Q => ∃ (y a b : Str) (p : Addr), x = .str y ∧ vs = [.ref p] ∧ SqT K H p [.str a, .str b] ∧ Q (.bl (Txt.startswith y a || Txt.startswith y b)) H
theorem mt_swT : MtR X "str.startswith" (rSwT X.K) := by
  intro pins s σ H x vs v us Q I rx rv h
  obtain ⟨y, a, b, p, rfl, rfl, hp, q⟩ := h
  obtain ⟨t, rfl⟩ := rx
  obtain ⟨u, rfl, ru⟩ := rv.one
  cases ru
  obtain ⟨its, r, ht, hz⟩ := I.tuple hp
  obtain ⟨ta, tb, rfl⟩ : ∃ ta tb, its = [.str a ta, .str b tb] := by
    cases r with
    | cons r1 rr =>
      obtain ⟨ta, rfl⟩ := r1
      cases rr with
      | cons r2 rr =>
        obtain ⟨tb, rfl⟩ := r2
        cases rr
        exact ⟨ta, tb, rfl⟩
  exact sw_two ht ⟨.bl _, H, I, rfl, q⟩
end
theorem dv_append (a b : List Nat) : NumText.digitsVal (a ++ b) = NumText.digitsVal a * 10 ^ b.length + NumText.digitsVal b := by
  have key : ∀ (b : List Nat) (n : Nat), b.foldl (fun acc c => acc * 10 + (c - 48)) n = n * 10 ^ b.length + b.foldl (fun acc c => acc * 10 + (c - 48)) 0 := by
    intro b
    induction b with
    | nil => intro n; simp
    | cons c b ih =>
      intro n
      rw [List.foldl_cons, List.foldl_cons, ih, ih (0 * 10 + (c - 48)), List.length_cons, Nat.pow_succ]
      grind
  unfold NumText.digitsVal
  rw [List.foldl_append, key]
theorem dv_digs (m : Nat) : NumText.digitsVal (digs m) = m := PySem.W.KIN.val_back m
end L2
namespace L2
open PySem PySem.Spec PyProof.Rows Bg
section
variable {X : Cx}
def rLenS : List V → Hp → VK → Prop := fun xs H Q => ∃ z : Str, xs = [.str z] ∧ z.length ≤ sizeLine ∧ Q (.int z.length) H
theorem call_lenS : CallR X (.builtin "len") rLenS := call_len_str
def rNotS : R2 := fun x y H Q => ∃ i j : Str, x = .str i ∧ y = .str j ∧ Q (.bl (!(!(Builtin.Str.occurrences j i 0 j.length 1).isEmpty))) H
theorem op_notS : OpR X (compareOp .NotIn) rNotS := op_notIn_str
def rMax2 : List V → Hp → VK → Prop := fun xs H Q => ∃ i j : Int, xs = [.int i, .int j] ∧ Q (.int (if j > i then j else i)) H
theorem call_max2R (hc : X.calm = true) : CallR X (.builtin "max") rMax2 := call_max2 hc
end
def TopS (mg : Str → Option Value) (x : Str) (z : Str) : Prop := ∃ u, mg x = some u ∧ RelV (.str z) u
theorem topS_mk {K : PySem.W.Frag} {h : Heap} {mg : Str → Option Value} {x z : Str} {t : Tok} (X : K.In h) (G : h.Ns mainGlobals mg) (e : PySem.W.nsIn K mainGlobals x = some (some (.str z t))) : TopS mg x z := ⟨_, PySem.W.mg_of X G e, ⟨t, rfl⟩⟩
theorem so_inj {l m : List Nat} (h : sOf l = sOf m) : l = m := by
  have := congrArg (fun (z : Str) => z.cps.toList) h
  simpa using this
theorem so_dec (l m : List Nat) : decide (sOf l = sOf m) = decide (l = m) := by
  rw [decide_eq_decide]
  exact ⟨so_inj, fun e => by rw [e]⟩
section
variable {K : PySem.W.Frag} {σ : St} {H : Hp} {Q : VK}
theorem i_lenS {l : List Nat} (h : l.length ≤ 1000) (q : Q (.int l.length) H) : rLenS [.str (sOf l)] H Q := ⟨_, rfl, by rw [str_len]; exact line_le h, by rw [str_len]; exact q⟩
theorem i_inS {l : List Nat} {c : Nat} (q : Q (.bl (decide (c ∈ l))) H) : rInS (.str (sOf [c])) (.str (sOf l)) H Q := ⟨_, _, rfl, rfl, by rw [in_one]; exact q⟩
theorem i_notS {l : List Nat} {c : Nat} (q : Q (.bl (!decide (c ∈ l))) H) : rNotS (.str (sOf [c])) (.str (sOf l)) H Q := ⟨_, _, rfl, rfl, by rw [in_one]; exact q⟩
theorem i_sw {l : List Nat} {c : Nat} (q : Q (.bl (decide (l[0]? = some c))) H) : rSw (.str (sOf l)) [.str (sOf [c])] H Q := ⟨_, _, rfl, rfl, by rw [sw_one]; exact q⟩
theorem i_swT {l : List Nat} {a b : Nat} {p : Addr} (h : H p = some (.tup [.str (sOf [a]), .str (sOf [b])])) (q : Q (.bl (decide (l[0]? = some a) || decide (l[0]? = some b))) H) : rSwT K (.str (sOf l)) [.ref p] H Q := ⟨_, _, _, p, rfl, rfl, SqT.of h, by rw [sw_one, sw_one]; exact q⟩
theorem i_pt {l r : List Nat} {c : Nat} (h : c ∉ l) (hl : l.length + r.length ≤ 900) (q : ∀ p H2, Same H H2 → H2 p = some (.tup [.str (sOf l), .str (sOf [c]), .str (sOf r)]) → Q (.ref p) H2) : rPt (.str (sOf (l ++ c :: r))) [.str (sOf [c])] H Q := by
  refine ⟨_, _, rfl, rfl, rfl, by rw [str_len, List.length_append, List.length_cons]; omega, fun p hp => ?_⟩
  rw [part_at h]
  exact q p _ (fun b o e => by rw [upd_ne (ne_of_none e hp)]; exact e) upd_same
theorem i_sTo {l : List Nat} {b : Nat} (hb : b ≤ l.length) (hl : l.length ≤ 1000) (q : Q (.str (sOf (l.take b))) H) : rSlS (.str (sOf l)) none (some (b : Int)) H Q := ⟨_, rfl, by rw [str_len]; exact hl, by rw [slice_to hb]; exact q⟩
theorem i_sFrom {l : List Nat} {b : Nat} (hb : b ≤ l.length) (hl : l.length ≤ 1000) (q : Q (.str (sOf (l.drop b))) H) : rSlS (.str (sOf l)) (some (b : Int)) none H Q := ⟨_, rfl, by rw [str_len]; exact hl, by rw [slice_from hb]; exact q⟩
theorem i_sAB {l : List Nat} {a b : Nat} (hab : a ≤ b) (hb : b ≤ l.length) (hl : l.length ≤ 1000) (q : Q (.str (sOf ((l.drop a).take (b - a)))) H) : rSlS (.str (sOf l)) (some (a : Int)) (some (b : Int)) H Q := ⟨_, rfl, by rw [str_len]; exact hl, by rw [slice_ab hab hb]; exact q⟩
theorem i_intT {l : List Nat} (h : NumText.AllDigits l) (hn : l ≠ []) (hl : l.length ≤ 600) (q : Q (.int (NumText.digitsVal l : Nat)) H) : rIntT [.str (sOf l)] H Q := ⟨_, _, rfl, by rw [str_len]; omega, PySem.intText_digits (x := sOf l) h hn (by rw [str_len]; omega), q⟩
theorem i_max2 {i j : Int} (q : Q (.int (if j > i then j else i)) H) : rMax2 [.int i, .int j] H Q := ⟨i, j, rfl, q⟩
theorem i_compS {g : TG} {tc : TT} {te : TE} {tl : TE} {n : Nat} {js : List Nat} (h : tl σ H fun x H1 => ∃ z : Str, x = .str z ∧ ∀ D, H1 D = none → ∃ W : Nat → Nat → St → Hp → Prop, (∃ m, W 0 m (inner n js σ) (upd H1 D (.lst []))) ∧
  ∀ i m σ' H', W i m σ' H' → ((Itx z).stop i H' ∧ Q (.ref D) H') ∨ ((Itx z).go i H' ∧ ∀ x H2, (Itx z).yld i H' x H2 → g x σ' H2 fun σ3 H3 => tc σ3 H3 fun b H4 =>
    if b = true then te σ3 H4 fun v H5 => rAppend (.ref D) [v] H5 fun _ H6 => ∃ m', m' < m ∧ W (i + 1) m' σ3 H6 else ∃ m', m' < m ∧ W (i + 1) m' σ3 H4)) : tComp (iStr tl) g tc te n js σ H Q := h
end
theorem dv_lt {l : List Nat} (h : NumText.AllDigits l) : NumText.digitsVal l < 10 ^ l.length := by
  have key : ∀ (n : Nat) (l : List Nat), l.length = n → NumText.AllDigits l → NumText.digitsVal l < 10 ^ l.length := by
    intro n
    induction n with
    | zero =>
      intro l e _
      have : l = [] := List.length_eq_zero_iff.mp e
      subst this
      decide
    | succ n ih =>
      intro l e h
      match l, e with
      | c :: r, e =>
        have hr := ih r (by simpa using e) h.tail
        have hc := h.head
        have ea := dv_append [c] r
        have e1 : NumText.digitsVal [c] = c - 48 := by
          show 0 * 10 + (c - 48) = c - 48
          omega
        rw [List.singleton_append, e1] at ea
        rw [ea, List.length_cons, Nat.pow_succ]
        have : (c - 48) * 10 ^ r.length ≤ 9 * 10 ^ r.length := Nat.mul_le_mul_right _ (by omega)
        omega
  exact key _ l rfl h
theorem dv_bd {l : List Nat} (h : NumText.AllDigits l) (hl : l.length ≤ 600) : Bd 2000 ((NumText.digitsVal l : Nat) : Int) := by
  have h1 := dv_lt h
  have h2 : 10 ^ l.length ≤ 10 ^ 600 := Nat.pow_le_pow_right (by decide) hl
  have h3 : (10 : Nat) ^ 600 < 2 ^ 2000 := by decide +kernel
  show ((NumText.digitsVal l : Nat) : Int).natAbs < 2 ^ 2000
  rw [Int.natAbs_natCast]
  exact Nat.lt_trans (Nat.lt_of_lt_of_le h1 h2) h3
end L2
namespace L2
open PySem PySem.Spec PyProof.Rows Bg Builtin Builtin.Str
section
variable {X : Cx}
def rSplit : V → List V → Hp → VK → Prop := fun x vs H Q => ∃ y z : Str, x = .str y ∧ vs = [.str z] ∧ (z.length == 0) = false ∧ y.length + 2 ≤ sizeLine ∧ ∀ p, H p = none → Q (.ref p) (upd H p (.lst ((Txt.split y z).map V.str)))
theorem vals_strs (l : List (Str × Tok)) : Vals ((l.map (·.1)).map V.str) (strValues l) := by
  induction l with
  | nil => exact .nil
  | cons p l ih => exact .cons ⟨p.2, rfl⟩ ih
theorem mt_split : MtR X "str.split" rSplit := by
  intro pins s σ H x vs v us Q I rx rv h
  obtain ⟨y, z, rfl, rfl, hz, hl, q⟩ := h
  obtain ⟨t, rfl⟩ := rx
  obtain ⟨u, rfl, ru⟩ := rv.one
  obtain ⟨t', rfl⟩ := ru
  have hn : (partsBetween y (occurrences y z 0 y.length (y.length + 1)) z.length).length ≤ sizeLine := by
    have e1 := StrLaws.occ_length_le y z 0 y.length (y.length + 1)
    rw [length_partsBetween]; omega
  have fin : ∀ (l : List (Str × Tok)) (k : Nat), l.map (·.1) = Txt.split y z → EP X pins σ Q (.ref s.heap.objs.size) { s with heap := s.heap.push { cls := .type "list", data := .seq (strValues l).toArray }, toks := k } := fun l k e => by
    refine ⟨.ref s.heap.objs.size, _, I.laid (t' := k) (o := .lst ((Txt.split y z).map V.str)) (fun b ob q => Heap.get?_push_of_some _ q) (Nat.le_refl _) ?_, rfl, q _ (I.hok.fresh (Nat.le_refl _))⟩
    rw [← e]
    refine ⟨?_, strValues l, 0, vals_strs l, Heap.get?_push_size _ rfl⟩
    have := PyProof.Rows.len_le_of_split e
    simp only [List.length_map]
    omega
  cases h1 : (decide (y.length < z.length) || decide (Builtin.Str.strKind y < Builtin.Str.strKind z))
  · cases hf : (occurrences y z 0 y.length (y.length + 1)).isEmpty
    · refine call_meets F.slot_str_split (typeIs_str _ _ _) F.entry_str_split (F.args_str_split_2 _ _) (meets_str_split_sep y z t t' h1 hz hf (by omega) hn) ?_
      show wants _ _ _ { s with toks := _, heap := s.heap.push { cls := .type "list", data := .seq (strsFrom s.toks (partsBetween y (occurrences y z 0 y.length (y.length + 1)) z.length)).toArray } }
      rw [strsFrom_eq]
      exact fin (numbered s.toks _) _ ((numbered_texts _ _).trans ((if_neg (ne_true_of_eq_false h1)).trans (if_neg (ne_true_of_eq_false hf))).symm)
    · exact call_meets F.slot_str_split (typeIs_str _ _ _) F.entry_str_split (F.args_str_split_2 _ _) (meets_str_split_not_found y z t t' h1 hz hf) (fin [(y, t)] s.toks ((if_neg (ne_true_of_eq_false h1)).trans (if_pos hf)).symm)
  · exact call_meets F.slot_str_split (typeIs_str _ _ _) F.entry_str_split (F.args_str_split_2 _ _) (meets_str_split_cannot_occur y z t t' h1) (fin [(y, t)] s.toks (if_pos h1).symm)
end
def jn (sep : List Nat) : List (List Nat) → List Nat
  | [] => []
  | [p] => p
  | p :: q :: r => p ++ sep ++ jn sep (q :: r)
theorem at_sep {l sep : List Nat} {i : Nat} : StrLaws.At (sOf l) (sOf sep) (sOf l).length i ↔ i + sep.length ≤ l.length ∧ (l.drop i).take sep.length = sep := by
  unfold StrLaws.At
  rw [StrLaws.subAt_eq, sOf_len, sOf_len, sOf_list, sOf_list, beq_iff_eq]
theorem at_first {l sep : List Nat} {c i : Nat} (hc : sep[0]? = some c) (h : StrLaws.At (sOf l) (sOf sep) (sOf l).length i) : l[i]? = some c := by
  obtain ⟨_, h2⟩ := at_sep.mp h
  have hl : 0 < sep.length := (List.getElem?_eq_some_iff.mp hc).1
  have e : ((l.drop i).take sep.length)[0]? = some c := by rw [h2]; exact hc
  rw [List.getElem?_take_of_lt hl, List.getElem?_drop] at e
  exact e
theorem parts_jn {l sep : List Nat} {c : Nat} (hc : sep[0]? = some c) : ∀ (ps : List (List Nat)) (a : Nat) (cuts : List Nat) (f : Nat), ps ≠ [] → (∀ p ∈ ps, c ∉ p) → l.drop a = jn sep ps → a ≤ l.length →
    StrLaws.ChainG (sOf l) (sOf sep) (sOf l).length a cuts f → (∀ k, f ≤ k → ¬ StrLaws.At (sOf l) (sOf sep) (sOf l).length k) → StrLaws.partsFrom (sOf l) (sOf sep).length a cuts = ps.map sOf := by
  intro ps
  induction ps with
  | nil => intro a cuts f h; exact absurd rfl h
  | cons p ps ih =>
    intro a cuts f _ hps hl ha hG hn
    have hp := hps p List.mem_cons_self
    have hsl : 0 < sep.length := (List.getElem?_eq_some_iff.mp hc).1
    cases ps with
    | nil =>
      have hl : l.drop a = p := hl
      cases cuts with
      | nil =>
        show [Builtin.Str.strSub (sOf l) a (sOf l).length] = [sOf p]
        rw [sub_list, sOf_len, hl, List.take_of_length_le (by rw [← hl, List.length_drop]; omega)]
      | cons d r =>
        have e := at_first hc hG.2.1
        have had : a ≤ d := hG.1
        have e2 : p[d - a]? = some c := by
          rw [← hl, List.getElem?_drop, show a + (d - a) = d by omega]
          exact e
        exact absurd (List.mem_of_getElem? e2) hp
    | cons p' ps' =>
      have hl : l.drop a = p ++ sep ++ jn sep (p' :: ps') := hl
      have hlen : l.length - a = p.length + sep.length + (jn sep (p' :: ps')).length := by
        rw [← List.length_drop, hl, List.length_append, List.length_append]
      have h0 : StrLaws.At (sOf l) (sOf sep) (sOf l).length (a + p.length) := by
        refine at_sep.mpr ⟨by omega, ?_⟩
        rw [← List.drop_drop, hl, List.append_assoc, List.drop_append_of_le_length (Nat.le_refl _), List.drop_length, List.nil_append, List.take_append_of_le_length (Nat.le_refl _), List.take_length]
      cases cuts with
      | nil =>
        have ef : f = a := hG
        exact absurd h0 (hn _ (by omega))
      | cons d r =>
        obtain ⟨had, hAd, hbet, hG'⟩ := hG
        have ed : d = a + p.length := by
          rcases Nat.lt_trichotomy d (a + p.length) with z | z | z
          · have e := at_first hc hAd
            have e2 : p[d - a]? = some c := by
              have e3 : (l.drop a)[d - a]? = some c := by rw [List.getElem?_drop, show a + (d - a) = d by omega]; exact e
              rw [hl, List.append_assoc, List.getElem?_append_left (by omega)] at e3
              exact e3
            exact absurd (List.mem_of_getElem? e2) hp
          · exact z
          · exact absurd h0 (hbet _ (by omega) z)
        subst ed
        show Builtin.Str.strSub (sOf l) a (a + p.length) :: StrLaws.partsFrom (sOf l) (sOf sep).length (a + p.length + (sOf sep).length) r = sOf p :: (p' :: ps').map sOf
        have e1 : Builtin.Str.strSub (sOf l) a (a + p.length) = sOf p := by
          rw [sub_list, hl, show a + p.length - a = p.length by omega, List.append_assoc, List.take_append_of_le_length (Nat.le_refl _), List.take_length]
        rw [e1]
        rw [sOf_len] at hG' ⊢
        have e2 : l.drop (a + p.length + sep.length) = jn sep (p' :: ps') := by
          rw [show a + p.length + sep.length = a + (p ++ sep).length by rw [List.length_append]; omega, ← List.drop_drop, hl, List.drop_append_of_le_length (Nat.le_refl _), List.drop_length, List.nil_append]
        have := ih (a + p.length + sep.length) r f (by simp) (fun q hq => hps q (List.mem_cons_of_mem _ hq)) e2 (by omega) (by rw [sOf_len]; rw [sOf_len] at hG'; exact hG') hn
        rw [sOf_len] at this
        rw [this]
theorem kind_pos (x : Str) : 1 ≤ Builtin.Str.strKind x := by
  unfold Builtin.Str.strKind
  split
  · decide
  · split <;> decide
theorem split_jn {sep : List Nat} {c : Nat} {ps : List (List Nat)} (hc : sep[0]? = some c) (hk : Builtin.Str.strKind (sOf sep) = 1) (hne : ps ≠ []) (hps : ∀ p ∈ ps, c ∉ p) : Txt.split (sOf (jn sep ps)) (sOf sep) = ps.map sOf := by
  have hsl : 0 < sep.length := (List.getElem?_eq_some_iff.mp hc).1
  obtain ⟨f, hG, hn⟩ := StrLaws.occ_tight (sOf (jn sep ps)) (sOf sep) (by rw [sOf_len]; exact hsl)
  have key := parts_jn (l := jn sep ps) hc ps 0 _ f hne hps rfl (Nat.zero_le _) hG hn
  have one : (occurrences (sOf (jn sep ps)) (sOf sep) 0 (sOf (jn sep ps)).length ((sOf (jn sep ps)).length + 1)).isEmpty = true → [sOf (jn sep ps)] = ps.map sOf := fun h => by
    rw [List.isEmpty_iff.mp h] at key
    rw [← key]
    show [sOf (jn sep ps)] = [Builtin.Str.strSub (sOf (jn sep ps)) 0 (sOf (jn sep ps)).length]
    rw [sub_list, sOf_len]
    simp
  unfold Txt.split
  split
  · rename_i h
    rw [Bool.or_eq_true, decide_eq_true_eq, decide_eq_true_eq, hk] at h
    have hlt : (sOf (jn sep ps)).length < (sOf sep).length := by
      rcases h with h | h
      · exact h
      · have := kind_pos (sOf (jn sep ps)); omega
    refine one ?_
    cases e : occurrences (sOf (jn sep ps)) (sOf sep) 0 (sOf (jn sep ps)).length ((sOf (jn sep ps)).length + 1) with
    | nil => rfl
    | cons d r =>
      rw [e] at hG
      have := hG.2.1.1
      omega
  · split
    · rename_i h
      exact one h
    · rw [StrLaws.partsBetween_eq]
      exact key
theorem join_jn {sep : List Nat} (ps : List (List Nat)) : Txt.join (sOf sep) (ps.map sOf) = sOf (jn sep ps) := by
  unfold Txt.join
  rw [StrLaws.glued_eq_join]
  induction ps with
  | nil => rfl
  | cons p ps ih =>
    cases ps with
    | nil => rfl
    | cons p' ps' =>
      show sOf p ++ sOf sep ++ Str.join (sOf sep) ((p' :: ps').map sOf) = _
      rw [ih, str_app, str_app]
      rfl
section
variable {H : Hp} {Q : VK}
theorem i_split {sep : List Nat} {c : Nat} {ps : List (List Nat)} (hc : sep[0]? = some c) (hk : Builtin.Str.strKind (sOf sep) = 1) (hne : ps ≠ []) (hps : ∀ p ∈ ps, c ∉ p) (hl : (jn sep ps).length + 2 ≤ sizeLine)
    (q : ∀ r H2, Same H H2 → H2 r = some (.lst ((ps.map sOf).map V.str)) → Q (.ref r) H2) : rSplit (.str (sOf (jn sep ps))) [.str (sOf sep)] H Q := by
  have hsl : 0 < sep.length := (List.getElem?_eq_some_iff.mp hc).1
  refine ⟨_, _, rfl, rfl, ?_, by rw [sOf_len]; exact hl, fun p hp => ?_⟩
  · rw [sOf_len]
    simp only [beq_eq_false_iff_ne]
    omega
  · rw [split_jn hc hk hne hps]
    exact q p _ (fun b o e => by rw [upd_ne (ne_of_none e hp)]; exact e) upd_same
end
end L2
namespace L2
open PySem PySem.Spec PySem.W PySem.Calls PyProof.Rows Bg PySem.Builtin PySem.Builtin.ObjectAttr PySem.Builtin.Getset_descriptor
section
variable {prog : Program} {w : World} {A : Around} {E : Value → Shared → Prop} {K : Frag} {x C : Addr} {h : Heap} {g : Array GenState} {d : Drawn} {t : Nat} {os : OsState}
theorem exc_class_get {R : Result → Shared → Prop} {tp : Value} (L0 : Looks (model prog w) h (typeOf (.ref x)) (.ref C)) (L5 : Looks (model prog w) h (isSubtype (.ref C) (.type "object")) true)
    (hR : R (.ok (.ret (.ref C))) ⟨h, g, d, t, os⟩) : codeAny (model prog w) A (.call (.builtin "getset_descriptor.__get__") ⟨[.builtin "object.__class__", .ref x, tp], []⟩) R ⟨h, g, d, t, os⟩ := by
  refine codeAny_call_builtin KF.slot_gs.plain KF.entry_gs (KF.slot_gs.check _ _ _ _ _ _ _ _ KF.type_class (KF.args_gs _ _ _) ?_)
  unfold Builtin.«getset_descriptor.__get__» descrGet
  rw [dga_obj]
  refine wpAny_bind (wpAny_pure ?_)
  unfold descrGetter descrCheckInstance descrNameAndClass isInstance
  simp only [KF.owner_class]
  repeat lk
  refine ⟨Code.quiet_builtin _ (by decide +kernel), codeAny_builtin KF.entry_class ?_⟩
  unfold Builtin.«object.__class__» shownTypeOf
  repeat lk
  exact hR
theorem exc_class_entry {tk : Tok} {Q : Fin → Shared → Prop} (L0 : Looks (model prog w) h (typeOf (.ref x)) (.ref C)) (L4 : Looks (model prog w) h (typeLookup (.ref C) "__class__") (some (.builtin "object.__class__"))) (L5 : Looks (model prog w) h (isSubtype (.ref C) (.type "object")) true)
    (hq : Q (.done (.ret (.ref C))) ⟨h, g, d, t, os⟩) : wpAny (model prog w) A (Builtin.«object.__getattribute__» ⟨[.ref x, .str "__class__" tk], []⟩) Q E ⟨h, g, d, t, os⟩ := by
  have f6 := F.slot_gs_get.lookup
  have f7 := F.slot_gs_set.lookup
  have f5 : typeOf (.builtin "object.__class__") = pure (.type "getset_descriptor") := by kernel_rfl
  repeat (any_goals (first | assumption | (with_reducible refine Looks.at (by assumption) ?_) | wp_step))
  refine exc_class_get L0 L5 ?_
  repeat (any_goals (first | assumption | wp_step))
theorem exc_check {nameV : Value} {M : Model} {Q : Unit → Shared → Prop} (L0 : Looks M h (typeOf (.ref x)) (.ref C)) (L3 : Looks M h (isSubtype (.ref C) (.type "BaseException")) true)
    (hq : Q () ⟨h, g, d, t, os⟩) : wpAny M A (checkBuiltinCall "BaseException.__getattribute__" ⟨[.ref x, nameV], []⟩) Q E ⟨h, g, d, t, os⟩ := by
  have hk : builtinKind "BaseException.__getattribute__" = some .slot := by decide +kernel
  have hsplit : splitId "BaseException.__getattribute__" = some ("BaseException", "__getattribute__") := by decide +kernel
  have ha := F.args_bexc_ga (.ref x) nameV
  simp only [checkBuiltinCall, hk, hsplit]
  refine wpAny_bind ?_
  unfold isInstance
  repeat (any_goals (first | assumption | (with_reducible refine Looks.at (by assumption) ?_) | wp_step))
theorem exc_class {Q : Option Value → Shared → Prop} (L0 : Looks (model prog w) h (typeOf (.ref x)) (.ref C)) (L1 : Looks (model prog w) h (typeLookup (.ref C) "__getattribute__") (some (.builtin "BaseException.__getattribute__")))
    (L2 : Looks (model prog w) h (typeLookup (.ref C) "__getattr__") none) (L3 : Looks (model prog w) h (isSubtype (.ref C) (.type "BaseException")) true)
    (L4 : Looks (model prog w) h (typeLookup (.ref C) "__class__") (some (.builtin "object.__class__"))) (L5 : Looks (model prog w) h (isSubtype (.ref C) (.type "object")) true)
    (hq : Q (some (.ref C)) ⟨h, g, d, t + 1, os⟩) : wpAny (model prog w) A (getAttr? (.ref x) "__class__") Q E ⟨h, g, d, t, os⟩ := by
  have f3 := PySem.F.attrBase_ValueError.ga.bind (.ref x)
  have hx2 : (Value.builtin "BaseException.__getattribute__" == Value.builtin "object.__getattribute__") = false := by decide +kernel
  have hx1 : (onTheHeap (Value.ref C) && Value.builtin "BaseException.__getattribute__" == Value.builtin "object.__getattribute__") = false := by rw [hx2]; rfl
  unfold getAttr? getAttrBy?
  repeat (any_goals (first | assumption | (with_reducible refine Looks.at (by assumption) ?_) | wp_step))
  refine codeAny_call_builtin PySem.F.attrBase_ValueError.ga.plain F.entry_bexc_ga (exc_check L0 L3 (exc_class_entry L0 L4 L5 ?_))
  exact wpAny_pure (wpAny_pure hq)
end
structure XOk (K : Frag) (C : Addr) : Prop where
  ex : excIn K C [.type "ValueError", .type "Exception", .type "BaseException", .type "object"] "ValueError.__new__" = true
  cl : (clsIn K C).isSome = true
  ga : findIn K (.ref C) "__getattribute__" = some (some (.builtin "BaseException.__getattribute__"))
  gr : findIn K (.ref C) "__getattr__" = some none
  be : mroIn K C (.type "BaseException") = some true
  ca : findIn K (.ref C) "__class__" = some (some (.builtin "object.__class__"))
  ob : mroIn K C (.type "object") = some true
def IsExc (x C : Addr) (h : Heap) : Prop := ∃ o, h.get? x = some o ∧ o.cls = .ref C
theorem kitx_exc {K : Frag} {x C : Addr} (k : XOk K C) : KitX K (.ref x) (.ref C) (IsExc x C) where
  ty := fun M h _ p => by
    obtain ⟨o, ho, hc⟩ := p
    exact hc ▸ (Looks.ld ho).andThen .now
  it := fun _ _ X _ => by
    obtain ⟨cdD, hcD⟩ := Option.isSome_iff_exists.mp k.cl
    unfold clsIn at hcD
    split at hcD
    · rename_i c' d' cd' sl' ho
      intro A' Q' E' s' kk q
      unfold isType loadHead
      exact wpAny_bind (wpAny_loadPart (kk _ _ (X _ _ ho)) (wpAny_pure q))
    · cases hcD
  ne := fun h tp dd its n sl X htp => by
    obtain ⟨cdD, hcD⟩ := Option.isSome_iff_exists.mp k.cl
    refine Bool.eq_false_iff.mpr fun q => ?_
    have e : C = tp := Value.ref.inj (beq_iff_eq.mp q)
    subst e
    unfold clsIn at hcD
    split at hcD
    · rename_i c' d' cd' sl' ho
      have z := (X _ _ ho).symm.trans htp
      cases z
    · cases hcD
  ca := fun {prog w A E Q s} X p q => by
    obtain ⟨h, g, d, t, os⟩ := s
    obtain ⟨o, ho, hc⟩ := p
    exact exc_class (hc ▸ (Looks.ld ho).andThen .now) (looks_findIn X k.ga) (looks_findIn X k.gr) (looks_mroIn X k.be) (looks_findIn X k.ca) (looks_mroIn X k.ob) q
end L2
namespace L2
open PySem PySem.Spec PyProof.Rows Bg
structure CXo (P : Program) (w : World) (outer : List Env) (H : Hp) (s : Shared) (a C t : Addr) (H' : Hp) (B : Heap) (s' : Shared) : Prop where
  os : s'.os = s.os
  bare : AllBare s'.gens
  un : Un (frs outer) [] H H' s.heap s'.heap
  keep : ∀ b o, s.heap.get? b = some o → H b = none → b ∉ frs outer → B.get? b = some o
  there : ∀ b o, s.heap.get? b = some o → b ∉ frs outer → ∃ o', B.get? b = some o'
  hok : HOk P w H' B
  fly : Heap.FlyingW B outer a (.ref C) (.ref t) s'.heap
def CXe (P : Program) (w : World) : CXT := fun outer H s E e s' => ∃ (a C t : Addr) (H' : Hp) (B : Heap), e = .ref a ∧ CXo P w outer H s a C t H' B s' ∧ E (.ref C) none H'
theorem hok_hide {X : Cx} {pins : List (Addr × Obj)} {σ : St} {H : Hp} {s : Shared} (I : Inv X pins σ H s) : HOk X.prog X.w H (PySem.W.hideAll s.heap (frs X.stack)) := fun b u e =>
  (I.hok b u e).stay (fun c v hc q => PySem.W.hideAll_get _ q fun hm => by
    have hn := I.stkFree c hm
    rcases hc with z | z
    · rw [z, e] at hn; cases hn
    · rw [z] at hn; cases hn) (fun _ q => q) fun _ _ q => q
section
variable {X : Cx} {pins : List (Addr × Obj)} {σ : St} {H : Hp} {s : Shared}
theorem Inv.old (I : Inv X pins σ H s) {b : Addr} {o : Obj} (e : X.s₀.heap.get? b = some o) : b ≠ X.env.locals := Nat.ne_of_lt (Nat.lt_of_lt_of_le (Heap.lt_size e) I.ok.above)
theorem Inv.nostk (I : Inv X pins σ H s) {b : Addr} {o : Obj} (e : X.s₀.heap.get? b = some o) (hb : b ∉ X.fs) : b ∉ frs X.stack := fun z => by
  rcases List.mem_cons.mp (I.stkSub b z) with q | q
  · exact I.old e q
  · exact hb q
theorem Inv.instk (I : Inv X pins σ H s) (hst : X.stack = X.env :: X.outer) {b : Addr} (hb : b ∈ X.fs) : b ∈ frs X.stack := by
  rw [hst]
  unfold frs
  rw [List.filterMap_cons]
  split
  · exact hb
  · exact List.mem_cons_of_mem _ hb
theorem Inv.raised (I : Inv X pins σ H s) (hst : X.stack = X.env :: X.outer) (hf : X.env.frame = some X.env.locals) (hex : X.ex = []) {e C : Addr} {args : List Value} {h1 : Heap} (hm : Heap.MadeExcOf s.heap h1 e (.ref C) args)
    {M : Model} {E : Value → Shared → Prop} {Q : Unit → Shared → Prop} (hQ : ∀ h' t B, CXo X.prog X.w X.outer X.H₀ X.s₀ e C t H B { s with heap := h' } → Q () { s with heap := h' }) : wpAny M X.A (leaving X.env (.ref e)) Q E { s with heap := h1 } := by
  have hfr : X.A.frames = some (X.env :: X.outer) := by rw [← hst]; exact I.ok.frames
  have hff : s.heap.FunFrames (PySem.W.hideAll s.heap (frs X.stack)) (X.env :: X.outer) := by
    have z := I.stack
    rw [hst] at z
    exact PySem.W.funFrames_hide z fun env he a ha => by rw [hst]; exact List.mem_filterMap.mpr ⟨env, he, ha⟩
  have nx : ∀ b, b ∉ X.ex := fun b => by rw [hex]; simp
  refine wpAny_leaves_madeW (s := { s with heap := h1 }) (base := PySem.W.hideAll s.heap (frs X.stack)) (h := s.heap) hfr hf (fun b o q => PySem.W.of_hideAll _ q) hff hm fun h' t x1 x2 x3 x4 => hQ h' t (PySem.W.hideAll s.heap (frs X.stack)) ?_
  have inB : ∀ b o, X.s₀.heap.get? b = some o → X.H₀ b = none → b ∉ frs X.outer → (PySem.W.hideAll s.heap (frs X.stack)).get? b = some o := fun b o q n hb => PySem.W.hideAll_get _ (I.base.keep b o q n hb (nx b)) (I.nostk q hb)
  have thB : ∀ b o, X.s₀.heap.get? b = some o → b ∉ frs X.outer → ∃ o', (PySem.W.hideAll s.heap (frs X.stack)).get? b = some o' := fun b o q hb => by
    obtain ⟨o', k⟩ := I.base.there b o q (nx b)
    exact ⟨o', PySem.W.hideAll_get _ k (I.nostk q hb)⟩
  have sl : ∀ b o, s.heap.get? b = some o → b ∈ frs X.outer → ∃ sl, h'.get? b = some { o with slots := sl } := fun b o q hb => by
    obtain ⟨_, o', e', nd⟩ := I.funs.mem hb
    rw [q] at e'
    cases e'
    exact x4 b o (hm.keeps b o q) nd
  refine ⟨I.os, I.bare, ⟨fun b o q n hb _ => x1.1 b o (inB b o q n hb), fun b o q n hb _ => ?_, fun b o q n _ => I.base.free b o q n (nx b), fun b o q _ => ?_, I.base.tups, I.base.frzs, I.base.tbls⟩, inB, thB, hok_hide I, x1⟩
  · obtain ⟨s1, k⟩ := I.base.slot b o q n hb (nx b)
    obtain ⟨s2, k2⟩ := sl b _ k hb
    exact ⟨s2, k2⟩
  · by_cases hb : b ∈ frs X.outer
    · obtain ⟨o', k⟩ := I.base.there b o q (nx b)
      obtain ⟨s2, k2⟩ := sl b _ k hb
      exact ⟨_, k2⟩
    · obtain ⟨o', k⟩ := thB b o q hb
      exact ⟨o', x1.1 b o' k⟩
theorem Inv.passed (I : Inv X pins σ H s) (hst : X.stack = X.env :: X.outer) (hf : X.env.frame = some X.env.locals) (hex : X.ex = []) {a C t : Addr} {H' : Hp} {B : Heap} {s' : Shared} (c : CXo X.prog X.w X.stack H s a C t H' B s')
    {M : Model} {E : Value → Shared → Prop} {Q : Unit → Shared → Prop} (hQ : ∀ h', CXo X.prog X.w X.outer X.H₀ X.s₀ a C t H' B { s' with heap := h' } → Q () { s' with heap := h' }) : wpAny M X.A (leaving X.env (.ref a)) Q E s' := by
  have hfr : X.A.frames = some (X.env :: X.outer) := by rw [← hst]; exact I.ok.frames
  have fl := c.fly
  rw [hst] at fl
  have nx : ∀ b, b ∉ X.ex := fun b => by rw [hex]; simp
  refine wpAny_leaves_onW hfr hf fl fun h' x1 x4 => hQ h' ?_
  have inB : ∀ b o, X.s₀.heap.get? b = some o → X.H₀ b = none → b ∉ frs X.outer → B.get? b = some o := fun b o q n hb => c.keep b o (I.base.keep b o q n hb (nx b)) (I.base.free b o q n (nx b)) (I.nostk q hb)
  have thB : ∀ b o, X.s₀.heap.get? b = some o → b ∉ frs X.outer → ∃ o', B.get? b = some o' := fun b o q hb => by
    obtain ⟨o', k⟩ := I.base.there b o q (nx b)
    exact c.there b o' k (I.nostk q hb)
  have sl : ∀ b o, s.heap.get? b = some o → b ∈ frs X.outer → ∃ sl, h'.get? b = some { o with slots := sl } := fun b o q hb => by
    have hb' := I.instk hst hb
    obtain ⟨s1, k1⟩ := c.un.slot b o q (I.stkFree b hb') hb' (by simp)
    have hb2 : b ∈ (X.env :: X.outer).filterMap (·.frame) := by rw [← hst]; exact hb'
    obtain ⟨_, o', e', nd⟩ := fl.2.2.1.mem hb2
    rw [k1] at e'
    cases e'
    obtain ⟨s2, k2⟩ := x4 b _ k1 nd
    exact ⟨s2, k2⟩
  refine ⟨c.os.trans I.os, c.bare, ⟨fun b o q n hb _ => x1.1 b o (inB b o q n hb), fun b o q n hb _ => ?_, fun b o q n _ => ?_, fun b o q _ => ?_, fun b xs q => c.un.tups b xs (I.base.tups b xs q), fun b o u q => c.un.frzs b o u (I.base.frzs b o u q), fun b ps q => ?_⟩, inB, thB, c.hok, x1⟩
  · obtain ⟨s1, k⟩ := I.base.slot b o q n hb (nx b)
    obtain ⟨s2, k2⟩ := sl b _ k hb
    exact ⟨s2, k2⟩
  · obtain ⟨o', k⟩ := I.base.there b o q (nx b)
    exact c.un.free b o' k (I.base.free b o q n (nx b)) (by simp)
  · by_cases hb : b ∈ frs X.outer
    · obtain ⟨o', k⟩ := I.base.there b o q (nx b)
      obtain ⟨s2, k2⟩ := sl b _ k hb
      exact ⟨_, k2⟩
    · obtain ⟨o', k⟩ := thB b o q hb
      exact ⟨o', x1.1 b o' k⟩
  · obtain ⟨m1, e1⟩ := I.base.tbls b ps q
    obtain ⟨m2, e2⟩ := c.un.tbls b _ e1
    exact ⟨m1 ++ m2, by rw [e2, Array.append_assoc]⟩
end
def Raises (X : Cx) (E : XK) : Prop := ∀ (pins : List (Addr × Obj)) (σ : St) (H : Hp) (s : Shared) (e C : Addr) (args : List Value) (h1 : Heap), Inv X pins σ H s → Heap.MadeExcOf s.heap h1 e (.ref C) args → E (.ref C) none H → X.xe (.ref e) { s with heap := h1 }
section
variable {P : Program} {w : World} {K : PySem.W.Frag} {mg : Str → Option Value} {base : Heap} {N : List Str} {qual : Str} {scope : Scope} {f : Addr} {cd : Value} {A : Around} {outer : List Env} {s0 : Shared} {H0 : Hp} {E : XK}
theorem raises_of : Raises (cxOf (CXe P w) P w K mg base N qual scope f cd A outer s0 H0 E) E := fun pins σ H s e C args h1 I hm hE =>
  I.raised rfl rfl rfl hm fun h' t B c => ⟨e, C, t, H, B, rfl, c, hE⟩
theorem passes_of : Passes (CXe P w) (cxOf (CXe P w) P w K mg base N qual scope f cd A outer s0 H0 E) E := fun pins σ H s e s' I h => by
  obtain ⟨a, C, t, H', B, rfl, c, hE⟩ := h
  exact I.passed rfl rfl rfl c fun h' c' => ⟨a, C, t, H', B, rfl, c', hE⟩
end
theorem passX0 {P : Program} {w : World} {X : Cx} : Passes (CXe P w) X E0 := fun _ _ _ _ _ _ _ h => by
  obtain ⟨_, _, _, _, _, _, _, z⟩ := h
  exact z.elim
def tRaise (C : Addr) (E : XK) : TS := fun _ _ H => E (.ref C) none H
theorem exc_obj {K : PySem.W.Frag} {C : Addr} (k : XOk K C) {h : Heap} (X : K.In h) : ∃ bm N nm q bs hdct sn sub ab col dd k0 k1 k2 k3 k5 mN, h.get? C = some (excClassObj nm q C N bs bm hdct sn sub ab col dd k0 k1 k2 k3 k5 "ValueError.__new__") ∧ h.Ns N mN ∧ mN "__init__" = none ∧ OwnTail h [.type "ValueError", .type "Exception", .type "BaseException", .type "object"] bm := by
  have q := k.ex
  unfold PySem.W.excIn at q
  split at q
  · rename_i dd cd sl ho
    split at q
    · rename_i C' bm k0 k1 k2 k3 n k5 hm hs
      simp only [Bool.and_eq_true, beq_iff_eq, Bool.not_eq_true'] at q
      obtain ⟨⟨⟨⟨⟨rfl, rfl⟩, hdel⟩, ht⟩, hok⟩, hni⟩ := q
      obtain ⟨nm, bs, mro, ns, qn, hd, sn, sub, ab, col, del⟩ := cd
      dsimp only at hm hdel hok hni
      subst hm hdel
      have hsl : sl = #[k0, k1, k2, k3, some (.builtin "ValueError.__new__"), k5] := by
        obtain ⟨l⟩ := sl
        simp only at hs
        rw [hs]
      subst hsl
      exact ⟨bm, ns, nm, qn, bs, hd, sn, sub, ab, col, dd, k0, k1, k2, k3, k5, _, X _ _ ho, .of_isNs (PySem.W.isNs_of_in X hok), PySem.W.nsMap_none_of_in X hok hni, PySem.W.tail_of_in X ht⟩
    · cases q
  · cases q
theorem ps_raise {X : Cx} {E : XK} {x z : Str} {C : Addr} {j : Nat} {np p1 cpos pos : Pos} (hx : Raises X E) (k : XOk X.K C) (hm : X.mg x = some (.ref C)) (hg : Gl X x) (hc : X.calm = true) (hd : (x == ("__debug__" : Str)) = false := by decide) :
    PS X (.Raise (some (.Call (.Name x np) [.Constant (.str z) j p1] [] cpos)) none pos) (tRaise C E) := by
  intro pins s σ H D I h
  obtain ⟨bm, N, nm, q, bs, hdct, sn, sub, ab, col, dd, k0, k1, k2, k3, k5, mN, hC, hN, hni, T⟩ := exc_obj k I.kIn
  have FB := PySem.F.excBase_ValueError
  refine wpAny_Raise_call_subT (C := C) (nm := nm) (q := q) (N := N) (bs := bs) (bm := bm) (hdct := hdct) (sn := sn) (sub := sub) (ab := ab) (col := col) (dd := dd) (k0 := k0) (k1 := k1) (k2 := k2) (k3 := k3) (k5 := k5)
    FB (mN := mN) (T.hasType FB.hasBase) (I.ok.hd hc) rfl hni (ld_glob I hg hm ⟨rfl, ?_⟩ hd)
  refine Calls.evalArgs_plain (PyProof.Rows.spliced_more (Calls.Constant_str (PyProof.Rows.spliced_none ?_)))
  have I1 := I.tok (s.toks + 1)
  exact ⟨rfl, show 1 ≤ sizeLine by decide, hC, hN, T, fun h' e hm' => hx pins σ H _ e C _ h' I1 hm' h⟩
end L2
namespace L2
open PySem PySem.Spec PyProof.Rows Bg
def ExcO (a C : Addr) : HO := .ext (IsExc a C)
theorem HOk.add {P : Program} {w : World} {H : Hp} {h : Heap} {a : Addr} {o : HO} (x : HOk P w H h) (hn : H a = none) (new : ObjOk P w (upd H a o) h a o) : HOk P w (upd H a o) h := fun b u e => by
  by_cases hb : b = a
  · subst hb; rw [upd_same] at e; cases e; exact new
  · rw [upd_ne hb] at e
    exact (x b u e).stay (fun c v _ q => q) (fun c q => by rw [upd_ne (ne_of_none q hn)]; exact q) fun c xs q => by rw [upd_ne (ne_of_none q hn)]; exact q
theorem ObjOk.there {P : Program} {w : World} {H : Hp} {h : Heap} {a : Addr} {o : HO} (x : ObjOk P w H h a o) : ∃ u, h.get? a = some u := by
  cases o with
  | lst xs => obtain ⟨_, _, _, _, e⟩ := x; exact ⟨_, e⟩
  | tup xs => obtain ⟨_, _, _, u, e, _⟩ := x; exact ⟨_, e⟩
  | dK kvs => obtain ⟨_, _, _, _, o, _, _, e, _⟩ := x; exact ⟨_, e⟩
  | dT kvs => obtain ⟨_, _, _, _, o, _, _, e, _⟩ := x; exact ⟨_, e⟩
  | set S n => obtain ⟨o, _, _, _, e, _⟩ := x; exact ⟨_, e⟩
  | ins C dx fs => obtain ⟨_, _, _, e, _⟩ := x; exact ⟨_, e⟩
  | own y => exact x
  | xd fs => obtain ⟨_, ⟨_, _, _, e, _⟩, _⟩ := x; exact ⟨_, e⟩
  | rng lo hi => obtain ⟨_, _, _, e⟩ := x; exact ⟨_, e⟩
  | frz ob u => obtain ⟨e, _⟩ := x; exact ⟨_, e⟩
  | tbl ps => exact ⟨_, (show h.get? a = some _ from x)⟩
  | met f y => exact ⟨_, (show h.get? a = some _ from x)⟩
  | ext φ => obtain ⟨_, e, _⟩ := x; exact e
theorem CXo.free {P : Program} {w : World} {outer : List Env} {H : Hp} {s : Shared} {a C t : Addr} {H' : Hp} {B : Heap} {s' : Shared} (c : CXo P w outer H s a C t H' B s') : H' a = none := by
  cases q : H' a with
  | none => rfl
  | some u =>
    obtain ⟨o, e⟩ := (c.hok a u q).there
    have := c.fly.2.1
    rw [e] at this
    cases this
def Cx.tryc (X : Cx) (pl : List (Addr × Obj)) (EE : St → XK) : Cx := { X with pn := X.pn ++ pl, xe := fun e s' => ∃ σ H s, Inv X pl σ H s ∧ CXe X.prog X.w X.stack H s (EE σ) e s' }
def Cx.inx (X : Cx) (a : Addr) : Cx := { X with A := X.A.mark (some (.ref a)), calm := false, xe := fun _ _ => False }
section
variable {X : Cx} {pl pins : List (Addr × Obj)} {σ : St} {H : Hp} {s : Shared} {EE : St → XK} {a : Addr}
theorem Cx.Ok.tryc (ok : X.Ok) : (X.tryc pl EE).Ok :=
  ⟨ok.mod, ok.kind, ok.glob, ok.blt, ok.above, ok.inj, ok.has, ok.cab, ok.hd, ok.frames, ok.stk, ok.exf, ok.bs, ok.bsz, ok.noex, ok.exfs, ok.funs, ok.frf⟩
theorem Cx.Ok.untry (ok : (X.tryc pl EE).Ok) : X.Ok :=
  ⟨ok.mod, ok.kind, ok.glob, ok.blt, ok.above, ok.inj, ok.has, ok.cab, ok.hd, ok.frames, ok.stk, ok.exf, ok.bs, ok.bsz, ok.noex, ok.exfs, ok.funs, ok.frf⟩
theorem Inv.tryc (I : Inv X pl σ H s) : Inv (X.tryc pl EE) [] σ H s := ⟨I.ok.tryc, I.os, I.bare, I.base, I.loc, I.cell, I.free, I.freeC, fun p hp => I.pin p (by
  have hp' : p ∈ (X.pn ++ pl) ++ [] := hp
  simpa using hp'), I.hok, I.len⟩
theorem Inv.untry (I : Inv (X.tryc pl EE) pins σ H s) : Inv X pl σ H s := ⟨I.ok.untry, I.os, I.bare, I.base, I.loc, I.cell, I.free, I.freeC, fun p hp => I.pin p (List.mem_append_left _ hp), I.hok, I.len⟩
theorem Cx.Ok.inx (ok : X.Ok) : (X.inx a).Ok :=
  ⟨ok.mod, ok.kind, ok.glob, ok.blt, ok.above, ok.inj, ok.has, ok.cab, fun z => absurd (show false = true from z) Bool.false_ne_true, ok.frames, ok.stk, ok.exf, ok.bs, ok.bsz, ok.noex, ok.exfs, ok.funs, ok.frf⟩
theorem Inv.inx (I : Inv X pins σ H s) : Inv (X.inx a) pins σ H s := ⟨I.ok.inx, I.os, I.bare, I.base, I.loc, I.cell, I.free, I.freeC, I.pin, I.hok, I.len⟩
theorem Inv.uninx (ok : X.Ok) (I : Inv (X.inx a) pins σ H s) : Inv X pins σ H s := ⟨ok, I.os, I.bare, I.base, I.loc, I.cell, I.free, I.freeC, I.pin, I.hok, I.len⟩
theorem Inv.landed (I : Inv X pl σ H s) {C t : Addr} {H' : Hp} {B h5 : Heap} {s' : Shared} (c : CXo X.prog X.w X.stack H s a C t H' B s') (hfl : Heap.FlyingW B X.stack a (.ref C) (.ref t) h5) (hsm : s'.heap.UpToSlots h5) :
    Inv X pl σ H' { s' with heap := h5 } ∧ Inv X pl σ (upd H' a (ExcO a C)) { s' with heap := h5 } := by
  have hn := c.free
  have sl : ∀ b o, s.heap.get? b = some o → H b = none → b ∈ frs X.stack → ∃ sl, h5.get? b = some { o with slots := sl } := fun b o q n hb => by
    obtain ⟨s1, k1⟩ := c.un.slot b o q n hb (by simp)
    obtain ⟨_, o', e', nd⟩ := c.fly.2.2.1.mem hb
    rw [k1] at e'
    cases e'
    obtain ⟨s2, k2⟩ := hsm b _ k1 nd
    exact ⟨s2, k2⟩
  have th : ∀ b o, s.heap.get? b = some o → ∃ o', h5.get? b = some o' := fun b o q => by
    by_cases hb : b ∈ frs X.stack
    · obtain ⟨s1, k1⟩ := sl b o q (I.stkFree b hb) hb
      exact ⟨_, k1⟩
    · obtain ⟨o', k⟩ := c.there b o q hb
      exact ⟨o', hfl.1 b o' k⟩
  have ne : ∀ b o, s.heap.get? b = some o → H b = none → b ≠ a := fun b o q n z => by
    by_cases hb : b ∈ frs X.stack
    · obtain ⟨_, o', e', nd⟩ := hfl.2.2.1.mem hb
      obtain ⟨_, _, _, oe, vs, T, oT, ts, he, hcl, hd, _⟩ := hfl
      rw [z, he] at e'
      cases e'
      exact nd vs hd
    · have k := c.keep b o q n hb
      rw [z, c.fly.2.1] at k
      cases k
  have ho5 : HOk X.prog X.w H' h5 := c.hok.kept hfl.1
  constructor
  · exact I.call' (s' := { s' with heap := h5 }) (ch := []) c.os ⟨fun b o q n hb _ => hfl.1 b o (c.keep b o q n hb), fun b o q n hb _ => sl b o q n hb, c.un.free, fun b o q _ => th b o q, c.un.tups, c.un.frzs, c.un.tbls⟩ ho5 c.bare (fun b z => absurd z (by simp))
  · refine I.call' (s' := { s' with heap := h5 }) (ch := []) c.os ⟨fun b o q n hb _ => hfl.1 b o (c.keep b o q n hb), fun b o q n hb _ => sl b o q n hb, fun b o q n _ => ?_, fun b o q _ => th b o q, fun b xs q => ?_, fun b o u q => ?_, fun b ps q => ?_⟩ (ho5.add hn ?_) c.bare (fun b z => absurd z (by simp))
    · rw [upd_ne (ne b o q n)]
      exact c.un.free b o q n (by simp)
    · have k := c.un.tups b xs q
      rw [upd_ne (ne_of_none k hn)]
      exact k
    · have k := c.un.frzs b o u q
      rw [upd_ne (ne_of_none k hn)]
      exact k
    · obtain ⟨m, k⟩ := c.un.tbls b ps q
      exact ⟨m, by rw [upd_ne (ne_of_none k hn)]; exact k⟩
    · obtain ⟨ob, ho, hc⟩ := hfl.there
      refine ⟨⟨ob, ho, hc⟩, ⟨ob, ho⟩, fun h1 h2 p k => ?_⟩
      obtain ⟨o, e1, e2⟩ := p
      exact ⟨o, k o e1, e2⟩
theorem Inv.gone (I : Inv X pins σ H s) (hN : X.N.Nodup) {j : Nat} {n : Str} (hj : X.N[j]? = some n) (hn : X.env.scope.names.lookup n = some .local) {M : Model} {A : Around} {E : Value → Shared → Prop} {pos : Pos} {Q : Unit → Shared → Prop}
    (h : ∀ s', Inv X pins (σ.set j none) H s' → Q () s') : wpAny M A (do bindName X.env n .none; unbindBehindTheSuite X.env n pos) Q E s := by
  obtain ⟨m, hm, hl⟩ := id I.loc
  have hcls : (X.env.scope.kind == .class || (X.env.scope.kind == .module && X.env.locals != X.env.globals)) = false := by rw [I.ok.kind]; rfl
  refine wpAny_nameGoes_keeps hn hm hcls fun h' v hn' hs => ?_
  have cne := I.cne
  have hjσ : j < σ.length := by rw [I.len]; exact (List.getElem?_eq_some_iff.mp hj).1
  have old : ∀ b o, X.s₀.heap.get? b = some o → b ≠ X.env.locals := fun b o e => Nat.ne_of_lt (Nat.lt_of_lt_of_le (Heap.lt_size e) I.ok.above)
  refine h _ ⟨I.ok, I.os, I.bare, ⟨fun b o e n hb hx => ?_, fun b o e n hb hx => ?_, I.base.free, fun b o e hx => ?_, I.base.tups, I.base.frzs, I.base.tbls⟩, ⟨_, hn', fun k y v' e1 e2 e3 => ?_⟩, fun y c e => ?_, I.free, I.freeC, fun p hp => ?_, fun b ob e => ?_, by simpa using I.len⟩
  · exact (hs.2 b (old b o e)).trans (I.base.keep b o e n hb hx)
  · obtain ⟨sl, e1⟩ := I.base.slot b o e n hb hx
    exact ⟨sl, (hs.2 b (old b o e)).trans e1⟩
  · obtain ⟨o', e1⟩ := I.base.there b o e hx
    exact ⟨o', (hs.2 b (old b o e)).trans e1⟩
  · by_cases hk : k = j
    · subst hk
      rw [List.getElem?_set_self hjσ] at e2
      cases e2
    · rw [List.getElem?_set_ne (Ne.symm hk)] at e2
      obtain ⟨u', r', q⟩ := hl k y v' e1 e2 e3
      refine ⟨u', r', ?_⟩
      rcases q with ⟨kk, e⟩ | ⟨kk, c, e, z⟩
      · refine .inl ⟨kk, ?_⟩
        have : y ≠ n := fun e => hk (nodup_ix hN e1 (e ▸ hj))
        simp [this, e]
      · exact .inr ⟨kk, c, e, z.sameBut hs (cne y c e)⟩
  · obtain ⟨w', z⟩ := I.cell y c e
    exact ⟨w', z.sameBut hs (cne y c e)⟩
  · obtain ⟨e, n, ne, nf, d⟩ := I.pin p hp
    exact ⟨(hs.2 p.1 ne).trans e, n, ne, nf, d⟩
  · refine (I.hok b ob e).stay (fun c w' hc q => (hs.2 c ?_).trans q) (fun _ q => q) fun _ _ q => q
    rintro rfl
    rcases hc with rfl | hc
    · rw [I.free] at e; cases e
    · rw [I.free] at hc; cases hc
end
end L2
namespace L2
open PySem PySem.Spec PyProof.Rows Bg
theorem exc_matches {M : Model} {A : Around} {E : Value → Shared → Prop} {h : Heap} {g : Array GenState} {d : Drawn} {t : Nat} {os : OsState} {K : PySem.W.Frag} {a C D : Addr} {o : Obj} {b : Bool} {Q : Bool → Shared → Prop} (X : K.In h) (ho : h.get? a = some o) (hc : o.cls = .ref C) (kD : XOk K D)
    (hm : PySem.W.mroIn K C (.ref D) = some b) (hq : Q b ⟨h, g, d, t, os⟩) : wpAny M A (excMatches (.ref a) (.ref D)) Q E ⟨h, g, d, t, os⟩ := by
  have L0 : PySem.W.Looks M h (typeOf (.ref a)) (.ref C) := hc ▸ (PySem.W.Looks.ld ho).andThen .now
  have L1 := PySem.W.looks_mroIn (M := M) X hm
  have L2 := PySem.W.looks_mroIn (M := M) X kD.be
  obtain ⟨bm, N, nm, q, bs, hdct, sn, sub, ab, col, dd, k0, k1, k2, k3, k5, mN, hD, hN, hni, T⟩ := exc_obj kD X
  have f := tc_notTuple
  unfold excMatches
  repeat (any_goals (first | assumption | (with_reducible refine PySem.W.Looks.at (by assumption) ?_) | with_reducible refine wpAny_loadPart_at hD ?_ | wp_step))
  cases b <;> (repeat (any_goals (first | assumption | wp_step)))
def tryD (j : Nat) (D : Ends) : Ends := { nx := fun σ2 H2 => D.nx (σ2.set j none) H2, rt := D.rt, bk := fun σ2 H2 => D.bk (σ2.set j none) H2, ct := fun σ2 H2 => D.ct (σ2.set j none) H2 }
def tryE (K : PySem.W.Frag) (Cy : Addr) (j : Nat) (ts : TS) (D : Ends) : St → XK := fun σ' cls _ H' => ∃ C, cls = .ref C ∧ PySem.W.mroIn K C (.ref Cy) = some true ∧ ∀ a, H' a = none → ts (tryD j D) (σ'.set j (some (.ref a))) (upd H' a (ExcO a C))
def tTry (K : PySem.W.Frag) (Cy : Addr) (j : Nat) (tb : (St → XK) → TS) (ts : TS) : TS := fun D σ H => tb (tryE K Cy j ts D) D σ H
theorem i_try {K : PySem.W.Frag} {Cy : Addr} {j : Nat} {tb : (St → XK) → TS} {ts : TS} {D : Ends} {σ : St} {H : Hp} (h : tb (tryE K Cy j ts D) D σ H) : tTry K Cy j tb ts D σ H := h
theorem i_tryE {K : PySem.W.Frag} {Cy C : Addr} {j : Nat} {ts : TS} {D : Ends} {σ : St} {H : Hp} {d : Option Addr} (hs : PySem.W.mroIn K C (.ref Cy) = some true) (h : ∀ a, H a = none → ts (tryD j D) (σ.set j (some (.ref a))) (upd H a (ExcO a C))) : tryE K Cy j ts D σ (.ref C) d H := ⟨C, rfl, hs, h⟩
theorem ps_try {X : Cx} {body suite : List Stmt} {b₀ : Stmt} {x n : Str} {np hpos pos : Pos} {j : Nat} {Cy : Addr} {tb : (St → XK) → TS} {ts : TS} (hst : X.stack = X.env :: X.outer) (hf : X.env.frame = some X.env.locals) (hN : X.N.Nodup) (hj : X.N[j]? = some n) (hn : X.env.scope.names.lookup n = some .local)
    (ky : XOk X.K Cy) (hm : X.mg x = some (.ref Cy)) (hg : Gl X x) (hb : ∀ pl EE, PSs (X.tryc pl EE) body (tb EE)) (hs : ∀ a, PSs (X.inx a) (b₀ :: suite) ts) (hd : (x == ("__debug__" : Str)) = false := by decide) :
    PS X (.Try body [.ExceptHandler (some (.Name x np)) (some n) (b₀ :: suite) hpos] [] [] pos) (tTry X.K Cy j tb ts) := by
  intro pins s σ H D I h
  refine wpAny_Try_except (wpAny_mono (hb pins _ [] s σ H D I.tryc h) (fun f s1 q => ?_) (fun e s1 hx => ?_))
  · cases f with
    | next =>
      obtain ⟨σ', H', I', q⟩ := q
      exact wpAny_execs_nil ⟨σ', H', I'.untry, q⟩
    | brk => obtain ⟨σ', H', I', q⟩ := q; exact ⟨σ', H', I'.untry, q⟩
    | cont => obtain ⟨σ', H', I', q⟩ := q; exact ⟨σ', H', I'.untry, q⟩
    | ret u => obtain ⟨v, σ', H', I', r, q⟩ := q; exact ⟨v, σ', H', I'.untry, r, q⟩
  · obtain ⟨σ1, H1, s0, I0, a, C, t, H', B, rfl, c, C', hC', hsub, hh⟩ := hx
    have hCC : C' = C := (Value.ref.inj hC').symm
    subst hCC
    have hfr : X.A.frames = some (X.env :: X.outer) := by rw [← hst]; exact I0.ok.frames
    have fl := c.fly
    rw [hst] at fl
    refine wpAny_looks_onW hfr hf fl fun h4 held4 sm4 => ?_
    refine wpAny_landsW (s := { s1 with heap := h4 }) held4 fun h5 fl5 sm5 => ?_
    have fl5' : Heap.FlyingW B X.stack a (.ref C') (.ref t) h5 := by rw [hst]; exact fl5
    obtain ⟨I5, _⟩ := I0.landed c fl5' (sm4.trans sm5)
    have I5x : Inv (X.inx a) pins σ1 H' { s1 with heap := h5 } := I5.inx
    refine wpAny_handleBy_cons (codeAny_handlers_test (ld_glob (X := X.inx a) I5x hg hm ?_ hd)) (by intro q; cases q)
    obtain ⟨ob, ho, hc⟩ := fl5.there
    refine exc_matches (g := s1.gens) (d := s1.drawn) (t := s1.toks) (os := s1.os) I5.kIn ho hc ky hsub ?_
    refine codeAny_handlers_suite_as (lands_againW (s := { s1 with heap := h5 }) fl5 fun h6 fl6 sm6 => ?_)
    have fl6' : Heap.FlyingW B X.stack a (.ref C') (.ref t) h6 := by rw [hst]; exact fl6
    obtain ⟨_, I6⟩ := I0.landed c fl6' ((sm4.trans sm5).trans sm6)
    refine store_ok I6 hN hj (.inl hn) (v := .ref a) (u := .ref a) rfl (fun s7 I7 => ?_) (.inr hn)
    refine wpAny_mono (hs a pins s7 _ _ _ I7.inx (hh a c.free)) (fun f s8 q => ?_) fun _ _ z => False.elim z
    cases f with
    | next =>
      obtain ⟨σ', H8, I8, q⟩ := q
      exact (I8.uninx I7.ok).gone hN hj hn fun s9 I9 => ⟨_, H8, I9, q⟩
    | brk =>
      obtain ⟨σ', H8, I8, q⟩ := q
      exact (I8.uninx I7.ok).gone hN hj hn fun s9 I9 => ⟨_, H8, I9, q⟩
    | cont =>
      obtain ⟨σ', H8, I8, q⟩ := q
      exact (I8.uninx I7.ok).gone hN hj hn fun s9 I9 => ⟨_, H8, I9, q⟩
    | ret u =>
      obtain ⟨v, σ', H8, I8, r, q⟩ := q
      exact (I8.uninx I7.ok).gone hN hj hn fun s9 I9 => ⟨v, _, H8, I9, r, q⟩
def OwnX (P : Program) (w : World) (K : PySem.W.Frag) (mg : Str → Option Value) (base : Heap) (k : Nat) (x : Str) (ps : List Str) (dvs : List V) (sp : Sp) : Prop :=
  ∃ (f : Addr) (fd : FuncData) (ds : List Value), FnOk P w K mg base (CXe P w) k f fd ps sp ∧ mg x = some (.ref f) ∧ PySem.W.keepIn K (.ref f) = true ∧ Binds K fd ps ds ∧ Vals dvs ds
def tCallX (sp : Sp) (dvs : List V) (EE : St → XK) (t : TA) : TE := fun σ H Q => t σ H fun vs H1 => sp (vs ++ dvs) H1 Q (EE σ)
theorem i_callX {sp : Sp} {dvs : List V} {EE : St → XK} {t : TA} {σ : St} {H : Hp} {Q : VK} (h : t σ H fun vs H1 => sp (vs ++ dvs) H1 Q (EE σ)) : tCallX sp dvs EE t σ H Q := h
theorem i_raise {C : Addr} {E : XK} {D : Ends} {σ : St} {H : Hp} (h : E (.ref C) none H) : tRaise C E D σ H := h
section
variable {X : Cx} {k j : Nat} {x : Str} {ps : List Str} {dvs : List V} {sp : Sp} {p pos : Pos} {e : Expr} {es : List Expr} {t : TA} {E : XK}
theorem pe_ownX (O : OwnX X.prog X.w X.K X.mg X.base k x ps dvs sp) (hr : Room j X.A) (hg : Gl X x)
    (ha : PA X (e :: es) t) (hk : k ≤ j := by decide) (hdb : (x == ("__debug__" : Str)) = false := by decide) (he : starEach (e :: es) X.env = (false, eval e X.env) :: starEach es X.env := by rfl) (hpl : (backTo pos (starEach es X.env)).any (·.1) = false := by rfl) :
    PE X (.Call (.Name x p) (e :: es) [] pos) (tCall sp dvs E0 t) := by
  obtain ⟨f, fd, ds, F, hm, kp, hb, hd⟩ := O
  exact pe_call F (hr.mono hk) hg hm kp hb hd passX0 ha hdb he hpl
theorem pe_ownP (hp : Passes (CXe X.prog X.w) X E) (O : OwnX X.prog X.w X.K X.mg X.base k x ps dvs sp) (hr : Room j X.A) (hg : Gl X x)
    (ha : PA X (e :: es) t) (hk : k ≤ j := by decide) (hdb : (x == ("__debug__" : Str)) = false := by decide) (he : starEach (e :: es) X.env = (false, eval e X.env) :: starEach es X.env := by rfl) (hpl : (backTo pos (starEach es X.env)).any (·.1) = false := by rfl) :
    PE X (.Call (.Name x p) (e :: es) [] pos) (tCall sp dvs E t) := by
  obtain ⟨f, fd, ds, F, hm, kp, hb, hd⟩ := O
  exact pe_call F (hr.mono hk) hg hm kp hb hd hp ha hdb he hpl
theorem pe_ownT {pl : List (Addr × Obj)} {EE : St → XK} (O : OwnX X.prog X.w X.K X.mg X.base k x ps dvs sp) (hr : Room j X.A) (hg : Gl (X.tryc pl EE) x)
    (ha : PA (X.tryc pl EE) (e :: es) t) (hk : k ≤ j := by decide) (hdb : (x == ("__debug__" : Str)) = false := by decide) (he : starEach (e :: es) X.env = (false, eval e X.env) :: starEach es X.env := by rfl) (hpl : (backTo pos (starEach es X.env)).any (·.1) = false := by rfl) :
    PE (X.tryc pl EE) (.Call (.Name x p) (e :: es) [] pos) (tCallX sp dvs EE t) := by
  obtain ⟨f, fd, ds, F, hm, kp, hb, hd⟩ := O
  intro pins s σ H Q I h
  refine wpAny_Call_Name_kw (ld_glob I hg hm ?_ hdb)
  refine PySem.W.callWith_K (h₀ := X.base) I.ok.mod.kin kp (thn (ha pos pins s σ H _ I h) fun us s1 ⟨vs, H1, I1, r, q⟩ => ⟨I1.kIn, ?_⟩) he hpl
  have r2 : Vals (vs ++ dvs) (us ++ ds) := r.append hd
  have hl : (us ++ ds).length = ps.length := by rw [← r2.length]; exact F.len _ _ _ _ q
  refine wpAny_call (codeAny_mono (F.run X.A X.stack s1 H1 ⟨us, []⟩ (us ++ ds) (vs ++ dvs) Q (EE σ) (hr.mono hk) I1.env0 (hb s1 us I1.kIn hl) r2 q) fun r' s' hq => ?_)
  cases r' with
  | error e' => exact ⟨σ, H1, s1, I1.untry, hq⟩
  | ok fl =>
    cases fl with
    | ret u => exact I1.after hq
    | next => exact False.elim hq
    | brk => exact False.elim hq
    | cont => exact False.elim hq
end
def rIsX (K : PySem.W.Frag) : List V → Hp → VK → Prop := fun xs H Q => ∃ (a C : Addr) (c : V) (c' : Value) (b : Bool), xs = [.ref a, c] ∧ RelV c c' ∧ H a = some (ExcO a C) ∧ XOk K C ∧ PySem.W.kitOne K (.ref C) c' = some b ∧ Q (.bl b) H
theorem call_isinstX {X : Cx} : CallR X (.builtin "isinstance") (rIsX X.K) := by
  intro pins s σ H xs us Q I r h
  obtain ⟨a, C, c, c', b, rfl, rc, ea, k, e, q⟩ := h
  obtain ⟨u, v, rfl, ru, rv⟩ := Vals.two r
  cases ru
  have hv : v = c' := by
    cases c with
    | non => exact (show v = _ from rv).trans (show c' = _ from rc).symm
    | bl z => exact (show v = _ from rv).trans (show c' = _ from rc).symm
    | ref z => exact (show v = _ from rv).trans (show c' = _ from rc).symm
    | ty z => exact (show v = _ from rv).trans (show c' = _ from rc).symm
    | int z => obtain ⟨tk, rfl⟩ := rc; unfold PySem.W.kitOne PySem.W.kitCls at e; rw [if_neg (by intro z; cases beq_iff_eq.mp z)] at e; cases e
    | str z => obtain ⟨tk, rfl⟩ := rc; unfold PySem.W.kitOne PySem.W.kitCls at e; rw [if_neg (by intro z; cases beq_iff_eq.mp z)] at e; cases e
    | byt z => obtain ⟨tk, rfl⟩ := rc; unfold PySem.W.kitOne PySem.W.kitCls at e; rw [if_neg (by intro z; cases beq_iff_eq.mp z)] at e; cases e
    | flt z => obtain ⟨tk, rfl⟩ := rc; unfold PySem.W.kitOne PySem.W.kitCls at e; rw [if_neg (by intro z; cases beq_iff_eq.mp z)] at e; cases e
  subst hv
  obtain ⟨p, _, _⟩ := (show ObjOk X.prog X.w H s.heap a (ExcO a C) from I.hok a _ ea)
  exact PySem.W.kia_one (kitx_exc k) I.kIn p e (fun z => nomatch z) fun tk => ⟨.bl b, H, I.tok tk, rfl, q⟩
theorem i_isX {K : PySem.W.Frag} {H : Hp} {Q : VK} {a C : Addr} {c : V} {c' : Value} {b : Bool} (ea : H a = some (ExcO a C)) (k : XOk K C) (rc : RelV c c') (e : PySem.W.kitOne K (.ref C) c' = some b) (q : Q (.bl b) H) : rIsX K [.ref a, c] H Q := ⟨a, C, c, c', b, rfl, rc, ea, k, e, q⟩
section
variable {P : Program} {w : World} {K : PySem.W.Frag} {mg : Str → Option Value} {base : Heap}
theorem Fun.okX {x qual : Str} {st : Stmt} {f : Addr} {fd : FuncData} {N ps : List Str} {k : Nat} {sp : Sp} (F : Fun K x qual st f fd) (S : FnScope N ps (defScope st)) (len : ∀ vs H Q E, sp vs H Q E → vs.length = ps.length)
    (hbody : ∀ (cdv : Value) (A : Around) (outer : List Env) (s : Shared) (H : Hp) (vs : List V) (Q : VK) (E : XK), Room k (A.deeper (envOfC qual (defScope st) s.heap.objs.size f cdv)) → sp vs H Q E →
      ∃ t, PSs (cxOf (CXe P w) P w K mg base N qual (defScope st) f cdv A outer s H E) (defBody st) t ∧ t { nx := fun _ H' => Q .non H', rt := Q } (start N vs) H) : FnOk P w K mg base (CXe P w) (k + 1) f fd ps sp := by
  obtain ⟨oc, od, kV, doc, pm, an, cdv, ct, osl, rfl, lk, hcd⟩ := F.ex
  exact fn_of lk hcd S len fun A outer s H vs Q E hr hsp => hbody cdv A outer s H vs Q E hr hsp
theorem Top.ownX {k : Nat} {x : Str} {st : Stmt} {ps : List Str} {sp : Sp} (T : Top K mg x st)
    (hb : ∀ (kV doc pm : Value) (an : Option Addr) (cdv ct : Value) (us : List Value), us.length = ps.length → bindArgs (PySem.W.fnOf x x (defArgs st) (defBody st) (defScope st) .none kV doc pm an cdv ct) ⟨us, []⟩ = pure (ps.zip us))
    (h : ∀ f fd, Fun K x x st f fd → FnOk P w K mg base (CXe P w) k f fd ps sp) : OwnX P w K mg base k x ps [] sp := by
  obtain ⟨f, fd, F, m⟩ := T
  exact ⟨f, fd, [], h f fd F, m, F.kp, F.binds hb, .nil⟩
end
end L2
namespace L2
open PySem PySem.Spec PyProof.Rows Bg
section
variable {X : Cx} {pins : List (Addr × Obj)} {σ : St} {H : Hp} {s : Shared} {pos : Pos}
theorem big_of (I : Inv X pins σ H s) : sysModules < s.heap.objs.size := Nat.lt_trans (by decide) (show mainGlobals < s.heap.objs.size from (I.mod.glob.keeps I.bk).lt)
theorem dnew {P : Program} {w : World} {H : Hp} (h : Heap) (hb : sysModules < h.objs.size) : ObjOk P w H (h.push { cls := .type "dict", data := .dict #[] }) h.objs.size (.dK []) :=
  ⟨Nat.zero_le _, beq_eq_false_iff_ne.mpr (Ne.symm (Nat.ne_of_lt hb)), [], .nil, Heap.DictOf.new h⟩
def tDict0 : TE := fun _ H Q => ∀ p H', H p = none → Same H H' → H' p = some (.dK []) → Q (.ref p) H'
theorem pe_dict0 : PE X (.Dict [] [] pos) tDict0 := fun pins s σ H Q I h =>
  wpAny_Dict_empty ⟨.ref s.heap.objs.size, _, I.laid (a := s.heap.objs.size) (o := .dK []) (t' := s.toks) (fun _ _ q => Heap.get?_push_of_some _ q) (Nat.le_refl _) (dnew s.heap (big_of I)), rfl,
    h _ _ (I.hok.fresh (Nat.le_refl _)) (same_upd (I.hok.fresh (Nat.le_refl _)) _) upd_same⟩
theorem i_dict0 {σ : St} {H : Hp} {Q : VK} (q : ∀ p H', H p = none → Same H H' → H' p = some (.dK []) → Q (.ref p) H') : tDict0 σ H Q := q
end
end L2
namespace L2
open PySem PySem.Spec PyProof.Rows Bg
section
variable {X : Cx}
structure WE (X : Cx) (e : Expr) (t : TE) : Prop where
  w : PE X e t
structure WA (X : Cx) (es : List Expr) (t : TA) : Prop where
  w : PA X es t
structure WS (X : Cx) (st : Stmt) (t : TS) : Prop where
  w : PS X st t
structure WSs (X : Cx) (st : List Stmt) (t : TS) : Prop where
  w : PSs X st t
def isStar : Expr → Bool
  | .Starred _ _ => true
  | _ => false
theorem star_no {e : Expr} {es : List Expr} {env : Env} (h : isStar e = false) : starEach (e :: es) env = (false, eval e env) :: starEach es env := by
  cases e <;> first | rfl | exact absurd (show true = false from h) (by decide)
theorem we_of {e : Expr} {t : TE} (h : PE X e t) : WE X e t := ⟨h⟩
theorem wa_nil : WA X [] tNil := ⟨pa_nil⟩
theorem wa_cons {e : Expr} {es : List Expr} {te : TE} {t : TA} (ha : WE X e te) (hr : WA X es t) (h : isStar e = false := by rfl) : WA X (e :: es) (tCons te t) := ⟨pa_cons ha.w hr.w (star_no h)⟩
theorem we_tup {es : List Expr} {t : TA} {x1 : Nat} {pos : Pos} (h : WA X es t) : WE X (.Tuple es x1 pos) (tTup t) := ⟨pe_tup h.w⟩
theorem we_lst {es : List Expr} {t : TA} {pos : Pos} (h : WA X es t) : WE X (.List es pos) (tLst t) := ⟨pe_lst h.w⟩
theorem we_ix {r : R2} {a b : Expr} {ta tb : TE} {pos : Pos} (hr : IxR X r) (ha : WE X a ta) (hb : PE X b tb) (hs : PlainIx b) : WE X (.Subscript a b pos) (tOp r ta tb) := ⟨pe_ix hr ha.w hb hs⟩
theorem ws_ret {e : Expr} {te : TE} {pos : Pos} (he : WE X e te) : WS X (.Return (some e) pos) (tRet te) := ⟨ps_ret he.w⟩
theorem wss_one {st : Stmt} {t : TS} (h : WS X st t) : WSs X [st] t := ⟨pss_one h.w⟩
end
end L2
namespace L2
open PySem PySem.Spec PyProof.Rows Bg
end L2
namespace L2
open PySem PySem.Spec PyProof.Rows Bg
end L2
namespace L2
open PySem PySem.Spec PyProof.Rows Bg
theorem ws_set {X : Cx} {pos : Pos} {i : Nat} {x : Str} {e : Expr} {te : TE} {pos' : Pos} (hN : X.N.Nodup) (hi : X.N[i]? = some x) (hx : Loc X.env.scope x) (he : WE X e te) (hs : swapsWith e (some (.Name x pos')) pos.line X.env = pure false := by rfl) (hf : X.fn x = true ∨ X.env.scope.names.lookup x = some .local := by first | exact .inl rfl | exact .inr rfl | assumption) : WS X (.Assign [.Name x pos'] e pos) (tAsg te (gName i)) := ⟨ps_set hN hi hx he.w hs hf⟩
end L2
namespace L2
open PySem PySem.Spec PyProof.Rows Bg
theorem ex_w {X : Cx} {body : List Stmt} {D : Ends} {σ : St} {H : Hp} (h : ∃ t, WSs X body t ∧ t D σ H) : ∃ t, PSs X body t ∧ t D σ H := by
  obtain ⟨t, h1, h2⟩ := h
  exact ⟨t, h1.w, h2⟩
theorem ws_of {X : Cx} {st : Stmt} {t : TS} (h : PS X st t) : WS X st t := ⟨h⟩
theorem wss_cons {X : Cx} {st : Stmt} {r : List Stmt} {t u : TS} (h : WS X st t) (hr : WSs X r u) : WSs X (st :: r) (tSeq t u) := ⟨pss_cons h.w hr.w⟩
end L2
namespace L2
open PySem PySem.Spec PyProof.Rows Bg
section
variable {X : Cx}
def PE1 (X : Cx) (e : Expr) (t : TE) : Prop :=
  ∀ (pins : List (Addr × Obj)) (s : Shared) (σ : St) (H : Hp) (Q : VK), 0 < s.toks → Inv X pins σ H s → t σ H Q → wpAny (model X.prog X.w) X.A (eval e X.env) (EP X pins σ Q) X.xe s
def PSs1 (X : Cx) (st : List Stmt) (t : TS) : Prop :=
  ∀ (pins : List (Addr × Obj)) (s : Shared) (σ : St) (H : Hp) (D : Ends), 0 < s.toks → Inv X pins σ H s → t D σ H → wpAny (model X.prog X.w) X.A (execs st X.env) (SP X pins D) X.xe s
theorem pe1_op {a b : Expr} {ta tb : TE} {pos : Pos} {op : Operator} {r : R2} (ho : OpR X (binaryOp op) r) (ha : PE1 X a ta) (hb : PE X b tb) : PE1 X (.BinOp a op b pos) (tOp r ta tb) := by
  intro pins s σ H Q ht I h
  refine wpAny_BinOp (thn (ha pins s σ H _ ht I h) fun v s1 ⟨x, H1, I1, r1, q1⟩ => ?_)
  refine thn (hb pins s1 σ H1 _ I1 q1) fun u s2 ⟨y, H2, I2, r2, q2⟩ => ?_
  exact ho pins s2 σ H2 x y v u Q I2 r1 r2 q2
theorem pss1_ret {e : Expr} {te : TE} {pos : Pos} (he : PE1 X e te) : PSs1 X [.Return (some e) pos] (tRet te) := by
  intro pins s σ H D ht I h
  have h1 : wpAny (model X.prog X.w) X.A (exec (.Return (some e) pos) X.env) (SP X pins D) X.xe s := wpAny_Return_some (thn (he pins s σ H _ ht I h) fun v s1 ⟨x, H1, I1, r1, q1⟩ => ⟨x, σ, H1, I1, r1, q1⟩)
  refine wpAny_execs_cons (thn h1 fun f s1 q => ?_)
  cases f with
  | next => exact wpAny_execs_nil q
  | ret v => exact q
  | brk => exact q
  | cont => exact q
def tIfEq (n : Int) (ta : TE) (t u : TS) : TS := fun D σ H => ta σ H fun x H1 => ∃ i : Int, x = .int i ∧ if decide (i = n) = true then t D σ H1 else u D σ H1
theorem ps_ifEq {a : Expr} {n : Int} {j : Nat} {cp p pos : Pos} {body els : List Stmt} {ta : TE} {t u : TS} (ha : PE X a ta) (hb : PSs1 X body t) (he : PSs X els u) (hm : behindInMarks .Eq (.Constant (.int n) j cp) = false) : PS X (.If (.Compare a [.Eq] [.Constant (.int n) j cp] p) body els pos) (tIfEq n ta t u) := by
  intro pins s σ H D I h
  refine wpAny_If ?_
  refine wpAny_isTrue_Compare1 (thn (ha pins s σ H _ I h) fun v s1 ⟨x, H1, I1, r1, q1⟩ => ?_) hm
  obtain ⟨i, rfl, q⟩ := q1
  obtain ⟨tk, rfl⟩ := r1
  refine wpAny_Constant_int ?_
  refine eq_int ?_
  have I2 : Inv X pins σ H1 { s1 with toks := s1.toks + 1 } := I1.tok _
  refine wpAny_truthy_bool ?_
  by_cases c : i = n
  · subst c
    rw [decide_eq_true rfl, if_pos rfl] at q
    have e : (i == i) = true := by simp
    rw [e]
    exact hb pins { s1 with toks := s1.toks + 1 } σ H1 D (Nat.succ_pos _) I2 q
  · rw [decide_eq_false c, if_neg Bool.false_ne_true] at q
    have e : (i == n) = false := by simpa using c
    rw [e]
    exact he pins { s1 with toks := s1.toks + 1 } σ H1 D I2 q
def tRepl (y z : Str) (i : Nat) : TE := fun σ H Q => ∃ x, σ[i]? = some (some (.str x)) ∧ x.length ≤ 1000 ∧ Q (.str (Txt.replace x y z)) H
theorem pe1_repl (i : Nat) {x : Str} {y z : Str} {j1 j2 : Nat} {np apos cpos p1 p2 : Pos} (hyz : (y == z) = false) (hzl : z.length ≤ 14)
    (hN : X.N[i]? = some x := by rfl) (hv : Vis X.env.scope x := by first | exact Or.inl rfl | exact Or.inr (Or.inl rfl) | exact Or.inr (Or.inr rfl)) (hd : (x == ("__debug__" : Str)) = false := by decide) (hcd : (x == ("__classdict__" : Str)) = false := by decide)
    (hbase : attributeBase (.Name x np) "replace" X.env (eval (.Name x np) X.env) = eval (.Name x np) X.env := by rfl)
    (hfew : ((backTo cpos (starEach [.Constant (.str y) j1 p1, .Constant (.str z) j2 p2] X.env)).all (fun x => !x.1) && (backToKw cpos (keywordEach [] X.env)).all (fun x => x.1.isSome)
      && decide (([.Constant (.str y) j1 p1, .Constant (.str z) j2 p2] : List Expr).length + ([] : List Keyword).length + (if ([] : List Keyword).isEmpty then 0 else 1) < 30)) = true := by rfl)
    (hline : (apos.endLine == cpos.line) = true := by rfl)
    (hs : starEach [.Constant (.str y) j1 p1, .Constant (.str z) j2 p2] X.env = [(false, eval (.Constant (.str y) j1 p1) X.env), (false, eval (.Constant (.str z) j2 p2) X.env)] := by rfl) :
    PE1 X (.Call (.Attribute (.Name x np) "replace" apos) [.Constant (.str y) j1 p1, .Constant (.str z) j2 p2] [] cpos) (tRepl y z i) := by
  intro pins s σ H Q ht I h
  obtain ⟨w, e, hw, q⟩ := h
  refine wpAny_Call_method_late hbase hfew hline rfl ?_
  have fin : ∀ (u : Value), RelV (.str w) u → MethodOn X.prog X.w X.A "replace" cpos u (backTo cpos (starEach [.Constant (.str y) j1 p1, .Constant (.str z) j2 p2] X.env)) (EP X pins σ Q) X.xe s := fun u ru => by
    obtain ⟨tk, rfl⟩ := ru
    have r0 : RelV (.str w) (.str w tk) := ⟨tk, rfl⟩
    obtain ⟨h1, h2⟩ := tyV_is (X := X) (T := "str") I r0 rfl
    refine ⟨"str", _, PySem.F.plainAttrs_str, PySem.F.slot_str_replace, PySem.F.type_str_replace, h1, h2, ?_⟩
    rw [hs]
    refine Calls.callWith_builtin rfl (Calls.evalArgs_plain ?_)
    show wpAny _ _ (spliced ((false, eval (.Constant (.str y) j1 p1) X.env) :: backTo cpos [(false, eval (.Constant (.str z) j2 p2) X.env)])) _ _ s
    refine Calls.spliced_cons (Calls.Constant_str ?_)
    show wpAny _ _ (spliced ((false, eval (.Constant (.str z) j2 p2) X.env) :: backTo cpos [])) _ _ _
    refine Calls.spliced_cons (Calls.Constant_str ?_)
    refine Calls.spliced_nil ?_
    refine SC.replaceW (Nat.ne_of_gt ht) (Nat.succ_ne_zero _) (Nat.ne_of_lt (Nat.lt_succ_self _)) hyz (Nat.le_trans hw (by decide)) hzl fun t' k => ?_
    exact ⟨.str _, H, (I.tok k), ⟨_, rfl⟩, q⟩
  obtain ⟨m, hn, hl⟩ := I.loc
  obtain ⟨u, r, l⟩ := hl i x _ hN e hv
  rcases l with ⟨hk, hm⟩ | ⟨hk, c, hc, hcell⟩
  · exact wpAny_Name (wpAny_loadName_local I.ok.kind hk hn hm (fin u r)) hd
  · rcases hk with hk | hk
    · exact wpAny_Name (wpAny_loadName_cell I.ok.kind hk hc hcell (fin u r)) hd
    · exact wpAny_Name (wpAny_loadName_free I.ok.kind hk hc hcell (fin u r) hcd) hd
theorem i_ifEq {σ : St} {H : Hp} {D : Ends} {n : Int} {ta : TE} {t u : TS} (h : ta σ H fun x H1 => ∃ i : Int, x = .int i ∧ if decide (i = n) = true then t D σ H1 else u D σ H1) : tIfEq n ta t u D σ H := h
end
theorem str_neg {n : Int} (h : n < 0) : (toString n : Str) = sOf (txl n) := by
  obtain ⟨m, hm⟩ : ∃ m : Nat, 0 - n = (m : Int) := ⟨n.natAbs, by omega⟩
  have em : n.natAbs = m := by omega
  have e : Str.ofString (toString (m : Int)) = ⟨(digs m).toArray⟩ := text_ofNat m
  show Str.ofString (toString n) = _
  rw [toString_neg h, hm, txl_neg h, em]
  rw [Str.ofString_eq_toList] at e
  have e' : (toString (m : Int)).toList.map Char.toNat = digs m := by
    have := congrArg (fun (z : Str) => z.cps.toList) e
    simpa using this
  rw [Str.ofString_eq_toList, String.toList_append, List.map_append, e']
  rfl
theorem str_int (n : Int) : (toString n : Str) = sOf (txl n) := by
  by_cases h : n < 0
  · exact str_neg h
  · rw [str_num (by omega), txl_nn (by omega)]
    rfl
theorem i_strZ {H : Hp} {Q : VK} {i : Int} (hb : Bd 1000 i) (q : Q (.str (sOf (txl i))) H) : rStrI [.int i] H Q := ⟨i, rfl, Nat.lt_of_le_of_lt hb.log (by decide), by rw [str_int]; exact q⟩
end L2
namespace L2
open PySem PySem.Spec PyProof.Rows Bg
theorem i_rep {H : Hp} {Q : VK} {l : Addr} {k : Int} {xs : List V} (h : H l = some (.lst xs)) (k0 : 0 ≤ k) (k1 : k ≤ 1) (hz : xs.length ≤ 100) (q : ∀ p H2, Same H H2 → H2 p = some (.lst (if k = 0 then [] else xs)) → Q (.ref p) H2) : rRep (.ref l) (.int k) H Q := by
  refine ⟨l, k, xs, rfl, rfl, h, by omega, by omega, ?_, fun p hp => q p _ (same_upd hp _) ?_⟩
  · have : k.toNat ≤ 1 := by omega
    have h2 : xs.length * k.toNat ≤ xs.length * 1 := Nat.mul_le_mul_left _ this
    exact small_le (by omega)
  · rw [upd_same]
    have : k = 0 ∨ k = 1 := by omega
    rcases this with rfl | rfl
    · rfl
    · simp
structure H5 (d N : Int) (H : Hp) (p : Addr) (C : List Cell) : Prop where
  l : H p = some (.lst (C.map Cell.v))
  at' : ∀ c ∈ C, c.At H
  ok : ∀ c ∈ C, B5 d N c.b
end L2
namespace L2
open PySem PySem.Spec PyProof.Rows Bg
section
variable {M : Model} {A : Around} {E : Value → Shared → Prop} {s : Shared}
theorem upd_rec {h : Heap} {T : Addr} {oT : Obj} {ts : Array Value} (hT : h.get? T = some oT) (hd : oT.data = .fields ts) (v : Value) :
    (∀ b, b ≠ T → (h.update T (Obj.mapFields (·.setIfInBounds 3 v))).get? b = h.get? b) ∧ ∀ b o, h.get? b = some o → (∀ vs, o.data ≠ .fields vs) → b ≠ T :=
  ⟨fun b nb => Heap.get?_update_other _ _ nb.symm, fun b o e nf z => nf ts (by
    have : some oT = some o := by rw [← hT, ← e, z]
    cases this
    exact hd)⟩
theorem setFlight_any {base : Heap} {l : List Env} {e : Addr} {cls a0 fl : Value} {fr : Option Addr} {Q : Unit → Shared → Prop}
    (st : base.StaysIn s.heap) (ff : s.heap.FunFrames base l) (tr : s.heap.TracedAtW base e cls a0 fl)
    (q : ∀ h2, base.StaysIn h2 → h2.FunFrames base l → h2.TracedAtW base e cls a0 (fr.elim .none fun f => rawInt f) → (∀ b o, s.heap.get? b = some o → (∀ vs, o.data ≠ .fields vs) → h2.get? b = some o) → Q () { s with heap := h2 }) :
    wpAny M A (setFlight (.ref e) fr) Q E s := by
  obtain ⟨oe, us, T, oT, ts, ge, gc, de, u1, bT, nTe, gT, dT, t3⟩ := tr
  have sz : 3 < ts.size := (Array.getElem?_eq_some_iff.mp t3).1
  obtain ⟨oth, apart⟩ := upd_rec gT dT (fr.elim .none fun f => rawInt f)
  have hold : ∀ b o, s.heap.get? b = some o → (∀ vs, o.data ≠ .fields vs) → (s.heap.update T (Obj.mapFields (·.setIfInBounds 3 (fr.elim .none fun f => rawInt f)))).get? b = some o := fun b o g nf => (oth b (apart b o g nf)).trans g
  unfold setFlight
  refine wpAny_bind (wpAny_field ge de u1 ?_)
  rw [if_pos (by simp : (Value.ref T != Value.none) = true)]
  refine wpAny_setField gT dT sz (q _ (fun b o g => ?_) (ff.of_keeps fun b o g nf => ⟨o, hold b o g nf, rfl⟩) ?_ hold)
  · exact (oth b (fun z => by rw [z, bT] at g; cases g)).trans (st b o g)
  · refine ⟨oe, us, T, _, _, (oth e nTe.symm).trans ge, gc, de, u1, bT, nTe, Heap.get?_update_self _ gT (Obj.isFreed_of_fields (Obj.data_mapFields dT _)), Obj.data_mapFields dT _, ?_⟩
    simp [sz]
theorem leaves_any {base : Heap} {env : Env} {outer : List Env} {L e : Addr} {cls a0 fl : Value} {Q : Unit → Shared → Prop}
    (hfr : A.frames = some (env :: outer)) (hf : env.frame = some L) (hkb : base.StaysIn s.heap) (hen : base.get? e = none) (hl : s.heap.FunFrames base (env :: outer)) (ht : s.heap.TracedAtW base e cls a0 fl)
    (hQ : ∀ h', Heap.FlyingW base outer e cls a0 h' → s.heap.UpToSlots h' → Q () { s with heap := h' }) : wpAny M A (leaving env (.ref e)) Q E s := by
  by_cases hfl : fl = rawInt L
  · subst hfl
    unfold leaving
    refine wpAny_bind (wpAny_noteFrame_againW hf ht ?_)
    refine wpAny_landsW ⟨hkb, hen, hl, ht⟩ fun h' hfl ups => ?_
    obtain ⟨k1, k2, ⟨_, _, k3⟩, k4⟩ := hfl
    exact hQ h' ⟨k1, k2, k3, k4⟩ ups
  · obtain ⟨oe, us, T, oT, ts, ge, ⟨gc, u0⟩, de, u1, bT, nTe, gT, dT, t3⟩ := ht
    subst gc
    obtain ⟨oth, apart⟩ := upd_rec gT dT .none
    have hold : ∀ b o, s.heap.get? b = some o → (∀ vs, o.data ≠ .fields vs) → (s.heap.update T (Obj.mapFields (·.setIfInBounds 3 Value.none))).get? b = some o := fun b o g nf => (oth b (apart b o g nf)).trans g
    unfold leaving noteFrame
    simp only [hf]
    refine wpAny_bind (wpAny_bind (wpAny_field ge de u1 ?_))
    rw [if_pos (by simp : (Value.ref T != Value.none) = true)]
    refine wpAny_bind (wpAny_field gT dT t3 ?_)
    rw [if_neg (fun z => hfl (eq_of_beq z) : ¬ ((fl == rawInt L) = true))]
    refine wpAny_bind (wpAny_setField gT dT (Array.getElem?_eq_some_iff.mp t3).1 ?_)
    refine wpAny_newEntryW hfr (hl.of_keeps fun b o g nf => ⟨o, hold b o g nf, rfl⟩) hf ((oth e nTe.symm).trans ge)
      (fun b o g => (oth b (fun z => by rw [z, bT] at g; cases g)).trans (hkb b o g)) hen de (Array.getElem?_eq_some_iff.mp u1).1 u0
      fun h2 ⟨x1, ⟨_, _, x2⟩, x3, x4⟩ => hQ h2 ⟨x1, hen, x2, x3⟩ fun b o g nf => x4 b o (hold b o g nf) nf
end
theorem ff_hide {h h' B B' : Heap} {Cc : Addr} (hB : ∀ b o, B'.get? b = some o → B.get? b = some o) (hh : ∀ b, b ≠ Cc → h'.get? b = h.get? b) : ∀ {l : List Env}, (∀ b ∈ frs l, b ≠ Cc) → h.FunFrames B l → h'.FunFrames B' l
  | [], _, _ => trivial
  | env :: rest, hn, ⟨k, ⟨L, o, e1, e2, e3, e4⟩, r⟩ => by
    have hL : L ≠ Cc := hn L (by unfold frs; rw [List.filterMap_cons, e1]; exact List.mem_cons_self)
    refine ⟨k, ⟨L, o, e1, ?_, (hh L hL).trans e3, e4⟩, ff_hide hB hh (fun b hb => hn b (by
      unfold frs at hb ⊢
      rw [List.filterMap_cons]
      split
      · exact hb
      · exact List.mem_cons_of_mem _ hb)) r⟩
    cases q : B'.get? L with
    | none => rfl
    | some o' => rw [hB L o' q] at e2; cases e2
section
variable {X : Cx} {pins : List (Addr × Obj)} {σ : St} {H : Hp} {s : Shared}
theorem Inv.passedB (I : Inv X pins σ H s) (hst : X.stack = X.env :: X.outer) (hex : X.ex = []) {Cc : Addr} (hCc : X.s₀.heap.objs.size ≤ Cc) {a C t : Addr} {H' : Hp} {B B' : Heap} {s' : Shared} (c : CXo X.prog X.w X.stack H s a C t H' B s')
    (hB : ∀ b, b ≠ Cc → B'.get? b = B.get? b) (hok' : HOk X.prog X.w H' B') {h4 : Heap} (x1 : Heap.FlyingW B' X.outer a (.ref C) (.ref t) h4)
    (x4 : ∀ b o, b ≠ Cc → s'.heap.get? b = some o → (∀ vs, o.data ≠ .fields vs) → ∃ sl, h4.get? b = some { o with slots := sl }) : CXo X.prog X.w X.outer X.H₀ X.s₀ a C t H' B' { s' with heap := h4 } := by
  have fl := c.fly
  rw [hst] at fl
  have nx : ∀ b, b ∉ X.ex := fun b => by rw [hex]; simp
  have nC : ∀ b o, X.s₀.heap.get? b = some o → b ≠ Cc := fun b o q => Nat.ne_of_lt (Nat.lt_of_lt_of_le (Heap.lt_size q) hCc)
  have inB : ∀ b o, X.s₀.heap.get? b = some o → X.H₀ b = none → b ∉ frs X.outer → B'.get? b = some o := fun b o q n hb => (hB b (nC b o q)).trans (c.keep b o (I.base.keep b o q n hb (nx b)) (I.base.free b o q n (nx b)) (I.nostk q hb))
  have thB : ∀ b o, X.s₀.heap.get? b = some o → b ∉ frs X.outer → ∃ o', B'.get? b = some o' := fun b o q hb => by
    obtain ⟨o', k⟩ := I.base.there b o q (nx b)
    obtain ⟨o2, k2⟩ := c.there b o' k (I.nostk q hb)
    exact ⟨o2, (hB b (nC b o q)).trans k2⟩
  have sl : ∀ b o, b ≠ Cc → s.heap.get? b = some o → b ∈ frs X.outer → ∃ sl, h4.get? b = some { o with slots := sl } := fun b o hn q hb => by
    have hb' := I.instk hst hb
    obtain ⟨s1, k1⟩ := c.un.slot b o q (I.stkFree b hb') hb' (by simp)
    have hb2 : b ∈ (X.env :: X.outer).filterMap (·.frame) := by rw [← hst]; exact hb'
    obtain ⟨_, o', e', nd⟩ := fl.2.2.1.mem hb2
    rw [k1] at e'
    cases e'
    obtain ⟨s2, k2⟩ := x4 b _ hn k1 nd
    exact ⟨s2, k2⟩
  refine ⟨c.os.trans I.os, c.bare, ⟨fun b o q n hb _ => x1.1 b o (inB b o q n hb), fun b o q n hb _ => ?_, fun b o q n _ => ?_, fun b o q _ => ?_, fun b xs q => c.un.tups b xs (I.base.tups b xs q), fun b o u q => c.un.frzs b o u (I.base.frzs b o u q), fun b ps q => ?_⟩, inB, thB, hok', x1⟩
  · obtain ⟨s1, k⟩ := I.base.slot b o q n hb (nx b)
    obtain ⟨s2, k2⟩ := sl b _ (nC b o q) k hb
    exact ⟨s2, k2⟩
  · obtain ⟨o', k⟩ := I.base.there b o q (nx b)
    exact c.un.free b o' k (I.base.free b o q n (nx b)) (by simp)
  · by_cases hb : b ∈ frs X.outer
    · obtain ⟨o', k⟩ := I.base.there b o q (nx b)
      obtain ⟨s2, k2⟩ := sl b _ (nC b o q) k hb
      exact ⟨_, k2⟩
    · obtain ⟨o', k⟩ := thB b o q hb
      exact ⟨o', x1.1 b o' k⟩
  · obtain ⟨m1, e1⟩ := I.base.tbls b ps q
    obtain ⟨m2, e2⟩ := c.un.tbls b _ e1
    exact ⟨m1 ++ m2, by rw [e2, Array.append_assoc]⟩
end
def LeavesX (X : Cx) (E : XK) : Prop := X.stack = X.env :: X.outer ∧ X.env.frame = some X.env.locals ∧ X.ex = [] ∧ ∀ (a : Addr) (s : Shared), (∀ Q : Unit → Shared → Prop, (∀ s', CXe X.prog X.w X.outer X.H₀ X.s₀ E (.ref a) s' → Q () s') → wpAny (model X.prog X.w) X.A (leaving X.env (.ref a)) Q (fun _ _ => False) s) → X.xe (.ref a) s
def cxCompX (X : Cx) (scope : Scope) (cl : List (Str × Addr)) (own : List Str) (js : List Nat) (fp : List Addr) (C : Addr) (s3 : Shared) (H3 : Hp) (E : XK) : Cx :=
  { cxComp X scope cl own js fp C s3 H3 with xe := fun e s' => ∃ pins σ H s, Inv (cxComp X scope cl own js fp C s3 H3) pins σ H s ∧ CXe X.prog X.w X.stack H s E e s' }
section
variable {X : Cx} {pins : List (Addr × Obj)} {σ : St} {H : Hp} {s : Shared} {scope : Scope} {cl : List (Str × Addr)} {own : List Str} {js : List Nat} {fp : List Addr} {C : Addr} {s3 : Shared} {H3 : Hp} {E : XK}
theorem Cx.Ok.cx (ok : (cxComp X scope cl own js fp C s3 H3).Ok) : (cxCompX X scope cl own js fp C s3 H3 E).Ok :=
  ⟨ok.mod, ok.kind, ok.glob, ok.blt, ok.above, ok.inj, ok.has, ok.cab, ok.hd, ok.frames, ok.stk, ok.exf, ok.bs, ok.bsz, ok.noex, ok.exfs, ok.funs, ok.frf⟩
theorem Cx.Ok.uncx (ok : (cxCompX X scope cl own js fp C s3 H3 E).Ok) : (cxComp X scope cl own js fp C s3 H3).Ok :=
  ⟨ok.mod, ok.kind, ok.glob, ok.blt, ok.above, ok.inj, ok.has, ok.cab, ok.hd, ok.frames, ok.stk, ok.exf, ok.bs, ok.bsz, ok.noex, ok.exfs, ok.funs, ok.frf⟩
theorem Inv.cx (I : Inv (cxComp X scope cl own js fp C s3 H3) pins σ H s) : Inv (cxCompX X scope cl own js fp C s3 H3 E) pins σ H s := ⟨I.ok.cx, I.os, I.bare, I.base, I.loc, I.cell, I.free, I.freeC, I.pin, I.hok, I.len⟩
theorem Inv.uncx (I : Inv (cxCompX X scope cl own js fp C s3 H3 E) pins σ H s) : Inv (cxComp X scope cl own js fp C s3 H3) pins σ H s := ⟨I.ok.uncx, I.os, I.bare, I.base, I.loc, I.cell, I.free, I.freeC, I.pin, I.hok, I.len⟩
theorem passC : Passes (CXe X.prog X.w) (cxCompX X scope cl own js fp C s3 H3 E) E := fun pins σ H s e s' I h => ⟨pins, σ, H, s, I.uncx, h⟩
end
end L2
namespace L2
open PySem PySem.Spec PyProof.Rows Bg
section
variable {X : Cx} {pins : List (Addr × Obj)} {σ : St} {H : Hp} {s : Shared} {scope : Scope} {cl : List (Str × Addr)} {own : List Str} {js : List Nat} {fp : List Addr} {E : XK}
theorem comp_raise {use : Option (Value → Sem Unit)} {R : Value → Shared → Prop} {acc : Value} (hL : LeavesX X E) (I : Inv X pins σ H s) (f3 : ∀ b ∈ fp, FpOk X pins H b) {pins' : List (Addr × Obj)} {σ' : St} {H1 : Hp} {s1 : Shared}
    (I' : Inv (cxComp X scope cl own js fp s.heap.objs.size s H) pins' σ' H1 s1) {e : Value} {s2 : Shared} (c : CXe X.prog X.w X.stack H1 s1 E e s2) :
    notedBy (model X.prog X.w) X.A (compEnvC scope cl s.heap.objs.size X.env) (fun x s' => compPost (model X.prog X.w) X.A X.xe use R acc s.heap.objs.size (.error x) s') e s2 := by
  obtain ⟨hst, hf, hex, hxe⟩ := hL
  obtain ⟨a, C, t, H', B, rfl, c, hE⟩ := c
  have I0 : Inv (cxComp X scope cl own js fp s.heap.objs.size s H) [] σ' H1 s1 := Inv.unpinned (pins := []) (pl := pins') I'
  have J : Inv X pins σ H1 s1 := comp_left I f3 I0 (Heap.SameBut.refl ..)
  have hCs : s.heap.objs.size ∉ frs X.stack := fun z => by
    rcases List.mem_cons.mp (I.stkSub _ z) with q | q
    · exact absurd I.lt (by rw [← q]; exact Nat.lt_irrefl _)
    · obtain ⟨_, o, e, _⟩ := I.funs.mem q
      exact absurd (Heap.lt_size e) (Nat.lt_irrefl _)
  have hfr : X.A.frames = some (X.env :: X.outer) := by rw [← hst]; exact I.ok.frames
  have fl := c.fly
  rw [hst] at fl
  obtain ⟨m, hm, _⟩ := id I'.loc
  obtain ⟨oC, hoC, hm2⟩ : ∃ oC, s1.heap.get? s.heap.objs.size = some oC ∧ s2.heap.Ns s.heap.objs.size m := by
    obtain ⟨o, es, ep, ho, r⟩ := hm
    exact ⟨o, ho, o, es, ep, c.un.keep _ _ ho I'.free hCs (by simp), r⟩
  have hBC := c.keep _ _ hoC I'.free hCs
  have hHC := c.un.free _ _ hoC I'.free (by simp)
  have hBof : ∀ b o, (PySem.W.hideAll B [s.heap.objs.size]).get? b = some o → B.get? b = some o := fun b o q => PySem.W.of_hideAll _ q
  have hBno : ∀ b, B.get? b = none → (PySem.W.hideAll B [s.heap.objs.size]).get? b = none := fun b q => by
    cases z : (PySem.W.hideAll B [s.heap.objs.size]).get? b with
    | none => rfl
    | some o => rw [hBof b o z] at q; cases q
  have hB : ∀ b, b ≠ s.heap.objs.size → (PySem.W.hideAll B [s.heap.objs.size]).get? b = B.get? b := fun b hb => by
    cases z : B.get? b with
    | none => exact hBno b z
    | some o => exact PySem.W.hideAll_get _ z (by simpa using hb)
  have hok' : HOk X.prog X.w H' (PySem.W.hideAll B [s.heap.objs.size]) := fun b u e => (c.hok b u e).stay (fun d v hd q => PySem.W.hideAll_get _ q fun hm => by
    have z : d = s.heap.objs.size := by simpa using hm
    rcases hd with y | y
    · rw [← y, z, hHC] at e; cases e
    · rw [z, hHC] at y; cases y) (fun _ q => q) fun _ _ q => q
  show wpAny _ _ (noteFrame (.ref a) X.env) _ _ s2
  refine wpAny_looks_onW hfr hf fl fun h' held ups => ?_
  refine ⟨m, ups.ns hm2, fun h'' sb cenv _ => ?_⟩
  obtain ⟨k1, k2, k3, k4⟩ := held
  have hh : ∀ b, b ≠ s.heap.objs.size → h''.get? b = h'.get? b := sb.2
  have st2 : (PySem.W.hideAll B [s.heap.objs.size]).StaysIn h'' := fun b o q => (hh b (by rintro rfl; rw [PySem.W.hideAll_none _ List.mem_cons_self] at q; cases q)).trans (k1 b o (hBof b o q))
  have ff2 : h''.FunFrames (PySem.W.hideAll B [s.heap.objs.size]) (X.env :: X.outer) := ff_hide hBof hh (fun b hb z => hCs (by rw [hst, ← z]; exact hb)) k3
  obtain ⟨oe, vs, T, oT, ts, he, hcls, hd, h1, hnT, hTe, hT, hdT, h3⟩ := k4
  have na : a ≠ s.heap.objs.size := fun z => by rw [z, hBC] at k2; cases k2
  have nT : T ≠ s.heap.objs.size := fun z => by rw [z, hBC] at hnT; cases hnT
  have he2 := (hh a na).trans he
  have hT2 := (hh T nT).trans hT
  unfold PySem.passOn
  refine wpAny_bind (wpAny_field (s := { s2 with heap := h'' }) he2 hd h1 ?_)
  rw [if_neg (show ¬ ((Value.ref T == Value.none) = true) from by simp)]
  refine wpAny_bind (setFlight_any (s := { s2 with heap := h'' }) st2 ff2 ⟨oe, vs, T, oT, ts, he2, hcls, hd, h1, hBno T hnT, hTe, hT2, hdT, h3⟩ fun h3 y1 y2 y3 y4 => ?_)
  refine wpAny_throw (hxe a _ fun Q hQ => ?_)
  refine leaves_any hfr hf y1 (hBno a k2) y2 y3 fun h4 fl4 up4 => hQ _ ?_
  refine ⟨a, C, t, H', PySem.W.hideAll B [s.heap.objs.size], rfl, J.passedB hst hex I.sz c hB hok' fl4 (fun b o hn q nd => ?_), hE⟩
  obtain ⟨sl1, q1⟩ := ups b o q nd
  obtain ⟨sl2, q2⟩ := up4 b _ (y4 b _ ((hh b hn).trans q1) nd) nd
  exact ⟨sl2, q2⟩
end
theorem comp_anyX {X : Cx} {E : XK} (hL : LeavesX X E) {use : Option (Value → Sem Unit)} {R : Value → Shared → Prop} {pins : List (Addr × Obj)} {σ : St} {H : Hp} {s : Shared} {Q : VK} {elt iter tgt : Expr} {ifs : List Expr} {scope : Scope} {pos : Pos} {wi : TI} {g : TG} {tc : TT} {te : TE} (own : List Str) (js : List Nat)
    (hc : X.calm = true) (hT : ∀ itv v, letOwnedTupleGo tgt itv v = pure ()) (hi : PI X tgt iter wi)
    (hg : ∀ cl fp C s3 H3, PG (cxCompX X scope cl own js fp C s3 H3 E) tgt g) (ht : ∀ cl fp C s3 H3, PIfs (cxCompX X scope cl own js fp C s3 H3 E) ifs tc) (he : ∀ cl fp C s3 H3, PE (cxCompX X scope cl own js fp C s3 H3 E) elt te)
    (hfree : ∀ y ∈ scope.names, y.2 = .free → X.env.scope.names.lookup y.1 = some .cell)
    (hjs : ∀ j ∈ js, scope.names.lookup (X.N.getD j Str.empty) = some .free ∧ X.env.scope.names.lookup (X.N.getD j Str.empty) = some .cell)
    (hcell : ∀ y ∈ scope.names, y.2 ≠ .cell) (hnames : ∀ y ∈ scope.names, y.2 = .local → scope.names.lookup y.1 = some .local)
    (hkind : scope.kind = .function) (hs : ∀ x, foldedSetIterable iter X.env x = pure x)
    (I : Inv X pins σ H s) (h : tComp wi g tc te own.length js σ H Q)
    (hend : ∀ (D : Addr) (H3 H5 : Hp) (σ5 : St) (s3 s6 : Shared) (fp : List Addr) (cl : List (Str × Addr)), Inv X pins σ H3 s3 → (∀ b ∈ fp, FpOk X pins H3 b) → Inv (cxComp X scope cl own js fp s3.heap.objs.size s3 H3) [] σ5 H5 s6 → Q (.ref D) H5 →
      compPost (model X.prog X.w) X.A X.xe use R (.ref D) s3.heap.objs.size (.ok .next) s6) :
    wpAny (model X.prog X.w) X.A (comprehension (.ListComp elt [⟨tgt, iter, ifs, 0⟩] scope pos) scope X.env (firstIterPos [⟨tgt, iter, ifs, 0⟩] pos) (newList []) false (eval iter X.env) use) R X.xe s := by
  have hk := I.ok.kind
  obtain ⟨cl, hcl, cl1, cl2⟩ := closure_of (scope := scope) (env := X.env) fun y hy hf => I.ok.has y.1 (.inl (hfree y hy hf))
  refine wpAny_comprehension_free rfl hs hcl hkind hnames (thn (hi pins s σ H _ I h) fun v s1 h1 => thn h1 fun itv s2 h2 => ?_)
  obtain ⟨it, fp, tn, J, H2, e, I2, T, st2, f2, q2⟩ := h2
  subst e
  obtain ⟨W, ⟨m0, w0⟩, turn⟩ := q2 s2.heap.objs.size I2.fresh
  have I3 := I2.lnew (ys := []) (its := []) (t' := s2.toks) .nil (Nat.zero_le _)
  refine wpAny_newObj_type (wpAny_newFunctionEnv hcell (by intro y hy; simp at hy) (fun h₁ hns₁ hsb₁ => ?_) hkind)
  have hl3 : ∀ b ∈ fp, b < (s2.heap.push ({ cls := .type "list", data := .seq ([] : List Value).toArray } : Obj)).objs.size := fun b hb => by
    obtain ⟨o, e, _⟩ := T.obj _ _ st2 b hb
    rw [Heap.size_push]
    exact Nat.lt_succ_of_lt (Heap.lt_size e)
  have f3 : ∀ b ∈ fp, FpOk X pins (upd H2 s2.heap.objs.size (.lst [])) b := fun b hb => by
    obtain ⟨o, e, _⟩ := T.obj _ _ st2 b hb
    refine ⟨?_, (f2 b hb).2⟩
    rw [upd_ne (Nat.ne_of_lt (Heap.lt_size e))]
    exact (f2 b hb).1
  have I4 := inv_comp (own := own) (js := js) (h₁ := h₁) (t' := s2.toks + ([] : List (Str × Value)).length) I3 hkind hcell cl1 cl2 hjs f3 hl3 hns₁ (fun b o e => (hsb₁.2 b (Nat.ne_of_lt (Heap.lt_size e))).trans (Heap.get?_push_of_some _ e))
  have st4 : tn 0 h₁ := T.keep _ _ _ st2 fun b hb o e => (hsb₁.2 b (Nat.ne_of_lt (hl3 b hb))).trans (Heap.get?_push_of_some _ (Heap.get?_push_of_some _ e))
  have loop : codeAny (model X.prog X.w) X.A (.compLoop (.ListComp elt [⟨tgt, iter, ifs, 0⟩] scope pos) 0 (.ref it) (.ref s2.heap.objs.size) (compEnvC scope cl (s2.heap.push ({ cls := .type "list", data := .seq ([] : List Value).toArray } : Obj)).objs.size X.env))
      (compPost (model X.prog X.w) X.A X.xe use R (.ref s2.heap.objs.size) (s2.heap.push ({ cls := .type "list", data := .seq ([] : List Value).toArray } : Obj)).objs.size) { s2 with heap := h₁, toks := s2.toks + ([] : List (Str × Value)).length } := by
    have lift : ∀ {α : Type} {tr : Sem α} {Q' : α → Shared → Prop} {s' : Shared}, wpAny (model X.prog X.w) X.A tr Q' (cxCompX X scope cl own js fp (s2.heap.push ({ cls := .type "list", data := .seq ([] : List Value).toArray } : Obj)).objs.size { s2 with heap := s2.heap.push ({ cls := .type "list", data := .seq ([] : List Value).toArray } : Obj), toks := s2.toks } (upd H2 s2.heap.objs.size (.lst [])) E).xe s' → wpAny (model X.prog X.w) X.A tr Q' (notedBy (model X.prog X.w) X.A (compEnvC scope cl (s2.heap.push ({ cls := .type "list", data := .seq ([] : List Value).toArray } : Obj)).objs.size X.env) fun e s' => compPost (model X.prog X.w) X.A X.xe use R (.ref s2.heap.objs.size) (s2.heap.push ({ cls := .type "list", data := .seq ([] : List Value).toArray } : Obj)).objs.size (.error e) s') s' := fun hw => wpAny_mono hw (fun _ _ z => z) fun e s' ⟨pins', σ', H', s1, I', c⟩ => comp_raise hL I3 f3 I' c
    refine codeAny_compLoop_tests (fun n s' => ∃ i σ' H', Inv (cxCompX X scope cl own js fp (s2.heap.push ({ cls := .type "list", data := .seq ([] : List Value).toArray } : Obj)).objs.size { s2 with heap := s2.heap.push ({ cls := .type "list", data := .seq ([] : List Value).toArray } : Obj), toks := s2.toks } (upd H2 s2.heap.objs.size (.lst [])) E) [] σ' H' s' ∧ tn i s'.heap ∧ (∀ b ∈ fp, H' b = none) ∧ W i n σ' H') ?_ m0 ⟨0, _, _, I4.cx, st4, fun b hb => (f3 b hb).1, w0⟩ (hT _)
    rintro n s5 ⟨i, σ5, H5, I5, st5, fr5, w5⟩
    have stat : ∀ {H' : Hp}, (∀ b ∈ fp, H' b = none) → ∀ b ∈ fp, FpOk (cxCompX X scope cl own js fp (s2.heap.push ({ cls := .type "list", data := .seq ([] : List Value).toArray } : Obj)).objs.size { s2 with heap := s2.heap.push ({ cls := .type "list", data := .seq ([] : List Value).toArray } : Obj), toks := s2.toks } (upd H2 s2.heap.objs.size (.lst [])) E) [] H' b := fun hn b hb =>
      ⟨hn b hb, (I4.ok.exf b hb).1, I4.ok.exfs b hb, .inl hb, (I4.ok.exf b hb).2, fun p hp => absurd (show p ∈ ([] : List (Addr × Obj)) from hp) (by simp)⟩
    rcases turn i n σ5 H5 w5 with ⟨stop, qn⟩ | ⟨go, step⟩
    · refine thn (T.done (cxCompX X scope cl own js fp (s2.heap.push ({ cls := .type "list", data := .seq ([] : List Value).toArray } : Obj)).objs.size { s2 with heap := s2.heap.push ({ cls := .type "list", data := .seq ([] : List Value).toArray } : Obj), toks := s2.toks } (upd H2 s2.heap.objs.size (.lst [])) E) rfl rfl rfl hc i [] s5 σ5 H5 _ I5 (stat fr5) st5 stop) fun r s6 ⟨hr, I6⟩ => ?_
      subst hr
      exact hend _ _ _ _ _ _ _ _ I3 f3 I6.uncx qn
    · refine thn (T.item (cxCompX X scope cl own js fp (s2.heap.push ({ cls := .type "list", data := .seq ([] : List Value).toArray } : Obj)).objs.size { s2 with heap := s2.heap.push ({ cls := .type "list", data := .seq ([] : List Value).toArray } : Obj), toks := s2.toks } (upd H2 s2.heap.objs.size (.lst [])) E) rfl rfl rfl hc i [] s5 σ5 H5 _ I5 (stat fr5) st5 go) fun r s6 ⟨u, hr, h6⟩ => ?_
      subst hr
      have noTup : ∀ en : Env, (letOwnedTupleGo tgt (.ref it) u >>= fun _ => assign tgt en u) = assign tgt en u := fun en => by rw [hT]; rfl
      dsimp only
      rw [← noTup]
      refine wpAny_bind (thn h6 fun _ s7 ⟨x, H7, I7, r7, y7, st7, fr7⟩ => ?_)
      have I7' := I7.pinned (stat fr7) (T.obj _ _ st7)
      refine thn (lift (hg cl fp _ _ _ _ s7 σ5 H7 x u _ I7' r7 (step x H7 y7))) fun _ s8 ⟨σ8, H8, I8, q8⟩ => ?_
      have again : ∀ {C3 : Addr} {s3 : Shared} {H3 : Hp} {σ9 : St} {H9 : Hp} {s9 : Shared} {m' : Nat}, Inv (cxCompX X scope cl own js fp C3 s3 H3 E) ([] ++ pinsAt fp s7.heap) σ9 H9 s9 → m' < n → W (i + 1) m' σ9 H9 → ∃ m, m < n ∧ ∃ i σ' H', Inv (cxCompX X scope cl own js fp C3 s3 H3 E) [] σ' H' s9 ∧ tn i s9.heap ∧ (∀ b ∈ fp, H' b = none) ∧ W i m σ' H' := fun {C3 s3 H3 σ9 H9 s9 m'} I9 hm w9 => by
        refine ⟨m', hm, i + 1, σ9, H9, I9.unpinned, T.keep _ _ _ st7 fun b hb o e => (I9.pin (b, o) (List.mem_append_right _ (List.mem_append_right _ (mem_pinsAt hb e)))).1, fun b hb => ?_, w9⟩
        obtain ⟨o, e, d⟩ := T.obj _ _ st7 b hb
        exact (I9.pin (b, o) (List.mem_append_right _ (List.mem_append_right _ (mem_pinsAt hb e)))).2.1
      refine thn (lift (ht cl fp _ _ _ _ s8 σ8 H8 _ I8 q8)) fun b s9 ⟨H9, I9, q9⟩ => ?_
      cases b with
      | false =>
        rw [if_neg Bool.false_ne_true] at q9 ⊢
        obtain ⟨m', hm, w9⟩ := q9
        exact again I9 hm w9
      | true =>
        rw [if_pos rfl] at q9 ⊢
        refine thn (lift (he cl fp _ _ _ _ s9 σ8 H9 _ I9 q9)) fun y s10 ⟨v, H10, I10, r10, q10⟩ => ?_
        exact thn (lift (mt_append (X := cxCompX X scope cl own js fp (s2.heap.push ({ cls := .type "list", data := .seq ([] : List Value).toArray } : Obj)).objs.size { s2 with heap := s2.heap.push ({ cls := .type "list", data := .seq ([] : List Value).toArray } : Obj), toks := s2.toks } (upd H2 s2.heap.objs.size (.lst [])) E) _ s10 σ8 H10 (.ref s2.heap.objs.size) [v] (.ref s2.heap.objs.size) [y] _ I10 rfl (.cons r10 .nil) q10)) fun _ s11 ⟨_, H11, I11, _, m', hm, w11⟩ => again I11 hm w11
  exact codeAny_compStart_list loop (T.self _ 0 _ _ _ st4 loop)
theorem pe_compX {X : Cx} {E : XK} (hL : LeavesX X E) {elt iter tgt : Expr} {ifs : List Expr} {scope : Scope} {pos : Pos} {wi : TI} {g : TG} {tc : TT} {te : TE} (own : List Str) (js : List Nat)
    (hc : X.calm = true) (hT : ∀ itv v, letOwnedTupleGo tgt itv v = pure ()) (hi : PI X tgt iter wi)
    (hg : ∀ cl fp C s3 H3, PG (cxCompX X scope cl own js fp C s3 H3 E) tgt g) (ht : ∀ cl fp C s3 H3, PIfs (cxCompX X scope cl own js fp C s3 H3 E) ifs tc) (he : ∀ cl fp C s3 H3, PE (cxCompX X scope cl own js fp C s3 H3 E) elt te)
    (hfree' : (scope.names.all fun y => y.2 != .free || X.env.scope.names.lookup y.1 == some .cell) = true := by rfl)
    (hjs' : (js.all fun j => scope.names.lookup (X.N.getD j Str.empty) == some .free && X.env.scope.names.lookup (X.N.getD j Str.empty) == some .cell) = true := by rfl)
    (hcell' : (scope.names.all fun y => y.2 != .cell) = true := by rfl) (hnames' : (scope.names.all fun y => y.2 != .local || scope.names.lookup y.1 == some .local) = true := by rfl)
    (hkind : scope.kind = .function := by rfl) (hs : ∀ x, foldedSetIterable iter X.env x = pure x := by intro _; rfl) :
    PE X (.ListComp elt [⟨tgt, iter, ifs, 0⟩] scope pos) (tComp wi g tc te own.length js) := by
  have hfree : ∀ y ∈ scope.names, y.2 = .free → X.env.scope.names.lookup y.1 = some .cell := sc_free hfree'
  have hjs : ∀ j ∈ js, scope.names.lookup (X.N.getD j Str.empty) = some .free ∧ X.env.scope.names.lookup (X.N.getD j Str.empty) = some .cell := sc_js hjs'
  have hcell : ∀ y ∈ scope.names, y.2 ≠ .cell := sc_cell hcell'
  have hnames : ∀ y ∈ scope.names, y.2 = .local → scope.names.lookup y.1 = some .local := sc_names hnames'
  intro pins s σ H Q I h
  rw [eval_ListComp]
  refine comp_anyX hL own js hc hT hi hg ht he hfree hjs hcell hnames hkind hs I h fun D H3 H5 σ5 s3 s6 fp cl I3 f3 I6 qn => ?_
  obtain ⟨m, hm, _⟩ := id I6.loc
  exact ⟨m, hm, fun h' sb => ⟨.ref D, H5, comp_left I3 f3 I6 sb, rfl, qn⟩⟩
theorem leaves_of {P : Program} {w : World} {K : PySem.W.Frag} {mg : Str → Option Value} {base : Heap} {N : List Str} {qual : Str} {scope : Scope} {f : Addr} {cd : Value} {A : Around} {outer : List Env} {s0 : Shared} {H0 : Hp} {E : XK} : LeavesX (cxOf (CXe P w) P w K mg base N qual scope f cd A outer s0 H0 E) E :=
  ⟨rfl, rfl, rfl, fun a s h => wpAny_mono (h (fun _ s' => CXe P w outer H0 s0 E (.ref a) s') fun _ z => z) (fun _ _ z => z) fun _ _ z => z.elim⟩
end L2
namespace L2
open PySem PySem.Spec PyProof.Rows Bg
end L2
namespace L2
open PySem PySem.Spec PyProof.Rows Bg
section
variable {g : TG} {tc : TT} {te : TE} {D : Addr} {H1 : Hp} {σ0 : St} {Q : VK}
end
section
variable {X : Cx} {CX : CXT} {k j : Nat} {C : Addr} {x m : Str} {ps ks : List Str} {dvs : List V} {sp : Sp} {E : XK} {p pos apos : Pos} {e o : Expr} {es : List Expr} {ta : TE} {t tk : TA} {pl : Sem Bool} {kws : List Keyword} {gV : List V → List V → List V}
end
section
variable {P : Program} {w : World} {K : PySem.W.Frag} {mg : Str → Option Value} {base : Heap} {CX : CXT} {C : Addr} {k : Nat} {x m qual : Str} {st : Stmt} {ps ks : List Str} {dvs : List V} {its ds : List Value} {sp : Sp}
end
end L2
namespace L2
open PySem PySem.Spec PyProof.Rows Bg
section
variable {prog : Program} {w : World} {κ : Type} [DecidableEq κ] {knd : KeyKind prog w κ} {A : Around} {E : Value → Shared → Prop}
end
end L2
namespace L2
open PySem PySem.Spec PyProof.Rows Bg
section
variable {prog : Program} {w : World} {κ : Type} [DecidableEq κ] {knd : KeyKind prog w κ} {A : Around} {E : Value → Shared → Prop}
end
end L2
namespace L2
open PySem PySem.Spec PyProof.Rows Bg
section
variable {X : Cx}
end
end L2
namespace L2
open PySem PySem.Spec PyProof.Rows Bg
section
variable {X : Cx} {e : Expr} {te : TE} {p1 p2 pos pos2 : Pos}
end
end L2
namespace L2
open PySem PySem.Spec PyProof.Rows
theorem st_of {t : TS} {D : Ends} {σ σ' : St} {H : Hp} (e : σ = σ') (h : t D σ' H) : t D σ H := e ▸ h
theorem i_seqN {t u : TS} {D : Ends} {σ : St} {H : Hp} (h : ∀ N : St → Hp → Prop, (∀ σ' H', u D σ' H' → N σ' H') → t { D with nx := N } σ H) : tSeq t u D σ H := h (u D) fun _ _ h => h
theorem ps_s {X : Cx} {pos : Pos} (i : Nat) {x : Str} {e : Expr} {te : TE} {pos' : Pos} (hN : X.N.Nodup) (he : PE X e te) (hi : X.N[i]? = some x := by rfl) (hx : Loc X.env.scope x := by first | exact Or.inl rfl | exact Or.inr rfl) (hs : swapsWith e (some (.Name x pos')) pos.line X.env = pure false := by rfl) (hf : X.fn x = true ∨ X.env.scope.names.lookup x = some .local := by first | exact .inl rfl | exact .inr rfl | assumption) : PS X (.Assign [.Name x pos'] e pos) (tAsg te (gName i)) := ps_set hN hi hx he hs hf
theorem pg_n {X : Cx} {pos : Pos} (i : Nat) {x : Str} (hN : X.N.Nodup) (hi : X.N[i]? = some x := by rfl) (hx : Loc X.env.scope x := by first | exact Or.inl rfl | exact Or.inr rfl) (hf : X.fn x = true ∨ X.env.scope.names.lookup x = some .local := by first | exact .inl rfl | exact .inr rfl | assumption) : PG X (.Name x pos) (gName i) := pg_name hN hi hx hf
theorem pe_i {X : Cx} {a b : Expr} {ta tb : TE} {pos : Pos} {r : R2} (hr : IxR X r) (ha : PE X a ta) (hb : PE X b tb) (hs : PlainIx b := by exact fun _ _ => rfl) : PE X (.Subscript a b pos) (tOp r ta tb) := pe_ix hr ha hb hs
theorem pa1 {X : Cx} {e : Expr} {te : TE} (ha : PE X e te) (hs : starEach [e] X.env = (false, eval e X.env) :: starEach [] X.env := by rfl) : PA X [e] (tCons te tNil) := pa_cons ha pa_nil hs
theorem pa2 {X : Cx} {e f : Expr} {te tf : TE} (ha : PE X e te) (hb : PE X f tf) (hs : starEach [e, f] X.env = (false, eval e X.env) :: starEach [f] X.env := by rfl) (ht : starEach [f] X.env = (false, eval f X.env) :: starEach [] X.env := by rfl) : PA X [e, f] (tCons te (tCons tf tNil)) := pa_cons ha (pa1 hb ht) hs
theorem pa3 {X : Cx} {e f g : Expr} {te tf tg : TE} (ha : PE X e te) (hb : PE X f tf) (hc : PE X g tg) (hs : starEach [e, f, g] X.env = (false, eval e X.env) :: starEach [f, g] X.env := by rfl) (ht : starEach [f, g] X.env = (false, eval f X.env) :: starEach [g] X.env := by rfl) (hu : starEach [g] X.env = (false, eval g X.env) :: starEach [] X.env := by rfl) : PA X [e, f, g] (tCons te (tCons tf (tCons tg tNil))) := pa_cons ha (pa2 hb hc ht hu) hs
theorem Fun.okA {P : Program} {w : World} {K : PySem.W.Frag} {mg : Str → Option Value} {base : Heap} {x qual : Str} {st : Stmt} {f : Addr} {fd : FuncData} {N ps : List Str} {k : Nat} {sp : Sp} (F : Fun K x qual st f fd) (S : FnScope N ps (defScope st)) (hbody : ∀ (cdv : Value) (A : Around) (outer : List Env) (s : Shared) (H : Hp) (vs : List V) (Q : VK) (E : XK), Room k (A.deeper (envOfC qual (defScope st) s.heap.objs.size f cdv)) → sp vs H Q E → ∃ t, PSs (cxOf CX0 P w K mg base N qual (defScope st) f cdv A outer s H E).nox (defBody st) t ∧ t { nx := fun _ H' => Q .non H', rt := Q } (start N vs) H) (len : ∀ vs H Q E, sp vs H Q E → vs.length = ps.length := by intro vs H Q E h; cases h; subst_vars; rfl) : FnOk P w K mg base CX0 (k + 1) f fd ps sp := F.ok S len hbody
theorem FunD.okA {P : Program} {w : World} {K : PySem.W.Frag} {mg : Str → Option Value} {base : Heap} {x qual : Str} {st : Stmt} {f : Addr} {fd : FuncData} {N ps : List Str} {k : Nat} {sp : Sp} {its : List Value} (F : FunD K x qual st f fd its) (S : FnScope N ps (defScope st)) (hbody : ∀ (cdv : Value) (A : Around) (outer : List Env) (s : Shared) (H : Hp) (vs : List V) (Q : VK) (E : XK), Room k (A.deeper (envOfC qual (defScope st) s.heap.objs.size f cdv)) → sp vs H Q E → ∃ t, PSs (cxOf CX0 P w K mg base N qual (defScope st) f cdv A outer s H E).nox (defBody st) t ∧ t { nx := fun _ H' => Q .non H', rt := Q } (start N vs) H) (len : ∀ vs H Q E, sp vs H Q E → vs.length = ps.length := by intro vs H Q E h; cases h; subst_vars; rfl) : FnOk P w K mg base CX0 (k + 1) f fd ps sp := F.ok S len hbody
theorem Fun.okXA {P : Program} {w : World} {K : PySem.W.Frag} {mg : Str → Option Value} {base : Heap} {x qual : Str} {st : Stmt} {f : Addr} {fd : FuncData} {N ps : List Str} {k : Nat} {sp : Sp} (F : Fun K x qual st f fd) (S : FnScope N ps (defScope st)) (hbody : ∀ (cdv : Value) (A : Around) (outer : List Env) (s : Shared) (H : Hp) (vs : List V) (Q : VK) (E : XK), Room k (A.deeper (envOfC qual (defScope st) s.heap.objs.size f cdv)) → sp vs H Q E → ∃ t, PSs (cxOf (CXe P w) P w K mg base N qual (defScope st) f cdv A outer s H E) (defBody st) t ∧ t { nx := fun _ H' => Q .non H', rt := Q } (start N vs) H) (len : ∀ vs H Q E, sp vs H Q E → vs.length = ps.length := by intro vs H Q E h; cases h; subst_vars; rfl) : FnOk P w K mg base (CXe P w) (k + 1) f fd ps sp := F.okX S len hbody
theorem ifn {A B : Prop} {p : Prop} [Decidable p] (q : B) (h : ¬ p := by decide +kernel) : if decide p = true then A else B := by rw [decide_eq_false h]; exact q
theorem pit {X : Cx} (k : Nat) {x : Str} {n : Int} {j : Nat} {p p' pos : Pos} (hN : X.N[k]? = some x := by rfl) (hv : Vis X.env.scope x := by first | exact Or.inl rfl | exact Or.inr (Or.inl rfl) | exact Or.inr (Or.inr rfl)) (hd : (x == ("__debug__" : Str)) = false := by decide) (hcd : (x == ("__classdict__" : Str)) = false := by decide) (hs : PlainIx (.Constant (.int n) j p') := by exact fun _ _ => rfl) : PE X (.Subscript (.Name x p) (.Constant (.int n) j p') pos) (tOp (rIxT X.K) (tVar k) (tC (.int n))) := pe_ix ix_tup (pv k hN hv hd hcd) pe_int hs
theorem pil {X : Cx} (k : Nat) {x : Str} {n : Int} {j : Nat} {p p' pos : Pos} (hN : X.N[k]? = some x := by rfl) (hv : Vis X.env.scope x := by first | exact Or.inl rfl | exact Or.inr (Or.inl rfl) | exact Or.inr (Or.inr rfl)) (hd : (x == ("__debug__" : Str)) = false := by decide) (hcd : (x == ("__classdict__" : Str)) = false := by decide) (hs : PlainIx (.Constant (.int n) j p') := by exact fun _ _ => rfl) : PE X (.Subscript (.Name x p) (.Constant (.int n) j p') pos) (tOp (rIxL X.K) (tVar k) (tC (.int n))) := pe_ix ix_list (pv k hN hv hd hcd) pe_int hs
end L2
namespace L2
open PySem PySem.Spec PyProof.Rows Bg
section
variable {prog : Program} {w : World} {κ : Type} [DecidableEq κ] {knd : KeyKind prog w κ} {A : Around} {E : Value → Shared → Prop}
end
end L2
namespace L2
open PySem PySem.Spec PyProof.Rows Bg
section
variable {prog : Program} {w : World} {A : Around} {E : Value → Shared → Prop} {s : Shared}
end
end L2
namespace L2
open PySem PySem.Spec PyProof.Rows Bg
section
variable {X : Cx} {pins : List (Addr × Obj)} {σ : St}
end
end L2
namespace L2
open PySem PySem.Spec PyProof.Rows Bg
section
variable {prog : Program} {w : World} {A : Around} {E : Value → Shared → Prop} {s : Shared} {R : Result → Shared → Prop}
end
section
variable {X : Cx} {a b : Expr} {ta : TA} {p1 p2 pos pos2 : Pos}
end
end L2
local macro_rules | `(tactic| walk_at "sc") => `(tactic| exact ⟨rfl, rfl, rfl, by decide +kernel, rfl, by decide +kernel, by decide +kernel⟩)
local macro_rules | `(tactic| walk_at "s") => `(tactic| ((refine L2.st_of (by dsimp only [L2.start, List.map, List.length, Nat.zero_add, Nat.reduceAdd, Nat.reduceSub, List.replicate, List.cons_append, List.nil_append]) ?_); try dsimp only [L2.cx_K]))
local macro_rules | `(tactic| omega) => `(tactic| first | lia | omega +splitNatSub)
open PySem PySem.Spec PyProof.Rows L2 Bg
local macro_rules | `(tactic| walk_at "bd") => `(tactic| first | assumption | ((with_reducible show Bd _ (-_)); exact Bd.neg (by walk_at "bd")) | ((with_reducible show Bd _ (_ * _)); exact Bd.mul (by walk_at "bd") (by walk_at "bd")) | ((with_reducible show Bd _ (_ + _)); exact bd_addx (by walk_at "bd") (by walk_at "bd")) | ((with_reducible show Bd _ (_ - _)); exact bd_subx (by walk_at "bd") (by walk_at "bd")) | ((with_reducible show Bd _ (_ ^ _)); exact bd_powx (by walk_at "bd")) | ((with_reducible show Bd _ (_ / _)); exact bd_ediv (by walk_at "bd")) | ((with_reducible show Bd _ (_ % _)); exact bd_emod (by walk_at "bd") (by decide +kernel)) | ((with_reducible show Bd _ (Int.fdiv _ _)); exact Bd.fdiv (by walk_at "bd") _) | exact Bd.abs (by walk_at "bd") | exact bd_self _)
local macro_rules | `(tactic| walk_at "cd") => `(tactic| first | assumption | decide | omega | exact ⟨by decide, by decide +kernel⟩ | exact Bd.ok (by walk_at "bd") (by walk_at "bd") (by decide +kernel) | exact cpw_of (by walk_at "bd") (by decide) (by decide +kernel) | decide +kernel)
local macro_rules | `(tactic| walk_at "rd") => `(tactic| first | ((with_reducible refine i_seqN ?_); intro _ _) | with_reducible refine i_asg ?_ | ((with_reducible refine i_gname ?_); try dsimp only [List.set_cons_zero, List.set_cons_succ]) | with_reducible refine i_ret ?_ | with_reducible refine i_drop ?_ | with_reducible refine i_ifS ?_ | with_reducible refine i_next ?_ | ((with_reducible show tVar _ _ _ _); refine i_var rfl ?_) | with_reducible refine i_c ?_ | with_reducible refine i_op ?_ | with_reducible refine i_un ?_ | with_reducible refine i_I0 ?_ | ((with_reducible show rI _ _ (V.int _) (V.int _) _ _); first | refine i_I ?_ (by walk_at "cd") | refine i_I ?_ ?c) | with_reducible refine i_U ?_ | with_reducible refine i_eqI ?_ | with_reducible refine i_neI ?_ | with_reducible refine i_eqB ?_ | with_reducible refine i_neB ?_ | with_reducible refine i_test ?_ | with_reducible refine i_tB ?_ | with_reducible refine i_bl ?_ | with_reducible refine i_and ?_ | with_reducible refine i_or ?_ | with_reducible refine i_not ?_ | with_reducible refine i_andV ?_ | with_reducible refine i_orV ?_ | with_reducible refine i_notV ?_ | with_reducible refine i_ifE ?_ | with_reducible refine i_nil ?_ | with_reducible refine i_cons ?_ | with_reducible refine i_call ?_ | with_reducible refine i_callK ?_ | with_reducible refine i_cb ?_ | with_reducible refine i_tup ?_ | with_reducible refine i_lst ?_ | with_reducible refine if_t ?_ | with_reducible refine if_f ?_ | with_reducible refine if_nt ?_ | with_reducible refine if_nf ?_ | with_reducible refine i_par ?_ | with_reducible refine i_par2 ?_ | with_reducible refine i_abs ?_ | with_reducible refine i_intB ?_ | with_reducible refine i_is_int ?_ | with_reducible refine i_is_intb ?_ | with_reducible refine i_is_bool ?_ | with_reducible refine i_is_tup (by assumption) ?_ | with_reducible refine i_lenT (by assumption) ?_ | with_reducible refine i_lenL (by assumption) ?_ | ((with_reducible show rIxT _ (V.ref _) (V.int _) _ _); first | refine i_ixT (by assumption) (by rfl) ?_ | refine i_ixS (by assumption) (by rfl) ?_) | ((with_reducible show rIxL _ (V.ref _) (V.int _) _ _); refine i_ixL (by assumption) (by rfl) ?_) | with_reducible refine i_bm ?_ | with_reducible refine i_tyL (by assumption) ?_ | with_reducible refine i_sl ?_ | with_reducible refine i_noPart ?_ | with_reducible refine i_part ?_ | with_reducible refine i_int ?_ | with_reducible refine i_isN ?_ | with_reducible refine i_notN ?_ | ((with_reducible show gTup _ _ _ (V.ref _) _ _ _); refine i_gtup (by assumption) (by rfl) ?_) | with_reducible refine i_gcons ?_ | with_reducible refine i_gnil ?_ | with_reducible refine i_all ?_ | with_reducible refine (show ∀ σ' H', _ → _ from by assumption) _ _ ?_)
local macro_rules | `(tactic| walk_at "mm") => `(tactic| repeat first | exact List.mem_cons_self | refine List.mem_cons_of_mem _ ?_)
local macro_rules | `(tactic| walk_at "rd") => `(tactic| first | with_reducible refine i_min ?_ | with_reducible refine i_eqS ?_ | with_reducible refine i_neS ?_ | with_reducible refine i_is_str ?_ | with_reducible refine i_bm0 ?_ | with_reducible refine i_fF ?_ | with_reducible refine i_fVal0 ?_ | with_reducible refine i_fInt0 ?_ | with_reducible refine i_tyS ?_ | with_reducible refine i_tyI ?_ | with_reducible refine i_bits ?_)
local macro_rules | `(tactic| walk_at "b8") => `(tactic| first | assumption | decide +kernel | exact Bd.mono (by walk_at "bd") (by decide +kernel))
namespace Bk
open PySem PySem.Spec PyProof.Rows L2 Bg
inductive A2 (a b : Prop) : Prop | mk : a → b → A2 a b
inductive A3 (a b c : Prop) : Prop | mk : a → b → c → A3 a b c
inductive A4 (a b c d : Prop) : Prop | mk : a → b → c → d → A4 a b c d
inductive A5 (a b c d e : Prop) : Prop | mk : a → b → c → d → e → A5 a b c d e
inductive A6 (a b c d e f : Prop) : Prop | mk : a → b → c → d → e → f → A6 a b c d e f
inductive A8 (a b c d e f g h : Prop) : Prop | mk : a → b → c → d → e → f → g → h → A8 a b c d e f g h
inductive A9 (a b c d e f g h i : Prop) : Prop | mk : a → b → c → d → e → f → g → h → i → A9 a b c d e f g h i
inductive E2 {A B : Type} (p : A → B → Prop) : Prop | mk (a : A) (b : B) (h : p a b) : E2 p
inductive E3 {A B C : Type} (p : A → B → C → Prop) : Prop | mk (a : A) (b : B) (c : C) (h : p a b c) : E3 p
inductive E4 {A B C D : Type} (p : A → B → C → D → Prop) : Prop | mk (a : A) (b : B) (c : C) (d : D) (h : p a b c d) : E4 p
def top (i : Nat) : Stmt := PySem.Challenge.pw_boardglue_k26_no_heap.main.body.getD i (.Pass ⟨0, 0, 0, 0⟩)
abbrev s_is_whole : Stmt := top 16
abbrev s_common_divisor : Stmt := top 17
abbrev s_with_sign_of : Stmt := top 20
abbrev s_length : Stmt := top 21
abbrev s_fraction : Stmt := top 22
abbrev s_parts : Stmt := top 23
abbrev s_by_parts : Stmt := top 24
abbrev s_is_above_nought : Stmt := top 25
abbrev s_under : Stmt := top 26
abbrev s_is_length : Stmt := top 28
abbrev s_is_side : Stmt := top 29
abbrev s_is_board : Stmt := top 30
abbrev s_shown_whole : Stmt := top 36
abbrev s_shown_fraction : Stmt := top 37
abbrev s_shown_rooted : Stmt := top 38
abbrev s_shown_length : Stmt := top 39
abbrev s_shown_board : Stmt := top 40
abbrev s_shown_heap : Stmt := top 41
abbrev s_read_whole : Stmt := top 42
abbrev s_read_fraction : Stmt := top 43
abbrev s_read_fraction_above : Stmt := top 44
abbrev s_read_rooted : Stmt := top 45
abbrev s_read_both_parts : Stmt := top 46
abbrev s_read_length : Stmt := top 47
abbrev s_read_board : Stmt := top 48
abbrev s_read_heap : Stmt := top 49
abbrev s__law_cell : Stmt := top 51
abbrev s__law_mixed : Stmt := top 52
abbrev s__law_divisor : Stmt := top 53
abbrev s__law_root : Stmt := top 54
abbrev s__law_fraction : Stmt := top 55
abbrev s__law_shown_fraction : Stmt := top 56
abbrev s__law_shown : Stmt := top 57
abbrev s__law_above : Stmt := top 58
abbrev s__law_side : Stmt := top 59
abbrev s__law_heap : Stmt := top 60
abbrev s__law_rows : Stmt := top 61
abbrev s__law_bad : Stmt := top 62
abbrev s__law_refused : Stmt := top 63
abbrev s_law : Stmt := top 64
structure Bl (mg : Str → Option Value) : Prop where
  ValueError : mg "ValueError" = none
  abs : mg "abs" = none
  all : mg "all" = none
  bool : mg "bool" = none
  int : mg "int" = none
  isinstance : mg "isinstance" = none
  len : mg "len" = none
  max : mg "max" = none
  min : mg "min" = none
  range : mg "range" = none
  str : mg "str" = none
  tuple : mg "tuple" = none
theorem bt_ValueError : bootBuiltins "ValueError" = some (.type "ValueError") := by decide +kernel
theorem bt_abs : bootBuiltins "abs" = some (.builtin "abs") := by decide +kernel
theorem bt_all : bootBuiltins "all" = some (.builtin "all") := by decide +kernel
theorem bt_bool : bootBuiltins "bool" = some (.type "bool") := by decide +kernel
theorem bt_int : bootBuiltins "int" = some (.type "int") := by decide +kernel
theorem bt_isinstance : bootBuiltins "isinstance" = some (.builtin "isinstance") := by decide +kernel
theorem bt_max : bootBuiltins "max" = some (.builtin "max") := by decide +kernel
theorem bt_min : bootBuiltins "min" = some (.builtin "min") := by decide +kernel
theorem bt_str : bootBuiltins "str" = some (.type "str") := by decide +kernel
theorem bt_tuple : bootBuiltins "tuple" = some (.type "tuple") := by decide +kernel
structure Cs where
  YardError : Addr
  NoLength : Addr
  NoBoard : Addr
  NoText : Addr
  NoDeed : Addr
  NoName : Addr
  Grain : Addr
  Unfit : Addr
  TooMany : Addr
  NoRow : Addr
  Apart : Addr
structure Xs (K : PySem.W.Frag) (mg : Str → Option Value) (cs : Cs) : Prop where
  m_YardError : mg "YardError" = some (.ref cs.YardError)
  m_NoLength : mg "NoLength" = some (.ref cs.NoLength)
  m_NoBoard : mg "NoBoard" = some (.ref cs.NoBoard)
  m_NoText : mg "NoText" = some (.ref cs.NoText)
  m_NoDeed : mg "NoDeed" = some (.ref cs.NoDeed)
  m_NoName : mg "NoName" = some (.ref cs.NoName)
  m_Grain : mg "Grain" = some (.ref cs.Grain)
  m_Unfit : mg "Unfit" = some (.ref cs.Unfit)
  m_TooMany : mg "TooMany" = some (.ref cs.TooMany)
  m_NoRow : mg "NoRow" = some (.ref cs.NoRow)
  m_Apart : mg "Apart" = some (.ref cs.Apart)
  o_YardError : XOk K cs.YardError
  o_NoText : XOk K cs.NoText
  s_NoText : PySem.W.mroIn K cs.NoText (.ref cs.YardError) = some true
  k_NoText_YardError : PySem.W.kitOne K (.ref cs.NoText) (.ref cs.YardError) = some true
  k_NoText_NoLength : PySem.W.kitOne K (.ref cs.NoText) (.ref cs.NoLength) = some false
  k_NoText_NoBoard : PySem.W.kitOne K (.ref cs.NoText) (.ref cs.NoBoard) = some false
  k_NoText_NoText : PySem.W.kitOne K (.ref cs.NoText) (.ref cs.NoText) = some true
  k_NoText_NoDeed : PySem.W.kitOne K (.ref cs.NoText) (.ref cs.NoDeed) = some false
  k_NoText_NoName : PySem.W.kitOne K (.ref cs.NoText) (.ref cs.NoName) = some false
  k_NoText_Grain : PySem.W.kitOne K (.ref cs.NoText) (.ref cs.Grain) = some false
  k_NoText_Unfit : PySem.W.kitOne K (.ref cs.NoText) (.ref cs.Unfit) = some false
  k_NoText_TooMany : PySem.W.kitOne K (.ref cs.NoText) (.ref cs.TooMany) = some false
  k_NoText_NoRow : PySem.W.kitOne K (.ref cs.NoText) (.ref cs.NoRow) = some false
  k_NoText_Apart : PySem.W.kitOne K (.ref cs.NoText) (.ref cs.Apart) = some false
  k_NoText_ValueError : PySem.W.kitOne K (.ref cs.NoText) (.type "ValueError") = some true
theorem k_plus : (Str.ofString "+") = sOf [43] := by decide +kernel
theorem k_r : (Str.ofString "r") = sOf [114] := by decide +kernel
theorem k_one : (Str.ofString "1") = sOf [49] := by decide +kernel
def rtl (d t b : Int) : List Nat := if t = 1 ∧ b = 1 then [114] ++ digs d.natAbs else if t = -1 ∧ b = 1 then [45, 114] ++ digs d.natAbs else ftl t b ++ [114] ++ digs d.natAbs
def lnl (d t b t' b' : Int) : List Nat := if t' = 0 then ftl t b else if t = 0 then rtl d t' b' else ftl t b ++ (if 0 < t' then [43] else []) ++ rtl d t' b'
def ahl (t b : Int) : List Nat := if t = 1 ∧ b = 1 then [] else ftl t b
def ab (t : Int) : Int := if t < 0 then -t else t
theorem ab_110 {t : Int} (h : Bd 110 t) : Bd 110 (ab t) := h.abs
theorem d110 {n : Int} (h : Bd 110 n) : (digs n.natAbs).length ≤ 34 := digs_len (by decide) (Nat.lt_trans h (by decide +kernel))
theorem t110 {n : Int} (h : Bd 110 n) : (txl n).length ≤ 35 := by
  have := d110 h
  unfold txl
  rw [List.length_append]
  split
  · simp only [List.length_cons, List.length_nil]; omega
  · simp only [List.length_nil]; omega
theorem f110 {t b : Int} (h : Bd 110 t) (h' : Bd 110 b) : (ftl t b).length ≤ 71 := by
  have := t110 h
  have := t110 h'
  unfold ftl
  split
  · omega
  · rw [List.length_append, List.length_append]
    simp only [List.length_cons, List.length_nil]
    omega
theorem r2 {d : Int} (h : 2 ≤ d ∧ d ≤ 99) : (digs d.natAbs).length ≤ 2 := by
  have e : (10 : Nat) ^ 2 = 100 := by decide
  exact digs_len (by decide) (by rw [e]; omega)
theorem i_fIntA {σ : L2.St} {H : Hp} {Q : VK} {t : TF} {l : List Nat} {i : Int} (h0 : 0 ≤ i) (hb : Bd 1000 i) (h : l.length + (digs i.natAbs).length ≤ 1000) (q : t σ H (sOf (l ++ digs i.natAbs)) Q) : i.natAbs.log2 < 1920 ∧ (sOf l ++ (toString i : Str)).length ≤ sizeLine ∧ t σ H (sOf l ++ (toString i : Str)) Q := by
  have e := str_num h0
  unfold dtx at e
  refine ⟨Nat.lt_of_le_of_lt hb.log (by decide), ?_, ?_⟩
  · rw [e, str_app, str_len, List.length_append]; exact line_le h
  · rw [e, str_app]; exact q
theorem rt110 {d t b : Int} (hd : 2 ≤ d ∧ d ≤ 99) (h : Bd 110 t) (h' : Bd 110 b) : (rtl d t b).length ≤ 80 := by
  have := r2 hd
  have := f110 h h'
  unfold rtl
  split
  · simp only [List.length_append, List.length_cons, List.length_nil]; omega
  · split
    · simp only [List.length_append, List.length_cons, List.length_nil]; omega
    · simp only [List.length_append, List.length_cons, List.length_nil]; omega
theorem ftl_neg {t b : Int} (h : t < 0) : ftl t b = 45 :: ftl (ab t) b := by
  have e : txl t = 45 :: txl (ab t) := by
    unfold ab
    rw [if_pos h, txl_neg h, txl_nn (show 0 ≤ -t by omega), Int.natAbs_neg]
  unfold ftl
  split
  · exact e
  · rw [e]; rfl
theorem rtl_law {d t b : Int} (h : t ≠ 0) : (if t < 0 then [45] else []) ++ ahl (ab t) b ++ [114] ++ digs d.natAbs = rtl d t b := by
  unfold rtl ahl
  by_cases n : t < 0
  · have ea : ab t = -t := if_pos n
    rw [if_pos n, if_neg (show ¬ (t = 1 ∧ b = 1) by omega)]
    by_cases c : t = -1 ∧ b = 1
    · rw [if_pos c, if_pos (show ab t = 1 ∧ b = 1 by omega)]
      rfl
    · rw [if_neg c, if_neg (show ¬ (ab t = 1 ∧ b = 1) by omega), ftl_neg n]
      simp
  · have ea : ab t = t := if_neg n
    rw [if_neg n, ea]
    by_cases c : t = 1 ∧ b = 1
    · rw [if_pos c, if_pos c]
      rfl
    · rw [if_neg c, if_neg c, if_neg (show ¬ (t = -1 ∧ b = 1) by omega)]
      simp
theorem ah_len {t b : Int} (h : Bd 110 t) (h' : Bd 110 b) : (ahl t b).length ≤ 71 := by
  unfold ahl
  split
  · simp
  · exact f110 h h'
theorem one_iff {t b : Int} (ht : 0 < t) (hb : 1 ≤ b) : sOf (ftl t b) = sOf [49] ↔ (t = 1 ∧ b = 1) := by
  constructor
  · intro h
    have h1 : ftl t b = [49] := by
      have := congrArg (fun (z : Str) => z.cps.toList) h
      simpa using this
    unfold ftl at h1
    by_cases c : b = 1
    · rw [if_pos c, txl_nn (by omega)] at h1
      refine ⟨?_, c⟩
      by_cases l : t.natAbs < 10
      · rw [digs_lt l] at h1
        have : 48 + t.natAbs = 49 := by simpa using h1
        omega
      · rw [digs_step (by omega)] at h1
        have h2 := congrArg List.length h1
        rw [List.length_append] at h2
        have h3 : 0 < (digs (t.natAbs / 10)).length := List.length_pos_iff.mpr (digs_ne _)
        simp only [List.length_cons, List.length_nil] at h2
        omega
    · rw [if_neg c] at h1
      have h2 := congrArg List.length h1
      rw [List.length_append, List.length_append] at h2
      simp only [List.length_cons, List.length_nil] at h2
      have h3 : 0 < (txl b).length := by
        rw [txl_nn (by omega)]
        exact List.length_pos_iff.mpr (digs_ne _)
      omega
  · rintro ⟨rfl, rfl⟩
    decide +kernel
theorem repl_sign (n : Bool) : Txt.replace (sOf (if n = true then [45] else [43])) (sOf [43]) (Str.ofString "") = sOf (if n = true then [45] else []) := by
  cases n <;> decide +kernel
theorem pickP {k : Bool} : atI [V.str (sOf [43]), V.str (sOf [45])] (if k = true then 1 else 0) = some (.str (sOf (if k = true then [45] else [43]))) := by cases k <;> rfl
theorem k_figs : Str.ofString "0123456789" = sOf [48, 49, 50, 51, 52, 53, 54, 55, 56, 57] := by decide +kernel
theorem k_nought : Str.ofString "0" = sOf [48] := by decide +kernel
theorem fig_mem {c : Nat} (h : 48 ≤ c ∧ c ≤ 57) : decide (c ∈ [48, 49, 50, 51, 52, 53, 54, 55, 56, 57]) = true := by
  have : c = 48 ∨ c = 49 ∨ c = 50 ∨ c = 51 ∨ c = 52 ∨ c = 53 ∨ c = 54 ∨ c = 55 ∨ c = 56 ∨ c = 57 := by omega
  rcases this with rfl | rfl | rfl | rfl | rfl | rfl | rfl | rfl | rfl | rfl <;> decide
theorem digs_all (n : Nat) : NumText.AllDigits (digs n) := fun c hc => digs_mem n c hc
theorem ftl_mem {t b : Int} (hb : 1 ≤ b) {c : Nat} (h : c ∈ ftl t b) : (48 ≤ c ∧ c ≤ 57) ∨ c = 47 ∨ (c = 45 ∧ t < 0) := by
  have one : ∀ {n : Int} {c : Nat}, c ∈ txl n → (48 ≤ c ∧ c ≤ 57) ∨ (c = 45 ∧ n < 0) := fun {n c} h => by
    by_cases z : n < 0
    · rw [txl_neg z] at h
      rcases List.mem_cons.mp h with h | h
      · exact .inr ⟨h, z⟩
      · exact .inl (digs_mem _ c h)
    · rw [txl_nn (by omega)] at h
      exact .inl (digs_mem _ c h)
  unfold ftl at h
  split at h
  · rcases one h with h | h
    · exact .inl h
    · exact .inr (.inr h)
  · rw [List.append_assoc] at h
    rcases List.mem_append.mp h with h | h
    · rcases one h with h | h
      · exact .inl h
      · exact .inr (.inr h)
    · rcases List.mem_append.mp h with h | h
      · exact .inr (.inl (by simpa using h))
      · rcases one h with h | h
        · exact .inl h
        · omega
theorem ftl_no {t b : Int} (hb : 1 ≤ b) {c : Nat} (h : c = 43 ∨ c = 114) : c ∉ ftl t b := fun z => by have := ftl_mem hb z; omega
theorem ftl_noD {t b : Int} (h0 : 0 ≤ t) (hb : 1 ≤ b) : 45 ∉ ftl t b := fun z => by have := ftl_mem hb z; omega
theorem ftl_ne {t b : Int} : ftl t b ≠ [] := by
  have one : ∀ {n : Int}, txl n ≠ [] := fun {n} e => by
    unfold txl at e
    exact digs_ne _ (List.append_eq_nil_iff.mp e).2
  unfold ftl
  split
  · exact one
  · intro e
    rw [List.append_assoc] at e
    exact one (List.append_eq_nil_iff.mp e).1
theorem ahl_mem {t b : Int} {c : Nat} (h : c ∈ ahl t b) : c ∈ ftl t b := by
  unfold ahl at h
  split at h
  · exact absurd h (by simp)
  · exact h
theorem ab_nn (t : Int) : 0 ≤ ab t := by unfold ab; split <;> omega
theorem ab_gcd {t b : Int} (g : Int.gcd t b = 1) : Int.gcd (ab t) b = 1 := by
  unfold ab
  split
  · rw [Int.neg_gcd]; exact g
  · exact g
theorem ahl_no {t b : Int} (hb : 1 ≤ b) {c : Nat} (h : c = 43 ∨ c = 45 ∨ c = 114) : c ∉ ahl (ab t) b := fun z => by
  have := ftl_mem hb (ahl_mem z)
  have := ab_nn t
  omega
theorem i_rf {x y : Str} {H : Hp} {Q : VK} (q : Q (.int (Txt.rfind x y)) H) : rRf (.str x) [.str y] H Q := ⟨x, y, rfl, rfl, q⟩
theorem jt_low {g A : List Nat} (hg : g = [] ∨ g = [45]) (h1 : 43 ∉ A) (h2 : 45 ∉ A) : (if Txt.rfind (sOf (g ++ A)) (sOf [45]) > Txt.rfind (sOf (g ++ A)) (sOf [43]) then Txt.rfind (sOf (g ++ A)) (sOf [45]) else Txt.rfind (sOf (g ++ A)) (sOf [43])) < 1 := by
  rcases hg with rfl | rfl
  · have e1 : Txt.rfind (sOf ([] ++ A)) (sOf [43]) = -1 := rf_no h1
    have e2 : Txt.rfind (sOf ([] ++ A)) (sOf [45]) = -1 := rf_no h2
    rw [e1, e2]
    decide
  · have e1 : Txt.rfind (sOf ([45] ++ A)) (sOf [43]) = -1 := rf_no (fun z => by rcases List.mem_cons.mp z with z | z; exact absurd z (by decide); exact h1 z)
    have e2 : Txt.rfind (sOf ([45] ++ A)) (sOf [45]) = (([] : List Nat).length : Int) := rf_at (l := []) h2
    rw [e1, e2]
    decide
theorem jt_at {F g A : List Nat} (hF : F ≠ []) (hg : g = [43] ∧ (45 ∉ F ∨ ∃ F', F = 45 :: F' ∧ 45 ∉ F') ∨ g = [45]) (h3 : 43 ∉ F) (h1 : 43 ∉ A) (h2 : 45 ∉ A) : (if Txt.rfind (sOf (F ++ (g ++ A))) (sOf [45]) > Txt.rfind (sOf (F ++ (g ++ A))) (sOf [43]) then Txt.rfind (sOf (F ++ (g ++ A))) (sOf [45]) else Txt.rfind (sOf (F ++ (g ++ A))) (sOf [43])) = (F.length : Int) := by
  have hp : 0 < F.length := List.length_pos_iff.mpr hF
  rcases hg with ⟨rfl, hd⟩ | rfl
  · have e1 : Txt.rfind (sOf (F ++ ([43] ++ A))) (sOf [43]) = (F.length : Int) := rf_at h1
    rw [e1]
    have h4 : 45 ∉ ([43] ++ A : List Nat) := fun z => by rcases List.mem_cons.mp z with z | z; exact absurd z (by decide); exact h2 z
    have e2 : Txt.rfind (sOf (F ++ ([43] ++ A))) (sOf [45]) ≤ 0 := by
      rcases hd with hd | ⟨F', rfl, hd⟩
      · have : Txt.rfind (sOf (F ++ ([43] ++ A))) (sOf [45]) = -1 := rf_no (fun z => by rcases List.mem_append.mp z with z | z; exact hd z; exact h4 z)
        omega
      · have : Txt.rfind (sOf ((45 :: F') ++ ([43] ++ A))) (sOf [45]) = (([] : List Nat).length : Int) := show Txt.rfind (sOf ([] ++ 45 :: (F' ++ ([43] ++ A)))) (sOf [45]) = _ from rf_at (l := []) (r := F' ++ ([43] ++ A)) (fun z => by rcases List.mem_append.mp z with z | z; exact hd z; exact h4 z)
        rw [this]
        decide
    rw [if_neg (by omega)]
  · have e1 : Txt.rfind (sOf (F ++ ([45] ++ A))) (sOf [45]) = (F.length : Int) := rf_at h2
    have e2 : Txt.rfind (sOf (F ++ ([45] ++ A))) (sOf [43]) = -1 := rf_no (fun z => by
      rcases List.mem_append.mp z with z | z
      · exact h3 z
      · rcases List.mem_cons.mp z with z | z
        · exact absurd z (by decide)
        · exact h1 z)
    rw [e1, e2, if_pos (by omega)]
theorem lnl_low {d t b t' b' : Int} (c : t' ≠ 0) (c2 : t = 0) : lnl d t b t' b' = ((if t' < 0 then [45] else []) ++ ahl (ab t') b') ++ 114 :: digs d.natAbs := by
  have e : lnl d t b t' b' = rtl d t' b' := by unfold lnl; rw [if_neg c, if_pos c2]
  rw [e, ← rtl_law c]
  simp
theorem lnl_both {d t b t' b' : Int} (c : t' ≠ 0) (c2 : t ≠ 0) : lnl d t b t' b' = (ftl t b ++ ((if t' < 0 then [45] else [43]) ++ ahl (ab t') b')) ++ 114 :: digs d.natAbs := by
  have e : lnl d t b t' b' = ftl t b ++ (if 0 < t' then [43] else []) ++ rtl d t' b' := by unfold lnl; rw [if_neg c, if_neg c2]
  rw [e, ← rtl_law c]
  by_cases n : t' < 0
  · rw [if_pos n, if_pos n, if_neg (show ¬ 0 < t' by omega)]
    simp
  · rw [if_neg n, if_neg n, if_pos (show 0 < t' by omega)]
    simp
theorem sOf_inj {a b : List Nat} (h : sOf a = sOf b) : a = b := by
  have h1 := congrArg (fun x => x.cps.toList) h
  simpa [sOf] using h1
def isD (c : Nat) : Bool := decide (48 ≤ c ∧ c ≤ 57)
theorem all_isD {l : List Nat} : l.all isD = true ↔ NumText.AllDigits l := by
  rw [List.all_eq_true]
  exact ⟨fun h c hc => of_decide_eq_true (h c hc), fun h c hc => decide_eq_true (h c hc)⟩
def rwh (l : List Nat) : Option Nat := if l = [] then none else if l.all isD = true then some (NumText.digitsVal l) else none
def pre1 (c : Nat) : List Nat → List Nat
  | [] => []
  | x :: l => if x = c then [] else x :: pre1 c l
def pos1 (c : Nat) : List Nat → List Nat
  | [] => []
  | x :: l => if x = c then l else pos1 c l
theorem cut1 {c : Nat} : ∀ {l : List Nat}, c ∈ l → l = pre1 c l ++ c :: pos1 c l
  | x :: l, h => by
    unfold pre1 pos1
    by_cases e : x = c
    · rw [if_pos e, if_pos e, e]; rfl
    · rw [if_neg e, if_neg e, List.cons_append, ← cut1 ((List.mem_cons.mp h).resolve_left fun z => e z.symm)]
theorem pre_no {c : Nat} : ∀ {l : List Nat}, c ∉ pre1 c l
  | [] => fun h => nomatch h
  | x :: l => fun h => by
    unfold pre1 at h
    by_cases e : x = c
    · rw [if_pos e] at h; exact nomatch h
    · rw [if_neg e] at h
      rcases List.mem_cons.mp h with h | h
      · exact e h.symm
      · exact pre_no h
theorem pre_len {c : Nat} : ∀ {l : List Nat}, (pre1 c l).length ≤ l.length
  | [] => Nat.le_refl _
  | x :: l => by
    unfold pre1
    split
    · exact Nat.zero_le _
    · have := pre_len (c := c) (l := l)
      simp only [List.length_cons]
      omega
theorem pos_len {c : Nat} : ∀ {l : List Nat}, (pos1 c l).length ≤ l.length
  | [] => Nat.le_refl _
  | x :: l => by
    unfold pos1
    split
    · exact Nat.le_succ _
    · have := pos_len (c := c) (l := l)
      simp only [List.length_cons]
      omega
theorem pre_at {c : Nat} : ∀ {a b : List Nat}, c ∉ a → pre1 c (a ++ c :: b) = a ∧ pos1 c (a ++ c :: b) = b
  | [], b, _ => by
    show pre1 c (c :: b) = [] ∧ pos1 c (c :: b) = b
    unfold pre1 pos1
    rw [if_pos rfl, if_pos rfl]
    exact ⟨rfl, rfl⟩
  | x :: a, b, h => by
    have e : x ≠ c := fun e => h (by rw [e]; exact List.mem_cons_self)
    have ih := pre_at (c := c) (a := a) (b := b) fun z => h (List.mem_cons_of_mem _ z)
    show pre1 c (x :: (a ++ c :: b)) = x :: a ∧ pos1 c (x :: (a ++ c :: b)) = b
    unfold pre1 pos1
    rw [if_neg e, if_neg e, ih.1, ih.2]
    exact ⟨rfl, rfl⟩
abbrev FF := Int × Int
def ngf (x : FF) : FF := (-x.1, x.2)
def rfa2 (B A : List Nat) : Option FF := match rwh B with
  | none => none
  | some b => if b = 0 then none else match rwh A with
    | none => none
    | some t => some (fT (t : Int) (b : Int), fB (t : Int) (b : Int))
theorem rfa2_b {A B : List Nat} (h : rwh B = none) : rfa2 B A = none := by unfold rfa2; rw [h]
theorem rfa2_0 {A B : List Nat} {b : Nat} (h : rwh B = some b) (z : b = 0) : rfa2 B A = none := by unfold rfa2; rw [h]; exact if_pos z
theorem rfa2_a {A B : List Nat} {b : Nat} (h : rwh B = some b) (n : b ≠ 0) (h' : rwh A = none) : rfa2 B A = none := by unfold rfa2; rw [h, h']; exact if_neg n
theorem rfa2_s {A B : List Nat} {b t : Nat} (h : rwh B = some b) (n : b ≠ 0) (h' : rwh A = some t) : rfa2 B A = some (fT (t : Int) (b : Int), fB (t : Int) (b : Int)) := by unfold rfa2; rw [h, h']; exact if_neg n
def rfa (l : List Nat) : Option FF := if 47 ∈ l then rfa2 (pos1 47 l) (pre1 47 l) else (rwh l).map fun t : Nat => (((t : Nat) : Int), (1 : Int))
def rfr (l : List Nat) : Option FF := if l[0]? = some 45 then (rfa (l.drop 1)).map ngf else rfa l
def hiT (l : List Nat) : List Nat := if l[0]? = some 43 ∨ l[0]? = some 45 then l.drop 1 else l
def rrt (l : List Nat) : Option FF := ((if hiT l = [] then some (1, 1) else rfa (hiT l))).map fun x => if l[0]? = some 45 then ngf x else x
def jnt (l : List Nat) : Int := if Txt.rfind (sOf l) (sOf [45]) > Txt.rfind (sOf l) (sOf [43]) then Txt.rfind (sOf l) (sOf [45]) else Txt.rfind (sOf l) (sOf [43])
def rbp2 (w : List Nat) : Option (FF × FF) :=
  if jnt w < 1 then (rrt w).map fun y => ((0, 1), y)
  else match rfr (w.take (jnt w).toNat) with
    | none => none
    | some x => (rrt (w.drop (jnt w).toNat)).map fun y => (x, y)
def rbp (d : Int) (l : List Nat) : Option (FF × FF) :=
  if 114 ∈ l then
    if pos1 114 l = digs d.natAbs then rbp2 (pre1 114 l) else none
  else (rfr l).map fun x => (x, (0, 1))
theorem rf_in {c : Nat} (l : List Nat) : -1 ≤ Txt.rfind (sOf l) (sOf [c]) ∧ Txt.rfind (sOf l) (sOf [c]) < (l.length : Int) := by
  by_cases h : c ∈ l
  · have hr : c ∈ l.reverse := List.mem_reverse.mpr h
    have e := cut1 hr
    have n := pre_no (c := c) (l := l.reverse)
    have e2 : l = (pos1 c l.reverse).reverse ++ c :: (pre1 c l.reverse).reverse := by
      conv => lhs; rw [← List.reverse_reverse l, e]
      simp
    have e3 : Txt.rfind (sOf l) (sOf [c]) = ((pos1 c l.reverse).reverse.length : Int) := by
      conv => lhs; rw [e2]
      exact rf_at fun z => n (List.mem_reverse.mp z)
    have e4 : l.length = (pos1 c l.reverse).reverse.length + (1 + (pre1 c l.reverse).reverse.length) := by
      conv => lhs; rw [e2]
      rw [List.length_append, List.length_cons]
      omega
    omega
  · have : Txt.rfind (sOf l) (sOf [c]) = -1 := rf_no h
    have := List.length_pos_iff (l := l)
    rw [‹Txt.rfind _ _ = -1›]
    omega
theorem jnt_in (l : List Nat) : jnt l ≤ (l.length : Int) := by
  have h1 := rf_in (c := 43) l
  have h2 := rf_in (c := 45) l
  unfold jnt
  split <;> omega
structure Fok (x : FF) : Prop where
  b : 1 ≤ x.2
  g : Int.gcd x.1 x.2 = 1
  b1 : Bd 110 x.1
  b2 : Bd 110 x.2
theorem Fok.neg {x : FF} (h : Fok x) : Fok (ngf x) := ⟨h.b, by show Int.gcd (-x.1) x.2 = 1; rw [Int.neg_gcd]; exact h.g, h.b1.neg, h.b2⟩
theorem fok0 : Fok (0, 1) := ⟨by decide, by decide, by decide, by decide⟩
theorem fok1 : Fok (1, 1) := ⟨by decide, by decide, by decide, by decide⟩
theorem rwh_ok {l : List Nat} {n : Nat} (h : rwh l = some n) : l ≠ [] ∧ NumText.AllDigits l ∧ n = NumText.digitsVal l := by
  unfold rwh at h
  split at h
  · exact nomatch h
  · split at h
    · exact ⟨‹_›, all_isD.mp ‹_›, (Option.some.inj h).symm⟩
    · exact nomatch h
theorem dv110 {l : List Nat} (h : NumText.AllDigits l) (hl : l.length ≤ 33) : Bd 110 ((NumText.digitsVal l : Nat) : Int) := by
  have h1 := dv_lt h
  have h2 : 10 ^ l.length ≤ 10 ^ 33 := Nat.pow_le_pow_right (by decide) hl
  have h3 : (10 : Nat) ^ 33 < 2 ^ 110 := by decide +kernel
  show ((NumText.digitsVal l : Nat) : Int).natAbs < 2 ^ 110
  rw [Int.natAbs_natCast]
  exact Nat.lt_trans (Nat.lt_of_lt_of_le h1 h2) h3
theorem rfa_ok {l : List Nat} {x : FF} (hl : l.length ≤ 33) (h : rfa l = some x) : 0 ≤ x.1 ∧ Fok x := by
  have lp := pos_len (c := 47) (l := l)
  have lq := pre_len (c := 47) (l := l)
  unfold rfa at h
  split at h
  · cases hb : rwh (pos1 47 l) with
    | none => rw [rfa2_b hb] at h; exact nomatch h
    | some b =>
      by_cases b0 : b = 0
      · rw [rfa2_0 hb b0] at h; exact nomatch h
      cases ht : rwh (pre1 47 l) with
      | none => rw [rfa2_a hb b0 ht] at h; exact nomatch h
      | some t =>
        rw [rfa2_s hb b0 ht] at h
        obtain ⟨_, db, rfl⟩ := rwh_ok hb
        obtain ⟨_, dt, rfl⟩ := rwh_ok ht
        have := Option.some.inj h
        subst this
        have b1 : Bd 110 ((NumText.digitsVal (pos1 47 l) : Nat) : Int) := dv110 db (by omega)
        have t1 : Bd 110 ((NumText.digitsVal (pre1 47 l) : Nat) : Int) := dv110 dt (by omega)
        have nb : ((NumText.digitsVal (pos1 47 l) : Nat) : Int) ≠ 0 := by omega
        refine ⟨?_, f_b nb, f_gcd nb, t1.fdiv _, b1.fdiv _⟩
        show 0 ≤ fT _ _
        unfold fT fg
        rw [if_neg (by omega)]
        exact Int.fdiv_nonneg (by omega) (by omega)
  · obtain ⟨t, ht, rfl⟩ := Option.map_eq_some_iff.mp h
    obtain ⟨_, dt, rfl⟩ := rwh_ok ht
    exact ⟨Int.natCast_nonneg _, show (1 : Int) ≤ 1 by decide, Int.gcd_one, dv110 dt hl, show Bd 110 1 by decide⟩
theorem rfr_ok {l : List Nat} {x : FF} (hl : l.length ≤ 33) (h : rfr l = some x) : Fok x := by
  unfold rfr at h
  split at h
  · obtain ⟨y, hy, rfl⟩ := Option.map_eq_some_iff.mp h
    exact (rfa_ok (by rw [List.length_drop]; omega) hy).2.neg
  · exact (rfa_ok hl h).2
theorem hiT_len (l : List Nat) : (hiT l).length ≤ l.length := by
  unfold hiT
  split
  · rw [List.length_drop]; omega
  · exact Nat.le_refl _
theorem rrt_ok {l : List Nat} {x : FF} (hl : l.length ≤ 33) (h : rrt l = some x) : Fok x := by
  have := hiT_len l
  unfold rrt at h
  obtain ⟨y, hy, rfl⟩ := Option.map_eq_some_iff.mp h
  have oy : Fok y := by
    split at hy
    · rw [← Option.some.inj hy]; exact fok1
    · exact (rfa_ok (by omega) hy).2
  split
  · exact oy.neg
  · exact oy
theorem rbp_ok {d : Int} {l : List Nat} {x y : FF} (hl : l.length ≤ 33) (h : rbp d l = some (x, y)) : Fok x ∧ Fok y := by
  have := pre_len (c := 114) (l := l)
  unfold rbp at h
  split at h
  · split at h
    · unfold rbp2 at h
      split at h
      · obtain ⟨z, hz, e⟩ := Option.map_eq_some_iff.mp h
        cases e
        exact ⟨fok0, rrt_ok (by omega) hz⟩
      · split at h
        · exact nomatch h
        · rename_i u hu
          obtain ⟨z, hz, e⟩ := Option.map_eq_some_iff.mp h
          cases e
          exact ⟨rfr_ok (by rw [List.length_take]; omega) hu, rrt_ok (by rw [List.length_drop]; omega) hz⟩
    · exact nomatch h
  · obtain ⟨z, hz, e⟩ := Option.map_eq_some_iff.mp h
    cases e
    exact ⟨rfr_ok hl hz, fok0⟩
def okT (d : Int) (l : List Nat) : Bool := match rbp d l with
  | none => false
  | some (x, y) => decide (lnl d x.1 x.2 y.1 y.2 = l)
theorem okT_not {d : Int} {l : List Nat} (hl : l.length ≤ 33) (h : ∀ x y : FF, Fok x → Fok y → lnl d x.1 x.2 y.1 y.2 ≠ l) : okT d l = false := by
  unfold okT
  split
  · rfl
  · rename_i x y e
    obtain ⟨ox, oy⟩ := rbp_ok hl e
    exact decide_eq_false (h x y ox oy)
theorem txl_mem {n : Int} {c : Nat} (h : c ∈ txl n) : (48 ≤ c ∧ c ≤ 57) ∨ (c = 45 ∧ n < 0) := by
  by_cases z : n < 0
  · rw [txl_neg z] at h
    rcases List.mem_cons.mp h with h | h
    · exact .inr ⟨h, z⟩
    · exact .inl (digs_mem _ c h)
  · rw [txl_nn (by omega)] at h
    exact .inl (digs_mem _ c h)
theorem lnl_form {d : Int} {x y : FF} : (y.1 = 0 ∧ lnl d x.1 x.2 y.1 y.2 = ftl x.1 x.2) ∨ (y.1 ≠ 0 ∧ x.1 = 0 ∧ lnl d x.1 x.2 y.1 y.2 = ((if y.1 < 0 then [45] else []) ++ ahl (ab y.1) y.2) ++ 114 :: digs d.natAbs) ∨ (y.1 ≠ 0 ∧ x.1 ≠ 0 ∧ lnl d x.1 x.2 y.1 y.2 = (ftl x.1 x.2 ++ ((if y.1 < 0 then [45] else [43]) ++ ahl (ab y.1) y.2)) ++ 114 :: digs d.natAbs) := by
  by_cases c : y.1 = 0
  · exact .inl ⟨c, if_pos c⟩
  · by_cases c2 : x.1 = 0
    · exact .inr (.inl ⟨c, c2, lnl_low c c2⟩)
    · exact .inr (.inr ⟨c, c2, lnl_both c c2⟩)
theorem sg_mem {b : Prop} [Decidable b] {c : Nat} {m : List Nat} (hm : m = [] ∨ m = [43]) (h : c ∈ (if b then [45] else m)) : c = 45 ∨ c = 43 := by
  split at h
  · exact .inl (by simpa using h)
  · rcases hm with rfl | rfl
    · exact nomatch h
    · exact .inr (by simpa using h)
theorem lnl_mem {d : Int} {x y : FF} (ox : Fok x) (oy : Fok y) {c : Nat} (h : c ∈ lnl d x.1 x.2 y.1 y.2) : (48 ≤ c ∧ c ≤ 57) ∨ c = 47 ∨ c = 45 ∨ c = 43 ∨ c = 114 := by
  have fm : ∀ {t b : Int}, 1 ≤ b → c ∈ ftl t b → (48 ≤ c ∧ c ≤ 57) ∨ c = 47 ∨ c = 45 ∨ c = 43 ∨ c = 114 := fun hb z => by have := ftl_mem hb z; omega
  have dm : c ∈ 114 :: digs d.natAbs → (48 ≤ c ∧ c ≤ 57) ∨ c = 47 ∨ c = 45 ∨ c = 43 ∨ c = 114 := fun z => by
    rcases List.mem_cons.mp z with z | z
    · omega
    · have := digs_mem _ _ z; omega
  rcases lnl_form (d := d) (x := x) (y := y) with ⟨_, e⟩ | ⟨_, _, e⟩ | ⟨_, _, e⟩
  · rw [e] at h; exact fm ox.b h
  · rw [e] at h
    rcases List.mem_append.mp h with h | h
    · rcases List.mem_append.mp h with h | h
      · have := sg_mem (.inl rfl) h; omega
      · exact fm oy.b (ahl_mem h)
    · exact dm h
  · rw [e] at h
    rcases List.mem_append.mp h with h | h
    · rcases List.mem_append.mp h with h | h
      · exact fm ox.b h
      · rcases List.mem_append.mp h with h | h
        · have := sg_mem (.inr rfl) h; omega
        · exact fm oy.b (ahl_mem h)
    · exact dm h
theorem low_no {y : FF} (oy : Fok y) : 114 ∉ (if y.1 < 0 then [45] else []) ++ ahl (ab y.1) y.2 := fun z => by
  rcases List.mem_append.mp z with z | z
  · have := sg_mem (.inl rfl) z; omega
  · exact ahl_no oy.b (.inr (.inr rfl)) z
theorem both_no {x y : FF} (ox : Fok x) (oy : Fok y) : 114 ∉ ftl x.1 x.2 ++ ((if y.1 < 0 then [45] else [43]) ++ ahl (ab y.1) y.2) := fun z => by
  rcases List.mem_append.mp z with z | z
  · exact ftl_no ox.b (.inr rfl) z
  · rcases List.mem_append.mp z with z | z
    · have := sg_mem (.inr rfl) z; omega
    · exact ahl_no oy.b (.inr (.inr rfl)) z
theorem lnl_tail {d : Int} {x y : FF} (ox : Fok x) (oy : Fok y) (h : 114 ∈ lnl d x.1 x.2 y.1 y.2) : y.1 ≠ 0 ∧ pos1 114 (lnl d x.1 x.2 y.1 y.2) = digs d.natAbs := by
  rcases lnl_form (d := d) (x := x) (y := y) with ⟨_, e⟩ | ⟨n, _, e⟩ | ⟨n, _, e⟩
  · rw [e] at h
    exact absurd h (ftl_no ox.b (.inr rfl))
  · rw [e]
    exact ⟨n, (pre_at (low_no oy)).2⟩
  · rw [e]
    exact ⟨n, (pre_at (both_no ox oy)).2⟩
theorem digs_last (n : Nat) : ∃ a c, digs n = a ++ [c] ∧ 48 ≤ c ∧ c ≤ 57 := by
  obtain ⟨a, c, e⟩ : ∃ a c, digs n = a ++ [c] := by
    rcases List.eq_nil_or_concat (digs n) with z | ⟨a, c, z⟩
    · exact absurd z (digs_ne n)
    · exact ⟨a, c, by rw [z, List.concat_eq_append]⟩
  exact ⟨a, c, e, digs_mem n c (by rw [e]; simp)⟩
theorem ftl_last (t b : Int) : ∃ a c, ftl t b = a ++ [c] ∧ 48 ≤ c ∧ c ≤ 57 := by
  have one : ∀ n : Int, ∃ a c, txl n = a ++ [c] ∧ 48 ≤ c ∧ c ≤ 57 := fun n => by
    obtain ⟨a, c, e, h⟩ := digs_last n.natAbs
    unfold txl
    exact ⟨_ ++ a, c, by rw [e, List.append_assoc], h⟩
  unfold ftl
  split
  · exact one t
  · obtain ⟨a, c, e, h⟩ := one b
    exact ⟨txl t ++ [47] ++ a, c, by rw [e]; simp, h⟩
theorem lnl_last {d : Int} {x y : FF} : ∃ a c, lnl d x.1 x.2 y.1 y.2 = a ++ [c] ∧ 48 ≤ c ∧ c ≤ 57 := by
  obtain ⟨a, c, e', h⟩ := digs_last d.natAbs
  rcases lnl_form (d := d) (x := x) (y := y) with ⟨_, e⟩ | ⟨n, _, e⟩ | ⟨n, _, e⟩
  · rw [e]; exact ftl_last _ _
  · exact ⟨_, c, by rw [e, e', ← List.cons_append, ← List.append_assoc], h⟩
  · exact ⟨_, c, by rw [e, e', ← List.cons_append, ← List.append_assoc], h⟩
theorem digs_inj {n m : Nat} (h : digs n = digs m) : n = m := by rw [← dv_digs n, h, dv_digs]
theorem txl_no {n : Int} {c : Nat} (h : c = 47 ∨ c = 114 ∨ c = 43) : c ∉ txl n := fun z => by have := txl_mem z; omega
theorem ftl_cut {t b : Int} (hb : 1 ≤ b) (h : 47 ∈ ftl t b) : b ≠ 1 ∧ pre1 47 (ftl t b) = txl t ∧ pos1 47 (ftl t b) = digs b.natAbs := by
  unfold ftl at h ⊢
  split at h
  · exact absurd h (txl_no (.inl rfl))
  · rename_i n
    rw [if_neg n, List.append_assoc, List.singleton_append, txl_nn (show 0 ≤ b by omega)]
    exact ⟨n, pre_at (txl_no (.inl rfl))⟩
theorem bad_sign {d : Int} {l : List Nat} {c : Nat} (hl : l.length ≤ 33) (hc : c ∈ l) (h : ¬ ((48 ≤ c ∧ c ≤ 57) ∨ c = 47 ∨ c = 45 ∨ c = 43 ∨ c = 114)) : okT d l = false := okT_not hl fun x y ox oy e => h (lnl_mem (d := d) ox oy (by rw [e]; exact hc))
theorem bad_root {d : Int} {l r : List Nat} (hl : l.length ≤ 33) (hr : 114 ∈ l) (e : pos1 114 l = r) (n : r ≠ digs d.natAbs) : okT d l = false := okT_not hl fun x y ox oy z => n (by
  have := (lnl_tail (d := d) ox oy (by rw [z]; exact hr)).2
  rw [z, e] at this
  exact this)
theorem bad_last {d : Int} {a : List Nat} {c : Nat} (hl : (a ++ [c]).length ≤ 33) (h : ¬ (48 ≤ c ∧ c ≤ 57)) : okT d (a ++ [c]) = false := okT_not hl fun x y ox oy z => by
  obtain ⟨a', c', e, h'⟩ := lnl_last (d := d) (x := x) (y := y)
  rw [z] at e
  have := (List.append_inj' e rfl).2
  have : c = c' := (List.cons.inj this).1
  exact h (by rw [this]; exact h')
structure Sm (t b : Int) : Prop where
  t0 : -20 ≤ t
  t1 : t ≤ 20
  b0 : 1 ≤ b
  b1 : b ≤ 12
  g : Int.gcd t b = 1
theorem Sm.ok {t b : Int} (h : Sm t b) : Fok (t, b) := by
  have := h.t0
  have := h.t1
  have := h.b0
  have := h.b1
  exact ⟨h.b0, h.g, bd_small _ (by omega) (by omega) (by decide), bd_small _ (by omega) (by omega) (by decide)⟩
theorem digs_le {n : Nat} (h : n < 1000) : (digs n).length ≤ 3 := digs_len (by decide) (by omega)
theorem digs_le2 {n : Nat} (h : n < 100) : (digs n).length ≤ 2 := digs_len (by decide) (by omega)
theorem lnl_le {d t b t' b' : Int} (h : Sm t b) (h' : Sm t' b') (hd : 2 ≤ d ∧ d ≤ 100) : (lnl d t b t' b').length ≤ 16 ∧ lnl d t b t' b' ≠ [] := by
  obtain ⟨a1, a2, a3, a4, _⟩ := h
  obtain ⟨c1, c2, c3, c4, _⟩ := h'
  have tx : ∀ {n : Int}, 0 ≤ n → n < 100 → (txl n).length ≤ 2 := fun {n} h h' => by rw [txl_nn h]; exact digs_le2 (by omega)
  have fn : ∀ {t b : Int}, 0 ≤ t → t < 100 → 1 ≤ b → b < 100 → (ftl t b).length ≤ 5 := fun {t b} h1 h2 h3 h4 => by
    have := tx h1 h2
    have := tx (n := b) (by omega) h4
    unfold ftl
    split
    · omega
    · simp only [List.length_append, List.length_cons, List.length_nil]; omega
  have ax : ∀ {t : Int}, -20 ≤ t → t ≤ 20 → 0 ≤ ab t ∧ ab t < 100 := fun h1 h2 => by unfold ab; split <;> omega
  have l1 : (ftl t b).length ≤ 6 := by
    by_cases n : t < 0
    · rw [ftl_neg n, List.length_cons]
      have := ax a1 a2
      have := fn this.1 this.2 a3 (by omega)
      omega
    · have := fn (t := t) (b := b) (by omega) (by omega) a3 (by omega)
      omega
  have l2 : (ahl (ab t') b').length ≤ 5 := by
    have := ax c1 c2
    unfold ahl
    split
    · simp
    · exact fn this.1 this.2 c3 (by omega)
  have l3 := digs_le (n := d.natAbs) (by omega)
  rcases lnl_form (d := d) (x := (t, b)) (y := (t', b')) with ⟨_, e⟩ | ⟨_, _, e⟩ | ⟨_, _, e⟩
  · rw [e]; exact ⟨by show (ftl t b).length ≤ 16; omega, ftl_ne⟩
  · have : (if t' < 0 then [45] else [] : List Nat).length ≤ 1 := by split <;> simp
    rw [e]
    refine ⟨?_, by simp⟩
    simp only [List.length_append, List.length_cons]
    omega
  · have : (if t' < 0 then [45] else [43] : List Nat).length ≤ 1 := by split <;> simp
    rw [e]
    refine ⟨?_, by simp⟩
    simp only [List.length_append, List.length_cons]
    omega
def rIsXT (K : PySem.W.Frag) : List V → Hp → VK → Prop := fun xs H Q => ∃ (a C p : Addr) (cl : List Addr), xs = [.ref a, .ref p] ∧ H a = some (ExcO a C) ∧ H p = some (.tup (cl.map V.ref)) ∧ XOk K C ∧ (∀ c ∈ cl, PySem.W.kitOne K (.ref C) (.ref c) = some false) ∧ Q (.bl false) H
theorem vals_refs : ∀ {cl : List Addr} {its : List Value}, Vals (cl.map V.ref) its → its = cl.map Value.ref
  | [], _, .nil => rfl
  | c :: cl, _, .cons r rs => by
    rw [vals_refs rs]
    cases r
    rfl
theorem kit_none {K : PySem.W.Frag} {t : Value} : ∀ {cl : List Addr}, (∀ c ∈ cl, PySem.W.kitOne K t (.ref c) = some false) → PySem.W.kitAny K t (cl.map Value.ref) = some false
  | [], _ => rfl
  | c :: cl, h => by
    show (match PySem.W.kitOne K t (.ref c) with | some true => some true | some false => PySem.W.kitAny K t (cl.map Value.ref) | none => none) = some false
    rw [h c List.mem_cons_self]
    exact kit_none fun x hx => h x (List.mem_cons_of_mem _ hx)
theorem call_isinstXT {X : Cx} : CallR X (.builtin "isinstance") (rIsXT X.K) := by
  intro pins s σ H xs us Q I r h
  obtain ⟨a, C, p, cl, rfl, ea, ep, k, hc, q⟩ := h
  obtain ⟨u, v, rfl, ru, rv⟩ := Vals.two r
  cases ru
  cases rv
  obtain ⟨its, rs, ⟨o, eo, oc, n, od⟩, _⟩ := I.tuple (SqT.of ep)
  have ei := vals_refs rs
  obtain ⟨c1, d1, t1, sl⟩ := o
  simp only at oc od
  subst oc od
  obtain ⟨po, _, _⟩ := (show ObjOk X.prog X.w H s.heap a (ExcO a C) from I.hok a _ ea)
  exact PySem.W.kia_tup (kitx_exc k) I.kIn po eo (by rw [ei]; exact kit_none hc) (fun z => nomatch z) fun tk => ⟨.bl false, H, I.tok tk, rfl, q⟩
theorem i_isXT {K : PySem.W.Frag} {H : Hp} {Q : VK} {a C p : Addr} {cl : List Addr} {vs : List V} (ea : H a = some (ExcO a C)) (k : XOk K C) (ep : H p = some (.tup vs)) (ev : vs = cl.map V.ref) (hc : ∀ c ∈ cl, PySem.W.kitOne K (.ref C) (.ref c) = some false) (q : Q (.bl false) H) : rIsXT K [.ref a, .ref p] H Q := ⟨a, C, p, cl, rfl, ea, by rw [ep, ev], k, hc, q⟩
theorem we_op {X : Cx} {a b : Expr} {ta tb : TE} {op : Operator} {r : R2} {pos : Pos} (ho : OpR X (binaryOp op) r) (ha : WE X a ta) (hb : WE X b tb) : WE X (.BinOp a op b pos) (tOp r ta tb) := ⟨pe_op ho ha.w hb.w⟩
theorem fig_dec (c : Nat) : decide (c ∈ [48, 49, 50, 51, 52, 53, 54, 55, 56, 57]) = isD c := by
  unfold isD
  by_cases h : 48 ≤ c ∧ c ≤ 57
  · rw [decide_eq_true h]; exact fig_mem h
  · rw [decide_eq_false h]
    refine decide_eq_false fun z => h ?_
    simp only [List.mem_cons, List.not_mem_nil, or_false] at z
    omega
theorem if_d3 {p q : Prop} [Decidable p] {A B : Prop} (hB : ¬ (p ∧ q) → B) (hA : p → (¬ (p ∧ q) → B) → A) : if decide p = true then A else B := by
  by_cases h : p
  · rw [if_pos (decide_eq_true h)]; exact hA h hB
  · rw [if_neg (by rw [decide_eq_false h]; decide)]; exact hB (fun z => h z.1)
structure F4 where
  t : Int
  b : Int
  t' : Int
  b' : Int
structure F4.Ok (d : Int) (f : F4) : Prop where
  hb : 1 ≤ f.b
  hb' : 1 ≤ f.b'
  g : Int.gcd f.t f.b = 1
  g' : Int.gcd f.t' f.b' = 1
  b1 : Bd 110 f.t
  b2 : Bd 110 f.b
  b3 : Bd 110 f.t'
  b4 : Bd 110 f.b'
  up : sgn d (f.t * f.b') (f.t' * f.b) = 1
def F4At (H : Hp) (p : Addr) (f : F4) : Prop := ∃ p1 p2, H p = some (.tup [.ref p1, .ref p2]) ∧ H p1 = some (.tup [.int f.t, .int f.b]) ∧ H p2 = some (.tup [.int f.t', .int f.b'])
theorem F4At.same {H H' : Hp} {p : Addr} {f : F4} (h : F4At H p f) (s : Same H H') : F4At H' p f := let ⟨a, b, x, y, z⟩ := h; ⟨a, b, s _ _ x, s _ _ y, s _ _ z⟩
theorem F4At.sameX {H H' : Hp} {p D : Addr} {xs : List V} {f : F4} (h : F4At H p f) (s : SameX D H H') (e : H D = some (.lst xs)) : F4At H' p f := let ⟨a, b, x, y, z⟩ := h; ⟨a, b, s.tup x e, s.tup y e, s.tup z e⟩
def F4.l (f : F4) : Sd := ⟨lA (f.t * f.b') (f.t' * f.b) (f.b * f.b'), lB (f.t * f.b') (f.t' * f.b) (f.b * f.b'), lN (f.t * f.b') (f.t' * f.b) (f.b * f.b')⟩
def F4.tx (d : Int) (f : F4) : List Nat := lnl d f.t f.b f.t' f.b'
theorem F4.Ok.nn {d : Int} {f : F4} (h : f.Ok d) : 1 ≤ f.b * f.b' := Int.mul_pos (by have := h.hb; omega) (by have := h.hb'; omega)
theorem F4.Ok.sk {d : Int} {f : F4} (h : f.Ok d) : SK 430 340 f.l := by
  have n := h.nn
  have n0 : f.b * f.b' ≠ 0 := by omega
  exact ⟨l_n n0, l_gcd n0, Bd.fdiv ((h.b1.mul h.b4).mono (by decide)) _, Bd.fdiv ((h.b3.mul h.b2).mono (by decide)) _, Bd.fdiv ((h.b2.mul h.b4).mono (by decide)) _⟩
theorem F4.Ok.ups {d : Int} {f : F4} (hR : Rt d) (h : f.Ok d) : sgn d f.l.x f.l.y = 1 := (sgn_lowest hR h.nn).trans h.up
theorem lnl_len {d t b t' b' : Int} (hd : 2 ≤ d ∧ d ≤ 99) (b1 : Bd 110 t) (b2 : Bd 110 b) (b3 : Bd 110 t') (b4 : Bd 110 b') : (lnl d t b t' b').length ≤ 160 := by
  have h1 := f110 b1 b2
  have h2 := rt110 hd b3 b4
  unfold lnl
  split
  · omega
  · split
    · omega
    · rw [List.length_append, List.length_append]
      have : (if 0 < t' then [43] else [] : List Nat).length ≤ 1 := by split <;> simp
      omega
theorem lnl_mem5 {d t b t' b' : Int} (hb : 1 ≤ b) (hb' : 1 ≤ b') {c : Nat} (h : c ∈ lnl d t b t' b') : (48 ≤ c ∧ c ≤ 57) ∨ c = 47 ∨ c = 45 ∨ c = 43 ∨ c = 114 := by
  have one : ∀ {t b : Int}, 1 ≤ b → c ∈ ftl t b → (48 ≤ c ∧ c ≤ 57) ∨ c = 47 ∨ c = 45 ∨ c = 43 ∨ c = 114 := fun hb z => by have := ftl_mem hb z; omega
  have two : c ∈ rtl d t' b' → (48 ≤ c ∧ c ≤ 57) ∨ c = 47 ∨ c = 45 ∨ c = 43 ∨ c = 114 := fun z => by
    have dg : c ∈ digs d.natAbs → (48 ≤ c ∧ c ≤ 57) ∨ c = 47 ∨ c = 45 ∨ c = 43 ∨ c = 114 := fun z => .inl (digs_mem _ _ z)
    unfold rtl at z
    split at z
    · rcases List.mem_append.mp z with z | z
      · have : c = 114 := by simpa using z
        omega
      · exact dg z
    · split at z
      · rcases List.mem_append.mp z with z | z
        · simp only [List.mem_cons, List.not_mem_nil, or_false] at z
          omega
        · exact dg z
      · rcases List.mem_append.mp z with z | z
        · rcases List.mem_append.mp z with z | z
          · exact one hb' z
          · have : c = 114 := by simpa using z
            omega
        · exact dg z
  unfold lnl at h
  split at h
  · exact one hb h
  · split at h
    · exact two h
    · rcases List.mem_append.mp h with h | h
      · rcases List.mem_append.mp h with h | h
        · exact one hb h
        · split at h
          · have : c = 43 := by simpa using h
            omega
          · exact absurd h (by simp)
      · exact two h
def bo2 (x : F4 × F4) : Bo := ⟨x.1.l, x.2.l⟩
def tx2 (d : Int) (x : F4 × F4) : List Nat := jn [120] [x.1.tx d, x.2.tx d]
def Ok2 (d : Int) (x : F4 × F4) : Prop := x.1.Ok d ∧ x.2.Ok d
theorem tx_len {d : Int} {f : F4} (hd : 2 ≤ d ∧ d ≤ 99) (h : f.Ok d) : (f.tx d).length ≤ 160 := lnl_len hd h.b1 h.b2 h.b3 h.b4
theorem tx2_len {d : Int} {x : F4 × F4} (hd : 2 ≤ d ∧ d ≤ 99) (h : Ok2 d x) : (tx2 d x).length ≤ 330 := by
  have h1 := tx_len hd h.1
  have h2 := tx_len hd h.2
  show (x.1.tx d ++ [120] ++ x.2.tx d).length ≤ 330
  simp only [List.length_append, List.length_cons, List.length_nil]
  omega
theorem tx_no {d : Int} {f : F4} (h : f.Ok d) {c : Nat} (hc : c = 120 ∨ c = 59) : c ∉ f.tx d := fun z => by
  have := lnl_mem5 h.hb h.hb' z
  omega
theorem pickW {α β γ : Type} {C : List α} {W : List β} {f : α → γ} {g : β → γ} (e : C.map f = W.map g) {i : Nat} {c : α} (h : C[i]? = some c) : ∃ x, W[i]? = some x ∧ f c = g x := by
  have h2 : (C.map f)[i]? = some (f c) := by rw [List.getElem?_map, h]; rfl
  rw [e, List.getElem?_map] at h2
  cases hx : W[i]? with
  | none => rw [hx] at h2; cases h2
  | some x => rw [hx] at h2; exact ⟨x, rfl, (Option.some.inj h2).symm⟩
theorem sum_le9 {ys : List Nat} {m : Nat} (h : ∀ y ∈ ys, y ≤ m) : ys.sum ≤ ys.length * m := by
  induction ys with
  | nil => simp
  | cons y ys ih =>
    have h1 := h y List.mem_cons_self
    have h2 := ih fun z hz => h z (List.mem_cons_of_mem _ hz)
    rw [List.sum_cons, List.length_cons, Nat.add_mul]
    omega
theorem k_x : Str.ofString "x" = sOf [120] := by decide +kernel
theorem k_part : Str.ofString "; " = sOf [59, 32] := by decide +kernel
theorem rt_in {d : Int} (h : Rt d) : 2 ≤ d ∧ d ≤ 99 := by
  have := h.lo
  have := h.hi
  omega
theorem i_joinJ {K : PySem.W.Frag} {H : Hp} {Q : VK} {p : Addr} {sep : List Nat} {ps : List (List Nat)} {m : Nat} (h : H p = some (.lst ((ps.map sOf).map V.str))) (hs : sep.length ≤ 2) (hm : ∀ q ∈ ps, q.length ≤ m) (hz : ps.length * (m + 2) ≤ 16777216) (q : Q (.str (sOf (jn sep ps))) H) : rJoin K (.str (sOf sep)) [.ref p] H Q := by
  refine ⟨_, p, ps.map sOf, rfl, rfl, SqL.of h, ?_, by rw [join_jn]; exact q⟩
  have h1 : (((ps.map sOf).map (·.length)).sum) ≤ ps.length * m := by
    have := sum_le9 (ys := (ps.map sOf).map (·.length)) (m := m) (fun y hy => by
      obtain ⟨z, hz, rfl⟩ := List.mem_map.mp hy
      obtain ⟨w, hw, rfl⟩ := List.mem_map.mp hz
      rw [sOf_len]
      exact hm w hw)
    rw [List.length_map, List.length_map] at this
    exact this
  rw [List.length_map, sOf_len]
  have h2 : ps.length * sep.length ≤ ps.length * 2 := Nat.mul_le_mul_left _ hs
  rw [Nat.mul_add] at hz
  omega
structure G4 where
  p : Addr
  x : F4 × F4
def G4.v (g : G4) : V := .ref g.p
def G4.At (H : Hp) (g : G4) : Prop := ∃ pw ph, H g.p = some (.tup [.ref pw, .ref ph]) ∧ F4At H pw g.x.1 ∧ F4At H ph g.x.2
theorem G4.At.same {H H' : Hp} {g : G4} (h : g.At H) (s : Same H H') : g.At H' := let ⟨a, b, x, y, z⟩ := h; ⟨a, b, s _ _ x, y.same s, z.same s⟩
theorem G4.At.sameX {H H' : Hp} {D : Addr} {xs : List V} {g : G4} (h : g.At H) (s : SameX D H H') (e : H D = some (.lst xs)) : g.At H' := let ⟨a, b, x, y, z⟩ := h; ⟨a, b, s.tup x e, y.sameX s e, z.sameX s e⟩
theorem rwh_digs (n : Nat) : rwh (digs n) = some n := by
  unfold rwh
  rw [if_neg (digs_ne n), if_pos (all_isD.mpr (digs_all n)), dv_digs]
theorem fT_one {t b : Int} (hb : 1 ≤ b) (g : Int.gcd t b = 1) : fT t b = t ∧ fB t b = b := by
  have e : fg t b = 1 := by
    unfold fg
    rw [if_neg (by omega)]
    rw [g]
    rfl
  unfold fT fB
  rw [e]
  exact ⟨Int.fdiv_one _, Int.fdiv_one _⟩
theorem rfa_ftl {t b : Int} (ht : 0 ≤ t) (hb : 1 ≤ b) (g : Int.gcd t b = 1) : rfa (ftl t b) = some (t, b) := by
  unfold rfa
  by_cases c : 47 ∈ ftl t b
  · obtain ⟨_, h1, h2⟩ := ftl_cut hb c
    rw [if_pos c, h1, h2, txl_nn ht, rfa2_s (rwh_digs _) (by omega) (rwh_digs _)]
    have e1 : ((t.natAbs : Nat) : Int) = t := by omega
    have e2 : ((b.natAbs : Nat) : Int) = b := by omega
    rw [e1, e2, (fT_one hb g).1, (fT_one hb g).2]
  · have hb1 : b = 1 := by
      refine Classical.byContradiction fun n => c ?_
      unfold ftl
      rw [if_neg n]
      simp
    subst hb1
    rw [if_neg c, show ftl t 1 = txl t from if_pos rfl, txl_nn ht, rwh_digs]
    show some (((t.natAbs : Nat) : Int), (1 : Int)) = _
    rw [show ((t.natAbs : Nat) : Int) = t by omega]
theorem ftl_hd {t b : Int} (ht : 0 ≤ t) : ∃ c r, ftl t b = c :: r ∧ 48 ≤ c ∧ c ≤ 57 := by
  have h : ∃ c r, txl t = c :: r ∧ 48 ≤ c ∧ c ≤ 57 := by
    rw [txl_nn ht]
    cases e : digs t.natAbs with
    | nil => exact absurd e (digs_ne _)
    | cons c r =>
      have := digs_mem t.natAbs c (by rw [e]; exact List.mem_cons_self)
      exact ⟨c, r, rfl, this.1, this.2⟩
  obtain ⟨c, r, e, h⟩ := h
  unfold ftl
  split
  · exact ⟨c, r, e, h⟩
  · rw [e]
    exact ⟨c, _, rfl, h⟩
theorem ab_neg {t : Int} (h : t < 0) : ab t = -t := if_pos h
theorem ab_pos {t : Int} (h : ¬ t < 0) : ab t = t := if_neg h
theorem rfr_ftl {t b : Int} (hb : 1 ≤ b) (g : Int.gcd t b = 1) : rfr (ftl t b) = some (t, b) := by
  unfold rfr
  by_cases c : t < 0
  · rw [ftl_neg c]
    show (if some 45 = some 45 then _ else _) = _
    rw [if_pos rfl]
    show (rfa (ftl (ab t) b)).map ngf = _
    rw [rfa_ftl (ab_nn t) hb (ab_gcd g), ab_neg c]
    show some (- -t, b) = _
    rw [Int.neg_neg]
  · obtain ⟨k, r, e, h1, h2⟩ := ftl_hd (b := b) (show 0 ≤ t by omega)
    rw [if_neg (by rw [e]; show ¬ some k = some 45; intro z; have := Option.some.inj z; omega)]
    exact rfa_ftl (by omega) hb g
theorem rrt_ahl {t b : Int} {s : List Nat} (ht : t ≠ 0) (hb : 1 ≤ b) (g : Int.gcd t b = 1) (hs : (t < 0 ∧ s = [45]) ∨ (0 < t ∧ (s = [] ∨ s = [43]))) : rrt (s ++ ahl (ab t) b) = some (t, b) := by
  have key : (if ahl (ab t) b = [] then some ((1 : Int), (1 : Int)) else rfa (ahl (ab t) b)) = some (ab t, b) := by
    unfold ahl
    by_cases c : ab t = 1 ∧ b = 1
    · rw [if_pos c, if_pos rfl, c.1, c.2]
    · rw [if_neg c]
      obtain ⟨k, r, e, _⟩ := ftl_hd (b := b) (ab_nn t)
      rw [if_neg (by rw [e]; simp)]
      exact rfa_ftl (ab_nn t) hb (ab_gcd g)
  unfold rrt
  rcases hs with ⟨c, rfl⟩ | ⟨c, rfl | rfl⟩
  · rw [show hiT ([45] ++ ahl (ab t) b) = ahl (ab t) b by unfold hiT; rw [if_pos (.inr rfl)]; rfl, key]
    show some (if some 45 = some 45 then ngf (ab t, b) else (ab t, b)) = _
    rw [if_pos rfl, ab_neg c]
    show some (- -t, b) = _
    rw [Int.neg_neg]
  · have hn : ¬ (([] ++ ahl (ab t) b)[0]? = some 43 ∨ ([] ++ ahl (ab t) b)[0]? = some 45) := by
      rw [List.nil_append]
      unfold ahl
      split
      · simp
      · obtain ⟨k, r, e, h1, h2⟩ := ftl_hd (b := b) (ab_nn t)
        rw [e]
        show ¬ (some k = some 43 ∨ some k = some 45)
        rintro (z | z) <;> (have := Option.some.inj z; omega)
    rw [show hiT ([] ++ ahl (ab t) b) = ahl (ab t) b by unfold hiT; rw [if_neg hn]; rfl, key]
    show some (if ([] ++ ahl (ab t) b)[0]? = some 45 then ngf (ab t, b) else (ab t, b)) = _
    rw [if_neg (fun z => hn (.inr z)), ab_pos (by omega)]
  · rw [show hiT ([43] ++ ahl (ab t) b) = ahl (ab t) b by unfold hiT; rw [if_pos (.inl rfl)]; rfl, key]
    show some (if some 43 = some 45 then ngf (ab t, b) else (ab t, b)) = _
    rw [if_neg (by decide), ab_pos (by omega)]
theorem rbp_lnl {d : Int} {x y : FF} (ox : Fok x) (oy : Fok y) : rbp d (lnl d x.1 x.2 y.1 y.2) = some (x, y) := by
  unfold rbp
  rcases lnl_form (d := d) (x := x) (y := y) with ⟨c, e⟩ | ⟨c, c2, e⟩ | ⟨c, c2, e⟩
  · have hy : y = (0, 1) := by
      have g := oy.g
      rw [c] at g
      have b := oy.b
      have : y.2 = 1 := by
        have : Int.gcd 0 y.2 = y.2.natAbs := Int.gcd_zero_left _
        omega
      exact Prod.ext c this
    rw [e, if_neg (ftl_no ox.b (.inr rfl)), rfr_ftl ox.b ox.g, hy]
    rfl
  · have hx : x = (0, 1) := by
      have g := ox.g
      rw [c2] at g
      have b := ox.b
      have : x.2 = 1 := by
        have : Int.gcd 0 x.2 = x.2.natAbs := Int.gcd_zero_left _
        omega
      exact Prod.ext c2 this
    obtain ⟨h1, h2⟩ := pre_at (b := digs d.natAbs) (low_no oy)
    rw [e, if_pos (by simp), h2, if_pos rfl, h1]
    unfold rbp2
    have hs : (y.1 < 0 ∧ (if y.1 < 0 then [45] else ([] : List Nat)) = [45]) ∨ (0 < y.1 ∧ ((if y.1 < 0 then [45] else ([] : List Nat)) = [] ∨ (if y.1 < 0 then [45] else ([] : List Nat)) = [43])) := by
      by_cases z : y.1 < 0
      · exact .inl ⟨z, if_pos z⟩
      · exact .inr ⟨by omega, .inl (if_neg z)⟩
    have hg : (if y.1 < 0 then [45] else ([] : List Nat)) = [] ∨ (if y.1 < 0 then [45] else ([] : List Nat)) = [45] := by split <;> simp
    have hj : jnt ((if y.1 < 0 then [45] else []) ++ ahl (ab y.1) y.2) < 1 := jt_low hg (ahl_no oy.b (.inl rfl)) (ahl_no oy.b (.inr (.inl rfl)))
    rw [if_pos hj, rrt_ahl c oy.b oy.g hs, hx]
    rfl
  · obtain ⟨h1, h2⟩ := pre_at (b := digs d.natAbs) (both_no ox oy)
    rw [e, if_pos (by simp), h2, if_pos rfl, h1]
    unfold rbp2
    have hs : (y.1 < 0 ∧ (if y.1 < 0 then [45] else [43]) = [45]) ∨ (0 < y.1 ∧ ((if y.1 < 0 then [45] else [43]) = [] ∨ (if y.1 < 0 then [45] else [43]) = [43])) := by
      by_cases z : y.1 < 0
      · exact .inl ⟨z, if_pos z⟩
      · exact .inr ⟨by omega, .inr (if_neg z)⟩
    have hF : 45 ∉ ftl x.1 x.2 ∨ ∃ F', ftl x.1 x.2 = 45 :: F' ∧ 45 ∉ F' := by
      by_cases z : x.1 < 0
      · exact .inr ⟨_, ftl_neg z, ftl_noD (ab_nn _) ox.b⟩
      · exact .inl (ftl_noD (by omega) ox.b)
    have hg : (if y.1 < 0 then [45] else [43]) = [43] ∧ (45 ∉ ftl x.1 x.2 ∨ ∃ F', ftl x.1 x.2 = 45 :: F' ∧ 45 ∉ F') ∨ (if y.1 < 0 then [45] else [43]) = [45] := by
      by_cases z : y.1 < 0
      · exact .inr (if_pos z)
      · exact .inl ⟨if_neg z, hF⟩
    have hj : jnt (ftl x.1 x.2 ++ ((if y.1 < 0 then [45] else [43]) ++ ahl (ab y.1) y.2)) = ((ftl x.1 x.2).length : Int) := jt_at ftl_ne hg (ftl_no ox.b (.inl rfl)) (ahl_no oy.b (.inl rfl)) (ahl_no oy.b (.inr (.inl rfl)))
    have hp : 0 < (ftl x.1 x.2).length := List.length_pos_iff.mpr ftl_ne
    rw [hj, if_neg (by omega), Int.toNat_natCast, List.take_left, List.drop_left, rfr_ftl ox.b ox.g]
    show (rrt _).map _ = _
    rw [rrt_ahl c oy.b oy.g hs]
    rfl
theorem okT_lnl {d : Int} {x y : FF} (ox : Fok x) (oy : Fok y) : okT d (lnl d x.1 x.2 y.1 y.2) = true := by
  unfold okT
  rw [rbp_lnl ox oy]
  exact decide_eq_true rfl
def Ns (p : List Nat) : Prop := ∀ i, ¬ (p[i]? = some 59 ∧ p[i + 1]? = some 32)
theorem Ns.of {p : List Nat} (h : 59 ∉ p) : Ns p := fun _ z => h (List.mem_of_getElem? z.1)
theorem at_two {l : List Nat} {i : Nat} (h : StrLaws.At (sOf l) (sOf [59, 32]) (sOf l).length i) : l[i]? = some 59 ∧ l[i + 1]? = some 32 := by
  obtain ⟨_, h2⟩ := at_sep.mp h
  have e : ∀ j, j < 2 → l[i + j]? = ([59, 32] : List Nat)[j]? := fun j hj => by
    rw [← h2, List.getElem?_take_of_lt (show j < ([59, 32] : List Nat).length from hj), List.getElem?_drop]
  exact ⟨e 0 (by decide), e 1 (by decide)⟩
theorem parts_two {l : List Nat} : ∀ (ps : List (List Nat)) (a : Nat) (cuts : List Nat) (f : Nat), ps ≠ [] → (∀ p ∈ ps, Ns p) → l.drop a = jn [59, 32] ps → a ≤ l.length →
    StrLaws.ChainG (sOf l) (sOf [59, 32]) (sOf l).length a cuts f → (∀ k, f ≤ k → ¬ StrLaws.At (sOf l) (sOf [59, 32]) (sOf l).length k) → StrLaws.partsFrom (sOf l) (sOf [59, 32]).length a cuts = ps.map sOf := by
  intro ps
  induction ps with
  | nil => intro a cuts f h; exact absurd rfl h
  | cons p ps ih =>
    intro a cuts f _ hps hl ha hG hn
    have hp := hps p List.mem_cons_self
    cases ps with
    | nil =>
      have hl : l.drop a = p := hl
      cases cuts with
      | nil =>
        show [Builtin.Str.strSub (sOf l) a (sOf l).length] = [sOf p]
        rw [sub_list, sOf_len, hl, List.take_of_length_le (by rw [← hl, List.length_drop]; omega)]
      | cons d r =>
        obtain ⟨e, e'⟩ := at_two hG.2.1
        have had : a ≤ d := hG.1
        refine absurd ⟨?_, ?_⟩ (hp (d - a))
        · rw [← hl, List.getElem?_drop, show a + (d - a) = d by omega]; exact e
        · rw [← hl, List.getElem?_drop, show a + (d - a + 1) = d + 1 by omega]; exact e'
    | cons p' ps' =>
      have hl : l.drop a = p ++ [59, 32] ++ jn [59, 32] (p' :: ps') := hl
      have hlen : l.length - a = p.length + 2 + (jn [59, 32] (p' :: ps')).length := by
        rw [← List.length_drop, hl, List.length_append, List.length_append]; rfl
      have h0 : StrLaws.At (sOf l) (sOf [59, 32]) (sOf l).length (a + p.length) := by
        refine at_sep.mpr ⟨by show a + p.length + 2 ≤ l.length; omega, ?_⟩
        rw [← List.drop_drop, hl, List.append_assoc, List.drop_append_of_le_length (Nat.le_refl _), List.drop_length, List.nil_append, List.take_append_of_le_length (Nat.le_refl _), List.take_length]
      cases cuts with
      | nil =>
        have ef : f = a := hG
        exact absurd h0 (hn _ (by omega))
      | cons d r =>
        obtain ⟨had, hAd, hbet, hG'⟩ := hG
        have ed : d = a + p.length := by
          rcases Nat.lt_trichotomy d (a + p.length) with z | z | z
          · obtain ⟨e, e'⟩ := at_two hAd
            have g : ∀ j, (l.drop a)[j]? = l[a + j]? := fun j => List.getElem?_drop
            have g1 := g (d - a)
            have g2 := g (d - a + 1)
            rw [show a + (d - a) = d by omega, e, hl, List.append_assoc, List.getElem?_append_left (by omega)] at g1
            rw [show a + (d - a + 1) = d + 1 by omega, e', hl, List.append_assoc] at g2
            by_cases c : d - a + 1 < p.length
            · rw [List.getElem?_append_left c] at g2
              exact absurd ⟨g1, g2⟩ (hp _)
            · rw [List.getElem?_append_right (by omega), show d - a + 1 - p.length = 0 by omega] at g2
              have : (59 : Nat) = 32 := Option.some.inj g2
              exact absurd this (by decide)
          · exact z
          · exact absurd h0 (hbet _ (by omega) z)
        subst ed
        show Builtin.Str.strSub (sOf l) a (a + p.length) :: StrLaws.partsFrom (sOf l) (sOf [59, 32]).length (a + p.length + (sOf [59, 32]).length) r = sOf p :: (p' :: ps').map sOf
        have e1 : Builtin.Str.strSub (sOf l) a (a + p.length) = sOf p := by
          rw [sub_list, hl, show a + p.length - a = p.length by omega, List.append_assoc, List.take_append_of_le_length (Nat.le_refl _), List.take_length]
        rw [e1]
        rw [sOf_len] at hG' ⊢
        have e2 : l.drop (a + p.length + 2) = jn [59, 32] (p' :: ps') := by
          rw [show a + p.length + 2 = a + (p ++ [59, 32]).length by rw [List.length_append]; rfl, ← List.drop_drop, hl, List.drop_append_of_le_length (Nat.le_refl _), List.drop_length, List.nil_append]
        have := ih (a + p.length + 2) r f (by simp) (fun q hq => hps q (List.mem_cons_of_mem _ hq)) e2 (by omega) (by rw [sOf_len]; exact hG') hn
        rw [sOf_len] at this
        show _ :: StrLaws.partsFrom (sOf l) 2 (a + p.length + 2) r = _
        rw [show StrLaws.partsFrom (sOf l) 2 (a + p.length + 2) r = _ from this]
theorem split_two {ps : List (List Nat)} (hne : ps ≠ []) (hps : ∀ p ∈ ps, Ns p) : Txt.split (sOf (jn [59, 32] ps)) (sOf [59, 32]) = ps.map sOf := by
  obtain ⟨f, hG, hn⟩ := StrLaws.occ_tight (sOf (jn [59, 32] ps)) (sOf [59, 32]) (by rw [sOf_len]; decide)
  have key := parts_two (l := jn [59, 32] ps) ps 0 _ f hne hps rfl (Nat.zero_le _) hG hn
  have one : (Builtin.Str.occurrences (sOf (jn [59, 32] ps)) (sOf [59, 32]) 0 (sOf (jn [59, 32] ps)).length ((sOf (jn [59, 32] ps)).length + 1)).isEmpty = true → [sOf (jn [59, 32] ps)] = ps.map sOf := fun h => by
    rw [List.isEmpty_iff.mp h] at key
    rw [← key]
    show [sOf (jn [59, 32] ps)] = [Builtin.Str.strSub (sOf (jn [59, 32] ps)) 0 (sOf (jn [59, 32] ps)).length]
    rw [sub_list, sOf_len]
    simp
  unfold Txt.split
  split
  · rename_i h
    rw [Bool.or_eq_true, decide_eq_true_eq, decide_eq_true_eq, show Builtin.Str.strKind (sOf [59, 32]) = 1 by decide +kernel] at h
    have hlt : (sOf (jn [59, 32] ps)).length < (sOf [59, 32]).length := by
      rcases h with h | h
      · exact h
      · have := kind_pos (sOf (jn [59, 32] ps)); omega
    refine one ?_
    cases e : Builtin.Str.occurrences (sOf (jn [59, 32] ps)) (sOf [59, 32]) 0 (sOf (jn [59, 32] ps)).length ((sOf (jn [59, 32] ps)).length + 1) with
    | nil => rfl
    | cons d r =>
      rw [e] at hG
      have := hG.2.1.1
      omega
  · split
    · rename_i h
      exact one h
    · rw [StrLaws.partsBetween_eq]
      exact key
theorem i_splitT {H : Hp} {Q : VK} {ps : List (List Nat)} (hne : ps ≠ []) (hps : ∀ p ∈ ps, Ns p) (hl : (jn [59, 32] ps).length + 2 ≤ sizeLine)
    (q : ∀ r H2, Same H H2 → H2 r = some (.lst ((ps.map sOf).map V.str)) → Q (.ref r) H2) : rSplit (.str (sOf (jn [59, 32] ps))) [.str (sOf [59, 32])] H Q := by
  refine ⟨_, _, rfl, rfl, by decide +kernel, by rw [sOf_len]; exact hl, fun p hp => ?_⟩
  rw [split_two hne hps]
  exact q p _ (same_upd hp _) upd_same
theorem jn_app {sep : List Nat} : ∀ {a b : List (List Nat)}, b ≠ [] → a ≠ [] → jn sep (a ++ b) = jn sep a ++ sep ++ jn sep b
  | [], _, _, h => absurd rfl h
  | [p], [], h, _ => absurd rfl h
  | [p], q :: r, _, _ => rfl
  | p :: p' :: a, b, hb, _ => by
    show p ++ sep ++ jn sep (p' :: a ++ b) = p ++ sep ++ jn sep (p' :: a) ++ sep ++ jn sep b
    rw [jn_app hb (by simp)]
    simp only [List.append_assoc]
theorem jn_mid {sep : List Nat} {a b ms : List (List Nat)} (h : ms ≠ []) : jn sep (a ++ [jn sep ms] ++ b) = jn sep (a ++ ms ++ b) := by
  have one : ∀ m : List Nat, jn sep [m] = m := fun _ => rfl
  cases a with
  | nil =>
    cases b with
    | nil => simp only [List.nil_append, List.append_nil, one]
    | cons q r => rw [List.nil_append, List.nil_append, jn_app (by simp) (by simp), jn_app (by simp) h, one]
  | cons p a =>
    cases b with
    | nil => rw [List.append_nil, List.append_nil, jn_app (by simp) (by simp), jn_app h (by simp), one]
    | cons q r =>
      have h2 : p :: a ++ ms ≠ [] := by simp
      rw [jn_app (by simp) (by simp), jn_app (by simp) h2, jn_app (by simp) (by simp), jn_app h (by simp), one]
def fOf (x y : FF) : F4 := ⟨x.1, x.2, y.1, y.2⟩
def okS (d : Int) (l : List Nat) : Bool := okT d l && (match rbp d l with | some (x, y) => decide (0 < sgn d (fOf x y).l.x (fOf x y).l.y) | none => false)
theorem F4.Ok.fx {d : Int} {f : F4} (h : f.Ok d) : Fok (f.t, f.b) := ⟨h.hb, h.g, h.b1, h.b2⟩
theorem F4.Ok.fy {d : Int} {f : F4} (h : f.Ok d) : Fok (f.t', f.b') := ⟨h.hb', h.g', h.b3, h.b4⟩
theorem rbp_tx {d : Int} {f : F4} (h : f.Ok d) : rbp d (f.tx d) = some ((f.t, f.b), (f.t', f.b')) := rbp_lnl h.fx h.fy
theorem okS_tx {d : Int} {f : F4} (hR : Rt d) (h : f.Ok d) : okS d (f.tx d) = true := by
  unfold okS
  rw [show okT d (f.tx d) = true from okT_lnl h.fx h.fy, rbp_tx h]
  show (true && decide (0 < sgn d f.l.x f.l.y)) = true
  rw [h.ups hR]
  rfl
theorem okS_not {d : Int} {l : List Nat} (h : okT d l = false) : okS d l = false := by unfold okS; rw [h]; rfl
theorem okS_neg {d : Int} {l : List Nat} {x y : FF} (h : rbp d l = some (x, y)) (n : ¬ 0 < sgn d (fOf x y).l.x (fOf x y).l.y) : okS d l = false := by
  unfold okS
  rw [h]
  show (_ && decide (0 < sgn d (fOf x y).l.x (fOf x y).l.y)) = false
  rw [decide_eq_false n, Bool.and_false]
theorem fok_sk {x y : FF} (ox : Fok x) (oy : Fok y) : SK 430 340 (fOf x y).l := by
  have n : 1 ≤ x.2 * y.2 := Int.mul_pos (by have := ox.b; omega) (by have := oy.b; omega)
  have n0 : x.2 * y.2 ≠ 0 := by omega
  exact ⟨l_n n0, l_gcd n0, Bd.fdiv ((ox.b1.mul oy.b2).mono (by decide)) _, Bd.fdiv ((oy.b1.mul ox.b2).mono (by decide)) _, Bd.fdiv ((ox.b2.mul oy.b2).mono (by decide)) _⟩
structure BadR (d : Int) (l : List Nat) (xs : List (List Nat)) : Prop where
  e : l = jn [120] xs
  ne : xs ≠ []
  s : ∀ s ∈ xs, 120 ∉ s ∧ s.length ≤ 33
  n : xs.length ≤ 5
  bad : xs.length = 2 → ∃ s ∈ xs, okS d s = false
def Shr2 (d : Int) (x : F4 × F4) : Prop := (x.1.tx d).length ≤ 20 ∧ (x.2.tx d).length ≤ 20
def Row (d : Int) (p : List Nat) : Prop := Ns p ∧ p.length ≤ 200 ∧ ((∃ x, p = tx2 d x ∧ Ok2 d x ∧ Shr2 d x) ∨ ∃ xs, BadR d p xs)
theorem Sm.neg {t b : Int} (h : Sm t b) : Sm (0 - t) b := ⟨by have := h.t1; omega, by have := h.t0; omega, h.b0, h.b1, by rw [Int.zero_sub, Int.neg_gcd]; exact h.g⟩
theorem sm0 : Sm 0 1 := ⟨by decide, by decide, by decide, by decide, by decide⟩
theorem sm1 : Sm 1 1 := ⟨by decide, by decide, by decide, by decide, by decide⟩
def Sm4 (d : Int) (f : F4) : Prop := Sm f.t f.b ∧ Sm f.t' f.b' ∧ sgn d (f.t * f.b') (f.t' * f.b) = 1
theorem Sm4.ok {d : Int} {f : F4} (h : Sm4 d f) : f.Ok d := by
  have a := h.1.ok
  have b := h.2.1.ok
  exact ⟨a.b, b.b, a.g, b.g, a.b1, a.b2, b.b1, b.b2, h.2.2⟩
theorem Sm4.len {d : Int} {f : F4} (hd : 2 ≤ d ∧ d ≤ 99) (h : Sm4 d f) : (f.tx d).length ≤ 16 := (lnl_le h.1 h.2.1 ⟨hd.1, by omega⟩).1
theorem Sm4.mem {d : Int} {f : F4} (h : Sm4 d f) {c : Nat} (z : c ∈ f.tx d) : (48 ≤ c ∧ c ≤ 57) ∨ c = 47 ∨ c = 45 ∨ c = 43 ∨ c = 114 := lnl_mem (d := d) h.ok.fx h.ok.fy z
def Spoil (d : Int) (l : List Nat) : Prop := ∃ ms, l = jn [59, 32] ms ∧ ms ≠ [] ∧ ms.length ≤ 2 ∧ l.length ≤ 80 ∧ (∀ p ∈ ms, Row d p) ∧ ∃ p ∈ ms, ∃ xs, BadR d p xs
theorem ns_of {l : List Nat} (h : 59 ∉ l ∨ 32 ∉ l) : Ns l := fun i z => by
  rcases h with h | h
  · exact h (List.mem_of_getElem? z.1)
  · exact h (List.mem_of_getElem? z.2)
theorem spoil1 {d : Int} {l : List Nat} (xs : List (List Nat)) (e : l = jn [120] xs) (ne : xs ≠ []) (hs : ∀ s ∈ xs, 120 ∉ s ∧ s.length ≤ 33) (n : xs.length ≤ 5) (b : xs.length = 2 → ∃ s ∈ xs, okS d s = false) (hn : 59 ∉ l ∨ 32 ∉ l) (hl : l.length ≤ 80) : Spoil d l :=
  have B : BadR d l xs := ⟨e, ne, hs, n, b⟩
  ⟨[l], rfl, by simp, by simp, hl, fun p hp => by rw [List.mem_singleton.mp hp]; exact ⟨ns_of hn, by omega, .inr ⟨xs, B⟩⟩, l, by simp, xs, B⟩
def badL (w h dg dg1 : List Nat) : List (List Nat) := [[], [120], w, w ++ [120], [120] ++ h, (w ++ [88]) ++ h, (w ++ [32, 120]) ++ h, jn [120] [w, h] ++ [32], [32] ++ jn [120] [w, h], (jn [120] [w, h] ++ [120]) ++ h, [48, 120] ++ h, w ++ [120, 48], [45, 49, 120] ++ h, (w ++ [120, 45, 114]) ++ dg, [45, 49, 47, 50, 120] ++ h, (w ++ [120, 49, 45, 57, 114]) ++ dg, (([114] ++ dg1) ++ [120]) ++ h, (w ++ [120, 51, 43]) ++ ([114] ++ dg1), jn [120] [w, h] ++ [59], [59] ++ jn [120] [w, h], jn [120] [w, h] ++ [59, 32], [59, 32] ++ jn [120] [w, h], (jn [120] [w, h] ++ [59]) ++ jn [120] [w, h], (jn [120] [w, h] ++ [44]) ++ jn [120] [w, h], [49, 45, 114, 120, 50]]
theorem bad_nil {d : Int} : okT d [] = false := okT_not (by simp) fun x y ox oy z => by
  obtain ⟨a, c, e, _⟩ := lnl_last (d := d) (x := x) (y := y)
  rw [e] at z
  simp at z
theorem neg_of {d : Int} {l : List Nat} {x y : FF} {a b : Int} (ox : Fok x) (oy : Fok y) (e : lnl d x.1 x.2 y.1 y.2 = l) (ha : (fOf x y).l.x = a) (hb : (fOf x y).l.y = b) (n : ¬ 0 < sgn d a b) : okS d l = false := by
  subst e
  exact okS_neg (rbp_lnl ox oy) (by rw [ha, hb]; exact n)
theorem fok_of {t b : Int} (h : Sm t b) : Fok (t, b) := h.ok
theorem neg_0 (d : Int) : okS d [48] = false := neg_of (x := (0, 1)) (y := (0, 1)) sm0.ok sm0.ok (by show lnl d 0 1 0 1 = _; exact (show ftl 0 1 = [48] by decide +kernel)) (a := 0) (b := 0) (by decide +kernel) (by decide +kernel) (by rw [sgn_zero]; decide)
theorem neg_1 (d : Int) : okS d [45, 49] = false := neg_of (x := (-1, 1)) (y := (0, 1)) sm1.neg.ok sm0.ok (by show lnl d (-1) 1 0 1 = _; exact (show ftl (-1) 1 = [45, 49] by decide +kernel)) (a := -1) (b := 0) (by decide +kernel) (by decide +kernel) (by rw [sgn_np (by decide) (by decide) (by decide)]; decide)
theorem neg_2 (d : Int) : okS d [45, 49, 47, 50] = false := neg_of (x := (-1, 2)) (y := (0, 1)) (fok_of ⟨by decide, by decide, by decide, by decide, by decide⟩) sm0.ok (by show lnl d (-1) 2 0 1 = _; exact (show ftl (-1) 2 = [45, 49, 47, 50] by decide +kernel)) (a := -1) (b := 0) (by decide +kernel) (by decide +kernel) (by rw [sgn_np (by decide) (by decide) (by decide)]; decide)
theorem neg_3 {d : Int} (hd : 2 ≤ d ∧ d ≤ 99) : okS d ([45, 114] ++ digs d.natAbs) = false := neg_of (x := (0, 1)) (y := (-1, 1)) sm0.ok sm1.neg.ok (by
  rcases lnl_form (d := d) (x := (0, 1)) (y := (-1, 1)) with ⟨z, _⟩ | ⟨_, _, e⟩ | ⟨_, z, _⟩
  · exact absurd z (by decide)
  · rw [e]; rfl
  · exact absurd rfl z) (a := 0) (b := -1) (by decide +kernel) (by decide +kernel) (by rw [sgn_np (by decide) (by decide) (by decide)]; decide)
theorem neg_4 {d : Int} (hd : 2 ≤ d ∧ d ≤ 99) : okS d ([49, 45, 57, 114] ++ digs d.natAbs) = false := neg_of (x := (1, 1)) (y := (-9, 1)) sm1.ok (fok_of ⟨by decide, by decide, by decide, by decide, by decide⟩) (by
  rcases lnl_form (d := d) (x := (1, 1)) (y := (-9, 1)) with ⟨z, _⟩ | ⟨_, z, _⟩ | ⟨_, _, e⟩
  · exact absurd z (by decide)
  · exact absurd z (by decide)
  · rw [e, show ftl (1, 1).1 (1, 1).2 = [49] by decide +kernel, show ahl (ab (-9, 1).1) (-9, 1).2 = [57] by decide +kernel]; rfl) (a := 1) (b := -9) (by decide +kernel) (by decide +kernel) (by rw [sgn_pa (by decide) (by decide), if_neg (by omega)]; decide)
theorem digs_ne1 {d : Int} (hd : 2 ≤ d ∧ d ≤ 99) : digs (d + 1).natAbs ≠ digs d.natAbs := fun z => by have := digs_inj z; omega
theorem root_1 {d : Int} (hd : 2 ≤ d ∧ d ≤ 99) : okS d ([114] ++ digs (d + 1).natAbs) = false := by
  have := digs_le (n := (d + 1).natAbs) (by omega)
  exact okS_not (bad_root (r := digs (d + 1).natAbs) (by simp only [List.length_append, List.length_cons, List.length_nil]; omega) (by simp) rfl (digs_ne1 hd))
theorem root_2 {d : Int} (hd : 2 ≤ d ∧ d ≤ 99) : okS d ([51, 43] ++ ([114] ++ digs (d + 1).natAbs)) = false := by
  have := digs_le (n := (d + 1).natAbs) (by omega)
  exact okS_not (bad_root (r := digs (d + 1).natAbs) (by simp only [List.length_append, List.length_cons, List.length_nil]; omega) (by simp) rfl (digs_ne1 hd))
theorem last_1 (d : Int) : okS d [49, 45, 114] = false := okS_not (bad_last (a := [49, 45]) (by decide) (by decide))
theorem digs_no {n c : Nat} (h : ¬ (48 ≤ c ∧ c ≤ 57)) : c ∉ digs n := fun z => h (digs_mem n c z)
theorem sign_bad {d : Int} {l : List Nat} {c : Nat} (hl : l.length ≤ 33) (hc : c ∈ l) (b : ¬ ((48 ≤ c ∧ c ≤ 57) ∨ c = 47 ∨ c = 45 ∨ c = 43 ∨ c = 114)) : okS d l = false := okS_not (bad_sign hl hc b)
theorem badr_nil {d : Int} : BadR d [] [[]] := ⟨rfl, by simp, by simp, by simp, by simp⟩
theorem row_nil {d : Int} : Row d [] := ⟨ns_of (by simp), by simp, .inr ⟨_, badr_nil⟩⟩
theorem bad_all {d : Int} {w h dg dg1 : List Nat} (hd : 2 ≤ d ∧ d ≤ 99) (wx : 120 ∉ w) (w3 : 32 ∉ w) (w5 : 59 ∉ w) (wl : w.length ≤ 16) (hx : 120 ∉ h) (h3 : 32 ∉ h) (h5 : 59 ∉ h) (hl : h.length ≤ 16)
    (e0 : dg = digs d.natAbs) (e1 : dg1 = digs (d + 1).natAbs) (R : Row d (jn [120] [w, h])) {l : List Nat} (hm : l ∈ badL w h dg dg1) : Spoil d l := by
  have g0 : dg.length ≤ 3 := by rw [e0]; exact digs_le (by omega)
  have g1 : dg1.length ≤ 3 := by rw [e1]; exact digs_le (by omega)
  have gx : 120 ∉ dg := by rw [e0]; exact digs_no (by decide)
  have g3 : 32 ∉ dg := by rw [e0]; exact digs_no (by decide)
  have g5 : 59 ∉ dg := by rw [e0]; exact digs_no (by decide)
  have kx : 120 ∉ dg1 := by rw [e1]; exact digs_no (by decide)
  have k3 : 32 ∉ dg1 := by rw [e1]; exact digs_no (by decide)
  have k5 : 59 ∉ dg1 := by rw [e1]; exact digs_no (by decide)
  have n3 := neg_3 hd
  have n4 := neg_4 hd
  have r1 := root_1 hd
  have r2 := root_2 hd
  rw [← e0] at n3 n4
  rw [← e1] at r1 r2
  clear e0 e1
  unfold badL at hm
  simp only [List.mem_cons, List.not_mem_nil, or_false] at hm
  rcases hm with rfl | rfl | rfl | rfl | rfl | rfl | rfl | rfl | rfl | rfl | rfl | rfl | rfl | rfl | rfl | rfl | rfl | rfl | rfl | rfl | rfl | rfl | rfl | rfl | rfl
  · refine spoil1 [[]] (by simp [jn]) (by simp) (by first | (simp [*]; done) | (simp [*]; omega)) (by simp) (fun z => by first | exact trivial | (simp at z; done)) (by first | (left; simp [jn, *]; done) | (right; simp [jn, *]; done)) (by first | (simp [jn]; done) | (simp [jn]; omega))
  · refine spoil1 [[], []] (by simp [jn]) (by simp) (by first | (simp [*]; done) | (simp [*]; omega)) (by simp) (fun z => by first | exact ⟨[], by simp, okS_not bad_nil⟩ | (simp at z; done)) (by first | (left; simp [jn, *]; done) | (right; simp [jn, *]; done)) (by first | (simp [jn]; done) | (simp [jn]; omega))
  · exact spoil1 [_] rfl (by simp) (fun s hs => by rw [List.mem_singleton.mp hs]; exact ⟨wx, by omega⟩) (by simp) (fun z => by simp at z) (.inl w5) (by omega)
  · refine spoil1 [w, []] (by simp [jn]) (by simp) (by first | (simp [*]; done) | (simp [*]; omega)) (by simp) (fun z => by first | exact ⟨[], by simp, okS_not bad_nil⟩ | (simp at z; done)) (by first | (left; simp [jn, *]; done) | (right; simp [jn, *]; done)) (by first | (simp [jn]; done) | (simp [jn]; omega))
  · refine spoil1 [[], h] (by simp [jn]) (by simp) (by first | (simp [*]; done) | (simp [*]; omega)) (by simp) (fun z => by first | exact ⟨[], by simp, okS_not bad_nil⟩ | (simp at z; done)) (by first | (left; simp [jn, *]; done) | (right; simp [jn, *]; done)) (by first | (simp [jn]; done) | (simp [jn]; omega))
  · refine spoil1 [w ++ [88] ++ h] (by simp [jn]) (by simp) (by first | (simp [*]; done) | (simp [*]; omega)) (by simp) (fun z => by first | exact trivial | (simp at z; done)) (by first | (left; simp [jn, *]; done) | (right; simp [jn, *]; done)) (by first | (simp [jn]; done) | (simp [jn]; omega))
  · refine spoil1 [w ++ [32], h] (by simp [jn]) (by simp) (by first | (simp [*]; done) | (simp [*]; omega)) (by simp) (fun z => by first | exact ⟨w ++ [32], by simp, sign_bad (by simp; omega) (c := 32) (by simp) (by decide)⟩ | (simp at z; done)) (by first | (left; simp [jn, *]; done) | (right; simp [jn, *]; done)) (by first | (simp [jn]; done) | (simp [jn]; omega))
  · refine spoil1 [w, h ++ [32]] (by simp [jn]) (by simp) (by first | (simp [*]; done) | (simp [*]; omega)) (by simp) (fun z => by first | exact ⟨h ++ [32], by simp, sign_bad (by simp; omega) (c := 32) (by simp) (by decide)⟩ | (simp at z; done)) (by first | (left; simp [jn, *]; done) | (right; simp [jn, *]; done)) (by first | (simp [jn]; done) | (simp [jn]; omega))
  · refine spoil1 [[32] ++ w, h] (by simp [jn]) (by simp) (by first | (simp [*]; done) | (simp [*]; omega)) (by simp) (fun z => by first | exact ⟨[32] ++ w, by simp, sign_bad (by simp; omega) (c := 32) (by simp) (by decide)⟩ | (simp at z; done)) (by first | (left; simp [jn, *]; done) | (right; simp [jn, *]; done)) (by first | (simp [jn]; done) | (simp [jn]; omega))
  · refine spoil1 [w, h, h] (by simp [jn]) (by simp) (by first | (simp [*]; done) | (simp [*]; omega)) (by simp) (fun z => by first | exact trivial | (simp at z; done)) (by first | (left; simp [jn, *]; done) | (right; simp [jn, *]; done)) (by first | (simp [jn]; done) | (simp [jn]; omega))
  · refine spoil1 [[48], h] (by simp [jn]) (by simp) (by first | (simp [*]; done) | (simp [*]; omega)) (by simp) (fun z => by first | exact ⟨[48], by simp, neg_0 d⟩ | (simp at z; done)) (by first | (left; simp [jn, *]; done) | (right; simp [jn, *]; done)) (by first | (simp [jn]; done) | (simp [jn]; omega))
  · refine spoil1 [w, [48]] (by simp [jn]) (by simp) (by first | (simp [*]; done) | (simp [*]; omega)) (by simp) (fun z => by first | exact ⟨[48], by simp, neg_0 d⟩ | (simp at z; done)) (by first | (left; simp [jn, *]; done) | (right; simp [jn, *]; done)) (by first | (simp [jn]; done) | (simp [jn]; omega))
  · refine spoil1 [[45, 49], h] (by simp [jn]) (by simp) (by first | (simp [*]; done) | (simp [*]; omega)) (by simp) (fun z => by first | exact ⟨[45, 49], by simp, neg_1 d⟩ | (simp at z; done)) (by first | (left; simp [jn, *]; done) | (right; simp [jn, *]; done)) (by first | (simp [jn]; done) | (simp [jn]; omega))
  · refine spoil1 [w, [45, 114] ++ dg] (by simp [jn]) (by simp) (by first | (simp [*]; done) | (simp [*]; omega)) (by simp) (fun z => by first | exact ⟨[45, 114] ++ dg, by simp, n3⟩ | (simp at z; done)) (by first | (left; simp [jn, *]; done) | (right; simp [jn, *]; done)) (by first | (simp [jn]; done) | (simp [jn]; omega))
  · refine spoil1 [[45, 49, 47, 50], h] (by simp [jn]) (by simp) (by first | (simp [*]; done) | (simp [*]; omega)) (by simp) (fun z => by first | exact ⟨[45, 49, 47, 50], by simp, neg_2 d⟩ | (simp at z; done)) (by first | (left; simp [jn, *]; done) | (right; simp [jn, *]; done)) (by first | (simp [jn]; done) | (simp [jn]; omega))
  · refine spoil1 [w, [49, 45, 57, 114] ++ dg] (by simp [jn]) (by simp) (by first | (simp [*]; done) | (simp [*]; omega)) (by simp) (fun z => by first | exact ⟨[49, 45, 57, 114] ++ dg, by simp, n4⟩ | (simp at z; done)) (by first | (left; simp [jn, *]; done) | (right; simp [jn, *]; done)) (by first | (simp [jn]; done) | (simp [jn]; omega))
  · refine spoil1 [[114] ++ dg1, h] (by simp [jn]) (by simp) (by first | (simp [*]; done) | (simp [*]; omega)) (by simp) (fun z => by first | exact ⟨[114] ++ dg1, by simp, r1⟩ | (simp at z; done)) (by first | (left; simp [jn, *]; done) | (right; simp [jn, *]; done)) (by first | (simp [jn]; done) | (simp [jn]; omega))
  · refine spoil1 [w, [51, 43] ++ ([114] ++ dg1)] (by simp [jn]) (by simp) (by first | (simp [*]; done) | (simp [*]; omega)) (by simp) (fun z => by first | exact ⟨[51, 43] ++ ([114] ++ dg1), by simp, r2⟩ | (simp at z; done)) (by first | (left; simp [jn, *]; done) | (right; simp [jn, *]; done)) (by first | (simp [jn]; done) | (simp [jn]; omega))
  · refine spoil1 [w, h ++ [59]] (by simp [jn]) (by simp) (by first | (simp [*]; done) | (simp [*]; omega)) (by simp) (fun z => by first | exact ⟨h ++ [59], by simp, sign_bad (by simp; omega) (c := 59) (by simp) (by decide)⟩ | (simp at z; done)) (by first | (left; simp [jn, *]; done) | (right; simp [jn, *]; done)) (by first | (simp [jn]; done) | (simp [jn]; omega))
  · refine spoil1 [[59] ++ w, h] (by simp [jn]) (by simp) (by first | (simp [*]; done) | (simp [*]; omega)) (by simp) (fun z => by first | exact ⟨[59] ++ w, by simp, sign_bad (by simp; omega) (c := 59) (by simp) (by decide)⟩ | (simp at z; done)) (by first | (left; simp [jn, *]; done) | (right; simp [jn, *]; done)) (by first | (simp [jn]; done) | (simp [jn]; omega))
  · exact ⟨[jn [120] [w, h], []], by simp [jn], by simp, by simp, by simp [jn]; omega, fun p hp => by
      simp only [List.mem_cons, List.not_mem_nil, or_false] at hp
      rcases hp with rfl | rfl
      · exact R
      · exact row_nil, [], by simp, _, badr_nil⟩
  · exact ⟨[[], jn [120] [w, h]], by simp [jn], by simp, by simp, by simp [jn]; omega, fun p hp => by
      simp only [List.mem_cons, List.not_mem_nil, or_false] at hp
      rcases hp with rfl | rfl
      · exact row_nil
      · exact R, [], by simp, _, badr_nil⟩
  · refine spoil1 [w, h ++ [59] ++ w, h] (by simp [jn]) (by simp) (by first | (simp [*]; done) | (simp [*]; omega)) (by simp) (fun z => by first | exact trivial | (simp at z; done)) (by first | (left; simp [jn, *]; done) | (right; simp [jn, *]; done)) (by first | (simp [jn]; done) | (simp [jn]; omega))
  · refine spoil1 [w, h ++ [44] ++ w, h] (by simp [jn]) (by simp) (by first | (simp [*]; done) | (simp [*]; omega)) (by simp) (fun z => by first | exact trivial | (simp at z; done)) (by first | (left; simp [jn, *]; done) | (right; simp [jn, *]; done)) (by first | (simp [jn]; done) | (simp [jn]; omega))
  · refine spoil1 [[49, 45, 114], [50]] (by simp [jn]) (by simp) (by first | (simp [*]; done) | (simp [*]; omega)) (by simp) (fun z => by first | exact ⟨[49, 45, 114], by simp, last_1 d⟩ | (simp at z; done)) (by first | (left; simp [jn, *]; done) | (right; simp [jn, *]; done)) (by first | (simp [jn]; done) | (simp [jn]; omega))
inductive sp_is_whole (vs : List V) (H : Hp) (Q : VK) (E : XK) : Prop
  | mk (i : Int) (_ : vs = [.int i]) (_ : Q (.bl true) H) : sp_is_whole vs H Q E
theorem c_is_whole {i : Int} {H : Hp} {Q : VK} {E : XK} (q : Q (.bl true) H) : sp_is_whole ([.int i] ++ []) H Q E := ⟨i, rfl, q⟩
local macro_rules | `(tactic| walk_at "rd") => `(tactic| with_reducible refine c_is_whole ?_)
inductive sp_common_divisor (vs : List V) (H : Hp) (Q : VK) (E : XK) : Prop
  | mk (a b : Int) (_ : vs = [.int a, .int b]) (_ : Bd 8192 b) (_ : Q (.int (Int.gcd a b : Nat)) H) : sp_common_divisor vs H Q E
theorem c_common_divisor {a b : Int} {H : Hp} {Q : VK} {E : XK} (hb : Bd 8192 b) (q : Q (.int (Int.gcd a b : Nat)) H) : sp_common_divisor ([.int a, .int b] ++ []) H Q E := ⟨a, b, rfl, hb, q⟩
local macro_rules | `(tactic| walk_at "rd") => `(tactic| ((with_reducible refine c_common_divisor ?_ ?_); focus (walk_at "b8")))
inductive sp_with_sign_of (vs : List V) (H : Hp) (Q : VK) (E : XK) : Prop
  | mk (g n : Int) (_ : vs = [.int g, .int n]) (_ : Q (.int (if n < 0 then -g else g)) H) : sp_with_sign_of vs H Q E
theorem c_with_sign_of {g n : Int} {H : Hp} {Q : VK} {E : XK} (q : Q (.int (if n < 0 then -g else g)) H) : sp_with_sign_of ([.int g, .int n] ++ []) H Q E := ⟨g, n, rfl, q⟩
local macro_rules | `(tactic| walk_at "rd") => `(tactic| with_reducible refine c_with_sign_of ?_)
inductive sp_is_above_nought (vs : List V) (H : Hp) (Q : VK) (E : XK) : Prop
  | mk {d a b : Int} (_ : vs = [.int d, .int a, .int b]) (_ : Bd 64 d) (_ : Bd 8000 a) (_ : Bd 8000 b) (_ : Q (.bl (decide (0 < sgn d a b))) H) : sp_is_above_nought vs H Q E
abbrev c_is_above_nought := @sp_is_above_nought.mk
inductive sp_shown_whole (vs : List V) (H : Hp) (Q : VK) (E : XK) : Prop
  | mk {n : Int} (_ : vs = [.int n]) (_ : Bd 1500 n) (_ : ∀ H', Same H H' → Q (.str (sOf (txl n))) H') : sp_shown_whole vs H Q E
abbrev c_shown_whole := @sp_shown_whole.mk
inductive sp_read_whole (cs : Cs) (vs : List V) (H : Hp) (Q : VK) (E : XK) : Prop
  | mk {l : List Nat} (_ : vs = [.str (sOf l)]) (_ : l.length ≤ 600) (_ : (∀ n H', rwh l = some n → Same H H' → Q (.int (n : Int)) H')) (_ : (rwh l = none → ∀ H', Same H H' → E (.ref cs.NoText) none H')) : sp_read_whole cs vs H Q E
abbrev c_read_whole := @sp_read_whole.mk
inductive sp__law_cell (K : PySem.W.Frag) (vs : List V) (H : Hp) (Q : VK) (E : XK) : Prop
  | mk {p : Addr} {ns : List Int} {k : Int} (_ : vs = [.ref p, .int k]) (_ : SqL K H p (ns.map V.int)) (_ : 0 ≤ k) (_ : ∀ c : Int, Q (.int c) H) : sp__law_cell K vs H Q E
abbrev c__law_cell := @sp__law_cell.mk
inductive sp__law_mixed (vs : List V) (H : Hp) (Q : VK) (E : XK) : Prop
  | mk {c k : Int} (_ : vs = [.int c, .int k]) (_ : 0 ≤ k) (_ : k ≤ 1000) (_ : ∀ r : Int, 0 ≤ r → r < 2147483629 → Q (.int r) H) : sp__law_mixed vs H Q E
abbrev c__law_mixed := @sp__law_mixed.mk
inductive sp__law_divisor (vs : List V) (H : Hp) (Q : VK) (E : XK) : Prop
  | mk {a b : Int} (_ : vs = [.int a, .int b]) (_ : 0 ≤ a) (_ : 0 ≤ b) (_ : Q (.int (Int.gcd a b : Nat)) H) : sp__law_divisor vs H Q E
abbrev c__law_divisor := @sp__law_divisor.mk
inductive sp__law_shown_fraction (vs : List V) (H : Hp) (Q : VK) (E : XK) : Prop
  | mk {p : Addr} {t b : Int} (_ : vs = [.ref p]) (_ : H p = some (.tup [.int t, .int b])) (_ : Bd 110 t) (_ : Bd 110 b) (_ : Q (.str (sOf (ftl t b))) H) : sp__law_shown_fraction vs H Q E
abbrev c__law_shown_fraction := @sp__law_shown_fraction.mk
inductive sp__law_above (vs : List V) (H : Hp) (Q : VK) (E : XK) : Prop
  | mk (d : Int) (p p' : Addr) (f g f' g' : Int) (_ : vs = [.int d, .ref p, .ref p']) (_ : H p = some (.tup [.int f, .int g])) (_ : H p' = some (.tup [.int f', .int g'])) (_ : Rt d) (_ : (Bd 700 f ∧ Bd 700 g ∧ Bd 700 f' ∧ Bd 700 g')) (_ : Q (.bl (decide (0 < sgn d (f * g') (f' * g)))) H) : sp__law_above vs H Q E
theorem c__law_above {d : Int} {p p' : Addr} {f g f' g' : Int} {H : Hp} {Q : VK} {E : XK} (h : H p = some (.tup [.int f, .int g]) ∧ H p' = some (.tup [.int f', .int g']) ∧ Rt d ∧ (Bd 700 f ∧ Bd 700 g ∧ Bd 700 f' ∧ Bd 700 g')) (q : Q (.bl (decide (0 < sgn d (f * g') (f' * g)))) H) : sp__law_above ([.int d, .ref p, .ref p'] ++ []) H Q E := ⟨d, p, p', f, g, f', g', rfl, h.1, h.2.1, h.2.2.1, h.2.2.2, q⟩
inductive sp__law_bad (vs : List V) (H : Hp) (Q : VK) (E : XK) : Prop
  | mk {d n : Int} {x : F4 × F4} (_ : vs = [.int d, .str (sOf (tx2 d x)), .int n]) (_ : (2 ≤ d ∧ d ≤ 99)) (_ : Sm4 d x.1) (_ : Sm4 d x.2) (_ : 0 ≤ n) (_ : n < 2147483629) (_ : (∀ (l : List Nat) (H' : Hp), Same H H' → Spoil d l → Q (.str (sOf l)) H')) : sp__law_bad vs H Q E
abbrev c__law_bad := @sp__law_bad.mk
inductive sp_length (vs : List V) (H : Hp) (Q : VK) (E : XK) : Prop
  | mk (a b n : Int) (_ : vs = [.int a, .int b, .int n]) (_ : n ≠ 0) (_ : Bd 8000 n) (_ : (Bd 8192 a ∧ Bd 8192 b)) (_ : ∀ p H', Same H H' → H' p = some (.tup [.int (lA a b n), .int (lB a b n), .int (lN a b n)]) → Q (.ref p) H') : sp_length vs H Q E
theorem c_length {a b n : Int} {vs : List V} {H : Hp} {Q : VK} {E : XK} (e : vs = [.int a, .int b, .int n]) (hn : n ≠ 0) (hb : Bd 8000 n) (q : ∀ p H', Same H H' → H' p = some (.tup [.int (lA a b n), .int (lB a b n), .int (lN a b n)]) → Q (.ref p) H') (ha8 : Bd 8192 a := by walk_at "b8") (hb8 : Bd 8192 b := by walk_at "b8") : sp_length vs H Q E := ⟨a, b, n, e, hn, hb, ⟨ha8, hb8⟩, q⟩
inductive sp_fraction (vs : List V) (H : Hp) (Q : VK) (E : XK) : Prop
  | mk (t b : Int) (_ : vs = [.int t, .int b]) (_ : b ≠ 0) (_ : Bd 8000 b) (_ : ∀ (r : Addr) (H' : Hp), Same H H' → H' r = some (.tup [.int (fT t b), .int (fB t b)]) → Q (.ref r) H') : sp_fraction vs H Q E
theorem c_fraction {t b : Int} {vs : List V} {H : Hp} {Q : VK} {E : XK} (e : vs = [.int t, .int b]) (hn : b ≠ 0) (hb : Bd 8000 b) (q : ∀ (r : Addr) (H' : Hp), Same H H' → H' r = some (.tup [.int (fT t b), .int (fB t b)]) → Q (.ref r) H') : sp_fraction vs H Q E := ⟨t, b, e, hn, hb, q⟩
inductive sp_by_parts (vs : List V) (H : Hp) (Q : VK) (E : XK) : Prop
  | mk (p p' : Addr) (t b t' b' : Int) (_ : vs = [.ref p, .ref p']) (_ : H p = some (.tup [.int t, .int b])) (_ : H p' = some (.tup [.int t', .int b'])) (_ : 1 ≤ b) (_ : 1 ≤ b') (_ : Int.gcd t b = 1) (_ : Int.gcd t' b' = 1) (_ : (Bd 3900 t ∧ Bd 3900 b ∧ Bd 3900 t' ∧ Bd 3900 b')) (_ : ∀ (r : Addr) (H' : Hp), Same H H' → H' r = some (.tup [.int (lA (t * b') (t' * b) (b * b')), .int (lB (t * b') (t' * b) (b * b')), .int (lN (t * b') (t' * b) (b * b'))]) → Q (.ref r) H') : sp_by_parts vs H Q E
theorem c_by_parts {p p' : Addr} {t b t' b' : Int} {H : Hp} {Q : VK} {E : XK} (h1 : H p = some (.tup [.int t, .int b])) (h2 : H p' = some (.tup [.int t', .int b'])) (n1 : 1 ≤ b) (n2 : 1 ≤ b') (k1 : Int.gcd t b = 1) (k2 : Int.gcd t' b' = 1) (b1 : Bd 3900 t) (b2 : Bd 3900 b) (b3 : Bd 3900 t') (b4 : Bd 3900 b') (q : ∀ (r : Addr) (H' : Hp), Same H H' → H' r = some (.tup [.int (lA (t * b') (t' * b) (b * b')), .int (lB (t * b') (t' * b) (b * b')), .int (lN (t * b') (t' * b) (b * b'))]) → Q (.ref r) H') : sp_by_parts ([.ref p, .ref p'] ++ []) H Q E := ⟨p, p', t, b, t', b', rfl, h1, h2, n1, n2, k1, k2, ⟨b1, b2, b3, b4⟩, q⟩
inductive sp_under (K : PySem.W.Frag) (vs : List V) (H : Hp) (Q : VK) (E : XK) : Prop
  | mk (d : Int) (p p' : Addr) (x y z x' y' z' : Int) (_ : vs = [.int d, .ref p, .ref p']) (_ : SqT K H p [.int x, .int y, .int z]) (_ : H p' = some (.tup [.int x', .int y', .int z'])) (_ : Bd 64 d) (_ : (Bd 1990 x ∧ Bd 1990 y ∧ Bd 1990 z ∧ Bd 1990 x' ∧ Bd 1990 y' ∧ Bd 1990 z')) (_ : Q (.bl (decide (0 < sgn d (x' * z - x * z') (y' * z - y * z')))) H) : sp_under K vs H Q E
theorem c_under {K : PySem.W.Frag} {d : Int} {p p' : Addr} {x y z x' y' z' : Int} {H : Hp} {Q : VK} {E : XK} (h1 : SqT K H p [.int x, .int y, .int z]) (h2 : H p' = some (.tup [.int x', .int y', .int z'])) (hd : Bd 64 d) (b1 : Bd 1990 x) (b2 : Bd 1990 y) (b3 : Bd 1990 z) (b4 : Bd 1990 x') (b5 : Bd 1990 y') (b6 : Bd 1990 z') (q : Q (.bl (decide (0 < sgn d (x' * z - x * z') (y' * z - y * z')))) H) : sp_under K ([.int d, .ref p, .ref p'] ++ []) H Q E := ⟨d, p, p', x, y, z, x', y', z', rfl, h1, h2, hd, ⟨b1, b2, b3, b4, b5, b6⟩, q⟩
inductive sp_shown_fraction (vs : List V) (H : Hp) (Q : VK) (E : XK) : Prop
  | mk {p : Addr} {t b : Int} (_ : vs = [.ref p]) (_ : H p = some (.tup [.int t, .int b])) (_ : 1 ≤ b) (_ : Bd 1500 t) (_ : Bd 1500 b) (_ : ∀ H', Same H H' → Q (.str (sOf (ftl t b))) H') : sp_shown_fraction vs H Q E
abbrev c_shown_fraction := @sp_shown_fraction.mk
inductive sp__law_root (K : PySem.W.Frag) (vs : List V) (H : Hp) (Q : VK) (E : XK) : Prop
  | mk {p : Addr} {ns : List Int} (_ : vs = [.ref p]) (_ : SqL K H p (ns.map V.int)) (_ : ∀ (d : Int) (H' : Hp), Rt d → Same H H' → Q (.int d) H') : sp__law_root K vs H Q E
abbrev c__law_root := @sp__law_root.mk
inductive sp__law_fraction (vs : List V) (H : Hp) (Q : VK) (E : XK) : Prop
  | mk {n : Int} (_ : vs = [.int n, .bl false]) (_ : 0 ≤ n) (_ : n < 2147483629) (_ : (∀ (r : Addr) (H' : Hp) (t b : Int), Same H H' → H' r = some (.tup [.int t, .int b]) → Sm t b → Q (.ref r) H')) : sp__law_fraction vs H Q E
abbrev c__law_fraction := @sp__law_fraction.mk
inductive sp__law_shown (vs : List V) (H : Hp) (Q : VK) (E : XK) : Prop
  | mk (d : Int) (p p' : Addr) (t b t' b' : Int) (_ : vs = [.int d, .ref p, .ref p']) (_ : H p = some (.tup [.int t, .int b])) (_ : H p' = some (.tup [.int t', .int b'])) (_ : (2 ≤ d ∧ d ≤ 100)) (_ : (1 ≤ b ∧ 1 ≤ b')) (_ : (Bd 110 t ∧ Bd 110 b ∧ Bd 110 t' ∧ Bd 110 b')) (_ : ∀ H', Same H H' → Q (.str (sOf (lnl d t b t' b'))) H') : sp__law_shown vs H Q E
theorem c__law_shown {d : Int} {p p' : Addr} {t b t' b' : Int} {H : Hp} {Q : VK} {E : XK} (h : H p = some (.tup [.int t, .int b]) ∧ H p' = some (.tup [.int t', .int b']) ∧ (2 ≤ d ∧ d ≤ 100) ∧ (1 ≤ b ∧ 1 ≤ b') ∧ (Bd 110 t ∧ Bd 110 b ∧ Bd 110 t' ∧ Bd 110 b')) (q : ∀ H', Same H H' → Q (.str (sOf (lnl d t b t' b'))) H') : sp__law_shown ([.int d, .ref p, .ref p'] ++ []) H Q E := ⟨d, p, p', t, b, t', b', rfl, h.1, h.2.1, h.2.2.1, h.2.2.2.1, h.2.2.2.2, q⟩
inductive sp_parts (vs : List V) (H : Hp) (Q : VK) (E : XK) : Prop
  | mk {p : Addr} {a b n : Int} (_ : vs = [.ref p]) (_ : H p = some (.tup [.int a, .int b, .int n])) (_ : n ≠ 0) (_ : Bd 8000 n) (_ : ∀ (r r1 r2 : Addr) (H' : Hp), Same H H' → H' r = some (.tup [.ref r1, .ref r2]) → H' r1 = some (.tup [.int (fT a n), .int (fB a n)]) → H' r2 = some (.tup [.int (fT b n), .int (fB b n)]) → Q (.ref r) H') : sp_parts vs H Q E
abbrev c_parts := @sp_parts.mk
inductive sp_is_length (vs : List V) (H : Hp) (Q : VK) (E : XK) : Prop
  | mk {p : Addr} {s : Sd} (_ : vs = [.ref p]) (_ : SdAt H p s) (_ : SK 430 340 s) (_ : ∀ H', Same H H' → Q (.bl true) H') : sp_is_length vs H Q E
abbrev c_is_length := @sp_is_length.mk
inductive sp_shown_rooted (vs : List V) (H : Hp) (Q : VK) (E : XK) : Prop
  | mk {d : Int} {p : Addr} {t b : Int} (_ : vs = [.int d, .ref p]) (_ : H p = some (.tup [.int t, .int b])) (_ : (2 ≤ d ∧ d ≤ 99)) (_ : 1 ≤ b) (_ : Bd 110 t) (_ : Bd 110 b) (_ : ∀ H', Same H H' → Q (.str (sOf (rtl d t b))) H') : sp_shown_rooted vs H Q E
abbrev c_shown_rooted := @sp_shown_rooted.mk
inductive sp_read_fraction_above (cs : Cs) (vs : List V) (H : Hp) (Q : VK) (E : XK) : Prop
  | mk {l : List Nat} (_ : vs = [.str (sOf l)]) (_ : l.length ≤ 33) (_ : (∀ (x : FF) (r : Addr) (H' : Hp), rfa l = some x → Same H H' → H' r = some (.tup [.int x.1, .int x.2]) → Q (.ref r) H')) (_ : (rfa l = none → ∀ H', Same H H' → E (.ref cs.NoText) none H')) : sp_read_fraction_above cs vs H Q E
abbrev c_read_fraction_above := @sp_read_fraction_above.mk
inductive sp__law_side (vs : List V) (H : Hp) (Q : VK) (E : XK) : Prop
  | mk {d n : Int} (_ : vs = [.int d, .int n, .bl false]) (_ : Rt d) (_ : 0 ≤ n) (_ : n < 2147483629) (_ : (∀ (r : Addr) (H' : Hp) (f : F4), Same H H' → F4At H' r f → Sm4 d f → Q (.ref r) H')) : sp__law_side vs H Q E
abbrev c__law_side := @sp__law_side.mk
inductive sp__law_rows (K : PySem.W.Frag) (vs : List V) (H : Hp) (Q : VK) (E : XK) : Prop
  | mk {d : Int} {p : Addr} {G : List G4} (_ : vs = [.int d, .ref p]) (_ : H p = some (.lst (G.map G4.v))) (_ : (∀ g ∈ G, g.At H)) (_ : (∀ g ∈ G, Sm4 d g.x.1 ∧ Sm4 d g.x.2)) (_ : G.length ≤ 10) (_ : (2 ≤ d ∧ d ≤ 99)) (_ : (∀ (r : Addr) (H' : Hp), Same H H' → H r = none → H' r = some (.lst (((G.map fun g => tx2 d g.x).map sOf).map V.str)) → Q (.ref r) H')) : sp__law_rows K vs H Q E
abbrev c__law_rows := @sp__law_rows.mk
inductive sp_is_side (vs : List V) (H : Hp) (Q : VK) (E : XK) : Prop
  | mk {d : Int} {p : Addr} {s : Sd} (_ : vs = [.int d, .ref p]) (_ : SdAt H p s) (_ : SK 430 340 s) (_ : Bd 64 d) (_ : (∀ H', Same H H' → Q (.bl (decide (0 < sgn d s.x s.y))) H')) : sp_is_side vs H Q E
abbrev c_is_side := @sp_is_side.mk
inductive sp_shown_length (vs : List V) (H : Hp) (Q : VK) (E : XK) : Prop
  | mk (d : Int) (p : Addr) (a b n : Int) (_ : vs = [.int d, .ref p]) (_ : H p = some (.tup [.int a, .int b, .int n])) (_ : (2 ≤ d ∧ d ≤ 99)) (_ : n ≠ 0) (_ : Bd 8000 n) (_ : (Bd 110 (fT a n) ∧ Bd 110 (fB a n) ∧ Bd 110 (fT b n) ∧ Bd 110 (fB b n))) (_ : ∀ H', Same H H' → Q (.str (sOf (lnl d (fT a n) (fB a n) (fT b n) (fB b n)))) H') : sp_shown_length vs H Q E
theorem c_shown_length {d : Int} {p : Addr} {a b n : Int} {H : Hp} {Q : VK} {E : XK} (h : H p = some (.tup [.int a, .int b, .int n]) ∧ (2 ≤ d ∧ d ≤ 99) ∧ n ≠ 0 ∧ Bd 8000 n ∧ (Bd 110 (fT a n) ∧ Bd 110 (fB a n) ∧ Bd 110 (fT b n) ∧ Bd 110 (fB b n))) (q : ∀ H', Same H H' → Q (.str (sOf (lnl d (fT a n) (fB a n) (fT b n) (fB b n)))) H') : sp_shown_length ([.int d, .ref p] ++ []) H Q E := ⟨d, p, a, b, n, rfl, h.1, h.2.1, h.2.2.1, h.2.2.2.1, h.2.2.2.2, q⟩
inductive sp_read_fraction (cs : Cs) (vs : List V) (H : Hp) (Q : VK) (E : XK) : Prop
  | mk {l : List Nat} (_ : vs = [.str (sOf l)]) (_ : l.length ≤ 33) (_ : (∀ (x : FF) (r : Addr) (H' : Hp), rfr l = some x → Same H H' → H' r = some (.tup [.int x.1, .int x.2]) → Q (.ref r) H')) (_ : (rfr l = none → ∀ H', Same H H' → E (.ref cs.NoText) none H')) : sp_read_fraction cs vs H Q E
abbrev c_read_fraction := @sp_read_fraction.mk
inductive sp_read_rooted (cs : Cs) (vs : List V) (H : Hp) (Q : VK) (E : XK) : Prop
  | mk {l : List Nat} (_ : vs = [.str (sOf l)]) (_ : l.length ≤ 33) (_ : (∀ (x : FF) (r : Addr) (H' : Hp), rrt l = some x → Same H H' → H' r = some (.tup [.int x.1, .int x.2]) → Q (.ref r) H')) (_ : (rrt l = none → ∀ H', Same H H' → E (.ref cs.NoText) none H')) : sp_read_rooted cs vs H Q E
abbrev c_read_rooted := @sp_read_rooted.mk
inductive sp__law_heap (K : PySem.W.Frag) (vs : List V) (H : Hp) (Q : VK) (E : XK) : Prop
  | mk {d : Int} {p : Addr} {ns : List Int} (_ : vs = [.int d, .ref p, .bl false]) (_ : H p = some (.lst (ns.map V.int))) (_ : ns.length ≤ 10) (_ : Rt d) (_ : (∀ (r : Addr) (H' : Hp) (G : List G4), Same H H' → H' r = some (.lst (G.map G4.v)) → (∀ g ∈ G, g.At H') → (∀ g ∈ G, Sm4 d g.x.1 ∧ Sm4 d g.x.2) → G.length = ns.length → Q (.ref r) H')) : sp__law_heap K vs H Q E
abbrev c__law_heap := @sp__law_heap.mk
inductive sp_is_board (vs : List V) (H : Hp) (Q : VK) (E : XK) : Prop
  | mk {d : Int} {c : Cell} (_ : vs = [.int d, .ref c.p]) (_ : c.At H) (_ : SK 430 340 c.b.w) (_ : SK 430 340 c.b.h) (_ : Bd 64 d) (_ : (∀ H', Same H H' → Q (.bl (decide (0 < sgn d c.b.w.x c.b.w.y) && decide (0 < sgn d c.b.h.x c.b.h.y))) H')) : sp_is_board vs H Q E
abbrev c_is_board := @sp_is_board.mk
inductive sp_shown_board (vs : List V) (H : Hp) (Q : VK) (E : XK) : Prop
  | mk {d : Int} {c : Cell} {x : F4 × F4} (_ : vs = [.int d, .ref c.p]) (_ : c.At H) (_ : c.b = bo2 x) (_ : Ok2 d x) (_ : (2 ≤ d ∧ d ≤ 99)) (_ : ∀ H', Same H H' → Q (.str (sOf (tx2 d x))) H') : sp_shown_board vs H Q E
abbrev c_shown_board := @sp_shown_board.mk
inductive sp_read_both_parts (cs : Cs) (vs : List V) (H : Hp) (Q : VK) (E : XK) : Prop
  | mk {d : Int} {l : List Nat} (_ : vs = [.int d, .str (sOf l)]) (_ : (2 ≤ d ∧ d ≤ 99)) (_ : l.length ≤ 33) (_ : (∀ (x y : FF) (r r1 r2 : Addr) (H' : Hp), rbp d l = some (x, y) → Same H H' → H' r = some (.tup [.ref r1, .ref r2]) → H' r1 = some (.tup [.int x.1, .int x.2]) → H' r2 = some (.tup [.int y.1, .int y.2]) → Q (.ref r) H')) (_ : (rbp d l = none → ∀ H', Same H H' → E (.ref cs.NoText) none H')) : sp_read_both_parts cs vs H Q E
abbrev c_read_both_parts := @sp_read_both_parts.mk
inductive sp_shown_heap (vs : List V) (H : Hp) (Q : VK) (E : XK) : Prop
  | mk (d : Int) (p : Addr) (C : List Cell) (W : List (F4 × F4)) (_ : vs = [.int d, .ref p]) (_ : H p = some (.lst (C.map Cell.v))) (_ : (∀ c ∈ C, c.At H)) (_ : C.map Cell.b = W.map bo2) (_ : (∀ x ∈ W, Ok2 d x)) (_ : W.length ≤ 50) (_ : (2 ≤ d ∧ d ≤ 99)) (_ : ∀ H', Same H H' → Q (.str (sOf (jn [59, 32] (W.map (tx2 d))))) H') : sp_shown_heap vs H Q E
theorem c_shown_heap {d : Int} {p : Addr} {C : List Cell} {W : List (F4 × F4)} {H : Hp} {Q : VK} {E : XK} (h : H p = some (.lst (C.map Cell.v)) ∧ (∀ c ∈ C, c.At H) ∧ C.map Cell.b = W.map bo2 ∧ (∀ x ∈ W, Ok2 d x) ∧ W.length ≤ 50 ∧ (2 ≤ d ∧ d ≤ 99)) (q : ∀ H', Same H H' → Q (.str (sOf (jn [59, 32] (W.map (tx2 d))))) H') : sp_shown_heap ([.int d, .ref p] ++ []) H Q E := ⟨d, p, C, W, rfl, h.1, h.2.1, h.2.2.1, h.2.2.2.1, h.2.2.2.2.1, h.2.2.2.2.2, q⟩
inductive sp_read_length (cs : Cs) (vs : List V) (H : Hp) (Q : VK) (E : XK) : Prop
  | mk {d : Int} {v : V} {l : List Nat} (_ : vs = [.int d, v]) (_ : (2 ≤ d ∧ d ≤ 99)) (_ : ((v = .str (sOf l) ∧ l.length ≤ 33) ∨ (∃ t, Kd H v t ∧ kitTy t "str" = some false))) (_ : (∀ (x y : FF) (r : Addr) (H' : Hp), v = .str (sOf l) → rbp d l = some (x, y) → okT d l = true → Same H H' → H' r = some (.tup [.int (lA (x.1 * y.2) (y.1 * x.2) (x.2 * y.2)), .int (lB (x.1 * y.2) (y.1 * x.2) (x.2 * y.2)), .int (lN (x.1 * y.2) (y.1 * x.2) (x.2 * y.2))]) → Q (.ref r) H')) (_ : ((v = .str (sOf l) → okT d l = false) → ∀ H', Same H H' → E (.ref cs.NoText) none H')) : sp_read_length cs vs H Q E
abbrev c_read_length := @sp_read_length.mk
inductive sp_read_board (cs : Cs) (vs : List V) (H : Hp) (Q : VK) (E : XK) : Prop
  | mk {d : Int} {xs : List (List Nat)} (_ : vs = [.int d, .str (sOf (jn [120] xs))]) (_ : Rt d) (_ : xs ≠ []) (_ : (∀ s ∈ xs, 120 ∉ s ∧ s.length ≤ 33)) (_ : xs.length ≤ 5) (_ : (jn [120] xs).length ≤ 200) (_ : (∀ (s s' : List Nat) (x y x' y' : FF) (c : Cell) (H' : Hp), xs = [s, s'] → okS d s = true → okS d s' = true → rbp d s = some (x, y) → rbp d s' = some (x', y') → Same H H' → c.At H' → c.b = ⟨(fOf x y).l, (fOf x' y').l⟩ → Q (.ref c.p) H')) (_ : ((xs.length = 2 → ∃ s ∈ xs, okS d s = false) → ∀ H', Same H H' → E (.ref cs.NoText) none H')) : sp_read_board cs vs H Q E
abbrev c_read_board := @sp_read_board.mk
inductive sp_read_heap (cs : Cs) (vs : List V) (H : Hp) (Q : VK) (E : XK) : Prop
  | mk {d : Int} {v : V} {ps : List (List Nat)} (_ : vs = [.int d, v]) (_ : Rt d) (_ : ((v = .str (sOf (jn [59, 32] ps)) ∧ ps ≠ [] ∧ ps.length ≤ 20 ∧ (jn [59, 32] ps).length ≤ 900 ∧ ∀ p ∈ ps, Row d p) ∨ (∃ t, Kd H v t ∧ kitTy t "str" = some false))) (_ : (∀ (r : Addr) (C : List Cell) (W : List (F4 × F4)) (H' : Hp), v = .str (sOf (jn [59, 32] ps)) → ps = W.map (tx2 d) → (∀ x ∈ W, Ok2 d x) → (∀ p ∈ ps, ¬ ∃ xs, BadR d p xs) → Same H H' → H' r = some (.lst (C.map Cell.v)) → (∀ c ∈ C, c.At H') → C.map Cell.b = W.map bo2 → Q (.ref r) H')) (_ : ((v = .str (sOf (jn [59, 32] ps)) → ∃ p ∈ ps, ∃ xs, BadR d p xs) → ∀ H', Same H H' → E (.ref cs.NoText) none H')) : sp_read_heap cs vs H Q E
abbrev c_read_heap := @sp_read_heap.mk
inductive sp__law_refused (cs : Cs) (vs : List V) (H : Hp) (Q : VK) (E : XK) : Prop
  | mk {d : Int} {v : V} {ps : List (List Nat)} (_ : vs = [.int d, v]) (_ : Rt d) (_ : ((v = .str (sOf (jn [59, 32] ps)) ∧ ps ≠ [] ∧ ps.length ≤ 20 ∧ (jn [59, 32] ps).length ≤ 900 ∧ ∀ p ∈ ps, Row d p) ∨ (∃ t, Kd H v t ∧ kitTy t "str" = some false))) (_ : (v = .str (sOf (jn [59, 32] ps)) → ∃ p ∈ ps, ∃ xs, BadR d p xs)) (_ : (∀ H', Same H H' → Q (.bl true) H')) : sp__law_refused cs vs H Q E
abbrev c__law_refused := @sp__law_refused.mk
theorem sC0 : FnScope ["thing"] ["thing"] (defScope s_is_whole) := by walk_at "sc"
theorem sC1 : FnScope ["one", "other", "pair", "rest"] ["one", "other"] (defScope s_common_divisor) := by walk_at "sc"
theorem sC2 : FnScope ["divisor", "bottom"] ["divisor", "bottom"] (defScope s_with_sign_of) := by walk_at "sc"
theorem sC7 : FnScope ["d", "a", "b"] ["d", "a", "b"] (defScope s_is_above_nought) := by walk_at "sc"
theorem sC12 : FnScope ["number", "pieces", "left"] ["number"] (defScope s_shown_whole) := by walk_at "sc"
theorem sC18 : FnScope ["text", "first", "number", "place"] ["text"] (defScope s_read_whole) := by walk_at "sc"
theorem sC26 : FnScope ["_law_script", "_law_k"] ["_law_script", "_law_k"] (defScope s__law_cell) := by walk_at "sc"
theorem sC27 : FnScope ["_law_cell_here", "_law_k"] ["_law_cell_here", "_law_k"] (defScope s__law_mixed) := by walk_at "sc"
theorem sC28 : FnScope ["_law_one", "_law_other"] ["_law_one", "_law_other"] (defScope s__law_divisor) := by walk_at "sc"
theorem sC31 : FnScope ["_law_one"] ["_law_one"] (defScope s__law_shown_fraction) := by walk_at "sc"
theorem sC33 : FnScope ["_law_d", "_law_first", "_law_second", "_law_a", "_law_b"] ["_law_d", "_law_first", "_law_second"] (defScope s__law_above) := by walk_at "sc"
theorem sC37 : FnScope ["_law_d", "_law_row", "_law_number", "_law_width", "_law_cross_mark", "_law_height", "_law_other", "_law_some"] ["_law_d", "_law_row", "_law_number"] (defScope s__law_bad) := by walk_at "sc"
theorem sC3 : FnScope ["a", "b", "n", "divisor"] ["a", "b", "n"] (defScope s_length) := by walk_at "sc"
theorem sC4 : FnScope ["top", "bottom", "divisor"] ["top", "bottom"] (defScope s_fraction) := by walk_at "sc"
theorem sC6 : FnScope ["f", "g", "shared"] ["f", "g"] (defScope s_by_parts) := by walk_at "sc"
theorem sC8 : FnScope ["d", "one", "other"] ["d", "one", "other"] (defScope s_under) := by walk_at "sc"
theorem sC13 : FnScope ["one", "top", "bottom"] ["one"] (defScope s_shown_fraction) := by walk_at "sc"
theorem sC29 : FnScope ["_law_script", "_law_d"] ["_law_script"] (defScope s__law_root) := by walk_at "sc"
theorem sC30 : FnScope ["_law_number", "_law_great", "_law_top", "_law_bottom", "_law_share"] ["_law_number", "_law_great"] (defScope s__law_fraction) := by walk_at "sc"
theorem sC32 : FnScope ["_law_d", "_law_first", "_law_second", "_law_ahead", "_law_sign"] ["_law_d", "_law_first", "_law_second"] (defScope s__law_shown) := by walk_at "sc"
theorem sC5 : FnScope ["one"] ["one"] (defScope s_parts) := by walk_at "sc"
theorem sC9 : FnScope ["thing"] ["thing"] (defScope s_is_length) := by walk_at "sc"
theorem sC14 : FnScope ["d", "one", "many"] ["d", "one"] (defScope s_shown_rooted) := by walk_at "sc"
theorem sC20 : FnScope ["text", "halves", "bottom"] ["text"] (defScope s_read_fraction_above) := by walk_at "sc"
theorem sC34 : FnScope ["_law_d", "_law_number", "_law_great", "_law_first", "_law_second"] ["_law_d", "_law_number", "_law_great"] (defScope s__law_side) := by walk_at "sc"
theorem sC36 : FnScope ["_law_d", "_law_sides", "_law_rows_here", "_law_width", "_law_height"] ["_law_d", "_law_sides"] (defScope s__law_rows) := by walk_at "sc"
theorem sC10 : FnScope ["d", "thing"] ["d", "thing"] (defScope s_is_side) := by walk_at "sc"
theorem sC15 : FnScope ["d", "one", "both", "rooted", "joint"] ["d", "one"] (defScope s_shown_length) := by walk_at "sc"
theorem sC19 : FnScope ["text", "high"] ["text"] (defScope s_read_fraction) := by walk_at "sc"
theorem sC21 : FnScope ["text", "high", "many"] ["text"] (defScope s_read_rooted) := by walk_at "sc"
theorem sC35 : FnScope ["_law_d", "_law_cells", "_law_great", "_law_sides", "_law_k", "_law_number"] ["_law_d", "_law_cells", "_law_great"] (defScope s__law_heap) := by walk_at "sc"
theorem sC11 : FnScope ["d", "thing"] ["d", "thing"] (defScope s_is_board) := by walk_at "sc"
theorem sC16 : FnScope ["d", "one", "width", "height"] ["d", "one"] (defScope s_shown_board) := by walk_at "sc"
theorem sC22 : FnScope ["d", "text", "halves", "joint"] ["d", "text"] (defScope s_read_both_parts) := by walk_at "sc"
theorem sC17 : FnScope ["d", "heap"] ["d", "heap"] (defScope s_shown_heap) := by walk_at "sc"
theorem sC23 : FnScope ["d", "text", "both", "one"] ["d", "text"] (defScope s_read_length) := by walk_at "sc"
theorem sC24 : FnScope ["d", "text", "sides", "one"] ["d", "text"] (defScope s_read_board) := by walk_at "sc"
theorem sC25 : FnScope ["d", "text"] ["d", "text"] (defScope s_read_heap) := by walk_at "sc"
theorem sC38 : FnScope ["_law_d", "_law_thing", "_law_told", "e"] ["_law_d", "_law_thing"] (defScope s__law_refused) := by walk_at "sc"
theorem sC39 : FnScope ["_law_script", "_law_d", "_law_sides", "_law_rows_here", "_law_k", "_law_number", "_law_at", "_law_bad_here"] ["_law_script"] (defScope s_law) := by walk_at "sc"
section
variable {P : Program} {w : World} {K : PySem.W.Frag} {mg : Str → Option Value} {base : Heap} {cs : Cs}
set_option maxHeartbeats 4000000 in
theorem ok_is_whole {f : Addr} {fd : FuncData} (F : Fun K "is_whole" "is_whole" s_is_whole f fd) (B : Bl mg)   : FnOk P w K mg base CX0 1 f fd ["thing"] sp_is_whole := by
  refine F.okA sC0 fun cdv A outer s H vs Q E hr h => ?_
  obtain ⟨i, rfl, q⟩ := h
  refine ⟨_, (pss_one (ps_ret (pe_and (pe_callB call_isinst rfl B.isinstance bt_isinstance (pa2 (pv 0) (pe_bltn (v := .ty "int") rfl B.int bt_int rfl))) (pe_one (pe_not (pe_callB call_isinst rfl B.isinstance bt_isinstance (pa2 (pv 0) (pe_bltn (v := .ty "bool") rfl B.bool bt_bool rfl)))))))), ?_⟩
  walk_at "s"
  repeat walk_at "rd"
  exact q
set_option maxHeartbeats 4000000 in
theorem ok_common_divisor {f : Addr} {fd : FuncData} (F : Fun K "common_divisor" "common_divisor" s_common_divisor f fd) (B : Bl mg) (g_GREAT_BITS : TopI mg "GREAT_BITS" (8192))  : FnOk P w K mg base CX0 1 f fd ["one", "other"] sp_common_divisor := by
  obtain ⟨u_GREAT_BITS, m_GREAT_BITS, r_GREAT_BITS⟩ := g_GREAT_BITS
  refine F.okA sC1 fun cdv A outer s H vs Q E hr h => ?_
  obtain ⟨a, b, rfl, hb, q⟩ := h
  refine ⟨_, (pss_cons (ps_if (pt_cmpR op_gt (pe_bm0 PySem.F.plainAttrs_int PySem.F.slot_int_bit_length PySem.F.type_int_bit_length mt_bits (pv 1)) (pe_glob (v := .int (8192)) rfl m_GREAT_BITS r_GREAT_BITS) (nomark _)) pss_never pss_nil) (pss_cons (ps_while PassesOwn.never (pt_cmpR op_ne (pv 1) pe_int (nomark _)) (pss_cons (ps_s 3 sC1.nd (pe_op op_modN (pv 0) (pv 1))) (pss_cons (ps_s 0 sC1.nd (pv 1)) (pss_one (ps_s 1 sC1.nd (pv 3)))))) (pss_one (ps_ret (pe_callB call_absR rfl B.abs bt_abs (pa1 (pv 0))))))), ?_⟩
  walk_at "s"
  repeat walk_at "rd"
  refine if_d (fun c => absurd c (bits_le hb)) (fun _ => ?_)
  repeat walk_at "rd"
  refine while_by (fun σ' H' => E3 fun (x y : Int) (r : Option V) => A3 (σ' = [some (.int x), some (.int y), none, r]) (H' = H) (Int.gcd x y = Int.gcd a b)) (fun σ' _ => match σ' with | [_, some (.int y), _, _] => y.natAbs | _ => 0) ⟨a, b, none, rfl, rfl, rfl⟩ ?_ ?_
  · rintro σ' H' ⟨x, y, r, rfl, rfl, hg⟩
    repeat walk_at "rd"
    refine if_nd (fun c => ?_) (fun c => ?_)
    · repeat walk_at "rd"
      exact ⟨⟨y, x.fmod y, _, rfl, rfl, (gcd_fmod x y).trans hg⟩, fmod_lt c⟩
    · repeat walk_at "rd"
      have e : (if x < 0 then -x else x) = ((Int.gcd a b : Nat) : Int) := by
        rw [← hg, c, Int.gcd_zero_right]
        split <;> omega
      rw [e]
      exact q
  · intro σ H Q Q' hq h
    obtain ⟨v, e, hs, k, e2, z⟩ := h
    exact ⟨v, e, hs, k, e2, hq _ _ z⟩
set_option maxHeartbeats 4000000 in
theorem ok_with_sign_of {f : Addr} {fd : FuncData} (F : Fun K "with_sign_of" "with_sign_of" s_with_sign_of f fd) (B : Bl mg)   : FnOk P w K mg base CX0 1 f fd ["divisor", "bottom"] sp_with_sign_of := by
  refine F.okA sC2 fun cdv A outer s H vs Q E hr h => ?_
  obtain ⟨g, n, rfl, q⟩ := h
  refine ⟨_, (pss_one (ps_ret (pe_ifExp (pt_cmpR op_lt (pv 1) pe_int (nomark _)) (pe_un un_neg (pv 0)) (pv 0)))), ?_⟩
  walk_at "s"
  repeat walk_at "rd"
  refine if_d (fun c => ?_) (fun c => ?_)
  · repeat walk_at "rd"
    rw [if_pos c] at q
    exact q
  · repeat walk_at "rd"
    rw [if_neg c] at q
    exact q
set_option maxHeartbeats 4000000 in
theorem ok_is_above_nought {f : Addr} {fd : FuncData} (F : Fun K "is_above_nought" "is_above_nought" s_is_above_nought f fd) (B : Bl mg)   : FnOk P w K mg base CX0 1 f fd ["d", "a", "b"] sp_is_above_nought := by
  refine F.okA sC7 fun cdv A outer s H vs Q E hr h => ?_
  obtain @⟨d, a, b, rfl, hd, ha, hb, q⟩ := h
  refine ⟨_, (pss_cons (ps_if (PW.pt (pw_and (pt_cmpR op_ge (pv 1) pe_int (nomark _)) (pw_and1 (pt_cmpR op_ge (pv 2) pe_int (nomark _))))) (pss_one (ps_ret (pe_or (pe_cmpR op_gt (pv 1) pe_int (nomark _)) (pe_one (pe_cmpR op_gt (pv 2) pe_int (nomark _)))))) pss_nil) (pss_cons (ps_if (PW.pt (pw_and (pt_cmpR op_le (pv 1) pe_int (nomark _)) (pw_and1 (pt_cmpR op_le (pv 2) pe_int (nomark _))))) (pss_one (ps_ret pe_bl)) pss_nil) (pss_cons (ps_if (pt_cmpR op_gt (pv 1) pe_int (nomark _)) (pss_one (ps_ret (pe_cmpR op_gt (pe_op op_mulB (pv 1) (pv 1)) (pe_op op_mulB (pe_op op_mulB (pv 0) (pv 2)) (pv 2)) (nomark _)))) pss_nil) (pss_one (ps_ret (pe_cmpR op_gt (pe_op op_mulB (pe_op op_mulB (pv 0) (pv 2)) (pv 2)) (pe_op op_mulB (pv 1) (pv 1)) (nomark _))))))), ?_⟩
  walk_at "s"
  repeat walk_at "rd"
  refine if_d (fun c1 => ?_) (fun c1 => ?_)
  · repeat walk_at "rd"
    refine if_d (fun c2 => ?_) (fun c2 => ?_)
    · repeat walk_at "rd"
      refine if_d (fun c3 => ?_) (fun c3 => ?_)
      · exact bl_q (Eq.symm (decide_eq_true (by unfold sgn; rw [if_pos ⟨c1, c2⟩, if_pos (by omega)]; decide))) q
      · repeat walk_at "rd"
        exact bl_q (decide_eq_decide.mpr (by unfold sgn; rw [if_pos ⟨c1, c2⟩]; split <;> omega)) q
    · repeat walk_at "rd"
      refine if_d (fun c3 => ?_) (fun c3 => ?_)
      · repeat walk_at "rd"
        refine if_d (fun c4 => ?_) (fun c4 => ?_)
        · repeat walk_at "rd"
          exact bl_q (Eq.symm (decide_eq_false (by unfold sgn; rw [if_neg (by omega), if_pos ⟨c3, c4⟩]; decide))) q
        · omega
      · repeat walk_at "rd"
        refine if_d (fun c4 => ?_) (fun c4 => ?_)
        · repeat walk_at "rd"
          exact bl_q (decide_eq_decide.mpr (by unfold sgn; rw [if_neg (by omega), if_neg (by omega), if_pos c4]; split <;> omega)) q
        · omega
  · repeat walk_at "rd"
    refine if_d (fun c3 => ?_) (fun c3 => ?_)
    · repeat walk_at "rd"
      refine if_d (fun c4 => ?_) (fun c4 => ?_)
      · repeat walk_at "rd"
        exact bl_q (Eq.symm (decide_eq_false (by unfold sgn; rw [if_neg (by omega), if_pos ⟨c3, c4⟩]; decide))) q
      · repeat walk_at "rd"
        refine if_d (fun c5 => ?_) (fun c5 => ?_)
        · omega
        · repeat walk_at "rd"
          exact bl_q (decide_eq_decide.mpr (by unfold sgn; rw [if_neg (by omega), if_neg (by omega), if_neg c5]; split <;> omega)) q
    · omega
theorem two59 : (2 : Nat) ^ 59 ≤ 1000000000000000000 := by decide
theorem len_bound {n left k N : Nat} (hN : N ≤ 1534) (h1 : left * 2 ^ (59 * k) ≤ n) (h2 : 1 ≤ left) (hn : n < 2 ^ N) : k < 26 := by
  rcases Nat.lt_or_ge k 26 with z | z
  · exact z
  · have a1 : 2 ^ N ≤ 2 ^ (59 * k) := Nat.pow_le_pow_right (by decide) (by omega)
    have a2 : 1 * 2 ^ (59 * k) ≤ left * 2 ^ (59 * k) := Nat.mul_le_mul_right _ h2
    rw [Nat.one_mul] at a2
    exact absurd hn (Nat.not_lt.mpr (Nat.le_trans a1 (Nat.le_trans a2 h1)))
theorem step_bound {n left k : Nat} (h1 : left * 2 ^ (59 * k) ≤ n) : left / 1000000000000000000 * 2 ^ (59 * (k + 1)) ≤ n := by
  have e : 2 ^ (59 * (k + 1)) = 2 ^ 59 * 2 ^ (59 * k) := by
    rw [← Nat.pow_add]
    congr 1
    omega
  rw [e, ← Nat.mul_assoc]
  have a1 : left / 1000000000000000000 * 2 ^ 59 ≤ left := by
    have a2 : left / 1000000000000000000 * 2 ^ 59 ≤ left / 1000000000000000000 * 1000000000000000000 := Nat.mul_le_mul_left _ two59
    exact Nat.le_trans a2 (Nat.div_mul_le_self left 1000000000000000000)
  exact Nat.le_trans (Nat.mul_le_mul_right _ a1) h1
theorem sum_le {ys : List Str} {b : Nat} (h : ∀ y ∈ ys, y.length ≤ b) : (ys.map fun y => y.length).sum ≤ ys.length * b := by
  induction ys with
  | nil => simp
  | cons y r ih =>
    have h1 := h y List.mem_cons_self
    have h2 := ih fun z hz => h z (List.mem_cons_of_mem _ hz)
    rw [List.map_cons, List.sum_cons, List.length_cons, Nat.add_mul]
    omega
theorem c_dash : (Str.ofString "-") = sOf [45] := by decide +kernel
theorem c_none : (Str.ofString "") = sOf [] := by decide +kernel
theorem c_slash : (Str.ofString "/") = sOf [47] := by decide +kernel
set_option maxHeartbeats 4000000 in
theorem ok_shown_whole {f : Addr} {fd : FuncData} (F : Fun K "shown_whole" "shown_whole" s_shown_whole f fd) (B : Bl mg) (g_PIECE : TopI mg "PIECE" (1000000000000000000)) (g_PIECE_FIGURES : TopI mg "PIECE_FIGURES" (18))  : FnOk P w K mg base CX0 1 f fd ["number"] sp_shown_whole := by
  obtain ⟨u_PIECE, m_PIECE, r_PIECE⟩ := g_PIECE
  obtain ⟨u_PIECE_FIGURES, m_PIECE_FIGURES, r_PIECE_FIGURES⟩ := g_PIECE_FIGURES
  refine F.okA sC12 fun cdv A outer s H vs Q E hr h => ?_
  obtain @⟨n, rfl, hn, q⟩ := h
  refine ⟨_, (pss_cons (ps_s 1 sC12.nd (pe_lst pa_nil)) (pss_cons (ps_s 2 sC12.nd (pe_callB call_absR rfl B.abs bt_abs (pa1 (pv 0)))) (pss_cons (ps_while PassesOwn.never (pt_cmpR op_ge (pv 2) (pe_glob (v := .int (1000000000000000000)) rfl m_PIECE r_PIECE) (nomark _)) (pss_cons (ps_expr (pe_bm PySem.F.plainAttrs_list PySem.F.slot_list_append PySem.F.type_list_append mt_append (pv 1) (pa1 (pe_bm PySem.F.plainAttrs_str PySem.F.slot_str_zfill PySem.F.type_str_zfill mt_zfill (pe_callTy call_strR rfl B.str bt_str (pa1 (pe_op op_mod (pv 2) (pe_glob (v := .int (1000000000000000000)) rfl m_PIECE r_PIECE)))) (pa1 (pe_glob (v := .int (18)) rfl m_PIECE_FIGURES r_PIECE_FIGURES)))))) (pss_one (ps_s 2 sC12.nd (pe_op op_fdivP (pv 2) (pe_glob (v := .int (1000000000000000000)) rfl m_PIECE r_PIECE)))))) (pss_cons (ps_expr (pe_bm PySem.F.plainAttrs_list PySem.F.slot_list_append PySem.F.type_list_append mt_append (pv 1) (pa1 (pe_callTy call_strR rfl B.str bt_str (pa1 (pv 2)))))) (pss_cons (ps_expr (pe_bm0 PySem.F.plainAttrs_list PySem.F.slot_list_reverse PySem.F.type_list_reverse mt_reverse (pv 1))) (pss_one (ps_ret (pe_op op_addS (pe_ifExp (pt_cmpR op_lt (pv 0) pe_int (nomark _)) pe_str pe_str) (pe_bm PySem.F.plainAttrs_str PySem.F.slot_str_join PySem.F.type_str_join mt_join pe_str (pa1 (pv 1))))))))))), ?_⟩
  walk_at "s"
  have hA : 0 ≤ (if n < 0 then -n else n) := by split <;> omega
  have hAn : (if n < 0 then -n else n).natAbs = n.natAbs := by split <;> omega
  generalize hab : (if n < 0 then -n else n) = ab at hA hAn
  repeat walk_at "rd"
  refine i_newLf (by simp) fun l H1 hl s1 e1 => ?_
  repeat walk_at "rd"
  rw [hab]
  repeat walk_at "rd"
  refine while_d (fun σ' H' => E2 fun (left : Int) (ys : List Str) => A8 (σ' = [some (.int n), some (.ref l), some (.int left)]) (SameX l H1 H') (H' l = some (.lst (ys.map V.str))) (0 ≤ left) ((left = 0 → ys = [])) (left.natAbs * 2 ^ (59 * ys.length) ≤ n.natAbs) ((∀ y ∈ ys, y.length = 18)) (digs n.natAbs = digs left.natAbs ++ (ys.reverse.map fun y => y.cps.toList).flatten)) (fun σ' _ => match σ' with | [_, _, some (.int left)] => left.natAbs | _ => 0) ⟨ab, [], rfl, fun b o e _ => e, e1, hA, fun _ => rfl, by rw [hAn]; simp, fun y hy => absurd hy (by simp), by rw [hAn]; simp⟩ ?_
  rintro σ' H' ⟨left, ys, rfl, sx, el, l0, lz, lb, hy, hd⟩
  have hlen : ys.length < 26 := by
    by_cases z : left = 0
    · rw [lz z]
      decide
    · exact len_bound (N := 1500) (by decide) lb (by omega) hn
  have lbd : Bd 1500 left := Nat.lt_of_le_of_lt (Nat.le_trans (Nat.le_mul_of_pos_right _ (Nat.pow_pos (by decide))) lb) hn
  repeat walk_at "rd"
  refine if_d (fun c => ?_) (fun c => ?_)
  · have r0 := Int.emod_nonneg left (b := 1000000000000000000) (by decide)
    have r1 := Int.emod_lt_of_pos left (b := 1000000000000000000) (by decide)
    refine wgo ?_
    repeat walk_at "rd"
    refine i_strI r0 (bd_range (B := 1000000000000000000) r0 (by omega) (by decide +kernel)) ?_
    repeat walk_at "rd"
    refine i_zf (by omega) ?_
    repeat walk_at "rd"
    refine i_append el (by rw [List.length_map]; omega) fun H2 sx2 e2 => ?_
    repeat walk_at "rd"
    have em : (left % 1000000000000000000).natAbs = left.natAbs % 10 ^ 18 := by omega
    have ed : (left / 1000000000000000000).natAbs = left.natAbs / 10 ^ 18 := by omega
    refine ⟨⟨_, ys ++ [sOf (lastf 18 (left % 1000000000000000000).natAbs)], rfl, sx.trans sx2, by rw [List.map_append]; exact e2, by omega, fun z => absurd z (by omega), ?_, fun y hyy => ?_, ?_⟩, ?_⟩
    · rw [List.length_append, ed]
      exact step_bound lb
    · rcases List.mem_append.mp hyy with h | h
      · exact hy y h
      · have : y = sOf (lastf 18 (left % 1000000000000000000).natAbs) := by simpa using h
        rw [this]
        exact (str_len _).trans (lastf_len ..)
    · rw [List.reverse_append, List.map_append, List.flatten_append, hd, ed, em, digs_cut 18 left.natAbs (by omega), List.append_assoc]
      simp
    · show (left / 1000000000000000000).natAbs < left.natAbs
      omega
  · repeat walk_at "rd"
    refine i_strI l0 (bd_range (B := 1000000000000000000) l0 (by omega) (by decide +kernel)) ?_
    repeat walk_at "rd"
    refine i_append el (by rw [List.length_map]; omega) fun H2 sx2 e2 => ?_
    have e2 : H2 l = some (.lst ((ys ++ [sOf (digs left.natAbs)]).map V.str)) := by rw [List.map_append]; exact e2
    have hdl := digs_len (n := left.natAbs) (k := 18) (by decide) (by omega)
    repeat walk_at "rd"
    refine i_reverse e2 fun H3 sx3 e3 => ?_
    rw [← List.map_reverse, List.reverse_append] at e3
    have e3 : H3 l = some (.lst ((sOf (digs left.natAbs) :: ys.reverse).map V.str)) := e3
    have sx' : SameX l H1 H3 := (sx.trans sx2).trans sx3
    have s' : Same H H3 := fun b o e => sx' b o (s1 b o e) (ne_of_none e hl)
    have hfl : ((sOf (digs left.natAbs) :: ys.reverse).map fun y => y.cps.toList).flatten = digs n.natAbs := by
      rw [List.map_cons, List.flatten_cons, hd]
    have hnl : (digs n.natAbs).length ≤ 600 := by
      have z := sum_le (ys := ys.reverse) (b := 18) (fun y h => Nat.le_of_eq (hy y (List.mem_reverse.mp h)))
      rw [hd, List.length_append, List.length_flatten, List.map_map]
      have e : ((ys.reverse.map (List.length ∘ fun y => y.cps.toList)).sum) = (ys.reverse.map fun y => y.length).sum := rfl
      rw [e]
      rw [List.length_reverse] at z
      omega
    have hsum : ((sOf (digs left.natAbs) :: ys.reverse).map (·.length)).sum ≤ 10000 := by
      have z := sum_le (ys := ys.reverse) (b := 18) (fun y h => Nat.le_of_eq (hy y (List.mem_reverse.mp h)))
      rw [List.length_reverse] at z
      rw [List.map_cons, List.sum_cons, str_len]
      omega
    repeat walk_at "rd"
    refine if_d (fun c2 => ?_) (fun c2 => ?_)
    · repeat walk_at "rd"
      rw [c_none]
      refine i_join e3 hsum ?_
      rw [hfl, c_dash]
      exact i_addS (by simp only [List.length_cons, List.length_nil]; omega) (by rw [show [45] ++ digs n.natAbs = txl n from (txl_neg c2).symm]; exact q H3 s')
    · repeat walk_at "rd"
      rw [c_none]
      refine i_join e3 hsum ?_
      rw [hfl]
      exact i_addS (by simp only [List.length_nil]; omega) (by rw [show [] ++ digs n.natAbs = txl n from (txl_nn (by omega)).symm]; exact q H3 s')
set_option maxHeartbeats 4000000 in
theorem ok_read_whole {f : Addr} {fd : FuncData} (F : Fun K "read_whole" "read_whole" s_read_whole f fd) (B : Bl mg) (X : Xs K mg cs) (g_PIECE_FIGURES : TopI mg "PIECE_FIGURES" (18)) (g_PIECE : TopI mg "PIECE" (1000000000000000000)) (g_FIGURES : TopS mg "FIGURES" (Str.ofString "0123456789"))  : FnOk P w K mg base (CXe P w) 1 f fd ["text"] (sp_read_whole cs) := by
  obtain ⟨u_PIECE_FIGURES, m_PIECE_FIGURES, r_PIECE_FIGURES⟩ := g_PIECE_FIGURES
  obtain ⟨u_PIECE, m_PIECE, r_PIECE⟩ := g_PIECE
  obtain ⟨u_FIGURES, m_FIGURES, r_FIGURES⟩ := g_FIGURES
  refine F.okXA sC18 fun cdv A outer s H vs Q E hr h => ?_
  obtain @⟨l, rfl, hl, q, qe⟩ := h
  refine ⟨_, (pss_cons (ps_if (PW.pt (pw_or (pt_cmpR op_eq (pv 0) pe_str (nomark _)) (pw_or1 (pt_not (pt_val (pe_callB (call_allL rfl) rfl B.all bt_all (pa1 (pe_comp ["sign"] [] rfl (pi_str (pv 0)) (fun _ _ _ _ _ => (pg_n 0 (show List.Nodup (α := Str) ["sign"] by decide +kernel))) (fun _ _ _ _ _ => pifs_nil) (fun _ _ _ _ _ => (pe_cmpR op_inS (pv 0) (pe_glob (v := .str (Str.ofString "0123456789")) rfl m_FIGURES r_FIGURES) (by with_unfolding_all rfl))))))))))) (pss_one (ps_raise raises_of X.o_NoText X.m_NoText rfl rfl)) pss_nil) (pss_cons (ps_s 1 sC18.nd (pe_op op_mod (pe_callB call_lenS rfl B.len PySem.boot_len (pa1 (pv 0))) (pe_glob (v := .int (18)) rfl m_PIECE_FIGURES r_PIECE_FIGURES))) (pss_cons (ps_s 2 sC18.nd (pe_callTy call_intT rfl B.int bt_int (pa1 (pe_op op_addS pe_str (pe_slice sl_str (pv 0) po_none (po_some (pv 1))))))) (pss_cons (ps_for PassesOwn.leaving rfl (pi_range18 rfl B.range (pa3 (pv 1) (pe_callB call_lenS rfl B.len PySem.boot_len (pa1 (pv 0))) (pe_glob (v := .int (18)) rfl m_PIECE_FIGURES r_PIECE_FIGURES))) (pg_n 3 sC18.nd) (pss_one (ps_s 2 sC18.nd (pe_op op_add (pe_op op_mulB (pv 2) (pe_glob (v := .int (1000000000000000000)) rfl m_PIECE r_PIECE)) (pe_callTy call_intT rfl B.int bt_int (pa1 (pe_slice sl_str (pv 0) (po_some (pv 3)) (po_some (pe_op op_add (pv 3) (pe_glob (v := .int (18)) rfl m_PIECE_FIGURES r_PIECE_FIGURES)))))))))) (pss_one (ps_ret (pv 2))))))), ?_⟩
  walk_at "s"
  repeat walk_at "rd"
  rw [c_none, so_dec]
  by_cases hne : l = []
  · rw [decide_eq_true hne]
    repeat walk_at "rd"
    exact i_raise (qe (by unfold rwh; rw [if_pos hne]) H (Same.refl H))
  rw [decide_eq_false hne]
  repeat walk_at "rd"
  refine i_compS ?_
  repeat walk_at "rd"
  refine ⟨_, rfl, fun D hD => comp_text (fun i xs σ' H' => (∃ v, σ' = [v]) ∧ xs = ((l.take i).map isD).map V.bl ∧ H' D = some (.lst xs) ∧ SameX D H H') ⟨⟨none, rfl⟩, rfl, upd_same, fun b o e n => by rw [upd_ne n]; exact e⟩ ?_ ?_⟩
  · rintro i c xs σ' H' hc ⟨⟨v, rfl⟩, rfl, eD, sx⟩
    have hcl : l[i]? = some c := by simpa using hc
    have hi := (List.getElem?_eq_some_iff.mp hcl).1
    repeat walk_at "rd"
    try rw [k_figs]
    refine i_inS ?_
    rw [fig_dec]
    repeat walk_at "rd"
    refine i_append eD (by rw [List.length_map, List.length_map, List.length_take]; omega) fun H3 sx3 e3 => ?_
    refine cnext (by simpa using hi) ⟨⟨_, rfl⟩, rfl, ?_, sx.trans sx3⟩
    rw [List.take_succ, hcl, List.map_append, List.map_append]
    exact e3
  rintro xs σ' H1 ⟨_, rfl, eD, sx⟩
  have s1 : Same H H1 := fun b o e => sx b o e (ne_of_none e hD)
  rw [List.take_of_length_le (by simp)] at eD
  repeat walk_at "rd"
  refine i_allB (SqL.of eD) ?_
  rw [List.all_map, show (id ∘ isD : Nat → Bool) = isD from rfl]
  by_cases ha : l.all isD = true
  case neg =>
    rw [Bool.not_eq_true] at ha
    rw [ha]
    repeat walk_at "rd"
    exact i_raise (qe (by unfold rwh; rw [if_neg hne, if_neg (by rw [ha]; decide)]) H1 s1)
  rw [ha]
  have hdg := all_isD.mp ha
  have hrw : rwh l = some (NumText.digitsVal l) := by unfold rwh; rw [if_neg hne, if_pos ha]
  repeat walk_at "rd"
  refine i_lenS (by omega) ?_
  repeat walk_at "rd"
  rw [show ((l.length : Nat) : Int) % 18 = ((l.length % 18 : Nat) : Int) by omega]
  have hf : l.length % 18 ≤ l.length := Nat.mod_le _ _
  have hf2 : l.length % 18 < 18 := Nat.mod_lt _ (by decide)
  generalize ef : l.length % 18 = f at *
  repeat walk_at "rd"
  try rw [k_nought]
  refine i_sTo hf (by omega) ?_
  repeat walk_at "rd"
  refine i_addS (by rw [List.length_take]; simp only [List.length_cons, List.length_nil]; omega) ?_
  repeat walk_at "rd"
  have d0 : NumText.digitsVal ([48] ++ l.take f) = NumText.digitsVal (l.take f) := by
    rw [dv_append, show NumText.digitsVal [48] = 0 from rfl]
    omega
  refine i_intT (fun c hc => ?_) (by simp) (by rw [List.length_append, List.length_take]; simp only [List.length_cons, List.length_nil]; omega) ?_
  · rcases List.mem_append.mp hc with z | z
    · have : c = 48 := by simpa using z
      omega
    · exact hdg c (List.mem_of_mem_take z)
  rw [d0]
  repeat walk_at "rd"
  refine i_forR18 ?_
  repeat walk_at "rd"
  refine i_lenS (by omega) ?_
  repeat walk_at "rd"
  obtain ⟨n, hn⟩ : ∃ n, eighteenth (f : Int) (l.length : Int) = n := ⟨_, rfl⟩
  have hn2 : l.length = f + 18 * n := by
    unfold eighteenth at hn
    omega
  refine ⟨_, _, rfl, ⟨by omega, by omega, by omega, by omega⟩, ?_⟩
  rw [hn]
  refine for_rangeS (lo := f) (c := 18) (n := n) (fun i σ' H' => ∃ v, σ' = [some (.str (sOf l)), some (.int f), some (.int ((NumText.digitsVal (l.take (f + 18 * i)) : Nat) : Int)), v] ∧ H' = H1) ⟨_, rfl, rfl⟩ ?_ ?_
  · rintro i σ' H' hi ⟨v, rfl, rfl⟩
    have hb := dv_bd (l := l.take (f + 18 * i)) (fun c hc => hdg c (List.mem_of_mem_take hc)) (by rw [List.length_take]; omega)
    have e1 : (f : Int) + (i : Nat) * 18 = ((f + 18 * i : Nat) : Int) := by omega
    have e2 : ((f + 18 * i : Nat) : Int) + 18 = ((f + 18 * i + 18 : Nat) : Int) := by omega
    rw [e1]
    repeat walk_at "rd"
    rw [e2]
    refine i_sAB (by omega) (by omega) (by omega) ?_
    repeat walk_at "rd"
    have lp : ((l.drop (f + 18 * i)).take (f + 18 * i + 18 - (f + 18 * i))).length = 18 := by
      rw [List.length_take, List.length_drop]
      omega
    refine i_intT (fun c hc => hdg c (List.mem_of_mem_drop (List.mem_of_mem_take hc))) (fun e => by rw [e] at lp; simp at lp) (by omega) ?_
    repeat walk_at "rd"
    refine ⟨some (V.int ((f + 18 * i : Nat) : Int)), ?_, rfl⟩
    have et : l.take (f + 18 * (i + 1)) = l.take (f + 18 * i) ++ (l.drop (f + 18 * i)).take (f + 18 * i + 18 - (f + 18 * i)) := by
      rw [show f + 18 * (i + 1) = f + 18 * i + (f + 18 * i + 18 - (f + 18 * i)) by omega, List.take_add]
    have ed := dv_append (l.take (f + 18 * i)) ((l.drop (f + 18 * i)).take (f + 18 * i + 18 - (f + 18 * i)))
    rw [lp, ← et] at ed
    rw [ed]
    have e3 : (((NumText.digitsVal (l.take (f + 18 * i)) * 10 ^ 18 + NumText.digitsVal ((l.drop (f + 18 * i)).take (f + 18 * i + 18 - (f + 18 * i))) : Nat) : Int)) = (NumText.digitsVal (l.take (f + 18 * i)) : Nat) * 1000000000000000000 + (NumText.digitsVal ((l.drop (f + 18 * i)).take (f + 18 * i + 18 - (f + 18 * i))) : Nat) := by
      rw [Int.natCast_add, Int.natCast_mul]
      rfl
    rw [e3]
  · rintro σ' H' ⟨v, rfl, rfl⟩
    rw [List.take_of_length_le (by omega)]
    repeat walk_at "rd"
    exact q _ H' hrw s1
set_option maxHeartbeats 4000000 in
theorem ok__law_cell {f : Addr} {fd : FuncData} (F : Fun K "_law_cell" "_law_cell" s__law_cell f fd) (B : Bl mg)   : FnOk P w K mg base CX0 1 f fd ["_law_script", "_law_k"] (sp__law_cell K) := by
  refine F.okA sC26 fun cdv A outer s H vs Q E hr h => ?_
  obtain @⟨p, ns, k, rfl, hS, hk, q⟩ := h
  refine ⟨_, (pss_cons (ps_if (pt_cmpR op_lt (pv 1) (pe_callB call_lenR rfl B.len PySem.boot_len (pa1 (pv 0))) (nomark _)) (pss_one (ps_ret (pe_i ix_list (pv 0) (pv 1)))) pss_nil) (pss_one (ps_ret pe_int))), ?_⟩
  walk_at "s"
  repeat walk_at "rd"
  refine ⟨p, _, rfl, .inl hS, ?_⟩
  repeat walk_at "rd"
  refine if_d (fun c => ?_) (fun c => ?_)
  · repeat walk_at "rd"
    rw [List.length_map] at c
    obtain ⟨d, hd, e⟩ := atI_in (xs := ns) (i := k) hk c
    exact ⟨p, _, _, _, rfl, rfl, hS, e, q d⟩
  · repeat walk_at "rd"
    exact q 0
set_option maxHeartbeats 4000000 in
theorem ok__law_mixed {f : Addr} {fd : FuncData} (F : Fun K "_law_mixed" "_law_mixed" s__law_mixed f fd) (B : Bl mg)   : FnOk P w K mg base CX0 1 f fd ["_law_cell_here", "_law_k"] sp__law_mixed := by
  refine F.okA sC27 fun cdv A outer s H vs Q E hr h => ?_
  obtain @⟨c, k, rfl, k0, k1, q⟩ := h
  refine ⟨_, (pss_one (ps_ret (pe_op op_mod (pe_op op_mulB (pe_op op_add (pe_op op_mod (pv 0) pe_int) pe_int) (pe_op op_add pe_int (pe_op op_mulB (pe_op op_mulB pe_int (pv 1)) (pv 1)))) pe_int))), ?_⟩
  walk_at "s"
  have kb : Bd 20 k := bd_small 20 (by omega) (by omega) (by decide)
  have cb : Bd 40 (c % 2147483647) := bd_range (B := 2147483647) (by omega) (by omega) (by decide +kernel)
  repeat walk_at "rd"
  exact q _ (Int.emod_nonneg _ (by decide)) (Int.emod_lt_of_pos _ (by decide))
set_option maxHeartbeats 4000000 in
theorem ok__law_divisor {f : Addr} {fd : FuncData} (F : Fun K "_law_divisor" "_law_divisor" s__law_divisor f fd) (B : Bl mg)   : FnOk P w K mg base CX0 1 f fd ["_law_one", "_law_other"] sp__law_divisor := by
  refine F.okA sC28 fun cdv A outer s H vs Q E hr h => ?_
  obtain @⟨a, b, rfl, ha, hb, q⟩ := h
  refine ⟨_, (pss_cons (ps_while PassesOwn.never (pt_cmpR op_ne (pv 1) pe_int (nomark _)) (pss_one (ps_par (i := 0) (j := 1) rfl sC28.nd rfl rfl (by decide) rfl rfl (pa2 (pv 1) (pe_op op_mod (pv 0) (pv 1))) rfl))) (pss_one (ps_ret (pv 0)))), ?_⟩
  walk_at "s"
  repeat walk_at "rd"
  refine while_d (fun σ' H' => E2 fun (x y : Int) => A5 (σ' = [some (.int x), some (.int y)]) (H' = H) (0 ≤ x) (0 ≤ y) (Int.gcd x y = Int.gcd a b)) (fun σ' _ => match σ' with | [_, some (.int y)] => y.natAbs | _ => 0) ⟨a, b, rfl, rfl, ha, hb, rfl⟩ ?_
  rintro σ' H' ⟨x, y, rfl, rfl, hx, hy, hg⟩
  repeat walk_at "rd"
  refine if_nd (fun c => ?_) (fun c => ?_)
  · have y0' : 0 < y := by omega
    refine wgo ?_
    repeat walk_at "rd"
    refine ⟨⟨y, x % y, rfl, rfl, hy, Int.emod_nonneg _ (by omega), (gcd_emod x y).trans hg⟩, ?_⟩
    have h1 := Int.emod_nonneg x (show y ≠ 0 by omega)
    have h2 := Int.emod_lt_of_pos x y0'
    show (x % y).natAbs < y.natAbs
    omega
  · repeat walk_at "rd"
    refine int_q ?_ q
    rw [← hg, c, Int.gcd_zero_right]
    omega
set_option maxHeartbeats 4000000 in
theorem ok__law_shown_fraction {f : Addr} {fd : FuncData} (F : Fun K "_law_shown_fraction" "_law_shown_fraction" s__law_shown_fraction f fd) (B : Bl mg)   : FnOk P w K mg base CX0 1 f fd ["_law_one"] sp__law_shown_fraction := by
  refine F.okA sC31 fun cdv A outer s H vs Q E hr h => ?_
  obtain @⟨p, t, b, rfl, h1, b1, b2, q⟩ := h
  refine ⟨_, (pss_cons (ps_if (pt_cmpR op_eq (pit 0) pe_int (nomark _)) (pss_one (ps_ret (pe_callTy call_strR rfl B.str bt_str (pa1 (pit 0))))) pss_nil) (pss_one (ps_ret (pe_op op_addS (pe_op op_addS (pe_callTy call_strR rfl B.str bt_str (pa1 (pit 0))) pe_str) (pe_callTy call_strR rfl B.str bt_str (pa1 (pit 0))))))), ?_⟩
  walk_at "s"
  have l1 := t110 b1
  have l2 := t110 b2
  have m1 : Bd 1000 t := b1.mono (by decide)
  have m2 : Bd 1000 b := b2.mono (by decide)
  repeat walk_at "rd"
  refine if_d (fun c => ?_) (fun c => ?_)
  · have e : ftl t b = txl t := if_pos c
    rw [e] at q
    repeat walk_at "rd"
    exact i_strZ m1 q
  · have e : ftl t b = txl t ++ [47] ++ txl b := if_neg c
    rw [e] at q
    repeat walk_at "rd"
    refine i_strZ m1 ?_
    repeat walk_at "rd"
    rw [c_slash]
    refine i_addS (by simp only [List.length_cons, List.length_nil]; omega) ?_
    repeat walk_at "rd"
    refine i_strZ m2 ?_
    exact i_addS (by simp only [List.length_append, List.length_cons, List.length_nil]; omega) q
theorem above_last {d a b : Int} (hR : Rt d) (n1 : ¬ (0 ≤ a ∧ 0 ≤ b)) (n2 : ¬ (a ≤ 0 ∧ b ≤ 0)) : decide (decide (0 < a) = decide (d * b * b < a * a)) = decide (0 < sgn d a b) := by
  by_cases ha0 : 0 < a
  · rw [sgn_pa ha0 (by omega), decide_eq_true ha0]
    by_cases z : d * b * b < a * a
    · rw [decide_eq_true z, if_pos z]; rfl
    · rw [decide_eq_false z, if_neg z]; rfl
  · rw [sgn_pb (by omega) (by omega), decide_eq_false ha0]
    have ne : a * a ≠ d * b * b := fun e => by
      have := irr hR e
      omega
    by_cases z : d * b * b < a * a
    · rw [decide_eq_true z, if_neg (show ¬ a * a < d * b * b by omega)]; rfl
    · rw [decide_eq_false z, if_pos (show a * a < d * b * b by omega)]; rfl
set_option maxHeartbeats 4000000 in
theorem ok__law_above {f : Addr} {fd : FuncData} (F : Fun K "_law_above" "_law_above" s__law_above f fd) (B : Bl mg)   : FnOk P w K mg base CX0 1 f fd ["_law_d", "_law_first", "_law_second"] sp__law_above := by
  refine F.okA sC33 fun cdv A outer s H vs Q E hr h => ?_
  obtain ⟨d, p, p', f, g, f', g', rfl, h1, h2, hR, ⟨b1, b2, b3, b4⟩, q⟩ := h
  refine ⟨_, (pss_cons (ps_s 3 sC33.nd (pe_op op_mulB (pit 1) (pit 2))) (pss_cons (ps_s 4 sC33.nd (pe_op op_mulB (pit 2) (pit 1))) (pss_cons (ps_if (PW.pt (pw_and (pt_cmpR op_ge (pv 3) pe_int (nomark _)) (pw_and1 (pt_cmpR op_ge (pv 4) pe_int (nomark _))))) (pss_one (ps_ret (pe_cmpR op_gt (pe_op op_add (pv 3) (pv 4)) pe_int (nomark _)))) pss_nil) (pss_cons (ps_if (PW.pt (pw_and (pt_cmpR op_le (pv 3) pe_int (nomark _)) (pw_and1 (pt_cmpR op_le (pv 4) pe_int (nomark _))))) (pss_one (ps_ret pe_bl)) pss_nil) (pss_one (ps_ret (pe_cmpR op_eq (pe_cmpR op_gt (pv 3) pe_int (nomark _)) (pe_cmpR op_gt (pe_op op_mulB (pv 3) (pv 3)) (pe_op op_mulB (pe_op op_mulB (pv 0) (pv 4)) (pv 4)) (nomark _)) (nomark _)))))))), ?_⟩
  walk_at "s"
  have dlo := hR.lo
  have dhi := hR.hi
  have hd : Bd 64 d := bd_range (B := 99) (by omega) hR.hi (by decide +kernel)
  have ba : Bd 1400 (f * g') := b1.mul b4
  have bb : Bd 1400 (f' * g) := b3.mul b2
  repeat walk_at "rd"
  refine if_d (fun c1 => ?_) (fun c1 => ?_)
  · repeat walk_at "rd"
    refine if_d (fun c2 => ?_) (fun c2 => ?_)
    · repeat walk_at "rd"
      exact bl_q (decide_eq_decide.mpr (by rw [sgn_nn c1 c2]; split <;> omega)) q
    · repeat walk_at "rd"
      refine if_d (fun c3 => ?_) (fun c3 => ?_)
      · repeat walk_at "rd"
        refine if_d (fun c4 => ?_) (fun c4 => ?_)
        · repeat walk_at "rd"
          exact bl_q (Eq.symm (decide_eq_false (by rw [sgn_np (by omega) c3 c4]; decide))) q
        · omega
      · repeat walk_at "rd"
        exact bl_q (above_last hR (by omega) (by omega)) q
  · repeat walk_at "rd"
    refine if_d (fun c3 => ?_) (fun c3 => ?_)
    · repeat walk_at "rd"
      refine if_d (fun c4 => ?_) (fun c4 => ?_)
      · repeat walk_at "rd"
        exact bl_q (Eq.symm (decide_eq_false (by rw [sgn_np (by omega) c3 c4]; decide))) q
      · repeat walk_at "rd"
        exact bl_q (above_last hR (by omega) (by omega)) q
    · omega
theorem k_bad0 : (Str.ofString "x") = sOf [120] := by decide +kernel
theorem k_bad1 : (Str.ofString "r") = sOf [114] := by decide +kernel
theorem k_bad2 : (Str.ofString "") = sOf [] := by decide +kernel
theorem k_bad3 : (Str.ofString " ") = sOf [32] := by decide +kernel
theorem k_bad4 : (Str.ofString "X") = sOf [88] := by decide +kernel
theorem k_bad5 : (Str.ofString " x") = sOf [32, 120] := by decide +kernel
theorem k_bad6 : (Str.ofString "0x") = sOf [48, 120] := by decide +kernel
theorem k_bad7 : (Str.ofString "x0") = sOf [120, 48] := by decide +kernel
theorem k_bad8 : (Str.ofString "-1x") = sOf [45, 49, 120] := by decide +kernel
theorem k_bad9 : (Str.ofString "-1/2x") = sOf [45, 49, 47, 50, 120] := by decide +kernel
theorem k_bad10 : (Str.ofString ";") = sOf [59] := by decide +kernel
theorem k_bad11 : (Str.ofString "1-rx2") = sOf [49, 45, 114, 120, 50] := by decide +kernel
theorem k_bad12 : (Str.ofString "x-r") = sOf [120, 45, 114] := by decide +kernel
theorem k_bad13 : (Str.ofString "x1-9r") = sOf [120, 49, 45, 57, 114] := by decide +kernel
theorem k_bad14 : (Str.ofString "x3+") = sOf [120, 51, 43] := by decide +kernel
theorem k_bad15 : (Str.ofString "; ") = sOf [59, 32] := by decide +kernel
theorem k_bad16 : (Str.ofString ",") = sOf [44] := by decide +kernel
theorem i_addSK {x y : Str} {l m : List Nat} {H : Hp} {Q : VK} (hx : x = sOf l) (hy : y = sOf m) (h : l.length + m.length ≤ 1000) (q : Q (.str (sOf (l ++ m))) H) : rAddS (.str x) (.str y) H Q := by
  subst hx hy
  exact i_addS h q
set_option maxHeartbeats 4000000 in
theorem ok__law_bad {f : Addr} {fd : FuncData} (F : Fun K "_law_bad" "_law_bad" s__law_bad f fd) (B : Bl mg)   : FnOk P w K mg base CX0 1 f fd ["_law_d", "_law_row", "_law_number"] sp__law_bad := by
  refine F.okA sC37 fun cdv A outer s H vs Q E hr h => ?_
  obtain @⟨d, n, x, rfl, hd, hw, hh, n0, n1, q⟩ := h
  refine ex_w ⟨_, (wss_cons (ws_of (ps_asg (pe_bm PySem.F.plainAttrs_str PySem.F.slot_str_partition PySem.F.type_str_partition mt_pt (pv 1) (pa1 pe_str)) (pg_tup (n := 3) rfl (pgs_cons (pg_n 3 sC37.nd) (pgs_cons (pg_n 4 sC37.nd) (pgs_cons (pg_n 5 sC37.nd) pgs_nil)))))) (wss_cons (ws_of (ps_s 6 sC37.nd (pe_op op_addS pe_str (pe_callTy call_strR rfl B.str bt_str (pa1 (pe_op op_add (pv 0) pe_int)))))) (wss_cons (ws_set (i := 7) sC37.nd rfl (Or.inl rfl) (we_lst (wa_cons (we_of pe_str) (wa_cons (we_of pe_str) (wa_cons (we_of (pv 3)) (wa_cons (we_of (pe_op op_addS (pv 3) pe_str)) (wa_cons (we_of (pe_op op_addS pe_str (pv 5))) (wa_cons (we_of (pe_op op_addS (pe_op op_addS (pv 3) pe_str) (pv 5))) (wa_cons (we_of (pe_op op_addS (pe_op op_addS (pv 3) pe_str) (pv 5))) (wa_cons (we_of (pe_op op_addS (pv 1) pe_str)) wa_nil)))))))))) (wss_cons (ws_set (i := 7) sC37.nd rfl (Or.inl rfl) (we_op op_cat (we_of (pv 7)) (we_lst (wa_cons (we_of (pe_op op_addS pe_str (pv 1))) (wa_cons (we_of (pe_op op_addS (pe_op op_addS (pv 1) pe_str) (pv 5))) (wa_cons (we_of (pe_op op_addS pe_str (pv 5))) (wa_cons (we_of (pe_op op_addS (pv 3) pe_str)) (wa_cons (we_of (pe_op op_addS pe_str (pv 5))) (wa_cons (we_of (pe_op op_addS (pe_op op_addS (pv 3) pe_str) (pe_callTy call_strR rfl B.str bt_str (pa1 (pv 0))))) wa_nil))))))))) (wss_cons (ws_set (i := 7) sC37.nd rfl (Or.inl rfl) (we_op op_cat (we_of (pv 7)) (we_lst (wa_cons (we_of (pe_op op_addS pe_str (pv 5))) (wa_cons (we_of (pe_op op_addS (pe_op op_addS (pv 3) pe_str) (pe_callTy call_strR rfl B.str bt_str (pa1 (pv 0))))) (wa_cons (we_of (pe_op op_addS (pe_op op_addS (pv 6) pe_str) (pv 5))) (wa_cons (we_of (pe_op op_addS (pe_op op_addS (pv 3) pe_str) (pv 6))) (wa_cons (we_of (pe_op op_addS (pv 1) pe_str)) wa_nil)))))))) (wss_one (ws_ret (we_ix ix_list (we_op op_cat (we_of (pv 7)) (we_lst (wa_cons (we_of (pe_op op_addS pe_str (pv 1))) (wa_cons (we_of (pe_op op_addS (pv 1) pe_str)) (wa_cons (we_of (pe_op op_addS pe_str (pv 1))) (wa_cons (we_of (pe_op op_addS (pe_op op_addS (pv 1) pe_str) (pv 1))) (wa_cons (we_of (pe_op op_addS (pe_op op_addS (pv 1) pe_str) (pv 1))) (wa_cons (we_of pe_str) wa_nil)))))))) (pe_op op_mod (pv 2) pe_int) (fun _ _ => rfl))))))))), ?_⟩
  walk_at "s"
  have hdb : Bd 1000 d := bd_small 1000 (by omega) (by omega) (by decide)
  have hdb1 : Bd 1000 (d + 1) := bd_small 1000 (by omega) (by omega) (by decide)
  have l4 : (digs d.natAbs).length ≤ 3 := digs_le (by omega)
  have l5 : (digs (d + 1).natAbs).length ≤ 3 := digs_le (by omega)
  have ed : txl d = digs d.natAbs := txl_nn (by omega)
  have ed1 : txl (d + 1) = digs (d + 1).natAbs := txl_nn (by omega)
  have lw := hw.len hd
  have lh := hh.len hd
  have wx : 120 ∉ x.1.tx d := fun z => absurd (hw.mem z) (by decide)
  have hx : 120 ∉ x.2.tx d := fun z => absurd (hh.mem z) (by decide)
  have w5 : 59 ∉ x.1.tx d := fun z => absurd (hw.mem z) (by decide)
  have h5 : 59 ∉ x.2.tx d := fun z => absurd (hh.mem z) (by decide)
  have R : Row d (tx2 d x) := ⟨Ns.of (by show 59 ∉ x.1.tx d ++ [120] ++ x.2.tx d; simp [w5, h5]), by show (x.1.tx d ++ [120] ++ x.2.tx d).length ≤ 200; simp; omega, .inl ⟨x, rfl, ⟨hw.ok, hh.ok⟩, by omega, by omega⟩⟩
  have ob := fun {l : List Nat} => bad_all (l := l) hd wx (fun z => absurd (hw.mem z) (by decide)) w5 lw hx (fun z => absurd (hh.mem z) (by decide)) h5 lh rfl rfl R
  have er : tx2 d x = x.1.tx d ++ 120 :: x.2.tx d := by show x.1.tx d ++ [120] ++ x.2.tx d = _; simp
  have ej : tx2 d x = jn [120] [x.1.tx d, x.2.tx d] := rfl
  have lr : (tx2 d x).length ≤ 33 := by rw [er]; simp; omega
  generalize hr' : digs d.natAbs = r at *
  generalize hr1' : digs (d + 1).natAbs = r1 at *
  generalize hW : x.1.tx d = w at *
  generalize hH : x.2.tx d = h at *
  repeat walk_at "rd"
  rw [k_x, er]
  refine i_pt wx (by omega) fun p0 H0 s0 e0 => ?_
  rw [← er]
  rw [ej] at lr ⊢
  clear er ej R
  repeat (first | walk_at "rd" | refine i_addSK (by first | exact k_bad0 | exact k_bad1 | exact k_bad2 | exact k_bad3 | exact k_bad4 | exact k_bad5 | exact k_bad6 | exact k_bad7 | exact k_bad8 | exact k_bad9 | exact k_bad10 | exact k_bad11 | exact k_bad12 | exact k_bad13 | exact k_bad14 | exact k_bad15 | exact k_bad16 | exact rfl) (by first | exact k_bad0 | exact k_bad1 | exact k_bad2 | exact k_bad3 | exact k_bad4 | exact k_bad5 | exact k_bad6 | exact k_bad7 | exact k_bad8 | exact k_bad9 | exact k_bad10 | exact k_bad11 | exact k_bad12 | exact k_bad13 | exact k_bad14 | exact k_bad15 | exact k_bad16 | exact rfl) (by simp only [List.length_append, List.length_cons, List.length_nil]; omega) ?_ | (refine i_strZ hdb ?_; rw [ed]) | (refine i_strZ hdb1 ?_; rw [ed1]))
  refine i_newL (by simp) fun p1 H1 s1 e1 => ?_
  repeat (first | walk_at "rd" | refine i_addSK (by first | exact k_bad0 | exact k_bad1 | exact k_bad2 | exact k_bad3 | exact k_bad4 | exact k_bad5 | exact k_bad6 | exact k_bad7 | exact k_bad8 | exact k_bad9 | exact k_bad10 | exact k_bad11 | exact k_bad12 | exact k_bad13 | exact k_bad14 | exact k_bad15 | exact k_bad16 | exact rfl) (by first | exact k_bad0 | exact k_bad1 | exact k_bad2 | exact k_bad3 | exact k_bad4 | exact k_bad5 | exact k_bad6 | exact k_bad7 | exact k_bad8 | exact k_bad9 | exact k_bad10 | exact k_bad11 | exact k_bad12 | exact k_bad13 | exact k_bad14 | exact k_bad15 | exact k_bad16 | exact rfl) (by simp only [List.length_append, List.length_cons, List.length_nil]; omega) ?_ | (refine i_strZ hdb ?_; rw [ed]) | (refine i_strZ hdb1 ?_; rw [ed1]))
  refine i_newL (by simp) fun p2 H2 s2 e2 => ?_
  refine i_cat (s2 _ _ e1) e2 (by simp only [List.length_cons, List.length_nil]; omega) fun p3 H3 s3 e3 => ?_
  repeat (first | walk_at "rd" | refine i_addSK (by first | exact k_bad0 | exact k_bad1 | exact k_bad2 | exact k_bad3 | exact k_bad4 | exact k_bad5 | exact k_bad6 | exact k_bad7 | exact k_bad8 | exact k_bad9 | exact k_bad10 | exact k_bad11 | exact k_bad12 | exact k_bad13 | exact k_bad14 | exact k_bad15 | exact k_bad16 | exact rfl) (by first | exact k_bad0 | exact k_bad1 | exact k_bad2 | exact k_bad3 | exact k_bad4 | exact k_bad5 | exact k_bad6 | exact k_bad7 | exact k_bad8 | exact k_bad9 | exact k_bad10 | exact k_bad11 | exact k_bad12 | exact k_bad13 | exact k_bad14 | exact k_bad15 | exact k_bad16 | exact rfl) (by simp only [List.length_append, List.length_cons, List.length_nil]; omega) ?_ | (refine i_strZ hdb ?_; rw [ed]) | (refine i_strZ hdb1 ?_; rw [ed1]))
  refine i_newL (by simp) fun p4 H4 s4 e4 => ?_
  refine i_cat (s4 _ _ e3) e4 (by simp only [List.length_cons, List.length_nil, List.length_append]; omega) fun p5 H5 s5 e5 => ?_
  repeat (first | walk_at "rd" | refine i_addSK (by first | exact k_bad0 | exact k_bad1 | exact k_bad2 | exact k_bad3 | exact k_bad4 | exact k_bad5 | exact k_bad6 | exact k_bad7 | exact k_bad8 | exact k_bad9 | exact k_bad10 | exact k_bad11 | exact k_bad12 | exact k_bad13 | exact k_bad14 | exact k_bad15 | exact k_bad16 | exact rfl) (by first | exact k_bad0 | exact k_bad1 | exact k_bad2 | exact k_bad3 | exact k_bad4 | exact k_bad5 | exact k_bad6 | exact k_bad7 | exact k_bad8 | exact k_bad9 | exact k_bad10 | exact k_bad11 | exact k_bad12 | exact k_bad13 | exact k_bad14 | exact k_bad15 | exact k_bad16 | exact rfl) (by simp only [List.length_append, List.length_cons, List.length_nil]; omega) ?_ | (refine i_strZ hdb ?_; rw [ed]) | (refine i_strZ hdb1 ?_; rw [ed1]))
  refine i_newL (by simp) fun p6 H6 s6 e6 => ?_
  refine i_cat (s6 _ _ e5) e6 (by simp only [List.length_cons, List.length_nil, List.length_append]; omega) fun p7 H7 s7 e7 => ?_
  repeat walk_at "rd"
  have sA := (s0.trans ((((s1.trans s2).trans s3).trans s4).trans s5)).trans (s6.trans s7)
  have hi0 : 0 ≤ n % 25 := by omega
  have hi1 : n % 25 < 25 := by omega
  generalize n % 25 = i at *
  obtain ⟨j, rfl⟩ : ∃ j : Nat, i = (j : Int) := ⟨i.toNat, by omega⟩
  have hj : j < (badL w h r r1).length := by show j < 25; omega
  refine i_ixL e7 (v := .str (sOf (badL w h r r1)[j])) (atI_nat ?_) ?_
  · have ex : ∀ xs : List V, xs = (badL w h r r1).map (fun l => V.str (sOf l)) → xs[j]? = some (V.str (sOf (badL w h r r1)[j])) := fun xs e => by rw [e, List.getElem?_map, List.getElem?_eq_getElem hj]; rfl
    refine ex _ ?_
    unfold badL
    simp only [List.map_cons, List.map_nil, List.cons_append, List.nil_append, k_bad0, k_bad1, k_bad2, k_bad3, k_bad4, k_bad5, k_bad6, k_bad7, k_bad8, k_bad9, k_bad10, k_bad11, k_bad12, k_bad13, k_bad14, k_bad15, k_bad16]
  exact q _ H7 sA (ob (List.getElem_mem hj))
set_option maxHeartbeats 4000000 in
theorem ok_length {f : Addr} {fd : FuncData} {its : List Value} (F : FunD K "length" "length" s_length f fd its) (B : Bl mg)  (o2x : Own P w K mg base 1 "with_sign_of" ["divisor", "bottom"] [] sp_with_sign_of) (o1x : Own P w K mg base 1 "common_divisor" ["one", "other"] [] sp_common_divisor) (o0x : Own P w K mg base 1 "is_whole" ["thing"] [] sp_is_whole) : FnOk P w K mg base CX0 2 f fd ["a", "b", "n"] sp_length := by
  refine F.okA sC3 fun cdv A outer s H vs Q E hr h => ?_
  obtain ⟨a, b, n, rfl, hn, hb, ⟨ha8, hb8⟩, q⟩ := h
  refine ⟨_, (pss_cons (ps_if (pt_not (PW.pt (pw_and (pt_val (pe_own o0x hr rfl (pa1 (pv 0)))) (pw_and (pt_val (pe_own o0x hr rfl (pa1 (pv 1)))) (pw_and1 (pt_val (pe_own o0x hr rfl (pa1 (pv 2))))))))) (pss_one ps_never) pss_nil) (pss_cons (ps_if (pt_cmpR op_eq (pv 2) pe_int (nomark _)) (pss_one ps_never) pss_nil) (pss_cons (ps_s 3 sC3.nd (pe_own o2x hr rfl (pa2 (pe_own o1x hr rfl (pa2 (pe_own o1x hr rfl (pa2 (pv 2) (pv 0))) (pv 1))) (pv 2)))) (pss_one (ps_ret (pe_tup (pa3 (pe_op op_fdivB (pv 0) (pv 3)) (pe_op op_fdivB (pv 1) (pv 3)) (pe_op op_fdivB (pv 2) (pv 3))))))))), ?_⟩
  walk_at "s"
  have hc : ∀ x, CFd x (gd a b n) := fun x => ⟨gd_ne hn, Nat.lt_of_le_of_lt (gd_bd hn hb).log (by decide)⟩
  repeat walk_at "rd"
  refine if_d (fun c => absurd c hn) (fun _ => ?_)
  repeat walk_at "rd"
  · exact i_newT (by simp) fun p H' s e => q p H' s e
  all_goals exact hc _
set_option maxHeartbeats 4000000 in
theorem ok_fraction {f : Addr} {fd : FuncData} {its : List Value} (F : FunD K "fraction" "fraction" s_fraction f fd its) (B : Bl mg)  (o2x : Own P w K mg base 1 "with_sign_of" ["divisor", "bottom"] [] sp_with_sign_of) (o1x : Own P w K mg base 1 "common_divisor" ["one", "other"] [] sp_common_divisor) : FnOk P w K mg base CX0 2 f fd ["top", "bottom"] sp_fraction := by
  refine F.okA sC4 fun cdv A outer s H vs Q E hr h => ?_
  obtain ⟨t, b, rfl, hn, hb, q⟩ := h
  refine ⟨_, (pss_cons (ps_s 2 sC4.nd (pe_own o2x hr rfl (pa2 (pe_own o1x hr rfl (pa2 (pv 0) (pv 1))) (pv 1)))) (pss_one (ps_ret (pe_tup (pa2 (pe_op op_fdivB (pv 0) (pv 2)) (pe_op op_fdivB (pv 1) (pv 2))))))), ?_⟩
  walk_at "s"
  have hc : ∀ x, CFd x (fg t b) := fun x => ⟨fg_ne hn, Nat.lt_of_le_of_lt (fg_bd hn hb).log (by decide)⟩
  repeat walk_at "rd"
  · exact i_newT (by simp) fun p H' s e => q p H' s e
  all_goals exact hc _
set_option maxHeartbeats 4000000 in
theorem ok_by_parts {f : Addr} {fd : FuncData} (F : Fun K "by_parts" "by_parts" s_by_parts f fd) (B : Bl mg)  (o1x : Own P w K mg base 1 "common_divisor" ["one", "other"] [] sp_common_divisor) : FnOk P w K mg base CX0 2 f fd ["f", "g"] sp_by_parts := by
  refine F.okA sC6 fun cdv A outer s H vs Q E hr h => ?_
  obtain ⟨p, p', t, b, t', b', rfl, h1, h2, n1, n2, k1, k2, ⟨b1, b2, b3, b4⟩, q⟩ := h
  refine ⟨_, (pss_cons (ps_s 2 sC6.nd (pe_own o1x hr rfl (pa2 (pit 0) (pit 1)))) (pss_one (ps_ret (pe_tup (pa3 (pe_op op_mulB (pit 0) (pe_op op_fdivB (pit 1) (pv 2))) (pe_op op_mulB (pit 1) (pe_op op_fdivB (pit 0) (pv 2))) (pe_op op_mulB (pe_op op_fdivB (pit 0) (pv 2)) (pit 1))))))), ?_⟩
  walk_at "s"
  obtain ⟨as1, ea, eb, en⟩ := parts_by_low n1 n2 k1 k2
  have gb : Bd 3900 (aS b b') := gcd_bdl (by omega) b2
  have hs : ∀ t, CFd t (aS b b') := fun t => ⟨by omega, Nat.lt_of_le_of_lt gb.log (by decide)⟩
  rw [← ea, ← eb, ← en] at q
  repeat walk_at "rd"
  · exact i_newT (by simp) fun r H' s e => q r H' s e
  all_goals exact hs _
set_option maxHeartbeats 4000000 in
theorem ok_under {f : Addr} {fd : FuncData} (F : Fun K "under" "under" s_under f fd) (B : Bl mg)  (o7x : Own P w K mg base 1 "is_above_nought" ["d", "a", "b"] [] sp_is_above_nought) : FnOk P w K mg base CX0 2 f fd ["d", "one", "other"] (sp_under K) := by
  refine F.okA sC8 fun cdv A outer s H vs Q E hr h => ?_
  obtain ⟨d, p, p', x, y, z, x', y', z', rfl, h1, h2, hd, ⟨b1, b2, b3, b4, b5, b6⟩, q⟩ := h
  refine ⟨_, (pss_one (ps_ret (pe_own o7x hr rfl (pa3 (pv 0) (pe_op op_sub (pe_op op_mulB (pit 2) (pit 1)) (pe_op op_mulB (pit 1) (pit 2))) (pe_op op_sub (pe_op op_mulB (pit 2) (pit 1)) (pe_op op_mulB (pit 1) (pit 2))))))), ?_⟩
  walk_at "s"
  repeat walk_at "rd"
  exact c_is_above_nought rfl hd (Bd.mono (by walk_at "bd") (by decide +kernel)) (Bd.mono (by walk_at "bd") (by decide +kernel)) q
theorem txl_len {n : Int} (h : Bd 1500 n) : (txl n).length ≤ 480 := by
  have h1 : n.natAbs < 10 ^ 470 := Nat.lt_trans h (by decide +kernel)
  have h2 := digs_len (by decide) h1
  unfold txl
  rw [List.length_append]
  split
  · simp only [List.length_cons, List.length_nil]; omega
  · simp only [List.length_nil]; omega
set_option maxHeartbeats 4000000 in
theorem ok_shown_fraction {f : Addr} {fd : FuncData} (F : Fun K "shown_fraction" "shown_fraction" s_shown_fraction f fd) (B : Bl mg)  (o12x : Own P w K mg base 1 "shown_whole" ["number"] [] sp_shown_whole) : FnOk P w K mg base CX0 2 f fd ["one"] sp_shown_fraction := by
  refine F.okA sC13 fun cdv A outer s H vs Q E hr h => ?_
  obtain @⟨p, t, b, rfl, h1, hb, b1, b2, q⟩ := h
  refine ⟨_, (pss_cons (ps_s 1 sC13.nd (pe_own o12x hr rfl (pa1 (pit 0)))) (pss_cons (ps_if (pt_cmpR op_eq (pit 0) pe_int (nomark _)) (pss_one (ps_ret (pv 1))) pss_nil) (pss_cons (ps_s 2 sC13.nd (pe_own o12x hr rfl (pa1 (pit 0)))) (pss_one (ps_ret (pe_fstr (pf_val (pv 1) (pf_str (pf_val (pv 2) pf_nil))))))))), ?_⟩
  walk_at "s"
  have n1 := txl_len b1
  have n2 := txl_len b2
  repeat walk_at "rd"
  refine c_shown_whole rfl b1 fun H1 s1 => ?_
  have h1 := s1 _ _ h1
  repeat walk_at "rd"
  refine if_d (fun c => ?_) (fun c => ?_)
  · repeat walk_at "rd"
    have e : ftl t b = txl t := if_pos c
    rw [e] at q
    exact q H1 s1
  · have e : ftl t b = txl t ++ [47] ++ txl b := if_neg c
    rw [e] at q
    repeat walk_at "rd"
    refine c_shown_whole rfl b2 fun H2 s2 => ?_
    repeat walk_at "rd"
    refine i_fVal (l := []) (by simp only [List.length_nil]; omega) ?_
    rw [List.nil_append]
    refine i_fStr (m := [47]) (by simp only [List.length_cons, List.length_nil]; omega) ?_
    repeat walk_at "rd"
    refine i_fVal (by rw [List.length_append]; simp only [List.length_cons, List.length_nil]; omega) ?_
    exact i_fNil (by rw [List.length_append, List.length_append]; simp only [List.length_cons, List.length_nil]; omega) (q H2 (s1.trans s2))
set_option maxHeartbeats 4000000 in
theorem ok__law_root {f : Addr} {fd : FuncData} (F : Fun K "_law_root" "_law_root" s__law_root f fd) (B : Bl mg)  (o27x : Own P w K mg base 1 "_law_mixed" ["_law_cell_here", "_law_k"] [] sp__law_mixed) (o26x : Own P w K mg base 1 "_law_cell" ["_law_script", "_law_k"] [] (sp__law_cell K)) : FnOk P w K mg base CX0 2 f fd ["_law_script"] (sp__law_root K) := by
  refine F.okA sC29 fun cdv A outer s H vs Q E hr h => ?_
  obtain @⟨p, ns, rfl, hS, q⟩ := h
  refine ⟨_, (pss_cons (ps_s 1 sC29.nd (pe_op op_add pe_int (pe_op op_mod (pe_own o27x hr rfl (pa2 (pe_own o26x hr rfl (pa2 (pv 0) pe_int)) pe_int)) pe_int))) (pss_cons (ps_if (pt_cmpR op_in_seq (pv 1) (pe_lst (pa_cons pe_int (pa_cons pe_int (pa_cons pe_int (pa_cons pe_int (pa_cons pe_int (pa_cons pe_int (pa_cons pe_int (pa_cons pe_int pa_nil))))))))) (by with_unfolding_all rfl)) (pss_one (ps_ret (pe_op op_add (pv 1) pe_int))) pss_nil) (pss_one (ps_ret (pv 1))))), ?_⟩
  walk_at "s"
  repeat walk_at "rd"
  refine c__law_cell rfl hS (by decide) fun c0 => ?_
  repeat walk_at "rd"
  refine c__law_mixed rfl (by decide) (by decide) fun m m0 m1 => ?_
  repeat walk_at "rd"
  refine i_newL (by simp) fun l H1 s1 e1 => ?_
  refine i_inL e1 rfl rfl ?_
  rw [inV_sqs]
  have hsq : ∀ t : Int, sqs.contains t = true ↔ (t = 4 ∨ t = 9 ∨ t = 16 ∨ t = 25 ∨ t = 36 ∨ t = 49 ∨ t = 64 ∨ t = 81) := fun t => by simp [sqs]
  repeat walk_at "rd"
  by_cases c : sqs.contains (2 + m % 98) = true
  · rw [c]
    have h := (hsq _).mp c
    repeat walk_at "rd"
    exact q _ H1 (rt_of (by omega) (by omega)) s1
  · have h := mt (hsq (2 + m % 98)).mpr c
    rw [Bool.not_eq_true] at c
    rw [c]
    repeat walk_at "rd"
    exact q _ H1 (rt_of (by omega) (by omega)) s1
theorem pick7 {i : Int} (h0 : 0 ≤ i) (h1 : i < 7) : ∃ r : Int, atI [V.int 1, V.int 1, V.int 2, V.int 3, V.int 4, V.int 6, V.int 12] i = some (.int r) ∧ 1 ≤ r ∧ r ≤ 12 := by
  have h : i = 0 ∨ i = 1 ∨ i = 2 ∨ i = 3 ∨ i = 4 ∨ i = 5 ∨ i = 6 := by omega
  rcases h with h | h | h | h | h | h | h <;> subst h
  · exact ⟨1, rfl, by decide, by decide⟩
  · exact ⟨1, rfl, by decide, by decide⟩
  · exact ⟨2, rfl, by decide, by decide⟩
  · exact ⟨3, rfl, by decide, by decide⟩
  · exact ⟨4, rfl, by decide, by decide⟩
  · exact ⟨6, rfl, by decide, by decide⟩
  · exact ⟨12, rfl, by decide, by decide⟩
theorem quo_all : ∀ (i : Fin 41) (j : Fin 12), -20 ≤ ((i.val : Int) - 20) / ((j.val : Int) + 1) ∧ ((i.val : Int) - 20) / ((j.val : Int) + 1) ≤ 20 := by decide +kernel
theorem quo_in {t g : Int} (h0 : -20 ≤ t) (h1 : t ≤ 20) (g0 : 0 < g) (g1 : g ≤ 12) : -20 ≤ t / g ∧ t / g ≤ 20 := by
  have := quo_all ⟨(t + 20).toNat, by omega⟩ ⟨(g - 1).toNat, by omega⟩
  simp only at this
  rwa [show (((t + 20).toNat : Nat) : Int) - 20 = t by omega, show (((g - 1).toNat : Nat) : Int) + 1 = g by omega] at this
set_option maxHeartbeats 4000000 in
theorem ok__law_fraction {f : Addr} {fd : FuncData} (F : Fun K "_law_fraction" "_law_fraction" s__law_fraction f fd) (B : Bl mg)  (o28x : Own P w K mg base 1 "_law_divisor" ["_law_one", "_law_other"] [] sp__law_divisor) : FnOk P w K mg base CX0 2 f fd ["_law_number", "_law_great"] sp__law_fraction := by
  refine F.okA sC30 fun cdv A outer s H vs Q E hr h => ?_
  obtain @⟨n, rfl, n0, n1, q⟩ := h
  refine ⟨_, (pss_cons (ps_s 2 sC30.nd (pe_op op_sub (pe_op op_mod (pe_op op_fdivP (pv 0) pe_int) pe_int) pe_int)) (pss_cons (ps_s 3 sC30.nd (pe_i ix_list (pe_lst (pa_cons pe_int (pa_cons pe_int (pa_cons pe_int (pa_cons pe_int (pa_cons pe_int (pa_cons pe_int (pa_cons pe_int pa_nil)))))))) (pe_op op_mod (pv 0) pe_int))) (pss_cons (ps_cut (ps_if (PW.pt (pw_and (pt_val (pv 1)) (pw_and1 (pt_cmpR op_eq (pe_op op_mod (pe_op op_fdivP (pv 0) pe_int) pe_int) pe_int (nomark _))))) (pss_cons (ps_s 2 sC30.nd (pe_op op_mulB (pe_op op_sub (pe_op op_mulB (pv 0) pe_int) (pe_op op_powB pe_int pe_int)) (pe_op op_add (pe_op op_powB pe_int pe_int) (pe_op op_mod (pv 0) pe_int)))) (pss_one (ps_s 3 sC30.nd (pe_op op_add pe_int (pe_op op_mod (pe_op op_mulB (pv 0) pe_int) (pe_op op_powB pe_int pe_int)))))) pss_nil)) (pss_cons (ps_s 4 sC30.nd (pe_own o28x hr rfl (pa2 (pe_callB call_absR rfl B.abs bt_abs (pa1 (pv 2))) (pv 3)))) (pss_one (ps_ret (pe_tup (pa2 (pe_op op_fdivP (pv 2) (pv 4)) (pe_op op_fdivP (pv 3) (pv 4)))))))))), ?_⟩
  walk_at "s"
  repeat walk_at "rd"
  refine i_newL (by simp) fun l H1 s1 e1 => ?_
  repeat walk_at "rd"
  obtain ⟨r, hr, r0, r1⟩ := pick7 (i := n % 7) (by omega) (by omega)
  refine i_ixL e1 hr ?_
  have t0 : -20 ≤ n / 7 % 41 - 20 := by omega
  have t1 : n / 7 % 41 - 20 ≤ 20 := by omega
  generalize n / 7 % 41 - 20 = t at *
  repeat walk_at "rd"
  refine i_cut (T := fun σ' H2 => σ' = [some (.int n), some (.bl false), some (.int t), some (.int r), none] ∧ H2 = H1) ?_ ?_
  · repeat walk_at "rd"
    exact ⟨rfl, rfl⟩
  rintro σ' H2 ⟨rfl, rfl⟩
  have ha : 0 ≤ (if t < 0 then -t else t) := by split <;> omega
  have hg : Int.gcd (if t < 0 then -t else t) r = Int.gcd t r := by
    split
    · exact Int.neg_gcd
    · rfl
  repeat walk_at "rd"
  refine c__law_divisor rfl ha (by omega) ?_
  rw [hg]
  have gp := gcd_pos_r (a := t) r0
  have gb : Bd 110 ((Int.gcd t r : Nat) : Int) := gcd_bd (by omega) (bd_small _ (by omega) (by omega) (by decide))
  have hc : ∀ x, CFp x ((Int.gcd t r : Nat) : Int) := fun x => ⟨gp, Nat.lt_of_le_of_lt gb.log (by decide)⟩
  have c1 := hc t
  have gl : ((Int.gcd t r : Nat) : Int) ≤ 12 := Int.le_trans (Int.le_of_dvd (by omega) (Int.gcd_dvd_right ..)) r1
  have gq := gcd_quot (a := t) r0
  have ep := ediv_pos r0 gp (Int.gcd_dvd_right t r)
  have k1 := quo_in t0 t1 gp gl
  have k2 := quo_in (t := r) (by omega) (by omega) gp gl
  have k3 : r / ((Int.gcd t r : Nat) : Int) ≤ r := Int.ediv_le_self _ (by omega)
  have k12 : r / ((Int.gcd t r : Nat) : Int) ≤ 12 := Int.le_trans k3 r1
  clear k2 k3
  repeat walk_at "rd"
  refine i_newT (by simp) fun p H3 s3 e3 => ?_
  exact q p H3 _ _ (s1.trans s3) e3 ⟨k1.1, k1.2, ep, k12, gq⟩
set_option maxHeartbeats 4000000 in
theorem ok__law_shown {f : Addr} {fd : FuncData} (F : Fun K "_law_shown" "_law_shown" s__law_shown f fd) (B : Bl mg)  (o31x : Own P w K mg base 1 "_law_shown_fraction" ["_law_one"] [] sp__law_shown_fraction) : FnOk P w K mg base CX0 2 f fd ["_law_d", "_law_first", "_law_second"] sp__law_shown := by
  refine F.okA sC32 fun cdv A outer s H vs Q E hr h => ?_
  obtain ⟨d, p, p', t, b, t', b', rfl, h1, h2, hd, ⟨hb, hb'⟩, ⟨b1, b2, b3, b4⟩, q⟩ := h
  refine ⟨_, (pss_cons (ps_if (pt_cmpR op_eq (pit 2) pe_int (nomark _)) (pss_one (ps_ret (pe_own o31x hr rfl (pa1 (pv 1))))) pss_nil) (pss_cons (ps_s 3 sC32.nd (pe_own o31x hr rfl (pa1 (pe_tup (pa2 (pe_callB call_absR rfl B.abs bt_abs (pa1 (pit 2))) (pit 2)))))) (pss_cons (ps_cut (ps_if (pt_cmpR op_eq (pv 3) pe_str (nomark _)) (pss_one (ps_s 3 sC32.nd pe_str)) pss_nil)) (pss_cons (ps_s 4 sC32.nd (pe_i ix_list (pe_lst (pa2 pe_str pe_str)) (pe_callTy call_intR rfl B.int bt_int (pa1 (pe_cmpR op_lt (pit 2) pe_int (nomark _)))))) (pss_cons (ps_ifEq (pit 1) (pss1_ret (pe1_op op_addS (pe1_op op_addS (pe1_op op_addS (pe1_repl 4 (by decide +kernel) (by decide +kernel)) (pv 3)) pe_str) (pe_callTy call_strR rfl B.str bt_str (pa1 (pv 0))))) pss_nil (nomark _)) (pss_one (ps_ret (pe_op op_addS (pe_op op_addS (pe_op op_addS (pe_op op_addS (pe_own o31x hr rfl (pa1 (pv 1))) (pv 4)) (pv 3)) pe_str) (pe_callTy call_strR rfl B.str bt_str (pa1 (pv 0))))))))))), ?_⟩
  walk_at "s"
  have l1 := f110 b1 b2
  have l3 := ah_len (ab_110 b3) b4
  have l4 : (digs d.natAbs).length ≤ 3 := digs_le (by omega)
  have hdb : Bd 1000 d := bd_small 1000 (by omega) (by omega) (by decide)
  have ed : txl d = digs d.natAbs := txl_nn (by omega)
  repeat walk_at "rd"
  refine if_d (fun c => ?_) (fun c => ?_)
  · have e : lnl d t b t' b' = ftl t b := if_pos c
    rw [e] at q
    repeat walk_at "rd"
    exact c__law_shown_fraction rfl h1 b1 b2 (q H (Same.refl H))
  have rl := rtl_law (d := d) (b := b') c
  repeat walk_at "rd"
  refine i_newT (by simp) fun p1 H1 s1 e1 => ?_
  have h1 := s1 _ _ h1
  have h2 := s1 _ _ h2
  repeat walk_at "rd"
  refine c__law_shown_fraction rfl e1 (ab_110 b3) b4 ?_
  repeat walk_at "rd"
  refine i_cut (T := fun σ' H' => σ' = [some (.int d), some (.ref p), some (.ref p'), some (.str (sOf (ahl (ab t') b'))), none] ∧ H' = H1) ?_ ?_
  · repeat walk_at "rd"
    rw [k_one]
    refine if_d (fun c1 => ?_) (fun c1 => ?_)
    · have o := (one_iff (show 0 < ab t' by unfold ab; split <;> omega) hb').mp c1
      have e : ahl (ab t') b' = [] := if_pos o
      repeat walk_at "rd"
      rw [c_none]
      exact ⟨by rw [e], rfl⟩
    · have o : ¬ (ab t' = 1 ∧ b' = 1) := fun z => c1 ((one_iff (show 0 < ab t' by unfold ab; split <;> omega) hb').mpr z)
      have e : ahl (ab t') b' = ftl (ab t') b' := if_neg o
      repeat walk_at "rd"
      exact ⟨by rw [e]; rfl, rfl⟩
  rintro σ' H' ⟨rfl, rfl⟩
  repeat walk_at "rd"
  rw [k_plus, c_dash]
  refine i_newL (by simp) fun l H2 s2 e2 => ?_
  have h1 := s2 _ _ h1
  have h2 := s2 _ _ h2
  repeat walk_at "rd"
  refine i_ixL e2 pickP ?_
  have ls : (if decide (t' < 0) = true then [45] else [43] : List Nat).length ≤ 1 := by split <;> simp
  repeat walk_at "rd"
  refine i_ifEq ?_
  repeat walk_at "rd"
  refine if_d (fun c2 => ?_) (fun c2 => ?_)
  · have e : lnl d t b t' b' = rtl d t' b' := by unfold lnl; rw [if_neg c, if_pos c2]
    rw [e, ← rl] at q
    repeat walk_at "rd"
    refine ⟨_, rfl, by rw [str_len]; omega, ?_⟩
    try rw [k_plus]
    rw [repl_sign]
    have ls2 : (if decide (t' < 0) = true then [45] else [] : List Nat).length ≤ 1 := by split <;> simp
    repeat walk_at "rd"
    refine i_addS (by omega) ?_
    repeat walk_at "rd"
    rw [k_r]
    refine i_addS (by simp only [List.length_append, List.length_cons, List.length_nil]; omega) ?_
    repeat walk_at "rd"
    refine i_strZ hdb ?_
    rw [ed]
    refine i_addS (by simp only [List.length_append, List.length_cons, List.length_nil]; omega) ?_
    simp only [decide_eq_true_eq]
    exact q H2 (s1.trans s2)
  · have e : lnl d t b t' b' = ftl t b ++ (if 0 < t' then [43] else []) ++ rtl d t' b' := by unfold lnl; rw [if_neg c, if_neg c2]
    have e3 : ftl t b ++ (if t' < 0 then [45] else [43]) ++ ahl (ab t') b' ++ [114] ++ digs d.natAbs = ftl t b ++ (if 0 < t' then [43] else []) ++ rtl d t' b' := by
      rw [← rl]
      by_cases n : t' < 0
      · rw [if_pos n, if_pos n, if_neg (show ¬ 0 < t' by omega)]
        simp
      · rw [if_neg n, if_neg n, if_pos (show 0 < t' by omega)]
        simp
    rw [e, ← e3] at q
    repeat walk_at "rd"
    refine c__law_shown_fraction rfl h1 b1 b2 ?_
    repeat walk_at "rd"
    refine i_addS (by omega) ?_
    repeat walk_at "rd"
    refine i_addS (by simp only [List.length_append]; omega) ?_
    repeat walk_at "rd"
    rw [k_r]
    refine i_addS (by simp only [List.length_append, List.length_cons, List.length_nil]; omega) ?_
    repeat walk_at "rd"
    refine i_strZ hdb ?_
    rw [ed]
    refine i_addS (by simp only [List.length_append, List.length_cons, List.length_nil]; omega) ?_
    simp only [decide_eq_true_eq]
    exact q H2 (s1.trans s2)
set_option maxHeartbeats 4000000 in
theorem ok_parts {f : Addr} {fd : FuncData} (F : Fun K "parts" "parts" s_parts f fd) (B : Bl mg)  (o4x : Own P w K mg base 2 "fraction" ["top", "bottom"] [] sp_fraction) : FnOk P w K mg base CX0 3 f fd ["one"] sp_parts := by
  refine F.okA sC5 fun cdv A outer s H vs Q E hr h => ?_
  obtain @⟨p, a, b, n, rfl, h1, hn, hb, q⟩ := h
  refine ⟨_, (pss_one (ps_ret (pe_tup (pa2 (pe_own o4x hr rfl (pa2 (pit 0) (pit 0))) (pe_own o4x hr rfl (pa2 (pit 0) (pit 0))))))), ?_⟩
  walk_at "s"
  repeat walk_at "rd"
  refine c_fraction rfl hn hb fun r1 H1 s1 e1 => ?_
  have h1' := s1 _ _ h1
  repeat walk_at "rd"
  refine c_fraction rfl hn hb fun r2 H2 s2 e2 => ?_
  repeat walk_at "rd"
  exact i_newT (by simp) fun r H' s e => q r r1 r2 H' ((s1.trans s2).trans s) e (s _ _ (s2 _ _ e1)) (s _ _ e2)
set_option maxHeartbeats 4000000 in
theorem ok_is_length {f : Addr} {fd : FuncData} (F : Fun K "is_length" "is_length" s_is_length f fd) (B : Bl mg)  (o3x : Own P w K mg base 2 "length" ["a", "b", "n"] [] sp_length) (o0x : Own P w K mg base 1 "is_whole" ["thing"] [] sp_is_whole) : FnOk P w K mg base CX0 3 f fd ["thing"] sp_is_length := by
  refine F.okA sC9 fun cdv A outer s H vs Q E hr h => ?_
  obtain @⟨p, s, rfl, h1, ok, q⟩ := h
  refine ⟨_, (pss_cons (ps_if (PW.pt (pw_or (pt_not (pt_val (pe_callB call_isinst rfl B.isinstance bt_isinstance (pa2 (pv 0) (pe_bltn (v := .ty "tuple") rfl B.tuple bt_tuple rfl))))) (pw_or1 (pt_cmpR op_ne (pe_callB call_lenR rfl B.len PySem.boot_len (pa1 (pv 0))) pe_int (nomark _))))) (pss_one (ps_ret pe_bl)) pss_nil) (pss_cons (ps_if (PW.pt (pw_or (pt_not (pt_val (pe_callB (call_allL rfl) rfl B.all bt_all (pa1 (pe_comp ["number"] [] rfl (pi_tup (pv 0)) (fun _ _ _ _ _ => (pg_n 0 (show List.Nodup (α := Str) ["number"] by decide +kernel))) (fun _ _ _ _ _ => pifs_nil) (fun _ _ _ _ _ => (pe_own o0x hr rfl (pa1 (pv 0))))))))) (pw_or1 (pt_cmpR op_lt (pit 0) pe_int (nomark _))))) (pss_one (ps_ret pe_bl)) pss_nil) (pss_one (ps_ret (pe_cmpR (op_eqT hr.units) (pe_own o3x hr rfl (pa3 (pit 0) (pit 0) (pit 0))) (pv 0) (nomark _)))))), ?_⟩
  walk_at "s"
  have z1 := ok.z1
  repeat walk_at "rd"
  refine if_ne (by rfl) ?_
  repeat walk_at "rd"
  refine i_compT ?_
  repeat walk_at "rd"
  refine ⟨p, rfl, ⟨_, SqT.of h1⟩, fun D hD => comp_tup (ys := [V.int s.x, V.int s.y, V.int s.z]) (fun i ys σ' H' => (∃ v, σ' = [v]) ∧ ys = ([V.int s.x, V.int s.y, V.int s.z].take i).map (fun _ => V.bl true) ∧ H' D = some (.lst ys) ∧ SameX D H H') ⟨⟨none, rfl⟩, rfl, upd_same, fun b o e n => by rw [upd_ne n]; exact e⟩ (fun i ys σ' H' _ p => SqT.of (p.2.2.2 _ _ h1 (ne_of_none h1 hD))) ?_ ?_⟩
  · rintro i x ys σ' H' hi ⟨⟨v, rfl⟩, rfl, eD, sx⟩
    obtain ⟨n, rfl⟩ : ∃ n : Int, x = .int n := by
      have := List.mem_of_getElem? hi
      simp only [List.mem_cons, List.not_mem_nil, or_false] at this
      rcases this with rfl | rfl | rfl <;> exact ⟨_, rfl⟩
    have hi3 := (List.getElem?_eq_some_iff.mp hi).1
    repeat walk_at "rd"
    refine i_append eD (by rw [List.length_map, List.length_take]; simp only [List.length_cons, List.length_nil] at hi3 ⊢; omega) fun H3 sx3 e3 => ?_
    refine cnext hi3 ⟨⟨_, rfl⟩, rfl, ?_, sx.trans sx3⟩
    rw [List.take_succ, hi, List.map_append]
    exact e3
  · rintro ys σ' H' ⟨_, rfl, eD, sx⟩
    have s' : Same H H' := fun b o e => sx b o e (ne_of_none e hD)
    have h1' := s' _ _ h1
    have eD' : H' D = some (.lst ([true, true, true].map V.bl)) := eD
    repeat walk_at "rd"
    refine i_allB (SqL.of eD') ?_
    rw [show ([true, true, true] : List Bool).all id = true from rfl]
    repeat walk_at "rd"
    refine if_d (fun c => absurd c (by omega)) (fun _ => ?_)
    repeat walk_at "rd"
    refine c_length rfl ok.ne (ok.bz.mono (by decide)) (fun r H2 s2 e2 => ?_) (ok.bx.mono (by decide)) (ok.by'.mono (by decide))
    repeat walk_at "rd"
    refine i_eq3 e2 (s2 _ _ h1') ?_
    exact bl_q (decide_eq_true (low_self ok.z1 ok.g)) (q H2 (s'.trans s2))
set_option maxHeartbeats 4000000 in
theorem ok_shown_rooted {f : Addr} {fd : FuncData} (F : Fun K "shown_rooted" "shown_rooted" s_shown_rooted f fd) (B : Bl mg)  (o13x : Own P w K mg base 2 "shown_fraction" ["one"] [] sp_shown_fraction) : FnOk P w K mg base CX0 3 f fd ["d", "one"] sp_shown_rooted := by
  refine F.okA sC14 fun cdv A outer s H vs Q E hr h => ?_
  obtain @⟨d, p, t, b, rfl, h1, hd, hb, b1, b2, q⟩ := h
  refine ⟨_, (pss_cons (ps_if (pt_cmpR (op_eqT hr.units) (pv 1) (pe_tup (pa2 pe_int pe_int)) (nomark _)) (pss_one (ps_ret (pe_fstr (pf_str (pf_int (pv 0) pf_nil))))) pss_nil) (pss_cons (ps_if (pt_cmpR (op_eqT hr.units) (pv 1) (pe_tup (pa2 (pe_un un_neg pe_int) pe_int)) (nomark _)) (pss_one (ps_ret (pe_fstr (pf_str (pf_int (pv 0) pf_nil))))) pss_nil) (pss_cons (ps_s 2 sC14.nd (pe_own o13x hr rfl (pa1 (pv 1)))) (pss_one (ps_ret (pe_fstr (pf_val (pv 2) (pf_str (pf_int (pv 0) pf_nil))))))))), ?_⟩
  walk_at "s"
  have l1 := f110 b1 b2
  have l2 := r2 hd
  have hdb : Bd 1000 d := bd_small 1000 (by omega) (by omega) (by decide)
  repeat walk_at "rd"
  refine i_newT (by simp) fun p1 H1 s1 e1 => ?_
  refine i_eq2 (s1 _ _ h1) e1 ?_
  repeat walk_at "rd"
  refine if_d (fun (c : t = 1 ∧ b = 1) => ?_) (fun (c : ¬ (t = 1 ∧ b = 1)) => ?_)
  · have e : rtl d t b = [114] ++ digs d.natAbs := if_pos c
    rw [e] at q
    repeat walk_at "rd"
    refine i_fStr (z := []) (m := [114]) (by simp) ?_
    repeat walk_at "rd"
    refine i_fIntA (l := [] ++ [114]) (by omega) hdb (by simp only [List.length_append, List.length_cons, List.length_nil]; omega) ?_
    exact i_fNil (by simp only [List.length_append, List.length_cons, List.length_nil]; omega) (q H1 s1)
  repeat walk_at "rd"
  refine i_newT (by simp) fun p2 H2 s2 e2 => ?_
  refine i_eq2 (s2 _ _ (s1 _ _ h1)) e2 ?_
  repeat walk_at "rd"
  refine if_d (fun (c2 : t = -1 ∧ b = 1) => ?_) (fun (c2 : ¬ (t = -1 ∧ b = 1)) => ?_)
  · have e : rtl d t b = [45, 114] ++ digs d.natAbs := by unfold rtl; rw [if_neg c, if_pos c2]
    rw [e] at q
    repeat walk_at "rd"
    refine i_fStr (z := []) (m := [45, 114]) (by simp) ?_
    repeat walk_at "rd"
    refine i_fIntA (l := [] ++ [45, 114]) (by omega) hdb (by simp only [List.length_append, List.length_cons, List.length_nil]; omega) ?_
    exact i_fNil (by simp only [List.length_append, List.length_cons, List.length_nil]; omega) (q H2 (s1.trans s2))
  · have e : rtl d t b = ftl t b ++ [114] ++ digs d.natAbs := by unfold rtl; rw [if_neg c, if_neg c2]
    rw [e] at q
    repeat walk_at "rd"
    refine c_shown_fraction rfl (s2 _ _ (s1 _ _ h1)) hb (b1.mono (by decide)) (b2.mono (by decide)) fun H3 s3 => ?_
    repeat walk_at "rd"
    refine i_fVal (l := []) (by simp only [List.length_nil]; omega) ?_
    rw [List.nil_append]
    refine i_fStr (m := [114]) (by simp only [List.length_cons, List.length_nil]; omega) ?_
    repeat walk_at "rd"
    refine i_fIntA (l := ftl t b ++ [114]) (by omega) hdb (by simp only [List.length_append, List.length_cons, List.length_nil]; omega) ?_
    exact i_fNil (by simp only [List.length_append, List.length_cons, List.length_nil]; omega) (q H3 ((s1.trans s2).trans s3))
set_option maxHeartbeats 4000000 in
theorem ok_read_fraction_above {f : Addr} {fd : FuncData} (F : Fun K "read_fraction_above" "read_fraction_above" s_read_fraction_above f fd) (B : Bl mg) (X : Xs K mg cs) (o18x : OwnX P w K mg base 1 "read_whole" ["text"] [] (sp_read_whole cs)) (o4x : Own P w K mg base 2 "fraction" ["top", "bottom"] [] sp_fraction) : FnOk P w K mg base (CXe P w) 3 f fd ["text"] (sp_read_fraction_above cs) := by
  refine F.okXA sC20 fun cdv A outer s H vs Q E hr h => ?_
  obtain @⟨l, rfl, hl, q, qe⟩ := h
  refine ⟨_, (pss_cons (ps_if (pt_cmpR op_notS pe_str (pv 0) (by with_unfolding_all rfl)) (pss_one (ps_ret (pe_tup (pa2 (pe_ownP passes_of o18x hr rfl (pa1 (pv 0))) pe_int)))) pss_nil) (pss_cons (ps_s 1 sC20.nd (pe_bm PySem.F.plainAttrs_str PySem.F.slot_str_partition PySem.F.type_str_partition mt_pt (pv 0) (pa1 pe_str))) (pss_cons (ps_s 2 sC20.nd (pe_ownP passes_of o18x hr rfl (pa1 (pit 1)))) (pss_cons (ps_if (pt_cmpR op_eq (pv 2) pe_int (nomark _)) (pss_one (ps_raise raises_of X.o_NoText X.m_NoText rfl rfl)) pss_nil) (pss_one (ps_ret (pe_own o4x hr rfl (pa2 (pe_ownP passes_of o18x hr rfl (pa1 (pit 1))) (pv 2))))))))), ?_⟩
  walk_at "s"
  repeat walk_at "rd"
  try rw [c_slash]
  refine i_notS ?_
  by_cases c : 47 ∈ l
  case neg =>
    rw [decide_eq_false c]
    repeat walk_at "rd"
    refine c_read_whole rfl (by omega) (fun n H1 hn s1 => ?_) fun hn H1 s1 => qe (by unfold rfa; rw [if_neg c, hn]; rfl) H1 s1
    repeat walk_at "rd"
    exact i_newT (by simp) fun p H2 s2 e2 => q (n, 1) p H2 (by unfold rfa; rw [if_neg c, hn]; rfl) (s1.trans s2) e2
  have ec := cut1 c
  have lp := pos_len (c := 47) (l := l)
  have lq := pre_len (c := 47) (l := l)
  rw [decide_eq_true c]
  have er : rfa l = rfa2 (pos1 47 l) (pre1 47 l) := if_pos c
  have np := pre_no (c := 47) (l := l)
  generalize pre1 47 l = A at *
  generalize pos1 47 l = B at *
  generalize rfa l = R at *
  subst ec
  repeat walk_at "rd"
  try rw [c_slash]
  refine i_pt np (by omega) fun p H1 s1 e1 => ?_
  repeat walk_at "rd"
  refine c_read_whole rfl (by omega) (fun b H2 hb s2 => ?_) fun hb H2 s2 => qe (er.trans (rfa2_b hb)) H2 (s1.trans s2)
  have e1 := s2 _ _ e1
  repeat walk_at "rd"
  refine if_d (fun z => ?_) (fun z => ?_)
  · repeat walk_at "rd"
    exact i_raise (qe (er.trans (rfa2_0 hb (by omega))) H2 (s1.trans s2))
  repeat walk_at "rd"
  refine c_read_whole rfl (by omega) (fun t H3 ht s3 => ?_) fun ht H3 s3 => qe (er.trans (rfa2_a hb (by omega) ht)) H3 ((s1.trans s2).trans s3)
  have bb : Bd 8000 (b : Int) := by
    obtain ⟨_, hd, rfl⟩ := rwh_ok hb
    exact (dv110 hd (by omega)).mono (by decide)
  have bt : Bd 8000 (t : Int) := by
    obtain ⟨_, hd, rfl⟩ := rwh_ok ht
    exact (dv110 hd (by omega)).mono (by decide)
  repeat walk_at "rd"
  refine c_fraction rfl (by omega) bb fun r H4 s4 e4 => ?_
  exact q _ r H4 (er.trans (rfa2_s hb (by omega) ht)) (((s1.trans s2).trans s3).trans s4) e4
set_option maxHeartbeats 4000000 in
theorem ok__law_side {f : Addr} {fd : FuncData} (F : Fun K "_law_side" "_law_side" s__law_side f fd) (B : Bl mg)  (o30x : Own P w K mg base 2 "_law_fraction" ["_law_number", "_law_great"] [] sp__law_fraction) (o33x : Own P w K mg base 1 "_law_above" ["_law_d", "_law_first", "_law_second"] [] sp__law_above) : FnOk P w K mg base CX0 3 f fd ["_law_d", "_law_number", "_law_great"] sp__law_side := by
  refine F.okA sC34 fun cdv A outer s H vs Q E hr h => ?_
  obtain @⟨d, n, rfl, hR, n0, n1, q⟩ := h
  refine ⟨_, (pss_cons (ps_s 3 sC34.nd (pe_own o30x hr rfl (pa2 (pe_op op_fdivP (pv 1) pe_int) (pv 2)))) (pss_cons (ps_s 4 sC34.nd (pe_own o30x hr rfl (pa2 (pe_op op_mod (pe_op op_mulB (pv 1) pe_int) pe_int) (pv 2)))) (pss_cons (ps_cut (ps_if (pt_cmpR op_eq (pe_op op_mod (pv 1) pe_int) pe_int (nomark _)) (pss_one (ps_s 4 sC34.nd (pe_tup (pa2 pe_int pe_int)))) pss_nil)) (pss_cons (ps_cut (ps_if (PW.pt (pw_and (pt_cmpR op_eq (pe_op op_mod (pv 1) pe_int) pe_int (nomark _)) (pw_and1 (pt_cmpR op_eq (pe_op op_mod (pe_op op_fdivP (pv 1) pe_int) pe_int) pe_int (nomark _))))) (pss_one (ps_s 3 sC34.nd (pe_tup (pa2 pe_int pe_int)))) pss_nil)) (pss_cons (ps_if (PW.pt (pw_and (pt_cmpR op_eq (pit 3) pe_int (nomark _)) (pw_and1 (pt_cmpR op_eq (pit 4) pe_int (nomark _))))) (pss_one (ps_ret (pe_tup (pa2 (pe_tup (pa2 pe_int pe_int)) (pe_tup (pa2 pe_int pe_int)))))) pss_nil) (pss_cons (ps_if (pt_not (pt_val (pe_own o33x hr rfl (pa3 (pv 0) (pv 3) (pv 4))))) (pss_one (ps_ret (pe_tup (pa2 (pe_tup (pa2 (pe_op op_sub pe_int (pit 3)) (pit 3))) (pe_tup (pa2 (pe_op op_sub pe_int (pit 4)) (pit 4))))))) pss_nil) (pss_one (ps_ret (pe_tup (pa2 (pv 3) (pv 4))))))))))), ?_⟩
  walk_at "s"
  have bn : Bd 32 n := bd_range (B := 2147483628) (by omega) (by omega) (by decide)
  repeat walk_at "rd"
  refine c__law_fraction rfl (by omega) (by omega) fun r1 H1 t b s1 e1 sm => ?_
  repeat walk_at "rd"
  refine c__law_fraction rfl (by omega) (by omega) fun r2 H2 t' b' s2 e2 sm' => ?_
  have e1 := s2 _ _ e1
  have s02 := s1.trans s2
  clear s1 s2
  repeat walk_at "rd"
  refine i_cut (T := fun σ' H5 => E3 fun (r2 : Addr) (t' b' : Int) => A4 (σ' = [some (.int d), some (.int n), some (.bl false), some (.ref r1), some (.ref r2)]) (Same H2 H5) (H5 r2 = some (.tup [.int t', .int b'])) (Sm t' b')) ?_ ?_
  · repeat walk_at "rd"
    refine if_d (fun c => ?_) (fun c => ?_)
    · repeat walk_at "rd"
      refine i_newT (by simp) fun p5 H5 s5 e5 => ?_
      repeat walk_at "rd"
      exact ⟨p5, 0, 1, rfl, s5, e5, sm0⟩
    · repeat walk_at "rd"
      exact ⟨r2, t', b', rfl, Same.refl _, e2, sm'⟩
  rintro σ' H5 ⟨r2, t', b', rfl, s5, e5, sm'⟩
  have e1 := s5 _ _ e1
  repeat walk_at "rd"
  refine i_cut (T := fun σ' H6 => E3 fun (r1 : Addr) (t b : Int) => A4 (σ' = [some (.int d), some (.int n), some (.bl false), some (.ref r1), some (.ref r2)]) (Same H5 H6) (H6 r1 = some (.tup [.int t, .int b])) (Sm t b)) ?_ ?_
  · repeat walk_at "rd"
    refine if_d3 (q := n / 3 % 4 = 0) (fun _ => ?_) (fun _ hB => ?_)
    · repeat walk_at "rd"
      exact ⟨r1, t, b, rfl, Same.refl _, e1, sm⟩
    · repeat walk_at "rd"
      refine if_d (fun c => ?_) (fun c => hB fun z => c z.2)
      repeat walk_at "rd"
      refine i_newT (by simp) fun p6 H6 s6 e6 => ?_
      repeat walk_at "rd"
      exact ⟨p6, 0, 1, rfl, s6, e6, sm0⟩
  rintro σ' H6 ⟨r1, t, b, rfl, s6, e6, sm⟩
  have e5 := s6 _ _ e5
  have S6 := (s02.trans s5).trans s6
  have ox := sm.ok
  have oy := sm'.ok
  repeat walk_at "rd"
  refine if_d3 (q := t' = 0) (fun c0 => ?_) (fun c1 hB => ?_)
  · repeat walk_at "rd"
    refine c__law_above ⟨e6, e5, hR, ox.b1.mono (by decide), ox.b2.mono (by decide), oy.b1.mono (by decide), oy.b2.mono (by decide)⟩ ?_
    repeat walk_at "rd"
    refine if_nd (fun c => ?_) (fun c => ?_)
    · have bt := ox.b1
      have bt' := oy.b1
      repeat walk_at "rd"
      refine i_newT (by simp) fun p7 H7 s7 e7 => ?_
      have e5 := s7 _ _ e5
      repeat walk_at "rd"
      refine i_newT (by simp) fun p8 H8 s8 e8 => ?_
      repeat walk_at "rd"
      refine i_newT (by simp) fun p9 H9 s9 e9 => ?_
      refine q p9 H9 ⟨0 - t, b, 0 - t', b'⟩ (((S6.trans s7).trans s8).trans s9) ⟨p7, p8, e9, (s8.trans s9) _ _ e7, s9 _ _ e8⟩ ⟨sm.neg, sm'.neg, ?_⟩
      show sgn d ((0 - t) * b') ((0 - t') * b) = 1
      rw [Int.zero_sub, Int.zero_sub, Int.neg_mul, Int.neg_mul, sgn_neg hR]
      rcases sgn_tri hR (t * b') (t' * b) with h | h | ⟨h1, h2⟩
      · exact absurd (by show 0 < sgn d (t * b') (t' * b); omega) c
      · rw [h]; decide
      · refine absurd ⟨?_, ?_⟩ c0
        · rcases Int.mul_eq_zero.mp h1 with z | z
          · exact z
          · have := oy.b; exact absurd z (by show b' ≠ 0; have : 1 ≤ b' := this; omega)
        · rcases Int.mul_eq_zero.mp h2 with z | z
          · exact z
          · have := ox.b; exact absurd z (by show b ≠ 0; have : 1 ≤ b := this; omega)
    · repeat walk_at "rd"
      refine i_newT (by simp) fun p9 H9 s9 e9 => ?_
      refine q p9 H9 ⟨t, b, t', b'⟩ (S6.trans s9) ⟨r1, r2, e9, s9 _ _ e6, s9 _ _ e5⟩ ⟨sm, sm', ?_⟩
      have c : 0 < sgn d (t * b') (t' * b) := c
      rcases sgn_tri hR (t * b') (t' * b) with h | h | ⟨h1, h2⟩
      · exact h
      · omega
      · rw [h1, h2, sgn_zero] at c; exact absurd c (by decide)
  · repeat walk_at "rd"
    refine if_d (fun c => ?_) (fun c => hB fun z => c z.2)
    repeat walk_at "rd"
    refine i_newT (by simp) fun p7 H7 s7 e7 => ?_
    repeat walk_at "rd"
    refine i_newT (by simp) fun p8 H8 s8 e8 => ?_
    repeat walk_at "rd"
    refine i_newT (by simp) fun p9 H9 s9 e9 => ?_
    exact q p9 H9 ⟨1, 1, 0, 1⟩ (((S6.trans s7).trans s8).trans s9) ⟨p7, p8, e9, (s8.trans s9) _ _ e7, s9 _ _ e8⟩ ⟨sm1, sm0, by unfold sgn; simp⟩
set_option maxHeartbeats 4000000 in
theorem ok__law_rows {f : Addr} {fd : FuncData} (F : Fun K "_law_rows" "_law_rows" s__law_rows f fd) (B : Bl mg)  (o32x : Own P w K mg base 2 "_law_shown" ["_law_d", "_law_first", "_law_second"] [] sp__law_shown) : FnOk P w K mg base CX0 3 f fd ["_law_d", "_law_sides"] (sp__law_rows K) := by
  refine F.okA sC36 fun cdv A outer s H vs Q E hr h => ?_
  obtain @⟨d, p, G, rfl, hp, hA, hO, hl, hd, q⟩ := h
  refine ⟨_, (pss_cons (ps_s 2 sC36.nd (pe_lst pa_nil)) (pss_cons (ps_for PassesOwn.never rfl (pi_list (pv 1)) (pg_tup (n := 2) rfl (pgs_cons (pg_n 3 sC36.nd) (pgs_cons (pg_n 4 sC36.nd) pgs_nil))) (pss_one (ps_expr (pe_bm PySem.F.plainAttrs_list PySem.F.slot_list_append PySem.F.type_list_append mt_append (pv 2) (pa1 (pe_op op_addS (pe_op op_addS (pe_own o32x hr rfl (pa3 (pv 0) (pit 3) (pit 3))) pe_str) (pe_own o32x hr rfl (pa3 (pv 0) (pit 4) (pit 4))))))))) (pss_one (ps_ret (pv 2))))), ?_⟩
  walk_at "s"
  repeat walk_at "rd"
  refine i_newLf (by simp) fun l H1 nl s1 e1 => ?_
  have hp1 := s1 _ _ hp
  have np : p ≠ l := ne_of_none hp nl
  repeat walk_at "rd"
  refine i_forL ?_
  repeat walk_at "rd"
  refine ⟨p, rfl, ⟨_, SqL.of hp1⟩, for_list (K := K) (a := p) (xs := G.map G4.v) (fun i σ H' => E2 fun (v3 v4 : Option V) => A3 (σ = [some (.int d), some (.ref p), some (.ref l), v3, v4]) (H' l = some (.lst ((((G.take i).map fun g => tx2 d g.x).map sOf).map V.str))) (SameX l H1 H')) ⟨_, _, rfl, e1, fun b o e _ => e⟩ (fun i σ H' _ z => by obtain ⟨_, _, _, _, z⟩ := z; exact SqL.of (z _ _ hp1 np)) ?_ ?_⟩
  · rintro i y σ H' hi ⟨v3, v4, rfl, el, sx⟩
    have hi' := (List.getElem?_eq_some_iff.mp hi).1
    rw [List.length_map] at hi'
    rw [List.getElem?_map] at hi
    obtain ⟨g, hg, rfl⟩ := Option.map_eq_some_iff.mp hi
    have mg := List.mem_of_getElem? hg
    have sH : Same H H' := fun b o e => sx _ _ (s1 _ _ e) (ne_of_none e nl)
    obtain ⟨pw, ph, eg, fw, fh⟩ := (hA g mg).same sH
    obtain ⟨w1, w2, ew, ew1, ew2⟩ := fw
    obtain ⟨h1, h2, eh, eh1, eh2⟩ := fh
    obtain ⟨sm, sm'⟩ := hO g mg
    have okw := sm.ok
    have okh := sm'.ok
    have lw := sm.len hd
    have lh := sm'.len hd
    rw [show g.v = V.ref g.p from rfl]
    repeat walk_at "rd"
    refine c__law_shown ⟨ew1, ew2, ⟨hd.1, by omega⟩, ⟨okw.hb, okw.hb'⟩, okw.b1, okw.b2, okw.b3, okw.b4⟩ fun H2 s2 => ?_
    have eh := s2 _ _ eh
    have eh1 := s2 _ _ eh1
    have eh2 := s2 _ _ eh2
    have lw : (lnl d g.x.1.t g.x.1.b g.x.1.t' g.x.1.b').length ≤ 16 := lw
    have lh : (lnl d g.x.2.t g.x.2.b g.x.2.t' g.x.2.b').length ≤ 16 := lh
    repeat walk_at "rd"
    rw [k_x]
    refine i_addS (by first | omega | (simp only [List.length_cons, List.length_nil]; omega)) ?_
    repeat walk_at "rd"
    refine c__law_shown ⟨eh1, eh2, ⟨hd.1, by omega⟩, ⟨okh.hb, okh.hb'⟩, okh.b1, okh.b2, okh.b3, okh.b4⟩ fun H3 s3 => ?_
    have el3 := s3 _ _ (s2 _ _ el)
    repeat walk_at "rd"
    refine i_addS (by first | omega | (simp only [List.length_append, List.length_cons, List.length_nil]; omega)) ?_
    repeat walk_at "rd"
    refine i_append el3 (by simp only [List.length_map, List.length_take]; omega) fun H4 x4 e4 => ?_
    repeat walk_at "rd"
    refine ⟨_, _, rfl, ?_, (sx.trans ((s2.trans s3).sameX l)).trans x4⟩
    rw [List.take_succ, hg, List.map_append, List.map_append, List.map_append]
    exact e4
  rintro σ H' ⟨v3, v4, rfl, el, sx⟩
  rw [List.length_map, List.take_length] at el
  repeat walk_at "rd"
  exact q l H' (fun b o e => sx _ _ (s1 _ _ e) (ne_of_none e nl)) nl el
set_option maxHeartbeats 4000000 in
theorem ok_is_side {f : Addr} {fd : FuncData} (F : Fun K "is_side" "is_side" s_is_side f fd) (B : Bl mg) (g_NOUGHT : TopT K mg "NOUGHT" [.int 0, .int 0, .int 1]) (o9x : Own P w K mg base 3 "is_length" ["thing"] [] sp_is_length) (o8x : Own P w K mg base 2 "under" ["d", "one", "other"] [] (sp_under K)) : FnOk P w K mg base CX0 4 f fd ["d", "thing"] sp_is_side := by
  obtain ⟨a_NOUGHT, m_NOUGHT, q_NOUGHT⟩ := g_NOUGHT
  refine F.okA sC10 fun cdv A outer s H vs Q E hr h => ?_
  obtain @⟨d, p, s, rfl, h1, ok, hd, q⟩ := h
  refine ⟨_, (pss_one (ps_ret (pe_and (pe_own o9x hr rfl (pa1 (pv 1))) (pe_one (pe_own o8x hr rfl (pa3 (pv 0) (pe_glob (v := .ref a_NOUGHT) rfl m_NOUGHT rfl) (pv 1))))))), ?_⟩
  walk_at "s"
  repeat walk_at "rd"
  refine c_is_length rfl h1 ok fun H1 s1 => ?_
  repeat walk_at "rd"
  refine c_under (q_NOUGHT H1) (s1 _ _ h1) hd (by decide +kernel) (by decide +kernel) (by decide +kernel) (ok.bx.mono (by decide)) (ok.by'.mono (by decide)) (ok.bz.mono (by decide)) ?_
  refine bl_q ?_ (q H1 s1)
  rw [show s.x * 1 - 0 * s.z = s.x by omega, show s.y * 1 - 0 * s.z = s.y by omega]
set_option maxHeartbeats 4000000 in
theorem ok_shown_length {f : Addr} {fd : FuncData} (F : Fun K "shown_length" "shown_length" s_shown_length f fd) (B : Bl mg)  (o5x : Own P w K mg base 3 "parts" ["one"] [] sp_parts) (o14x : Own P w K mg base 3 "shown_rooted" ["d", "one"] [] sp_shown_rooted) (o13x : Own P w K mg base 2 "shown_fraction" ["one"] [] sp_shown_fraction) : FnOk P w K mg base CX0 4 f fd ["d", "one"] sp_shown_length := by
  refine F.okA sC15 fun cdv A outer s H vs Q E hr h => ?_
  obtain ⟨d, p, a, b, n, rfl, h1, hd, n0, hnb, ⟨b1, b2, b3, b4⟩, q⟩ := h
  refine ⟨_, (pss_cons (ps_s 2 sC15.nd (pe_own o5x hr rfl (pa1 (pv 1)))) (pss_cons (ps_if (pt_cmpR op_eq (pe_i ix_tup (pit 2) pe_int) pe_int (nomark _)) (pss_one (ps_ret (pe_own o13x hr rfl (pa1 (pit 2))))) pss_nil) (pss_cons (ps_s 3 sC15.nd (pe_own o14x hr rfl (pa2 (pv 0) (pit 2)))) (pss_cons (ps_if (pt_cmpR op_eq (pe_i ix_tup (pit 2) pe_int) pe_int (nomark _)) (pss_one (ps_ret (pv 3))) pss_nil) (pss_cons (ps_s 4 sC15.nd (pe_ifExp (pt_cmpR op_gt (pe_i ix_tup (pit 2) pe_int) pe_int (nomark _)) pe_str pe_str)) (pss_one (ps_ret (pe_op op_addS (pe_op op_addS (pe_own o13x hr rfl (pa1 (pit 2))) (pv 4)) (pv 3))))))))), ?_⟩
  walk_at "s"
  have z1 := f_b (t := a) n0
  have z2 := f_b (t := b) n0
  repeat walk_at "rd"
  refine c_parts rfl h1 n0 hnb fun r r1 r2' H1 s1 e0 e1 e2 => ?_
  generalize fT a n = t at *
  generalize fB a n = u at *
  generalize fT b n = t' at *
  generalize fB b n = u' at *
  have l1 := f110 b1 b2
  have l2 := rt110 hd b3 b4
  repeat walk_at "rd"
  refine if_d (fun c => ?_) (fun c => ?_)
  · have e : lnl d t u t' u' = ftl t u := if_pos c
    rw [e] at q
    repeat walk_at "rd"
    exact c_shown_fraction rfl e1 z1 (b1.mono (by decide)) (b2.mono (by decide)) fun H2 s2 => q H2 (s1.trans s2)
  repeat walk_at "rd"
  refine c_shown_rooted rfl e2 hd z2 b3 b4 fun H2 s2 => ?_
  have e0 := s2 _ _ e0
  have e1 := s2 _ _ e1
  have e2 := s2 _ _ e2
  repeat walk_at "rd"
  refine if_d (fun c2 => ?_) (fun c2 => ?_)
  · have e : lnl d t u t' u' = rtl d t' u' := by unfold lnl; rw [if_neg c, if_pos c2]
    rw [e] at q
    repeat walk_at "rd"
    exact q H2 (s1.trans s2)
  have e : lnl d t u t' u' = ftl t u ++ (if 0 < t' then [43] else []) ++ rtl d t' u' := by unfold lnl; rw [if_neg c, if_neg c2]
  rw [e] at q
  repeat walk_at "rd"
  refine if_d (fun c3 => ?_) (fun c3 => ?_)
  · rw [if_pos c3] at q
    repeat walk_at "rd"
    refine c_shown_fraction rfl e1 z1 (b1.mono (by decide)) (b2.mono (by decide)) fun H3 s3 => ?_
    repeat walk_at "rd"
    rw [k_plus]
    refine i_addS (by simp only [List.length_cons, List.length_nil]; omega) ?_
    repeat walk_at "rd"
    exact i_addS (by simp only [List.length_append, List.length_cons, List.length_nil]; omega) (q H3 ((s1.trans s2).trans s3))
  · rw [if_neg c3] at q
    repeat walk_at "rd"
    refine c_shown_fraction rfl e1 z1 (b1.mono (by decide)) (b2.mono (by decide)) fun H3 s3 => ?_
    repeat walk_at "rd"
    rw [c_none]
    refine i_addS (by simp only [List.length_nil]; omega) ?_
    repeat walk_at "rd"
    exact i_addS (by simp only [List.length_append, List.length_nil]; omega) (q H3 ((s1.trans s2).trans s3))
set_option maxHeartbeats 4000000 in
theorem ok_read_fraction {f : Addr} {fd : FuncData} (F : Fun K "read_fraction" "read_fraction" s_read_fraction f fd) (B : Bl mg)  (o20x : OwnX P w K mg base 3 "read_fraction_above" ["text"] [] (sp_read_fraction_above cs)) : FnOk P w K mg base (CXe P w) 4 f fd ["text"] (sp_read_fraction cs) := by
  refine F.okXA sC19 fun cdv A outer s H vs Q E hr h => ?_
  obtain @⟨l, rfl, hl, q, qe⟩ := h
  refine ⟨_, (pss_cons (ps_if (pt_val (pe_bm PySem.F.plainAttrs_str PySem.F.slot_str_startswith PySem.F.type_str_startswith mt_sw (pv 0) (pa1 pe_str))) (pss_cons (ps_s 1 sC19.nd (pe_ownP passes_of o20x hr rfl (pa1 (pe_slice sl_str (pv 0) (po_some pe_int) po_none)))) (pss_one (ps_ret (pe_tup (pa2 (pe_un un_neg (pit 1)) (pit 1)))))) pss_nil) (pss_one (ps_ret (pe_ownP passes_of o20x hr rfl (pa1 (pv 0)))))), ?_⟩
  walk_at "s"
  repeat walk_at "rd"
  try rw [c_dash]
  refine i_sw ?_
  by_cases c : l[0]? = some 45
  · have l1 := (List.getElem?_eq_some_iff.mp c).1
    rw [decide_eq_true c]
    repeat walk_at "rd"
    refine i_sFrom (b := 1) (by omega) (by omega) ?_
    repeat walk_at "rd"
    refine c_read_fraction_above rfl (by rw [List.length_drop]; omega) (fun x p H1 hx s1 e1 => ?_) fun hx H1 s1 => qe (by unfold rfr; rw [if_pos c, hx]; rfl) H1 s1
    repeat walk_at "rd"
    exact i_newT (by simp) fun p H2 s2 e2 => q (ngf x) p H2 (by unfold rfr; rw [if_pos c, hx]; rfl) (s1.trans s2) e2
  · rw [decide_eq_false c]
    repeat walk_at "rd"
    exact c_read_fraction_above rfl hl (fun x p H1 hx s1 e1 => q x p H1 (by unfold rfr; rw [if_neg c]; exact hx) s1 e1) fun hx H1 s1 => qe (by unfold rfr; rw [if_neg c]; exact hx) H1 s1
set_option maxHeartbeats 4000000 in
theorem ok_read_rooted {f : Addr} {fd : FuncData} (F : Fun K "read_rooted" "read_rooted" s_read_rooted f fd) (B : Bl mg)  (o20x : OwnX P w K mg base 3 "read_fraction_above" ["text"] [] (sp_read_fraction_above cs)) : FnOk P w K mg base (CXe P w) 4 f fd ["text"] (sp_read_rooted cs) := by
  refine F.okXA sC21 fun cdv A outer s H vs Q E hr h => ?_
  obtain @⟨l, rfl, hl, q, qe⟩ := h
  refine ⟨_, (pss_cons (ps_s 1 sC21.nd (pe_ifExp (pt_val (pe_bm PySem.F.plainAttrs_str PySem.F.slot_str_startswith PySem.F.type_str_startswith mt_swT (pv 0) (pa1 (pe_tup (pa2 pe_str pe_str))))) (pe_slice sl_str (pv 0) (po_some pe_int) po_none) (pv 0))) (pss_cons (ps_s 2 sC21.nd (pe_ifExp (pt_cmpR op_eq (pv 1) pe_str (nomark _)) (pe_tup (pa2 pe_int pe_int)) (pe_ownP passes_of o20x hr rfl (pa1 (pv 1))))) (pss_one (ps_ret (pe_ifExp (pt_val (pe_bm PySem.F.plainAttrs_str PySem.F.slot_str_startswith PySem.F.type_str_startswith mt_sw (pv 0) (pa1 pe_str))) (pe_tup (pa2 (pe_un un_neg (pit 2)) (pit 2))) (pv 2)))))), ?_⟩
  walk_at "s"
  have hh := hiT_len l
  repeat walk_at "rd"
  try rw [k_plus]
  try rw [c_dash]
  refine i_newT (by simp) fun p1 H1 s1 e1 => ?_
  repeat walk_at "rd"
  refine i_swT e1 ?_
  by_cases cA : l[0]? = some 43
  · have n45 : ¬ l[0]? = some 45 := fun z => by rw [z] at cA; exact absurd (Option.some.inj cA) (by decide)
    have l1 := (List.getElem?_eq_some_iff.mp cA).1
    have hX : hiT l = l.drop 1 := if_pos (.inl cA)
    rw [decide_eq_true cA, Bool.true_or]
    repeat walk_at "rd"
    refine i_sFrom (b := 1) (by omega) (by omega) ?_
    repeat walk_at "rd"
    rw [c_none, so_dec]
    by_cases o : l.drop 1 = []
    · rw [decide_eq_true o]
      repeat walk_at "rd"
      refine i_newT (by simp) fun pm H2 s2 e2 => ?_
      obtain ⟨x, hx⟩ : ∃ x : FF, x = (1, 1) := ⟨_, rfl⟩
      have e2 : H2 pm = some (.tup [.int x.1, .int x.2]) := by rw [hx]; exact e2
      repeat walk_at "rd"
      try rw [c_dash]
      refine i_sw ?_
      rw [decide_eq_false n45]
      repeat walk_at "rd"
      exact q x pm H2 (by unfold rrt; rw [hX, if_pos o, hx]; show some (if l[0]? = some 45 then _ else _) = _; rw [if_neg n45]) (s1.trans s2) e2
    · rw [decide_eq_false o]
      repeat walk_at "rd"
      refine c_read_fraction_above rfl (by rw [← hX]; omega) (fun x pm H2 hx s2 e2 => ?_) fun hx H2 s2 => qe (by unfold rrt; rw [hX, if_neg o, hx]; rfl) H2 (s1.trans s2)
      repeat walk_at "rd"
      try rw [c_dash]
      refine i_sw ?_
      rw [decide_eq_false n45]
      repeat walk_at "rd"
      exact q x pm H2 (by unfold rrt; rw [hX, if_neg o, hx]; show some (if l[0]? = some 45 then _ else _) = _; rw [if_neg n45]) (s1.trans s2) e2
  by_cases cB : l[0]? = some 45
  · have l1 := (List.getElem?_eq_some_iff.mp cB).1
    have hX : hiT l = l.drop 1 := if_pos (.inr cB)
    rw [decide_eq_true cB, Bool.or_true]
    repeat walk_at "rd"
    refine i_sFrom (b := 1) (by omega) (by omega) ?_
    repeat walk_at "rd"
    rw [c_none, so_dec]
    by_cases o : l.drop 1 = []
    · rw [decide_eq_true o]
      repeat walk_at "rd"
      refine i_newT (by simp) fun pm H2 s2 e2 => ?_
      obtain ⟨x, hx⟩ : ∃ x : FF, x = (1, 1) := ⟨_, rfl⟩
      have e2 : H2 pm = some (.tup [.int x.1, .int x.2]) := by rw [hx]; exact e2
      repeat walk_at "rd"
      try rw [c_dash]
      refine i_sw ?_
      rw [decide_eq_true cB]
      repeat walk_at "rd"
      exact i_newT (by simp) fun pr H3 s3 e3 => q (ngf x) pr H3 (by unfold rrt; rw [hX, if_pos o, hx]; show some (if l[0]? = some 45 then _ else _) = _; rw [if_pos cB]) ((s1.trans s2).trans s3) e3
    · rw [decide_eq_false o]
      repeat walk_at "rd"
      refine c_read_fraction_above rfl (by rw [← hX]; omega) (fun x pm H2 hx s2 e2 => ?_) fun hx H2 s2 => qe (by unfold rrt; rw [hX, if_neg o, hx]; rfl) H2 (s1.trans s2)
      repeat walk_at "rd"
      try rw [c_dash]
      refine i_sw ?_
      rw [decide_eq_true cB]
      repeat walk_at "rd"
      exact i_newT (by simp) fun pr H3 s3 e3 => q (ngf x) pr H3 (by unfold rrt; rw [hX, if_neg o, hx]; show some (if l[0]? = some 45 then _ else _) = _; rw [if_pos cB]) ((s1.trans s2).trans s3) e3
  · have n45 := cB
    have hX : hiT l = l := if_neg fun z => z.elim cA cB
    rw [decide_eq_false cA, decide_eq_false cB, Bool.or_false]
    repeat walk_at "rd"
    repeat walk_at "rd"
    rw [c_none, so_dec]
    by_cases o : l = []
    · rw [decide_eq_true o]
      repeat walk_at "rd"
      refine i_newT (by simp) fun pm H2 s2 e2 => ?_
      obtain ⟨x, hx⟩ : ∃ x : FF, x = (1, 1) := ⟨_, rfl⟩
      have e2 : H2 pm = some (.tup [.int x.1, .int x.2]) := by rw [hx]; exact e2
      repeat walk_at "rd"
      try rw [c_dash]
      refine i_sw ?_
      rw [decide_eq_false n45]
      repeat walk_at "rd"
      exact q x pm H2 (by unfold rrt; rw [hX, if_pos o, hx]; show some (if l[0]? = some 45 then _ else _) = _; rw [if_neg n45]) (s1.trans s2) e2
    · rw [decide_eq_false o]
      repeat walk_at "rd"
      refine c_read_fraction_above rfl (by rw [← hX]; omega) (fun x pm H2 hx s2 e2 => ?_) fun hx H2 s2 => qe (by unfold rrt; rw [hX, if_neg o, hx]; rfl) H2 (s1.trans s2)
      repeat walk_at "rd"
      try rw [c_dash]
      refine i_sw ?_
      rw [decide_eq_false n45]
      repeat walk_at "rd"
      exact q x pm H2 (by unfold rrt; rw [hX, if_neg o, hx]; show some (if l[0]? = some 45 then _ else _) = _; rw [if_neg n45]) (s1.trans s2) e2
set_option maxHeartbeats 4000000 in
theorem ok__law_heap {f : Addr} {fd : FuncData} (F : Fun K "_law_heap" "_law_heap" s__law_heap f fd) (B : Bl mg)  (o27x : Own P w K mg base 1 "_law_mixed" ["_law_cell_here", "_law_k"] [] sp__law_mixed) (o34x : Own P w K mg base 3 "_law_side" ["_law_d", "_law_number", "_law_great"] [] sp__law_side) : FnOk P w K mg base CX0 4 f fd ["_law_d", "_law_cells", "_law_great"] (sp__law_heap K) := by
  refine F.okA sC35 fun cdv A outer s H vs Q E hr h => ?_
  obtain @⟨d, p, ns, rfl, h1, hl, hR, q⟩ := h
  refine ⟨_, (pss_cons (ps_s 3 sC35.nd (pe_lst pa_nil)) (pss_cons (ps_for PassesOwn.never rfl (pi_range1 rfl B.range (pa1 (pe_callB call_lenR rfl B.len PySem.boot_len (pa1 (pv 1))))) (pg_n 4 sC35.nd) (pss_cons (ps_s 5 sC35.nd (pe_own o27x hr rfl (pa2 (pe_i ix_list (pv 1) (pv 4)) (pe_op op_add (pv 4) pe_int)))) (pss_one (ps_expr (pe_bm PySem.F.plainAttrs_list PySem.F.slot_list_append PySem.F.type_list_append mt_append (pv 3) (pa1 (pe_tup (pa2 (pe_own o34x hr rfl (pa3 (pv 0) (pv 5) (pv 2))) (pe_own o34x hr rfl (pa3 (pv 0) (pe_op op_mod (pe_op op_mulB (pv 5) pe_int) pe_int) (pv 2))))))))))) (pss_one (ps_ret (pv 3))))), ?_⟩
  walk_at "s"
  repeat walk_at "rd"
  refine i_newLf (by simp) fun l H1 nl s1 e1 => ?_
  have h1' := s1 _ _ h1
  repeat walk_at "rd"
  refine i_forR1 ?_
  repeat walk_at "rd"
  rw [List.length_map]
  have np : p ≠ l := ne_of_none h1 nl
  refine ⟨(ns.length : Int), rfl, by omega, by omega, for_range (lo := 0) (n := (ns.length : Int).toNat) (fun i σ H' => E3 fun (v3 v4 : Option V) (C : List G4) => A6 (σ = [some (.int d), some (.ref p), some (.bl false), some (.ref l), v3, v4]) (SameX l H1 H') (H' l = some (.lst (C.map G4.v))) (C.length = i) ((∀ c ∈ C, c.At H')) ((∀ c ∈ C, Sm4 d c.x.1 ∧ Sm4 d c.x.2))) ⟨_, _, [], rfl, fun b o e _ => e, e1, rfl, fun c hc => absurd hc (by simp), fun c hc => absurd hc (by simp)⟩ ?_ ?_⟩
  · rintro i σ H' hi ⟨v3, v4, C, rfl, sx, el, hC, hA, hO⟩
    have hp : H' p = some (.lst (ns.map V.int)) := sx _ _ h1' np
    obtain ⟨c0, hc0, ec⟩ := atI_in (xs := ns) (i := 0 + (i : Int)) (by omega) (by omega)
    repeat walk_at "rd"
    refine i_ixL hp ec ?_
    repeat walk_at "rd"
    refine c__law_mixed rfl (by omega) (by omega) fun m m0 m1 => ?_
    have bm : Bd 32 m := bd_range (B := 2147483628) (by omega) (by omega) (by decide)
    repeat walk_at "rd"
    refine c__law_side rfl hR m0 m1 fun r2 H2 f s2 e2 sm => ?_
    repeat walk_at "rd"
    refine c__law_side rfl hR (by omega) (by omega) fun r3 H3 f' s3 e3 sm' => ?_
    repeat walk_at "rd"
    refine i_newT (by simp) fun r7 H7 s7 e7 => ?_
    have st := (s2.trans s3).trans s7
    have el7 := st _ _ el
    repeat walk_at "rd"
    refine i_append el7 (by rw [List.length_map]; omega) fun H8 sx8 e8 => ?_
    repeat walk_at "rd"
    refine ⟨_, _, C ++ [⟨r7, (f, f')⟩], rfl, (sx.trans (st.sameX l)).trans sx8, by rw [List.map_append]; exact e8, by rw [List.length_append, hC]; rfl, fun g hg => ?_, fun g hg => ?_⟩
    · rcases List.mem_append.mp hg with h | h
      · exact ((hA g h).same st).sameX sx8 el7
      · rw [List.mem_singleton.mp h]
        exact G4.At.sameX ⟨r2, r3, e7, (e2.same s3).same s7, e3.same s7⟩ sx8 el7
    · rcases List.mem_append.mp hg with h | h
      · exact hO g h
      · rw [List.mem_singleton.mp h]; exact ⟨sm, sm'⟩
  rintro σ H' ⟨v3, v4, C, rfl, sx, el, hC, hA, hO⟩
  repeat walk_at "rd"
  exact q l H' C (fun b o e => sx _ _ (s1 _ _ e) (ne_of_none e nl)) el hA hO (by omega)
set_option maxHeartbeats 4000000 in
theorem ok_is_board {f : Addr} {fd : FuncData} (F : Fun K "is_board" "is_board" s_is_board f fd) (B : Bl mg)  (o10x : Own P w K mg base 4 "is_side" ["d", "thing"] [] sp_is_side) : FnOk P w K mg base CX0 5 f fd ["d", "thing"] sp_is_board := by
  refine F.okA sC11 fun cdv A outer s H vs Q E hr h => ?_
  obtain @⟨d, c, rfl, hc, ow, oh, hd, q⟩ := h
  refine ⟨_, (pss_cons (ps_if (PW.pt (pw_or (pt_not (pt_val (pe_callB call_isinst rfl B.isinstance bt_isinstance (pa2 (pv 1) (pe_bltn (v := .ty "tuple") rfl B.tuple bt_tuple rfl))))) (pw_or1 (pt_cmpR op_ne (pe_callB call_lenR rfl B.len PySem.boot_len (pa1 (pv 1))) pe_int (nomark _))))) (pss_one (ps_ret pe_bl)) pss_nil) (pss_one (ps_ret (pe_and (pe_own o10x hr rfl (pa2 (pv 0) (pit 1))) (pe_one (pe_own o10x hr rfl (pa2 (pv 0) (pit 1)))))))), ?_⟩
  walk_at "s"
  have ht := hc.t
  repeat walk_at "rd"
  refine if_ne (by rfl) ?_
  repeat walk_at "rd"
  refine c_is_side rfl hc.w ow hd fun H1 s1 => ?_
  have ht := s1 _ _ ht
  repeat walk_at "rd"
  refine if_d (fun c1 => ?_) (fun c1 => ?_)
  · repeat walk_at "rd"
    refine c_is_side rfl (s1 _ _ hc.h) oh hd fun H2 s2 => ?_
    refine bl_q ?_ (q H2 (s1.trans s2))
    rw [decide_eq_true c1, Bool.true_and]
  · refine bl_q ?_ (q H1 s1)
    rw [decide_eq_false c1, Bool.false_and]
set_option maxHeartbeats 4000000 in
theorem ok_shown_board {f : Addr} {fd : FuncData} (F : Fun K "shown_board" "shown_board" s_shown_board f fd) (B : Bl mg)  (o15x : Own P w K mg base 4 "shown_length" ["d", "one"] [] sp_shown_length) : FnOk P w K mg base CX0 5 f fd ["d", "one"] sp_shown_board := by
  refine F.okA sC16 fun cdv A outer s H vs Q E hr h => ?_
  obtain @⟨d, c, x, rfl, hc, hx, ok, hd, q⟩ := h
  refine ⟨_, (pss_cons (ps_s 2 sC16.nd (pe_own o15x hr rfl (pa2 (pv 0) (pit 1)))) (pss_cons (ps_s 3 sC16.nd (pe_own o15x hr rfl (pa2 (pv 0) (pit 1)))) (pss_one (ps_ret (pe_fstr (pf_val (pv 2) (pf_str (pf_val (pv 3) pf_nil)))))))), ?_⟩
  walk_at "s"
  have ct := hc.t
  have cw : SdAt H c.pw x.1.l := by have := hc.w; rw [hx] at this; exact this
  have ch : SdAt H c.ph x.2.l := by have := hc.h; rw [hx] at this; exact this
  have l1 := tx_len hd ok.1
  have l2 := tx_len hd ok.2
  have sh : ∀ {f : F4}, f.Ok d → (2 ≤ d ∧ d ≤ 99) ∧ f.l.z ≠ 0 ∧ Bd 8000 f.l.z ∧ (Bd 110 (fT f.l.x f.l.z) ∧ Bd 110 (fB f.l.x f.l.z) ∧ Bd 110 (fT f.l.y f.l.z) ∧ Bd 110 (fB f.l.y f.l.z)) ∧ lnl d (fT f.l.x f.l.z) (fB f.l.x f.l.z) (fT f.l.y f.l.z) (fB f.l.y f.l.z) = f.tx d := fun {f} o => by
    obtain ⟨pb1, pb2⟩ := by_parts_a (t' := f.t') o.hb o.hb' o.g
    obtain ⟨pb3, pb4⟩ := by_parts_b (t := f.t) o.hb o.hb' o.g'
    have sk := o.sk
    refine ⟨hd, sk.ne, sk.bz.mono (by decide), ⟨?_, ?_, ?_, ?_⟩, ?_⟩
    · show Bd 110 (fT (lA _ _ _) (lN _ _ _)); rw [pb1]; exact o.b1
    · show Bd 110 (fB (lA _ _ _) (lN _ _ _)); rw [pb2]; exact o.b2
    · show Bd 110 (fT (lB _ _ _) (lN _ _ _)); rw [pb3]; exact o.b3
    · show Bd 110 (fB (lB _ _ _) (lN _ _ _)); rw [pb4]; exact o.b4
    · show lnl d (fT (lA _ _ _) (lN _ _ _)) (fB (lA _ _ _) (lN _ _ _)) (fT (lB _ _ _) (lN _ _ _)) (fB (lB _ _ _) (lN _ _ _)) = _
      rw [pb1, pb2, pb3, pb4]
      rfl
  obtain ⟨a1, a2, a3, a4, a5⟩ := sh ok.1
  obtain ⟨z1, z2, z3, z4, z5⟩ := sh ok.2
  repeat walk_at "rd"
  refine c_shown_length ⟨cw, a1, a2, a3, a4⟩ fun H1 s1 => ?_
  rw [a5]
  have ct := s1 _ _ ct
  repeat walk_at "rd"
  refine c_shown_length ⟨s1 _ _ ch, z1, z2, z3, z4⟩ fun H2 s2 => ?_
  rw [z5]
  repeat walk_at "rd"
  refine i_fVal (l := []) (by simp only [List.length_nil]; omega) ?_
  rw [List.nil_append]
  refine i_fStr (m := [120]) (by simp only [List.length_cons, List.length_nil]; omega) ?_
  repeat walk_at "rd"
  refine i_fVal (l := x.1.tx d ++ [120]) (by simp only [List.length_append, List.length_cons, List.length_nil]; omega) ?_
  exact i_fNil (by simp only [List.length_append, List.length_cons, List.length_nil]; omega) (q H2 (s1.trans s2))
set_option maxHeartbeats 4000000 in
theorem ok_read_both_parts {f : Addr} {fd : FuncData} (F : Fun K "read_both_parts" "read_both_parts" s_read_both_parts f fd) (B : Bl mg) (X : Xs K mg cs) (o19x : OwnX P w K mg base 4 "read_fraction" ["text"] [] (sp_read_fraction cs)) (o21x : OwnX P w K mg base 4 "read_rooted" ["text"] [] (sp_read_rooted cs)) : FnOk P w K mg base (CXe P w) 5 f fd ["d", "text"] (sp_read_both_parts cs) := by
  refine F.okXA sC22 fun cdv A outer s H vs Q E hr h => ?_
  obtain @⟨d, l, rfl, hd, hl, q, qe⟩ := h
  refine ⟨_, (pss_cons (ps_if (pt_cmpR op_notS pe_str (pv 1) (by with_unfolding_all rfl)) (pss_one (ps_ret (WE.w (we_tup (wa_cons (we_of (pe_ownP passes_of o19x hr rfl (pa1 (pv 1)))) (wa_cons (we_tup (wa_cons (we_of pe_int) (wa_cons (we_of pe_int) wa_nil))) wa_nil)))))) pss_nil) (pss_cons (ps_s 2 sC22.nd (pe_bm PySem.F.plainAttrs_str PySem.F.slot_str_partition PySem.F.type_str_partition mt_pt (pv 1) (pa1 pe_str))) (pss_cons (ps_if (pt_cmpR op_ne (pit 2) (pe_callTy call_strR rfl B.str bt_str (pa1 (pv 0))) (nomark _)) (pss_one (ps_raise raises_of X.o_NoText X.m_NoText rfl rfl)) pss_nil) (pss_cons (ps_s 3 sC22.nd (pe_callB (call_max2R rfl) rfl B.max bt_max (pa2 (pe_bm PySem.F.plainAttrs_str PySem.F.slot_str_rfind PySem.F.type_str_rfind mt_rf (pit 2) (pa1 pe_str)) (pe_bm PySem.F.plainAttrs_str PySem.F.slot_str_rfind PySem.F.type_str_rfind mt_rf (pit 2) (pa1 pe_str))))) (pss_cons (ps_if (pt_cmpR op_lt (pv 3) pe_int (nomark _)) (pss_one (ps_ret (WE.w (we_tup (wa_cons (we_tup (wa_cons (we_of pe_int) (wa_cons (we_of pe_int) wa_nil))) (wa_cons (we_of (pe_ownP passes_of o21x hr rfl (pa1 (pit 2)))) wa_nil)))))) pss_nil) (pss_one (ps_ret (pe_tup (pa2 (pe_ownP passes_of o19x hr rfl (pa1 (pe_slice sl_str (pit 2) po_none (po_some (pv 3))))) (pe_ownP passes_of o21x hr rfl (pa1 (pe_slice sl_str (pit 2) (po_some (pv 3)) po_none)))))))))))), ?_⟩
  walk_at "s"
  have hdb : Bd 1000 d := bd_small 1000 (by omega) (by omega) (by decide)
  have lp := pos_len (c := 114) (l := l)
  have lq := pre_len (c := 114) (l := l)
  repeat walk_at "rd"
  try rw [k_r]
  refine i_notS ?_
  by_cases c : 114 ∈ l
  case neg =>
    rw [decide_eq_false c]
    repeat walk_at "rd"
    refine c_read_fraction rfl hl (fun x p1 H1 hx s1 e1 => ?_) fun hx H1 s1 => qe (by unfold rbp; rw [if_neg c, hx]; rfl) H1 s1
    repeat walk_at "rd"
    refine i_newT (by simp) fun p2 H2 s2 e2 => ?_
    repeat walk_at "rd"
    refine i_newT (by simp) fun p3 H3 s3 e3 => ?_
    exact q x (0, 1) p3 p1 p2 H3 (by unfold rbp; rw [if_neg c, hx]; rfl) ((s1.trans s2).trans s3) e3 (s3 _ _ (s2 _ _ e1)) (s3 _ _ e2)
  have ec := cut1 c
  have er : rbp d l = (if pos1 114 l = digs d.natAbs then rbp2 (pre1 114 l) else none) := by unfold rbp; rw [if_pos c]
  have np := pre_no (c := 114) (l := l)
  rw [decide_eq_true c]
  generalize pre1 114 l = A at *
  generalize pos1 114 l = B at *
  generalize rbp d l = R at *
  subst ec
  repeat walk_at "rd"
  try rw [k_r]
  refine i_pt np (by omega) fun p H1 s1 e1 => ?_
  repeat walk_at "rd"
  refine i_strZ hdb ?_
  rw [txl_nn (show 0 ≤ d by omega)]
  repeat walk_at "rd"
  refine if_nd (fun z => ?_) (fun z => ?_)
  · repeat walk_at "rd"
    exact i_raise (qe (by rw [er, if_neg fun w => z (by rw [w])]) H1 s1)
  rw [if_pos (sOf_inj z)] at er
  have jn := jnt_in A
  repeat walk_at "rd"
  try rw [k_plus]
  refine i_rf ?_
  repeat walk_at "rd"
  try rw [c_dash]
  refine i_rf ?_
  repeat walk_at "rd"
  refine i_max2 ?_
  rw [show (if Txt.rfind (sOf A) (sOf [45]) > Txt.rfind (sOf A) (sOf [43]) then Txt.rfind (sOf A) (sOf [45]) else Txt.rfind (sOf A) (sOf [43])) = jnt A from rfl]
  repeat walk_at "rd"
  refine if_d (fun cj => ?_) (fun cj => ?_)
  · repeat walk_at "rd"
    refine i_newT (by simp) fun p2 H2 s2 e2 => ?_
    have e1 := s2 _ _ e1
    repeat walk_at "rd"
    refine c_read_rooted rfl (by omega) (fun y p3 H3 hy s3 e3 => ?_) fun hy H3 s3 => qe (by rw [er]; unfold rbp2; rw [if_pos cj, hy]; rfl) H3 ((s1.trans s2).trans s3)
    repeat walk_at "rd"
    refine i_newT (by simp) fun p4 H4 s4 e4 => ?_
    exact q (0, 1) y p4 p2 p3 H4 (by rw [er]; unfold rbp2; rw [if_pos cj, hy]; rfl) (((s1.trans s2).trans s3).trans s4) e4 (s4 _ _ (s3 _ _ e2)) (s4 _ _ e3)
  obtain ⟨j, hj⟩ : ∃ j : Nat, jnt A = (j : Int) := ⟨(jnt A).toNat, by omega⟩
  have hjt : (jnt A).toNat = j := by omega
  have er : R = (match rfr (A.take j) with | none => none | some x => (rrt (A.drop j)).map fun y => (x, y)) := by rw [er]; unfold rbp2; rw [if_neg cj, hjt] <;> cases rfr (A.take j) <;> rfl
  rw [hj]
  repeat walk_at "rd"
  refine i_sTo (by omega) (by omega) ?_
  repeat walk_at "rd"
  refine c_read_fraction rfl (by rw [List.length_take]; omega) (fun x p2 H2 hx s2 e2 => ?_) fun hx H2 s2 => qe (by rw [er, hx]) H2 (s1.trans s2)
  have e1 := s2 _ _ e1
  rw [hx] at er
  dsimp only at er
  repeat walk_at "rd"
  refine i_sFrom (by omega) (by omega) ?_
  repeat walk_at "rd"
  refine c_read_rooted rfl (by rw [List.length_drop]; omega) (fun y p3 H3 hy s3 e3 => ?_) fun hy H3 s3 => qe (by rw [er, hy]; rfl) H3 ((s1.trans s2).trans s3)
  repeat walk_at "rd"
  refine i_newT (by simp) fun p4 H4 s4 e4 => ?_
  exact q x y p4 p2 p3 H4 (by rw [er, hy]; rfl) (((s1.trans s2).trans s3).trans s4) e4 (s4 _ _ (s3 _ _ e2)) (s4 _ _ e3)
set_option maxHeartbeats 4000000 in
theorem ok_shown_heap {f : Addr} {fd : FuncData} (F : Fun K "shown_heap" "shown_heap" s_shown_heap f fd) (B : Bl mg) (g_PARTING : TopS mg "PARTING" (Str.ofString "; ")) (o16x : Own P w K mg base 5 "shown_board" ["d", "one"] [] sp_shown_board) : FnOk P w K mg base CX0 6 f fd ["d", "heap"] sp_shown_heap := by
  obtain ⟨u_PARTING, m_PARTING, r_PARTING⟩ := g_PARTING
  refine F.okA sC17 fun cdv A outer s H vs Q E hr h => ?_
  obtain ⟨d, p, C, W, rfl, hp, hA, hW, hO, hl, hd, q⟩ := h
  refine ⟨_, (pss_one (ps_ret (pe_bm PySem.F.plainAttrs_str PySem.F.slot_str_join PySem.F.type_str_join mt_join (pe_glob (v := .str (Str.ofString "; ")) rfl m_PARTING r_PARTING) (pa1 (pe_comp ["one"] [0] rfl (pi_list (pv 1)) (fun _ _ _ _ _ => (pg_n 0 (show List.Nodup (α := Str) ["one", "d"] by decide +kernel))) (fun _ _ _ _ _ => pifs_nil) (fun _ _ _ _ _ => (pe_own o16x hr rfl (pa2 (pv 1) (pv 0))))))))), ?_⟩
  walk_at "s"
  have hCW : C.length = W.length := by
    have := congrArg List.length hW
    rw [List.length_map, List.length_map] at this
    exact this
  repeat walk_at "rd"
  refine i_compL ?_
  repeat walk_at "rd"
  refine ⟨p, rfl, ⟨_, SqL.of hp⟩, fun D hD => comp_list (K := K) (a := p) (ys := C.map Cell.v) (fun i xs σ' H' => (∃ v, σ' = [v, some (.int d)]) ∧ xs = (((W.take i).map (tx2 d)).map sOf).map V.str ∧ H' D = some (.lst xs) ∧ SameX D H H') ⟨⟨none, rfl⟩, rfl, upd_same, fun b o e n => by rw [upd_ne n]; exact e⟩ (fun i xs σ' H' _ z => SqL.of (z.2.2.2 _ _ hp (ne_of_none hp hD))) ?_ ?_⟩
  · rintro i y xs σ' H' hi ⟨⟨v, rfl⟩, rfl, eD, sx⟩
    obtain ⟨c, rfl, hc, hic⟩ := at_cells hi
    obtain ⟨x, hx, ex⟩ := pickW hW hic
    have hi' := (List.getElem?_eq_some_iff.mp hi).1
    have hc' : c.At H' := ⟨sx _ _ (hA c hc).t (ne_of_none (hA c hc).t hD), sx _ _ (hA c hc).w (ne_of_none (hA c hc).w hD), sx _ _ (hA c hc).h (ne_of_none (hA c hc).h hD)⟩
    repeat walk_at "rd"
    refine c_shown_board rfl hc' ex (hO x (List.mem_of_getElem? hx)) hd fun H2 s2 => ?_
    repeat walk_at "rd"
    refine i_append (s2 _ _ eD) (by simp only [List.length_map, List.length_take]; omega) fun H3 sx3 e3 => ?_
    refine cnext hi' ⟨⟨_, rfl⟩, rfl, ?_, (sx.trans (s2.sameX D)).trans sx3⟩
    rw [List.take_succ, hx, List.map_append, List.map_append, List.map_append]
    exact e3
  rintro xs σ' H1 ⟨_, rfl, eD, sx⟩
  have s1 : Same H H1 := fun b o e => sx b o e (ne_of_none e hD)
  rw [List.length_map, List.take_of_length_le (by omega)] at eD
  rw [k_part]
  repeat walk_at "rd"
  exact i_joinJ (m := 330) eD (by decide) (fun q hq => by
    obtain ⟨x, hx, rfl⟩ := List.mem_map.mp hq
    exact tx2_len hd (hO x hx)) (by rw [List.length_map]; omega) (q H1 s1)
set_option maxHeartbeats 4000000 in
theorem ok_read_length {f : Addr} {fd : FuncData} (F : Fun K "read_length" "read_length" s_read_length f fd) (B : Bl mg) (X : Xs K mg cs) (o22x : OwnX P w K mg base 5 "read_both_parts" ["d", "text"] [] (sp_read_both_parts cs)) (o6x : Own P w K mg base 2 "by_parts" ["f", "g"] [] sp_by_parts) (o15x : Own P w K mg base 4 "shown_length" ["d", "one"] [] sp_shown_length) : FnOk P w K mg base (CXe P w) 6 f fd ["d", "text"] (sp_read_length cs) := by
  refine F.okXA sC23 fun cdv A outer s H vs Q E hr h => ?_
  obtain @⟨d, v, l, rfl, hd, hv, q, qe⟩ := h
  refine ⟨_, (pss_cons (ps_if (pt_not (pt_val (pe_callB call_isinst rfl B.isinstance bt_isinstance (pa2 (pv 1) (pe_bltn (v := .ty "str") rfl B.str bt_str rfl))))) (pss_one (ps_raise raises_of X.o_NoText X.m_NoText rfl rfl)) pss_nil) (pss_cons (ps_s 2 sC23.nd (pe_ownP passes_of o22x hr rfl (pa2 (pv 0) (pv 1)))) (pss_cons (ps_s 3 sC23.nd (pe_own o6x hr rfl (pa2 (pit 2) (pit 2)))) (pss_cons (ps_if (pt_cmpR op_ne (pe_own o15x hr rfl (pa2 (pv 0) (pv 3))) (pv 1) (nomark _)) (pss_one (ps_raise raises_of X.o_NoText X.m_NoText rfl rfl)) pss_nil) (pss_one (ps_ret (pv 3))))))), ?_⟩
  walk_at "s"
  rcases hv with ⟨rfl, hl⟩ | ⟨t, hk, ht⟩
  rotate_left
  · repeat walk_at "rd"
    refine i_isK hk ht ?_
    repeat walk_at "rd"
    exact i_raise (qe (fun e => by subst e; cases hk; exact absurd ht (by decide)) H (Same.refl H))
  repeat walk_at "rd"
  refine c_read_both_parts rfl hd hl (fun x y r r1 r2 H1 hx s1 e0 e1 e2 => ?_) fun hx H1 s1 => qe (fun _ => by unfold okT; rw [hx]) H1 s1
  obtain ⟨ox, oy⟩ := rbp_ok hl hx
  have hb := ox.b
  have hb' := oy.b
  have g := ox.g
  have g' := oy.g
  have b1 := ox.b1
  have b2 := ox.b2
  have b3 := oy.b1
  have b4 := oy.b2
  have ok : okT d l = decide (lnl d x.1 x.2 y.1 y.2 = l) := by unfold okT; rw [hx]
  repeat walk_at "rd"
  refine c_by_parts e1 e2 hb hb' g g' (b1.mono (by decide)) (b2.mono (by decide)) (b3.mono (by decide)) (b4.mono (by decide)) fun r3 H3 s3 e3 => ?_
  have nn : x.2 * y.2 ≠ 0 := Int.mul_ne_zero (by omega) (by omega)
  have l3 := l_n (a := x.1 * y.2) (b := y.1 * x.2) nn
  obtain ⟨pb1, pb2⟩ := by_parts_a (t' := y.1) hb hb' g
  obtain ⟨pb3, pb4⟩ := by_parts_b (t := x.1) hb hb' g'
  repeat walk_at "rd"
  refine c_shown_length ⟨e3, hd, by omega, Bd.fdiv (Bd.mono (b2.mul b4) (by decide)) _, by rw [pb1]; exact b1, by rw [pb2]; exact b2, by rw [pb3]; exact b3, by rw [pb4]; exact b4⟩ fun H4 s4 => ?_
  rw [pb1, pb2, pb3, pb4]
  repeat walk_at "rd"
  refine if_nd (fun z => ?_) (fun z => ?_)
  · repeat walk_at "rd"
    exact i_raise (qe (fun _ => by rw [ok]; exact decide_eq_false fun w => z (by rw [w])) H4 ((s1.trans s3).trans s4))
  · repeat walk_at "rd"
    exact q x y r3 H4 rfl hx (by rw [ok]; exact decide_eq_true (sOf_inj z)) ((s1.trans s3).trans s4) (s4 _ _ e3)
set_option maxHeartbeats 4000000 in
theorem ok_read_board {f : Addr} {fd : FuncData} (F : Fun K "read_board" "read_board" s_read_board f fd) (B : Bl mg) (X : Xs K mg cs) (o23x : OwnX P w K mg base 6 "read_length" ["d", "text"] [] (sp_read_length cs)) (o11x : Own P w K mg base 5 "is_board" ["d", "thing"] [] sp_is_board) : FnOk P w K mg base (CXe P w) 7 f fd ["d", "text"] (sp_read_board cs) := by
  refine F.okXA sC24 fun cdv A outer s H vs Q E hr h => ?_
  obtain @⟨d, xs, rfl, hR, ne, hs, hn, hj, q, qe⟩ := h
  refine ⟨_, (pss_cons (ps_s 2 sC24.nd (pe_bm PySem.F.plainAttrs_str PySem.F.slot_str_split PySem.F.type_str_split mt_split (pv 1) (pa1 pe_str))) (pss_cons (ps_if (pt_cmpR op_ne (pe_callB call_lenR rfl B.len PySem.boot_len (pa1 (pv 2))) pe_int (nomark _)) (pss_one (ps_raise raises_of X.o_NoText X.m_NoText rfl rfl)) pss_nil) (pss_cons (ps_s 3 sC24.nd (pe_tup (pa2 (pe_ownP passes_of o23x hr rfl (pa2 (pv 0) (pil 2))) (pe_ownP passes_of o23x hr rfl (pa2 (pv 0) (pil 2)))))) (pss_cons (ps_if (pt_not (pt_val (pe_own o11x hr rfl (pa2 (pv 0) (pv 3))))) (pss_one (ps_raise raises_of X.o_NoText X.m_NoText rfl rfl)) pss_nil) (pss_one (ps_ret (pv 3))))))), ?_⟩
  walk_at "s"
  have hd := rt_in hR
  have hdb : Bd 64 d := bd_range (B := 99) (by omega) hd.2 (by decide +kernel)
  have hsz : (jn [120] xs).length + 2 ≤ sizeLine := by
    have : 1000 ≤ sizeLine := line_le (Nat.le_refl _)
    omega
  repeat walk_at "rd"
  rw [k_x]
  refine i_split (sep := [120]) (c := 120) (ps := xs) rfl (by decide +kernel) ne (fun p hp => (hs p hp).1) hsz fun r H1 s1 e1 => ?_
  repeat walk_at "rd"
  refine if_nd (fun c => ?_) (fun c => ?_)
  · repeat walk_at "rd"
    exact i_raise (qe (fun z => absurd (by simp only [List.length_map]; omega) c) H1 s1)
  obtain ⟨a, b, rfl⟩ : ∃ a b, xs = [a, b] := by
    match xs, c with
    | [], c => exact absurd rfl ne
    | [x], c => simp at c
    | [x, y], c => exact ⟨x, y, rfl⟩
    | x :: y :: z :: w, c => simp only [List.map_cons, List.length_cons] at c; omega
  have e1 : H1 r = some (.lst [.str (sOf a), .str (sOf b)]) := e1
  have la := (hs a List.mem_cons_self).2
  have lb := (hs b (List.mem_cons_of_mem _ List.mem_cons_self)).2
  repeat walk_at "rd"
  refine c_read_length rfl hd (.inl ⟨rfl, la⟩) (fun x y r2 H2 _ hx okx s2 e2 => ?_) fun h H2 s2 => qe (fun _ => ⟨a, List.mem_cons_self, okS_not (h rfl)⟩) H2 (s1.trans s2)
  have e1 := s2 _ _ e1
  repeat walk_at "rd"
  refine c_read_length rfl hd (.inl ⟨rfl, lb⟩) (fun x' y' r3 H3 _ hx' okx' s3 e3 => ?_) fun h H3 s3 => qe (fun _ => ⟨b, List.mem_cons_of_mem _ List.mem_cons_self, okS_not (h rfl)⟩) H3 ((s1.trans s2).trans s3)
  repeat walk_at "rd"
  refine i_newT (by simp) fun r4 H4 s4 e4 => ?_
  obtain ⟨ox, oy⟩ := rbp_ok la hx
  obtain ⟨ox', oy'⟩ := rbp_ok lb hx'
  have hc : Cell.At H4 ⟨r4, r2, r3, ⟨(fOf x y).l, (fOf x' y').l⟩⟩ := ⟨e4, s4 _ _ (s3 _ _ e2), s4 _ _ e3⟩
  have s04 := ((s1.trans s2).trans s3).trans s4
  repeat walk_at "rd"
  refine c_is_board rfl (c := ⟨r4, r2, r3, ⟨(fOf x y).l, (fOf x' y').l⟩⟩) hc (fok_sk ox oy) (fok_sk ox' oy') hdb fun H5 s5 => ?_
  by_cases u1 : 0 < sgn d (fOf x y).l.x (fOf x y).l.y
  · by_cases u2 : 0 < sgn d (fOf x' y').l.x (fOf x' y').l.y
    · rw [decide_eq_true u1, decide_eq_true u2, Bool.true_and]
      repeat walk_at "rd"
      refine q a b x y x' y' ⟨r4, r2, r3, ⟨(fOf x y).l, (fOf x' y').l⟩⟩ H5 rfl ?_ ?_ hx hx' (s04.trans s5) (hc.same s5) rfl
      · unfold okS; rw [okx, hx]; exact decide_eq_true u1
      · unfold okS; rw [okx', hx']; exact decide_eq_true u2
    · rw [decide_eq_true u1, decide_eq_false u2, Bool.true_and]
      repeat walk_at "rd"
      exact i_raise (qe (fun _ => ⟨b, List.mem_cons_of_mem _ List.mem_cons_self, okS_neg hx' u2⟩) H5 (s04.trans s5))
  · rw [decide_eq_false u1, Bool.false_and]
    repeat walk_at "rd"
    exact i_raise (qe (fun _ => ⟨a, List.mem_cons_self, okS_neg hx u1⟩) H5 (s04.trans s5))
theorem bad_not {d : Int} {p s s' : List Nat} {xs : List (List Nat)} (h : BadR d p xs) (e : xs = [s, s']) (h1 : okS d s = true) (h2 : okS d s' = true) : False := by
  obtain ⟨z, hz, ez⟩ := h.bad (by rw [e]; rfl)
  rw [e] at hz
  rcases List.mem_cons.mp hz with rfl | hz
  · rw [h1] at ez; cases ez
  · rw [List.mem_singleton.mp hz, h2] at ez; cases ez
theorem jx_inj {xs ys : List (List Nat)} (hx : xs ≠ []) (hy : ys ≠ []) (h1 : ∀ s ∈ xs, 120 ∉ s) (h2 : ∀ s ∈ ys, 120 ∉ s) (e : jn [120] xs = jn [120] ys) : xs = ys := by
  have a := split_jn (sep := [120]) (c := 120) rfl (by decide +kernel) hx h1
  have b := split_jn (sep := [120]) (c := 120) rfl (by decide +kernel) hy h2
  rw [e, b] at a
  exact (List.map_inj_right (fun _ _ z => sOf_inj z)).mp a.symm
theorem good_not {d : Int} {x : F4 × F4} (hR : Rt d) (ok : Ok2 d x) : ¬ ∃ xs, BadR d (tx2 d x) xs := fun ⟨xs, h⟩ => by
  have e : [x.1.tx d, x.2.tx d] = xs := jx_inj (by simp) h.ne (fun s hs => by
    rcases List.mem_cons.mp hs with rfl | hs
    · exact tx_no ok.1 (.inl rfl)
    · rw [List.mem_singleton.mp hs]; exact tx_no ok.2 (.inl rfl)) (fun s hs => (h.s s hs).1) h.e
  exact bad_not h e.symm (okS_tx hR ok.1) (okS_tx hR ok.2)
set_option maxHeartbeats 4000000 in
theorem ok_read_heap {f : Addr} {fd : FuncData} (F : Fun K "read_heap" "read_heap" s_read_heap f fd) (B : Bl mg) (X : Xs K mg cs) (g_PARTING : TopS mg "PARTING" (Str.ofString "; ")) (o24x : OwnX P w K mg base 7 "read_board" ["d", "text"] [] (sp_read_board cs)) : FnOk P w K mg base (CXe P w) 8 f fd ["d", "text"] (sp_read_heap cs) := by
  obtain ⟨u_PARTING, m_PARTING, r_PARTING⟩ := g_PARTING
  refine F.okXA sC25 fun cdv A outer s H vs Q E hr h => ?_
  obtain @⟨d, v, ps, rfl, hR, hv, q, qe⟩ := h
  refine ⟨_, (pss_cons (ps_if (pt_not (pt_val (pe_callB call_isinst rfl B.isinstance bt_isinstance (pa2 (pv 1) (pe_bltn (v := .ty "str") rfl B.str bt_str rfl))))) (pss_one (ps_raise raises_of X.o_NoText X.m_NoText rfl rfl)) pss_nil) (pss_one (ps_ret (pe_compX leaves_of ["one"] [0] rfl (fun _ _ => rfl) (pi_list (pe_bm PySem.F.plainAttrs_str PySem.F.slot_str_split PySem.F.type_str_split mt_split (pv 1) (pa1 (pe_glob (v := .str (Str.ofString "; ")) rfl m_PARTING r_PARTING)))) (fun _ _ _ _ _ => (pg_n 0 (show List.Nodup (α := Str) ["one", "d"] by decide +kernel))) (fun _ _ _ _ _ => pifs_nil) (fun _ _ _ _ _ => (pe_ownP passC o24x hr rfl (pa2 (pv 1) (pv 0)))))))), ?_⟩
  walk_at "s"
  have hd := rt_in hR
  rcases hv with ⟨rfl, hne, hl, hj, hp⟩ | ⟨t, hk, ht⟩
  rotate_left
  · repeat walk_at "rd"
    refine i_isK hk ht ?_
    repeat walk_at "rd"
    exact i_raise (qe (fun e => by subst e; cases hk; exact absurd ht (by decide)) H (Same.refl H))
  have hsz : (jn [59, 32] ps).length + 2 ≤ sizeLine := by
    have : 1000 ≤ sizeLine := line_le (Nat.le_refl _)
    omega
  repeat walk_at "rd"
  rw [k_part]
  refine i_compL ?_
  repeat walk_at "rd"
  refine i_splitT hne (fun p h => (hp p h).1) hsz fun r H1 s1 e1 => ?_
  refine ⟨r, rfl, ⟨_, SqL.of e1⟩, fun D hD => comp_list (K := K) (a := r) (ys := (ps.map sOf).map V.str) (fun i xs σ' H' => E3 fun (v : Option V) (L : List Cell) (W : List (F4 × F4)) => A9 (σ' = [v, some (.int d)]) (xs = L.map Cell.v) (L.length = i) (H' D = some (.lst xs)) (SameX D H1 H') ((∀ c ∈ L, c.At H')) (L.map Cell.b = W.map bo2) (ps.take i = W.map (tx2 d)) (∀ x ∈ W, Ok2 d x)) ⟨none, [], [], rfl, rfl, rfl, upd_same, fun b o e n => by rw [upd_ne n]; exact e, fun c hc => absurd hc (by simp), rfl, rfl, fun c hc => absurd hc (by simp)⟩ (fun i xs σ' H' _ z => by obtain ⟨v, L, W, _, _, _, _, z, _⟩ := z; exact SqL.of (z _ _ e1 (ne_of_none e1 hD))) ?_ ?_⟩
  · rintro i y xs σ' H' hi ⟨v, L, W, rfl, rfl, hLi, eD, sx, hA, hb, hW, hO⟩
    have hi' := (List.getElem?_eq_some_iff.mp hi).1
    obtain ⟨p, hpi, rfl⟩ : ∃ p, ps[i]? = some p ∧ y = .str (sOf p) := by
      rw [List.getElem?_map, List.getElem?_map] at hi
      cases hx : ps[i]? with
      | none => rw [hx] at hi; cases hi
      | some x => rw [hx] at hi; exact ⟨x, rfl, (Option.some.inj hi).symm⟩
    have mp := List.mem_of_getElem? hpi
    have lw := (List.getElem?_eq_some_iff.mp hpi).1
    obtain ⟨_, l200, hrow⟩ := hp p mp
    have s01 : Same H H' := fun b o e => sx b o (s1 b o e) (ne_of_none (s1 b o e) hD)
    repeat walk_at "rd"
    rcases hrow with ⟨x, rfl, ok, sh⟩ | ⟨zs, bad⟩
    · refine c_read_board rfl (xs := [x.1.tx d, x.2.tx d]) hR (by simp) (fun s hs => ?_) (by simp) l200 (fun s s' a b a' b' c H2 e o1 o2 r1 r2 s2 hc ec => ?_) fun h => ?_
      · rcases List.mem_cons.mp hs with rfl | hs
        · exact ⟨tx_no ok.1 (.inl rfl), by have := sh.1; omega⟩
        · rw [List.mem_singleton.mp hs]; exact ⟨tx_no ok.2 (.inl rfl), by have := sh.2; omega⟩
      · injection e with e e'
        injection e' with e' _
        subst e e'
        rw [rbp_tx ok.1] at r1
        rw [rbp_tx ok.2] at r2
        injection r1 with r1
        injection r1 with r1 r1'
        injection r2 with r2
        injection r2 with r2 r2'
        subst r1 r1' r2 r2'
        repeat walk_at "rd"
        refine i_append (s2 _ _ eD) (by rw [List.length_map]; omega) fun H3 sx3 e3 => ?_
        refine cnext hi' ⟨_, L ++ [c], W ++ [x], rfl, by rw [List.map_append]; rfl, by rw [List.length_append, hLi]; rfl, e3, (sx.trans (s2.sameX D)).trans sx3, fun c' hc' => ?_, ?_, ?_, fun x' hx' => ?_⟩
        · rcases List.mem_append.mp hc' with h | h
          · exact ((hA c' h).same s2).sameX sx3 (s2 _ _ eD)
          · rw [List.mem_singleton.mp h]; exact hc.sameX sx3 (s2 _ _ eD)
        · rw [List.map_append, List.map_append, hb]
          congr 1
          show [c.b] = [bo2 x]
          rw [ec]
          rfl
        · rw [List.take_succ, hpi, List.map_append, hW]; rfl
        · rcases List.mem_append.mp hx' with h | h
          · exact hO x' h
          · rw [List.mem_singleton.mp h]; exact ok
      · obtain ⟨s, hs, es⟩ := h rfl
        rcases List.mem_cons.mp hs with rfl | hs
        · rw [okS_tx hR ok.1] at es; cases es
        · rw [List.mem_singleton.mp hs, okS_tx hR ok.2] at es; cases es
    · have eb := bad.e
      subst eb
      exact c_read_board rfl (xs := zs) hR bad.ne bad.s bad.n l200 (fun s s' a b a' b' c H2 e o1 o2 => (bad_not bad e o1 o2).elim) fun _ H2 s2 => qe (fun _ => ⟨_, mp, _, bad⟩) H2 (s01.trans s2)
  rintro xs σ' H2 ⟨v, L, W, rfl, rfl, hLi, eD, sx, hA, hb, hW, hO⟩
  rw [List.length_map, List.length_map, List.take_length] at hW
  have s02 : Same H H2 := fun b o e => sx b o (s1 b o e) (ne_of_none (s1 b o e) hD)
  repeat walk_at "rd"
  refine q D L W H2 rfl hW hO (fun p h => ?_) s02 eD hA hb
  rw [hW] at h
  obtain ⟨x, hx, rfl⟩ := List.mem_map.mp h
  exact good_not hR (hO x hx)
set_option maxHeartbeats 4000000 in
theorem ok__law_refused {f : Addr} {fd : FuncData} (F : Fun K "_law_refused" "_law_refused" s__law_refused f fd) (B : Bl mg) (X : Xs K mg cs) (o25x : OwnX P w K mg base 8 "read_heap" ["d", "text"] [] (sp_read_heap cs)) : FnOk P w K mg base CX0 9 f fd ["_law_d", "_law_thing"] (sp__law_refused cs) := by
  refine F.okA sC38 fun cdv A outer s H vs Q E hr h => ?_
  obtain @⟨d, v, ps, rfl, hR, hv, hb, q⟩ := h
  refine ⟨_, (pss_cons (ps_s 2 sC38.nd pe_non) (pss_cons (ps_try (j := 3) rfl rfl sC38.nd rfl rfl X.o_YardError X.m_YardError rfl (fun pl EE => (pss_one (ps_expr (pe_ownT o25x hr rfl (pa2 (pv 0) (pv 1)))))) (fun _ => (pss_one (ps_s 2 sC38.nd (pv 3))))) (pss_cons (ps_if (PW.pt (pw_or (pt_not (pt_val (pe_callB call_isinstX rfl B.isinstance bt_isinstance (pa2 (pv 2) (pe_glob (v := .ref cs.NoText) rfl X.m_NoText rfl))))) (pw_or1 (pt_not (pt_val (pe_callB call_isinstX rfl B.isinstance bt_isinstance (pa2 (pv 2) (pe_bltn (v := .ty "ValueError") rfl B.ValueError bt_ValueError rfl)))))))) (pss_one (ps_ret pe_bl)) pss_nil) (pss_one (ps_ret (pe_not (pe_callB call_isinstXT rfl B.isinstance bt_isinstance (pa2 (pv 2) (pe_tup (pa_cons (pe_glob (v := .ref cs.NoLength) rfl X.m_NoLength rfl) (pa_cons (pe_glob (v := .ref cs.NoBoard) rfl X.m_NoBoard rfl) (pa_cons (pe_glob (v := .ref cs.NoDeed) rfl X.m_NoDeed rfl) (pa_cons (pe_glob (v := .ref cs.NoName) rfl X.m_NoName rfl) (pa_cons (pe_glob (v := .ref cs.Grain) rfl X.m_Grain rfl) (pa_cons (pe_glob (v := .ref cs.Unfit) rfl X.m_Unfit rfl) (pa_cons (pe_glob (v := .ref cs.TooMany) rfl X.m_TooMany rfl) (pa_cons (pe_glob (v := .ref cs.NoRow) rfl X.m_NoRow rfl) (pa_cons (pe_glob (v := .ref cs.Apart) rfl X.m_Apart rfl) pa_nil)))))))))))))))))), ?_⟩
  walk_at "s"
  repeat walk_at "rd"
  refine i_try ?_
  repeat walk_at "rd"
  refine i_callX ?_
  repeat walk_at "rd"
  refine c_read_heap rfl hR hv (fun r C W H1 e _ _ nb => by obtain ⟨p, hp, hx⟩ := hb e; exact absurd hx (nb p hp)) fun _ H1 s1 => i_tryE X.s_NoText fun x hx => ?_
  have s2 : Same H1 (upd H1 x (ExcO x cs.NoText)) := same_upd hx _
  have ea : upd H1 x (ExcO x cs.NoText) x = some (ExcO x cs.NoText) := upd_same
  generalize upd H1 x (ExcO x cs.NoText) = H2 at *
  dsimp only [List.set_cons_zero, List.set_cons_succ]
  repeat walk_at "rd"
  dsimp only [tryD, List.set_cons_zero, List.set_cons_succ]
  repeat walk_at "rd"
  refine i_isX ea X.o_NoText rfl X.k_NoText_NoText ?_
  repeat walk_at "rd"
  refine i_isX ea X.o_NoText rfl X.k_NoText_ValueError ?_
  repeat walk_at "rd"
  refine i_newT (by simp) fun tp H3 s3 e3 => ?_
  repeat walk_at "rd"
  refine i_isXT (cl := [cs.NoLength, cs.NoBoard, cs.NoDeed, cs.NoName, cs.Grain, cs.Unfit, cs.TooMany, cs.NoRow, cs.Apart]) (s3 _ _ ea) X.o_NoText e3 rfl (fun c hc => ?_) ?_
  · simp only [List.mem_cons, List.not_mem_nil, or_false] at hc
    rcases hc with rfl | rfl | rfl | rfl | rfl | rfl | rfl | rfl | rfl
    · exact X.k_NoText_NoLength
    · exact X.k_NoText_NoBoard
    · exact X.k_NoText_NoDeed
    · exact X.k_NoText_NoName
    · exact X.k_NoText_Grain
    · exact X.k_NoText_Unfit
    · exact X.k_NoText_TooMany
    · exact X.k_NoText_NoRow
    · exact X.k_NoText_Apart
  repeat walk_at "rd"
  exact q H3 ((s1.trans s2).trans s3)
theorem i_slDV {K : PySem.W.Frag} {H : Hp} {Q : VK} {a : Addr} {xs : List V} {i : Nat} (h : H a = some (.lst xs)) (q : ∀ (p : Addr) (H2 : Hp), Same H H2 → H2 p = some (.lst (xs.drop i)) → Q (.ref p) H2) : rSlL K (.ref a) (some (i : Int)) none H Q := by
  refine ⟨a, _, rfl, SqL.of h, fun p hp => ?_⟩
  refine q p _ (same_upd hp _) ?_
  rw [upd_same]
  unfold cutV
  rw [HT.sIx_nat, HT.sIx_none]
  congr 2
  rcases Nat.le_total i xs.length with z | z
  · rw [Nat.min_eq_left z, List.take_of_length_le (by rw [List.length_drop]; omega)]
  · rw [Nat.min_eq_right z, List.drop_of_length_le (Nat.le_refl _), List.drop_of_length_le z, List.take_nil]
theorem cut_take {xs : List V} {k : Nat} : cutV xs none (some (k : Int)) = xs.take k := by
  unfold cutV
  rw [HT.sIx_none, HT.sIx_nat, List.drop_zero, Nat.sub_zero]
  rcases Nat.le_total k xs.length with z | z
  · rw [Nat.min_eq_left z]
  · rw [Nat.min_eq_right z, List.take_length, List.take_of_length_le z]
theorem ite_len {p : Prop} [Decidable p] : (if p then ([] : List V) else [V.int 7]).length ≤ 1 := by split <;> simp
theorem pick_th6 {H : Hp} {i : Int} {a b d : Addr} (h0 : 0 ≤ i) (h1 : i < 6) {x1 x2 : List V} {y1 : List (Key × V)} (ea : H a = some (.lst x1)) (eb : H b = some (.tup x2)) (ed : H d = some (.dK y1)) :
    ∃ v t, atI [V.non, V.int 5, V.bl true, V.ref a, V.ref b, V.ref d] i = some v ∧ Kd H v t ∧ kitTy t "str" = some false := by
  have h : i = 0 ∨ i = 1 ∨ i = 2 ∨ i = 3 ∨ i = 4 ∨ i = 5 := by omega
  rcases h with h | h | h | h | h | h <;> subst h
  · exact ⟨_, _, rfl, .non, rfl⟩
  · exact ⟨_, _, rfl, .int 5, rfl⟩
  · exact ⟨_, _, rfl, .bl true, rfl⟩
  · exact ⟨_, _, rfl, .lst ea, rfl⟩
  · exact ⟨_, _, rfl, .tup eb, rfl⟩
  · exact ⟨_, _, rfl, .dK ed, rfl⟩
theorem row_of {d : Int} {x : F4 × F4} (hd : 2 ≤ d ∧ d ≤ 99) (hw : Sm4 d x.1) (hh : Sm4 d x.2) : Row d (tx2 d x) ∧ (tx2 d x).length ≤ 33 := by
  have lw := hw.len hd
  have lh := hh.len hd
  have w5 : 59 ∉ x.1.tx d := fun z => absurd (hw.mem z) (by decide)
  have h5 : 59 ∉ x.2.tx d := fun z => absurd (hh.mem z) (by decide)
  have l : (tx2 d x).length ≤ 33 := by show (x.1.tx d ++ [120] ++ x.2.tx d).length ≤ 33; simp; omega
  exact ⟨⟨Ns.of (by show 59 ∉ x.1.tx d ++ [120] ++ x.2.tx d; simp [w5, h5]), by omega, .inl ⟨x, rfl, ⟨hw.ok, hh.ok⟩, by omega, by omega⟩⟩, l⟩
theorem jn_le {sep : List Nat} {m : Nat} (hs : sep.length ≤ 2) : ∀ {ps : List (List Nat)}, (∀ p ∈ ps, p.length ≤ m) → (jn sep ps).length ≤ ps.length * (m + 2)
  | [], _ => by simp [jn]
  | [p], h => by have := h p (by simp); show p.length ≤ 1 * (m + 2); omega
  | p :: q :: r, h => by
    have a := h p (by simp)
    have b := jn_le hs (ps := q :: r) (fun x hx => h x (List.mem_cons_of_mem _ hx))
    show (p ++ sep ++ jn sep (q :: r)).length ≤ (r.length + 1 + 1) * (m + 2)
    rw [List.length_append, List.length_append]
    simp only [List.length_cons] at b
    rw [Nat.add_mul (r.length + 1) 1]
    omega
set_option maxHeartbeats 4000000 in
theorem ok_law {f : Addr} {fd : FuncData} (F : Fun K "law" "law" s_law f fd) (B : Bl mg)  (o29x : Own P w K mg base 2 "_law_root" ["_law_script"] [] (sp__law_root K)) (o35x : Own P w K mg base 4 "_law_heap" ["_law_d", "_law_cells", "_law_great"] [] (sp__law_heap K)) (o36x : Own P w K mg base 3 "_law_rows" ["_law_d", "_law_sides"] [] (sp__law_rows K)) (o27x : Own P w K mg base 1 "_law_mixed" ["_law_cell_here", "_law_k"] [] sp__law_mixed) (o17x : Own P w K mg base 6 "shown_heap" ["d", "heap"] [] sp_shown_heap) (o26x : Own P w K mg base 1 "_law_cell" ["_law_script", "_law_k"] [] (sp__law_cell K)) (o38x : Own P w K mg base 9 "_law_refused" ["_law_d", "_law_thing"] [] (sp__law_refused cs)) (o25x : OwnX P w K mg base 8 "read_heap" ["d", "text"] [] (sp_read_heap cs)) (o37x : Own P w K mg base 1 "_law_bad" ["_law_d", "_law_row", "_law_number"] [] sp__law_bad) : FnOk P w K mg base CX0 10 f fd ["_law_script"] (spLaw K) := by
  refine F.ok (k := 9) sC39 (fun vs H Q E h => by obtain ⟨a, ns, rfl, hS, h63, hbd, q⟩ := h; rfl) (fun cdv A outer s H vs Q E hr h => ?_)
  obtain ⟨a, ns, rfl, hS, h63, hbd, q⟩ := h
  refine ex_w ⟨_, (wss_cons (ws_of (ps_s 1 sC39.nd (pe_own o29x hr rfl (pa1 (pv 0))))) (wss_cons (ws_of (ps_s 2 sC39.nd (pe_own o35x hr rfl (pa3 (pv 1) (pe_op op_cat (pe_slice sl_list (pv 0) (po_some pe_int) (po_some pe_int)) (pe_op op_rep (pe_lst (pa1 pe_int)) (pe_callTy call_intR rfl B.int bt_int (pa1 (pe_cmpR op_lt (pe_callB call_lenR rfl B.len PySem.boot_len (pa1 (pv 0))) pe_int (nomark _)))))) pe_bl)))) (wss_cons (ws_of (ps_s 3 sC39.nd (pe_own o36x hr rfl (pa2 (pv 1) (pv 2))))) (wss_cons (ws_of (ps_for PassesOwn.never rfl (pi_range2 rfl B.range (pa2 pe_int (pe_callB (call_max2R rfl) rfl B.max bt_max (pa2 pe_int (pe_callB (call_minR rfl) rfl B.min bt_min (pa2 (pe_callB call_lenR rfl B.len PySem.boot_len (pa1 (pv 0))) pe_int)))))) (pg_n 4 sC39.nd) (pss_cons (ps_s 5 sC39.nd (pe_own o27x hr rfl (pa2 (pe_own o26x hr rfl (pa2 (pv 0) (pv 4))) (pv 4)))) (pss_cons (ps_s 6 sC39.nd (pe_op op_mod (pv 5) (pe_callB call_lenR rfl B.len PySem.boot_len (pa1 (pv 3))))) (pss_cons (ps_s 7 sC39.nd (pe_op op_cat (pe_op op_cat (pe_slice sl_list (pv 3) po_none (po_some (pv 6))) (pe_lst (pa1 (pe_own o37x hr rfl (pa3 (pv 1) (pe_i ix_list (pv 3) (pv 6)) (pe_op op_fdivP (pv 5) pe_int)))))) (pe_slice sl_list (pv 3) (po_some (pe_op op_add (pv 6) pe_int)) po_none))) (pss_cons (ps_if (pt_not (pt_val (pe_own o38x hr rfl (pa2 (pv 1) (pe_bm PySem.F.plainAttrs_str PySem.F.slot_str_join PySem.F.type_str_join mt_join pe_str (pa1 (pv 7))))))) (pss_one (ps_ret pe_bl)) pss_nil) (pss_one (ps_if (pt_not (pt_val (pe_own o38x hr rfl (pa2 (pv 1) (pe_i ix_list (WE.w (we_lst (wa_cons (we_of pe_non) (wa_cons (we_of pe_int) (wa_cons (we_of pe_bl) (wa_cons (we_of (pv 3)) (wa_cons (we_tup (wa_cons (we_of pe_str) wa_nil)) (wa_cons (we_of pe_dict0) wa_nil)))))))) (pe_op op_mod (pv 5) pe_int)))))) (pss_one (ps_ret pe_bl)) pss_nil)))))))) (wss_one (ws_of (ps_ret (pe_cmpR op_eq (pe_own o17x hr rfl (pa2 (pv 1) (pe_ownX o25x hr rfl (pa2 (pv 1) (pe_bm PySem.F.plainAttrs_str PySem.F.slot_str_join PySem.F.type_str_join mt_join pe_str (pa1 (pv 3))))))) (pe_bm PySem.F.plainAttrs_str PySem.F.slot_str_join PySem.F.type_str_join mt_join pe_str (pa1 (pv 3))) (nomark _))))))))), ?_⟩
  walk_at "s"
  repeat walk_at "rd"
  refine c__law_root rfl hS fun d H0 hR s0 => ?_
  have hS0 := s0.seq hS
  have hd := rt_in hR
  repeat walk_at "rd"
  refine i_slFS (i := 1) (j := 9) hS0 fun p1 H1 s1 e1 => ?_
  have hS1 := s1.seq hS0
  repeat walk_at "rd"
  refine i_newL (by simp) fun p2 H2 s2 e2 => ?_
  have hS2 := s2.seq hS1
  repeat walk_at "rd"
  refine ⟨a, _, rfl, .inl hS2, ?_⟩
  rw [List.length_map]
  repeat walk_at "rd"
  refine i_rep e2 (by split <;> decide) (by split <;> decide) (by simp) fun p3 H3 s3 e3 => ?_
  refine i_cat (s3 _ _ (s2 _ _ e1)) e3 (Nat.le_trans (Nat.add_le_add_left ite_len _) (by rw [List.length_map, List.length_take]; omega)) fun p4 H4 s4 e4 => ?_
  obtain ⟨cs, ecs, cs1, cs9⟩ : ∃ cs : List Int, H4 p4 = some (.lst (cs.map V.int)) ∧ 1 ≤ cs.length ∧ cs.length ≤ 9 := by
    by_cases c : (ns.length : Int) < 2
    · refine ⟨(ns.drop 1).take (9 - 1) ++ [7], ?_, ?_, ?_⟩
      · rw [if_neg (by rw [decide_eq_true c]; decide)] at e4
        rw [List.map_append]
        exact e4
      · rw [List.length_append]; simp only [List.length_cons, List.length_nil]; omega
      · rw [List.length_append, List.length_take, List.length_drop]; simp only [List.length_cons, List.length_nil]; omega
    · refine ⟨(ns.drop 1).take (9 - 1), ?_, ?_, ?_⟩
      · rw [if_pos (by rw [decide_eq_false c]; rfl), List.append_nil] at e4
        exact e4
      · rw [List.length_take, List.length_drop]; omega
      · rw [List.length_take]; omega
  have hS4 := s4.seq (s3.seq hS2)
  clear e1 e2 e3 e4
  repeat walk_at "rd"
  refine c__law_heap rfl ecs (by omega) hR fun ph H5 G s5 eph hA hO hGl => ?_
  repeat walk_at "rd"
  refine c__law_rows rfl eph hA hO (by omega) hd fun pr H6 s6 _ er => ?_
  have hS6 := s6.seq (s5.seq hS4)
  clear eph hA ecs
  obtain ⟨W, hW⟩ : ∃ W, G.map G4.x = W := ⟨_, rfl⟩
  have hWl : W.length = G.length := by rw [← hW, List.length_map]
  have hOW : ∀ x ∈ W, Sm4 d x.1 ∧ Sm4 d x.2 := fun x hx => by
    rw [← hW] at hx
    obtain ⟨g, hg, rfl⟩ := List.mem_map.mp hx
    exact hO g hg
  rw [show (G.map fun g => tx2 d g.x) = W.map (tx2 d) by rw [← hW, List.map_map]; rfl] at er
  have rows : ∀ p ∈ W.map (tx2 d), Row d p ∧ p.length ≤ 33 := fun p hp => by
    obtain ⟨x, hx, rfl⟩ := List.mem_map.mp hp
    exact row_of hd (hOW x hx).1 (hOW x hx).2
  clear hO hW
  repeat walk_at "rd"
  refine i_forR2 ?_
  repeat walk_at "rd"
  refine ⟨a, _, rfl, .inl hS6, ?_⟩
  repeat walk_at "rd"
  rw [List.length_map]
  refine i_max2 ?_
  obtain ⟨m, hm, hm2, hm3⟩ : ∃ m : Nat, (if (if 69 < (ns.length : Int) then 69 else (ns.length : Int)) > 10 then (if 69 < (ns.length : Int) then 69 else (ns.length : Int)) else 10) = (m : Int) ∧ 10 ≤ m ∧ m ≤ 69 := by
    by_cases c : 69 < (ns.length : Int)
    · rw [if_pos c]; exact ⟨69, rfl, by omega, by omega⟩
    · rw [if_neg c]
      by_cases c' : (ns.length : Int) > 10
      · rw [if_pos c']; exact ⟨ns.length, rfl, by omega, by omega⟩
      · rw [if_neg c']; exact ⟨10, rfl, by omega, by omega⟩
  rw [hm]
  repeat walk_at "rd"
  have hp1 : (0 : Int) < (W.length : Int) := by omega
  have hp2 : (0 : Int) < ((((W.map (tx2 d)).map sOf).map V.str).length : Int) := by simp only [List.length_map]; exact hp1
  refine ⟨9, m, rfl, ⟨by decide, by decide, by omega, by omega⟩, for_range (lo := 9) (n := ((m : Int) - 9).toNat) (fun i σ H' => E4 fun v4 v5 v6 v7 => A2 (σ = [some (.ref a), some (.int d), some (.ref ph), some (.ref pr), v4, v5, v6, v7]) (Same H6 H')) ⟨_, _, _, _, rfl, Same.refl _⟩ ?_ ?_⟩
  · rintro i σ H' hi ⟨v4, v5, v6, v7, rfl, s⟩
    have er := s _ _ er
    repeat walk_at "rd"
    refine c__law_cell rfl (s.seq hS6) (by omega) fun c0 => ?_
    repeat walk_at "rd"
    refine c__law_mixed rfl (by omega) (by omega) fun r r0 r1 => ?_
    have rb : Bd 32 r := bd_range (B := 2147483629) r0 (by omega) (by decide +kernel)
    repeat walk_at "rd"
    refine ⟨pr, _, rfl, .inl (.inl er), ?_⟩
    rw [List.length_map, List.length_map, List.length_map]
    repeat walk_at "rd"
    have a0 := Int.emod_nonneg r (b := (W.length : Int)) (by omega)
    have a1 := Int.emod_lt_of_pos r hp1
    obtain ⟨j, hj⟩ : ∃ j : Nat, r % (W.length : Int) = (j : Int) := ⟨(r % (W.length : Int)).toNat, by omega⟩
    rw [hj] at a1 ⊢
    have hjl : j < W.length := by omega
    obtain ⟨x, hx⟩ : ∃ x, W[j]? = some x := ⟨_, List.getElem?_eq_getElem hjl⟩
    have mx := hOW x (List.mem_of_getElem? hx)
    clear hj a0 a1
    repeat walk_at "rd"
    intro q1 z_q1
    have w1 := same_upd z_q1 (HO.lst (cutV (((W.map (tx2 d)).map sOf).map V.str) none (some (j : Int))))
    have f1 : upd H' q1 (HO.lst (cutV (((W.map (tx2 d)).map sOf).map V.str) none (some (j : Int)))) q1 = some (.lst ((((W.map (tx2 d)).map sOf).map V.str).take j)) := by rw [upd_same, cut_take]
    generalize upd H' q1 (HO.lst (cutV (((W.map (tx2 d)).map sOf).map V.str) none (some (j : Int)))) = J1 at *
    repeat walk_at "rd"
    refine i_ixL (w1 _ _ er) (v := .str (sOf (tx2 d x))) (atI_nat (by rw [List.getElem?_map, List.getElem?_map, List.getElem?_map, hx]; rfl)) ?_
    repeat walk_at "rd"
    refine c__law_bad rfl hd mx.1 mx.2 (by omega) (by omega) fun l J2 w2 sp => ?_
    repeat walk_at "rd"
    refine i_newL (by simp) fun q3 J3 w3 f3 => ?_
    refine i_cat (w3 _ _ (w2 _ _ f1)) f3 (by simp only [List.length_take, List.length_map, List.length_cons, List.length_nil]; omega) fun q4 J4 w4 f4 => ?_
    have w14 := (w1.trans w2).trans (w3.trans w4)
    clear f1 f3
    repeat walk_at "rd"
    rw [show (j : Int) + 1 = ((j + 1 : Nat) : Int) from rfl]
    refine i_slDV (w14 _ _ er) fun q5 J5 w5 f5 => ?_
    refine i_cat (w5 _ _ f4) f5 (by simp only [List.length_take, List.length_drop, List.length_append, List.length_map, List.length_cons, List.length_nil]; omega) fun q6 J6 w6 f6 => ?_
    have w16 := w14.trans (w5.trans w6)
    have er6 := w16 _ _ er
    clear f4 f5 w1 w2 w3 w4 w5 w6 w14
    obtain ⟨ms, rfl, ne, ml, ll, mr, bad⟩ := sp
    have f6 : J6 q6 = some (.lst ((((W.map (tx2 d)).take j ++ [jn [59, 32] ms] ++ (W.map (tx2 d)).drop (j + 1)).map sOf).map V.str)) := by
      rw [f6]
      simp only [List.map_append, List.map_take, List.map_drop, List.map_cons, List.map_nil]
    have hle : ∀ p ∈ (W.map (tx2 d)).take j ++ [jn [59, 32] ms] ++ (W.map (tx2 d)).drop (j + 1), p.length ≤ 80 := fun p hp => by
      rcases List.mem_append.mp hp with hp | hp
      · rcases List.mem_append.mp hp with hp | hp
        · have := (rows p (List.mem_of_mem_take hp)).2; omega
        · rw [List.mem_singleton.mp hp]; exact ll
      · have := (rows p (List.mem_of_mem_drop hp)).2; omega
    have hjl2 := jn_le (sep := [59, 32]) (m := 80) (by decide) hle
    have hcnt : ((W.map (tx2 d)).take j ++ [jn [59, 32] ms] ++ (W.map (tx2 d)).drop (j + 1)).length ≤ 10 := by simp only [List.length_take, List.length_drop, List.length_append, List.length_map, List.length_cons, List.length_nil]; omega
    repeat walk_at "rd"
    rw [k_part]
    refine i_joinJ (sep := [59, 32]) (m := 80) f6 (by decide) hle (by omega) ?_
    rw [jn_mid ne] at hjl2 ⊢
    repeat walk_at "rd"
    refine c__law_refused rfl (ps := (W.map (tx2 d)).take j ++ ms ++ (W.map (tx2 d)).drop (j + 1)) hR (.inl ⟨rfl, ?_, ?_, by omega, fun p hp => ?_⟩) (fun _ => ?_) fun J7 w7 => ?_
    · intro e
      exact ne (List.append_eq_nil_iff.mp (List.append_eq_nil_iff.mp e).1).2
    · simp only [List.length_take, List.length_drop, List.length_append, List.length_map]; omega
    · rcases List.mem_append.mp hp with hp | hp
      · rcases List.mem_append.mp hp with hp | hp
        · exact (rows p (List.mem_of_mem_take hp)).1
        · exact mr p hp
      · exact (rows p (List.mem_of_mem_drop hp)).1
    · obtain ⟨p, hp, xs, hb⟩ := bad
      exact ⟨p, List.mem_append_left _ (List.mem_append_right _ hp), xs, hb⟩
    have er7 := w7 _ _ er6
    clear f6 hle hjl2 hcnt mr bad
    repeat walk_at "rd"
    refine i_newT (by simp) fun t1 K1 u1 g1 => ?_
    repeat walk_at "rd"
    refine i_dict0 fun t2 K2 _ u2 g2 => ?_
    repeat walk_at "rd"
    refine i_newL (by simp) fun t3 K3 u3 g3 => ?_
    repeat walk_at "rd"
    obtain ⟨v, tv, hv, kv, nv⟩ := pick_th6 (i := r % 6) (by omega) (by omega) (((u1.trans u2).trans u3) _ _ er7) ((u2.trans u3) _ _ g1) (u3 _ _ g2)
    refine i_ixL g3 hv ?_
    repeat walk_at "rd"
    refine c__law_refused rfl (ps := []) hR (.inr ⟨tv, kv, nv⟩) (fun e => by subst e; cases kv; exact absurd nv (by decide)) fun K4 u4 => ?_
    repeat walk_at "rd"
    exact ⟨_, _, _, _, rfl, ((s.trans w16).trans w7).trans (((u1.trans u2).trans u3).trans u4)⟩
  rintro σ H7 ⟨v4, v5, v6, v7, rfl, s⟩
  have er := s _ _ er
  have hle : ∀ p ∈ W.map (tx2 d), p.length ≤ 33 := fun p hp => (rows p hp).2
  have hjl2 := jn_le (sep := [59, 32]) (m := 33) (by decide) hle
  rw [List.length_map] at hjl2
  repeat walk_at "rd"
  rw [k_part]
  refine i_joinJ (sep := [59, 32]) (m := 33) er (by decide) hle (by rw [List.length_map]; omega) ?_
  repeat walk_at "rd"
  refine c_read_heap rfl (ps := W.map (tx2 d)) hR (.inl ⟨rfl, fun e => ?_, by rw [List.length_map]; omega, by omega, fun p hp => (rows p hp).1⟩) (fun r C W' H8 _ hW' hO' _ s8 e8 hA8 hb8 => ?_) fun h => ?_
  · have := congrArg List.length e
    rw [List.length_map] at this
    simp only [List.length_nil] at this
    omega
  · have hl' : W'.length = W.length := by have := congrArg List.length hW'; rw [List.length_map, List.length_map] at this; exact this.symm
    repeat walk_at "rd"
    refine c_shown_heap ⟨e8, hA8, hb8, hO', by omega, hd⟩ fun H9 s9 => ?_
    repeat walk_at "rd"
    try rw [k_part]
    refine i_joinJ (sep := [59, 32]) (m := 33) ((s8.trans s9) _ _ er) (by decide) hle (by rw [List.length_map]; omega) ?_
    repeat walk_at "rd"
    rw [decide_eq_true (by rw [hW'])]
    exact q _
  · obtain ⟨p, hp, hx⟩ := h rfl
    obtain ⟨x, mx, rfl⟩ := List.mem_map.mp hp
    exact absurd hx (good_not hR ⟨(hOW x mx).1.ok, (hOW x mx).2.ok⟩)
end
end Bk
open Bk
noncomputable section
namespace Hd
open PySem PySem.W PySem.Calls PyProof.Rows
abbrev pm0 : Value := (.str "boardglue.lengths" 367)
abbrev pm1 : Value := (.str "boardglue.notes" 505)
abbrev pm2 : Value := (.str "law_boardglue_k26_no_heap" 637)
abbrev pm3 : Value := (.str "boardglue.boards" 481)
def cs : Cs := ⟨24, 37, 49, 61, 73, 85, 97, 109, 121, 133, 145⟩
abbrev TT (w : World) (mg : Str → Option Value) (x : Str) (st : Stmt) : Prop := L2.Top (K w.params) mg x st
theorem u1 {α : Type} {P : List α → Prop} (h : ∀ a0, P [a0]) : ∀ us : List α, us.length = 1 → P us
  | [a0], _ => h a0
theorem u2 {α : Type} {P : List α → Prop} (h : ∀ a0 a1, P [a0, a1]) : ∀ us : List α, us.length = 2 → P us
  | [a0, a1], _ => h a0 a1
theorem u3 {α : Type} {P : List α → Prop} (h : ∀ a0 a1 a2, P [a0, a1, a2]) : ∀ us : List α, us.length = 3 → P us
  | [a0, a1, a2], _ => h a0 a1 a2
theorem ow {w : World} {mg : Str → Option Value} {k : Nat} {x : Str} {st : Stmt} {ps : List Str} {sp : L2.Sp} (base : Heap) (T : L2.Top (K w.params) mg x st) (h : ∀ f fd, L2.Fun (K w.params) x x st f fd → L2.FnOk p w (K w.params) mg base L2.CX0 k f fd ps sp) (hb : ∀ (kV doc pm : Value) (an : Option Addr) (cdv ct : Value) (us : List Value), us.length = ps.length → bindArgs (fnOf x x (L2.defArgs st) (L2.defBody st) (L2.defScope st) .none kV doc pm an cdv ct) ⟨us, []⟩ = pure (ps.zip us)) : L2.Own p w (K w.params) mg base k x ps [] sp := T.own hb h
section
variable {w : World} {mg : Str → Option Value} {h : Heap} (KX : (K w.params).In h) (G : h.Ns mainGlobals mg)
include KX G
theorem tp {x : Str} {st : Stmt} (f cd : Addr) (pm : Value) (a : nsIn (K w.params) mainGlobals x = some (some (.ref f)) := by kernel_rfl) (l : (K w.params).lookup f = some ⟨.type "function", none, .func (fnOf x x (L2.defArgs st) (L2.defBody st) (L2.defScope st) .none .none .none pm none (.ref cd) .none), #[]⟩ := by kernel_rfl) (c : codeIn (K w.params) (.ref cd) x = true := by kernel_rfl) (k : keepIn (K w.params) (.ref f) = true := by kernel_rfl) : L2.Top (K w.params) mg x st := L2.top_mk KX G a l c k
theorem td {x : Str} {st : Stmt} {its : List Value} (f T cd : Addr) (pm : Value) (a : nsIn (K w.params) mainGlobals x = some (some (.ref f)) := by kernel_rfl) (l : (K w.params).lookup f = some ⟨.type "function", none, .func (fnOf x x (L2.defArgs st) (L2.defBody st) (L2.defScope st) (.ref T) .none .none pm none (.ref cd) .none), #[]⟩ := by kernel_rfl) (c : codeIn (K w.params) (.ref cd) x = true := by kernel_rfl) (k : keepIn (K w.params) (.ref f) = true := by kernel_rfl) (t : (K w.params).lookup T = some (tu its.toArray) := by kernel_rfl) : L2.TopD (K w.params) mg x st its := L2.topD_mk KX G a l c k t rfl
theorem gT {x : Str} {vs : List L2.V} (a : Addr) (its : Array Value) (v : L2.Vals vs its.toList) (z : its.size ≤ sizeLine := by decide) (e : nsIn (K w.params) mainGlobals x = some (some (.ref a)) := by kernel_rfl) (l : (K w.params).lookup a = some (tu its) := by kernel_rfl) : L2.TopT (K w.params) mg x vs := L2.topT_mk KX G e l rfl rfl z v
theorem nn {x : Str} (e : nsIn (K w.params) mainGlobals x = some none := by kernel_rfl) : mg x = none := mg_none_of KX G e
theorem bl  : Bl mg := ⟨nn KX G, nn KX G, nn KX G, nn KX G, nn KX G, nn KX G, nn KX G, nn KX G, nn KX G, nn KX G, nn KX G, nn KX G⟩
theorem t_is_whole : TT w mg "is_whole" s_is_whole := tp KX G 155 154 pm0
theorem t_common_divisor : TT w mg "common_divisor" s_common_divisor := tp KX G 162 161 pm0
theorem t_with_sign_of : TT w mg "with_sign_of" s_with_sign_of := tp KX G 183 182 pm0
theorem t_is_above_nought : TT w mg "is_above_nought" s_is_above_nought := tp KX G 220 219 pm0
theorem t_shown_whole : TT w mg "shown_whole" s_shown_whole := tp KX G 253 252 pm1
theorem t_read_whole : TT w mg "read_whole" s_read_whole := tp KX G 291 290 pm1
theorem t__law_cell : TT w mg "_law_cell" s__law_cell := tp KX G 345 344 pm2
theorem t__law_mixed : TT w mg "_law_mixed" s__law_mixed := tp KX G 352 351 pm2
theorem t__law_divisor : TT w mg "_law_divisor" s__law_divisor := tp KX G 359 358 pm2
theorem t__law_shown_fraction : TT w mg "_law_shown_fraction" s__law_shown_fraction := tp KX G 380 379 pm2
theorem t__law_above : TT w mg "_law_above" s__law_above := tp KX G 394 393 pm2
theorem t__law_bad : TT w mg "_law_bad" s__law_bad := tp KX G 422 421 pm2
theorem t_length : L2.TopD (K w.params) mg "length" s_length [(.int (0) 425), (.int (1) 426)] := td KX G 191 184 190 pm0
theorem t_fraction : L2.TopD (K w.params) mg "fraction" s_fraction [(.int (1) 437)] := td KX G 199 192 198 pm0
theorem t_by_parts : TT w mg "by_parts" s_by_parts := tp KX G 213 212 pm0
theorem t_under : TT w mg "under" s_under := tp KX G 227 226 pm0
theorem t_shown_fraction : TT w mg "shown_fraction" s_shown_fraction := tp KX G 260 259 pm1
theorem t__law_root : TT w mg "_law_root" s__law_root := tp KX G 366 365 pm2
theorem t__law_fraction : TT w mg "_law_fraction" s__law_fraction := tp KX G 373 372 pm2
theorem t__law_shown : TT w mg "_law_shown" s__law_shown := tp KX G 387 386 pm2
theorem t_parts : TT w mg "parts" s_parts := tp KX G 206 205 pm0
theorem t_is_length : TT w mg "is_length" s_is_length := tp KX G 232 231 pm3
theorem t_shown_rooted : TT w mg "shown_rooted" s_shown_rooted := tp KX G 267 266 pm1
theorem t_read_fraction_above : TT w mg "read_fraction_above" s_read_fraction_above := tp KX G 305 304 pm1
theorem t__law_side : TT w mg "_law_side" s__law_side := tp KX G 401 400 pm2
theorem t__law_rows : TT w mg "_law_rows" s__law_rows := tp KX G 415 414 pm2
theorem t_is_side : TT w mg "is_side" s_is_side := tp KX G 239 238 pm3
theorem t_shown_length : TT w mg "shown_length" s_shown_length := tp KX G 274 273 pm1
theorem t_read_fraction : TT w mg "read_fraction" s_read_fraction := tp KX G 298 297 pm1
theorem t_read_rooted : TT w mg "read_rooted" s_read_rooted := tp KX G 312 311 pm1
theorem t__law_heap : TT w mg "_law_heap" s__law_heap := tp KX G 408 407 pm2
theorem t_is_board : TT w mg "is_board" s_is_board := tp KX G 246 245 pm3
theorem t_shown_board : TT w mg "shown_board" s_shown_board := tp KX G 281 280 pm1
theorem t_read_both_parts : TT w mg "read_both_parts" s_read_both_parts := tp KX G 319 318 pm1
theorem t_shown_heap : TT w mg "shown_heap" s_shown_heap := tp KX G 286 285 pm1
theorem t_read_length : TT w mg "read_length" s_read_length := tp KX G 326 325 pm1
theorem t_read_board : TT w mg "read_board" s_read_board := tp KX G 333 332 pm1
theorem t_read_heap : TT w mg "read_heap" s_read_heap := tp KX G 338 337 pm1
theorem t__law_refused : TT w mg "_law_refused" s__law_refused := tp KX G 429 428 pm2
theorem t_law : TT w mg "law" s_law := tp KX G 436 435 pm2
theorem g_NOUGHT  : L2.TopT (K w.params) mg "NOUGHT" [.int 0, .int 0, .int 1] := gT KX G 148 #[(.int (0) 369), (.int (0) 370), (.int (1) 371)] (.cons ⟨_, rfl⟩ (.cons ⟨_, rfl⟩ (.cons ⟨_, rfl⟩ .nil)))
theorem g_GREAT_BITS  : L2.TopI mg "GREAT_BITS" (8192) := L2.topI_mk (t := 373) KX G (by kernel_rfl)
theorem g_FIGURES  : L2.TopS mg "FIGURES" (Str.ofString "0123456789") := L2.topS_mk (t := 507) KX G (by kernel_rfl)
theorem g_PARTING  : L2.TopS mg "PARTING" (Str.ofString "; ") := L2.topS_mk (t := 509) KX G (by kernel_rfl)
theorem g_PIECE_FIGURES  : L2.TopI mg "PIECE_FIGURES" (18) := L2.topI_mk (t := 511) KX G (by kernel_rfl)
theorem g_PIECE  : L2.TopI mg "PIECE" (1000000000000000000) := L2.topI_mk (t := 513) KX G (by kernel_rfl)
theorem xs  : Xs (K w.params) mg cs := ⟨(mg_of KX G (by kernel_rfl)), (mg_of KX G (by kernel_rfl)), (mg_of KX G (by kernel_rfl)), (mg_of KX G (by kernel_rfl)), (mg_of KX G (by kernel_rfl)), (mg_of KX G (by kernel_rfl)), (mg_of KX G (by kernel_rfl)), (mg_of KX G (by kernel_rfl)), (mg_of KX G (by kernel_rfl)), (mg_of KX G (by kernel_rfl)), (mg_of KX G (by kernel_rfl)), ⟨(by kernel_rfl), (by kernel_rfl), (by kernel_rfl), (by kernel_rfl), (by kernel_rfl), (by kernel_rfl), (by kernel_rfl)⟩, ⟨(by kernel_rfl), (by kernel_rfl), (by kernel_rfl), (by kernel_rfl), (by kernel_rfl), (by kernel_rfl), (by kernel_rfl)⟩, (by kernel_rfl), (by kernel_rfl), (by kernel_rfl), (by kernel_rfl), (by kernel_rfl), (by kernel_rfl), (by kernel_rfl), (by kernel_rfl), (by kernel_rfl), (by kernel_rfl), (by kernel_rfl), (by kernel_rfl), (by kernel_rfl)⟩
end
end Hd
end
def PySem.W.Fast.tw5143578722610438984 : PySem.Program := PySem.Challenge.pw_boardglue_k26_no_heap
theorem PySem.W.Fast.te5143578722610438984 : PySem.Challenge.pw_boardglue_k26_no_heap = PySem.W.Fast.tw5143578722610438984 := rfl
open PySem PySem.W PyProof.Rows
set_option maxRecDepth 100000 in
set_option maxHeartbeats 0 in
theorem PySem.Challenge.cw_boardglue_k26_no_heap_holds : PySem.Challenge.rw_boardglue_k26_no_heap.Holds := by
  w_on; o_law
  rename_i said
  refine holds_open (r := PySem.Challenge.rw_boardglue_k26_no_heap.row) (q := Hd.qv) (loose := Hd.loose) (Xt := Hd.Xt) (XP := XL Hd.qv []) (Yf := Hd.Yf) (Ya := Hd.Ya) (YP := InK Hd.K) (N := 7602) Hd.left (InK.of Hd.asK) InK.keeps (fun s e => xl_of s (Bool.and_eq_true_iff.mp e).1) XL.keeps (by rfl) (by rfl) (by rfl) (fun s e => recFacts_of (Bool.and_eq_true_iff.mp e).2) (by rfl) said (by decide +kernel) ⟨rfl, rfl, rfl, rfl, rfl, by decide +kernel⟩ ?hw ?hc
  case hw => w_witness2
  refine L2.walk_B (l := PySem.Challenge.rw_boardglue_k26_no_heap) (k := 10) (x := "_law_script") rfl rfl ⟨rfl, by decide, by decide⟩ (fun w h Y => Y) ?F
  case F =>
    intro w mg fa h KX G hmg
    have B : Bl mg := Hd.bl KX G
    have T_read_whole := Hd.t_read_whole KX G
    have T_length := Hd.t_length KX G
    have T_fraction := Hd.t_fraction KX G
    have T_read_fraction_above := Hd.t_read_fraction_above KX G
    have T_read_fraction := Hd.t_read_fraction KX G
    have T_read_rooted := Hd.t_read_rooted KX G
    have T_read_both_parts := Hd.t_read_both_parts KX G
    have T_read_length := Hd.t_read_length KX G
    have T_read_board := Hd.t_read_board KX G
    have T_read_heap := Hd.t_read_heap KX G
    have T_law := Hd.t_law KX G
    have g_NOUGHT := Hd.g_NOUGHT KX G
    have g_GREAT_BITS := Hd.g_GREAT_BITS KX G
    have g_FIGURES := Hd.g_FIGURES KX G
    have g_PARTING := Hd.g_PARTING KX G
    have g_PIECE_FIGURES := Hd.g_PIECE_FIGURES KX G
    have g_PIECE := Hd.g_PIECE KX G
    have X := Hd.xs KX G
    refine L2.law_mk T_law hmg (fun _ _ _ _ _ _ _ => rfl) fun base f fd F => ?_
    have o0x := Hd.ow base (Hd.t_is_whole KX G) (fun f fd F => ok_is_whole F B ) (fun _ _ _ _ _ _ => Hd.u1 fun _ => rfl)
    have o1x := Hd.ow base (Hd.t_common_divisor KX G) (fun f fd F => ok_common_divisor F B g_GREAT_BITS) (fun _ _ _ _ _ _ => Hd.u2 fun _ _ => rfl)
    have o2x := Hd.ow base (Hd.t_with_sign_of KX G) (fun f fd F => ok_with_sign_of F B ) (fun _ _ _ _ _ _ => Hd.u2 fun _ _ => rfl)
    have o7x := Hd.ow base (Hd.t_is_above_nought KX G) (fun f fd F => ok_is_above_nought F B ) (fun _ _ _ _ _ _ => Hd.u3 fun _ _ _ => rfl)
    have o12x := Hd.ow base (Hd.t_shown_whole KX G) (fun f fd F => ok_shown_whole F B g_PIECE g_PIECE_FIGURES) (fun _ _ _ _ _ _ => Hd.u1 fun _ => rfl)
    have o18x : L2.OwnX Hd.p w (Hd.K w.params) mg base 1 "read_whole" ["text"] [] (sp_read_whole Hd.cs) := T_read_whole.ownX (fun _ _ _ _ _ _ => Hd.u1 fun _ => rfl) (fun f fd F => ok_read_whole F B X g_PIECE_FIGURES g_PIECE g_FIGURES)
    have o26x := Hd.ow base (Hd.t__law_cell KX G) (fun f fd F => ok__law_cell F B ) (fun _ _ _ _ _ _ => Hd.u2 fun _ _ => rfl)
    have o27x := Hd.ow base (Hd.t__law_mixed KX G) (fun f fd F => ok__law_mixed F B ) (fun _ _ _ _ _ _ => Hd.u2 fun _ _ => rfl)
    have o28x := Hd.ow base (Hd.t__law_divisor KX G) (fun f fd F => ok__law_divisor F B ) (fun _ _ _ _ _ _ => Hd.u2 fun _ _ => rfl)
    have o31x := Hd.ow base (Hd.t__law_shown_fraction KX G) (fun f fd F => ok__law_shown_fraction F B ) (fun _ _ _ _ _ _ => Hd.u1 fun _ => rfl)
    have o33x := Hd.ow base (Hd.t__law_above KX G) (fun f fd F => ok__law_above F B ) (fun _ _ _ _ _ _ => Hd.u3 fun _ _ _ => rfl)
    have o37x := Hd.ow base (Hd.t__law_bad KX G) (fun f fd F => ok__law_bad F B ) (fun _ _ _ _ _ _ => Hd.u3 fun _ _ _ => rfl)
    have o3x : L2.Own Hd.p w (Hd.K w.params) mg base 2 "length" ["a", "b", "n"] [] sp_length := T_length.own (ds := []) (fun T _ _ _ _ _ _ us hl => by have hl' : us.length = 3 := (by simpa using hl); match us, hl' with | [_, _, _], _ => exact ⟨_, rfl, rfl⟩) .nil (fun f fd F => ok_length F B o2x o1x o0x)
    have o4x : L2.Own Hd.p w (Hd.K w.params) mg base 2 "fraction" ["top", "bottom"] [] sp_fraction := T_fraction.own (ds := []) (fun T _ _ _ _ _ _ us hl => by have hl' : us.length = 2 := (by simpa using hl); match us, hl' with | [_, _], _ => exact ⟨_, rfl, rfl⟩) .nil (fun f fd F => ok_fraction F B o2x o1x)
    have o6x := Hd.ow base (Hd.t_by_parts KX G) (fun f fd F => ok_by_parts F B o1x) (fun _ _ _ _ _ _ => Hd.u2 fun _ _ => rfl)
    have o8x := Hd.ow base (Hd.t_under KX G) (fun f fd F => ok_under F B o7x) (fun _ _ _ _ _ _ => Hd.u3 fun _ _ _ => rfl)
    have o13x := Hd.ow base (Hd.t_shown_fraction KX G) (fun f fd F => ok_shown_fraction F B o12x) (fun _ _ _ _ _ _ => Hd.u1 fun _ => rfl)
    have o29x := Hd.ow base (Hd.t__law_root KX G) (fun f fd F => ok__law_root F B o27x o26x) (fun _ _ _ _ _ _ => Hd.u1 fun _ => rfl)
    have o30x := Hd.ow base (Hd.t__law_fraction KX G) (fun f fd F => ok__law_fraction F B o28x) (fun _ _ _ _ _ _ => Hd.u2 fun _ _ => rfl)
    have o32x := Hd.ow base (Hd.t__law_shown KX G) (fun f fd F => ok__law_shown F B o31x) (fun _ _ _ _ _ _ => Hd.u3 fun _ _ _ => rfl)
    have o5x := Hd.ow base (Hd.t_parts KX G) (fun f fd F => ok_parts F B o4x) (fun _ _ _ _ _ _ => Hd.u1 fun _ => rfl)
    have o9x := Hd.ow base (Hd.t_is_length KX G) (fun f fd F => ok_is_length F B o3x o0x) (fun _ _ _ _ _ _ => Hd.u1 fun _ => rfl)
    have o14x := Hd.ow base (Hd.t_shown_rooted KX G) (fun f fd F => ok_shown_rooted F B o13x) (fun _ _ _ _ _ _ => Hd.u2 fun _ _ => rfl)
    have o20x : L2.OwnX Hd.p w (Hd.K w.params) mg base 3 "read_fraction_above" ["text"] [] (sp_read_fraction_above Hd.cs) := T_read_fraction_above.ownX (fun _ _ _ _ _ _ => Hd.u1 fun _ => rfl) (fun f fd F => ok_read_fraction_above F B X o18x o4x)
    have o34x := Hd.ow base (Hd.t__law_side KX G) (fun f fd F => ok__law_side F B o30x o33x) (fun _ _ _ _ _ _ => Hd.u3 fun _ _ _ => rfl)
    have o36x := Hd.ow base (Hd.t__law_rows KX G) (fun f fd F => ok__law_rows F B o32x) (fun _ _ _ _ _ _ => Hd.u2 fun _ _ => rfl)
    have o10x := Hd.ow base (Hd.t_is_side KX G) (fun f fd F => ok_is_side F B g_NOUGHT o9x o8x) (fun _ _ _ _ _ _ => Hd.u2 fun _ _ => rfl)
    have o15x := Hd.ow base (Hd.t_shown_length KX G) (fun f fd F => ok_shown_length F B o5x o14x o13x) (fun _ _ _ _ _ _ => Hd.u2 fun _ _ => rfl)
    have o19x : L2.OwnX Hd.p w (Hd.K w.params) mg base 4 "read_fraction" ["text"] [] (sp_read_fraction Hd.cs) := T_read_fraction.ownX (fun _ _ _ _ _ _ => Hd.u1 fun _ => rfl) (fun f fd F => ok_read_fraction F B o20x)
    have o21x : L2.OwnX Hd.p w (Hd.K w.params) mg base 4 "read_rooted" ["text"] [] (sp_read_rooted Hd.cs) := T_read_rooted.ownX (fun _ _ _ _ _ _ => Hd.u1 fun _ => rfl) (fun f fd F => ok_read_rooted F B o20x)
    have o35x := Hd.ow base (Hd.t__law_heap KX G) (fun f fd F => ok__law_heap F B o27x o34x) (fun _ _ _ _ _ _ => Hd.u3 fun _ _ _ => rfl)
    have o11x := Hd.ow base (Hd.t_is_board KX G) (fun f fd F => ok_is_board F B o10x) (fun _ _ _ _ _ _ => Hd.u2 fun _ _ => rfl)
    have o16x := Hd.ow base (Hd.t_shown_board KX G) (fun f fd F => ok_shown_board F B o15x) (fun _ _ _ _ _ _ => Hd.u2 fun _ _ => rfl)
    have o22x : L2.OwnX Hd.p w (Hd.K w.params) mg base 5 "read_both_parts" ["d", "text"] [] (sp_read_both_parts Hd.cs) := T_read_both_parts.ownX (fun _ _ _ _ _ _ => Hd.u2 fun _ _ => rfl) (fun f fd F => ok_read_both_parts F B X o19x o21x)
    have o17x := Hd.ow base (Hd.t_shown_heap KX G) (fun f fd F => ok_shown_heap F B g_PARTING o16x) (fun _ _ _ _ _ _ => Hd.u2 fun _ _ => rfl)
    have o23x : L2.OwnX Hd.p w (Hd.K w.params) mg base 6 "read_length" ["d", "text"] [] (sp_read_length Hd.cs) := T_read_length.ownX (fun _ _ _ _ _ _ => Hd.u2 fun _ _ => rfl) (fun f fd F => ok_read_length F B X o22x o6x o15x)
    have o24x : L2.OwnX Hd.p w (Hd.K w.params) mg base 7 "read_board" ["d", "text"] [] (sp_read_board Hd.cs) := T_read_board.ownX (fun _ _ _ _ _ _ => Hd.u2 fun _ _ => rfl) (fun f fd F => ok_read_board F B X o23x o11x)
    have o25x : L2.OwnX Hd.p w (Hd.K w.params) mg base 8 "read_heap" ["d", "text"] [] (sp_read_heap Hd.cs) := T_read_heap.ownX (fun _ _ _ _ _ _ => Hd.u2 fun _ _ => rfl) (fun f fd F => ok_read_heap F B X g_PARTING o24x)
    have o38x := Hd.ow base (Hd.t__law_refused KX G) (fun f fd F => ok__law_refused F B X o25x) (fun _ _ _ _ _ _ => Hd.u2 fun _ _ => rfl)
    exact ok_law F B o29x o35x o36x o27x o17x o26x o38x o25x o37x
